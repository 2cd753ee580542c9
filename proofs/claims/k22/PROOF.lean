import PyProof.Rows.All
import Wide.All
import OpenK.AllK
import Wide.FinOn
import Lean
import PyProof.EqAt
import PyProof.EqKinds
import PyProof.TupleCall
import PySem.Challenge.RW_rightname_k22_books_written
set_option Elab.async false
set_option linter.all false
set_option maxRecDepth 100000
/-! THE HAND LAYER, for ints, bools, texts, own classes, LISTS and tuples (index, slices, in, append, pop ..), calls, loops. Paste it whole ahead of your own text; what your proof does not reach may be deleted. -/
namespace L2
open PySem PySem.Spec PyProof.Rows

/-- a key: an int or a str -/
abbrev Key := Sum Int Str
def keyIs : Key → Value → Bool
  | .inl k, v => Value.isInt k v
  | .inr x, v => Value.isStrOf x v
def keyH (w : World) : Key → Int
  | .inl k => hashInt k
  | .inr x => hashStr w x
theorem keyIs_shape : ∀ {k : Key} {v : Value}, keyIs k v = true → (∃ i t, k = Sum.inl i ∧ v = Value.int i t) ∨ (∃ x t, k = Sum.inr x ∧ v = Value.str x t)
  | .inl i, v, h => by
    obtain ⟨t, e⟩ := Value.isInt_shape (k := i) (v := v) h
    exact .inl ⟨i, t, rfl, e⟩
  | .inr x, v, h => by
    obtain ⟨t, e⟩ := Value.isStrOf_shape (x := x) (v := v) h
    exact .inr ⟨x, t, rfl, e⟩
theorem keyIs_int (i : Int) (t : Tok) : keyIs (.inl i) (.int i t) = true := by simp [keyIs, Value.isInt]
theorem keyIs_str (x : Str) (t : Tok) : keyIs (.inr x) (.str x t) = true := by simp [keyIs, Value.isStrOf]
theorem key_ll (a b : Int) : decide ((Sum.inl a : Key) = Sum.inl b) = (a == b) := by
  by_cases e : a = b
  · subst e; simp
  · have h : ¬ (Sum.inl a : Key) = Sum.inl b := fun q => e (Sum.inl.inj q)
    rw [decide_eq_false h]
    exact (beq_eq_false_iff_ne.mpr e).symm
theorem key_rr (a b : Str) : decide ((Sum.inr a : Key) = Sum.inr b) = decide (a = b) := by
  by_cases e : a = b
  · subst e; simp
  · have h : ¬ (Sum.inr a : Key) = Sum.inr b := fun q => e (Sum.inr.inj q)
    rw [decide_eq_false h, decide_eq_false e]
theorem key_lr (a : Int) (b : Str) : decide ((Sum.inl a : Key) = Sum.inr b) = false := decide_eq_false (fun q => nomatch q)
theorem key_rl (a : Str) (b : Int) : decide ((Sum.inr a : Key) = Sum.inl b) = false := decide_eq_false (fun q => nomatch q)

def mixKind (prog : Program) (w : World) : PySem.KeyKind prog w Key where
  is := keyIs
  hash := keyH w
  inj := fun v a b ha hb => by
    rcases keyIs_shape ha with ⟨i, t, rfl, rfl⟩ | ⟨x, t, rfl, rfl⟩
    · rcases keyIs_shape hb with ⟨j, u, rfl, e⟩ | ⟨y, u, rfl, e⟩
      · injection e with e1 _; rw [e1]
      · exact nomatch e
    · rcases keyIs_shape hb with ⟨j, u, rfl, e⟩ | ⟨y, u, rfl, e⟩
      · exact nomatch e
      · injection e with e1 _; rw [e1]
  byValue := fun k v h => by
    rcases keyIs_shape h with ⟨i, t, rfl, rfl⟩ | ⟨x, t, rfl, rfl⟩ <;> rfl
  pyHash := fun hv h => by
    rcases keyIs_shape hv with ⟨i, t, rfl, rfl⟩ | ⟨x, t, rfl, rfl⟩
    · exact wpAny_pyHash_int h
    · exact wpAny_pyHash_str h
  eqBool := fun hu hv h => by
    rcases keyIs_shape hu with ⟨i, t, rfl, rfl⟩ | ⟨x, t, rfl, rfl⟩
    · rcases keyIs_shape hv with ⟨j, u, rfl, rfl⟩ | ⟨y, u, rfl, rfl⟩
      · rw [key_ll] at h; exact wpAny_eqBool_int h
      · rw [key_lr] at h; exact SeqAt.EqAt.int_str i t y u _ _ _ _ h
    · rcases keyIs_shape hv with ⟨j, u, rfl, rfl⟩ | ⟨y, u, rfl, rfl⟩
      · rw [key_rl] at h; exact SeqAt.EqAt.str_int x t j u _ _ _ _ h
      · rw [key_rr] at h; exact wpAny_eqBool_str h
  «strs» := fun k x t v h => by
    rcases keyIs_shape h with ⟨i, u, rfl, e⟩ | ⟨y, u, rfl, e⟩
    · exact nomatch e
    · injection e with e1 _
      subst e1
      cases v <;> rfl

theorem mixKind_is (prog : Program) (w : World) (k : Key) (v : Value) : (mixKind prog w).is k v = keyIs k v := rfl
theorem mixKind_int (prog : Program) (w : World) (i : Int) (t : Tok) : (mixKind prog w).is (.inl i) (.int i t) = true := keyIs_int i t
theorem mixKind_str (prog : Program) (w : World) (x : Str) (t : Tok) : (mixKind prog w).is (.inr x) (.str x t) = true := keyIs_str x t
end L2

namespace L2
open PySem PySem.Spec PyProof.Rows

/-- a value, without the heap -/
inductive V where
  | non | bl (b : Bool) | int (i : Int) | str (x : Str) | byt (b : Array UInt8) | flt (b : UInt64) | ref (a : Addr) | ty (n : String)
  deriving DecidableEq

def RelV : V → Value → Prop
  | .non, u => u = Value.none
  | .bl b, u => u = Value.bool b
  | .int i, u => ∃ t, u = Value.int i t
  | .str x, u => ∃ t, u = Value.str x t
  | .byt b, u => ∃ t, u = Value.bytes b t
  | .flt b, u => ∃ t, u = Value.float b t
  | .ref a, u => u = Value.ref a
  | .ty n, u => u = Value.type n

abbrev Vals : List V → List Value → Prop := Paired RelV
theorem Vals.length {xs : List V} {us : List Value} (r : Vals xs us) : xs.length = us.length := Paired.length r
theorem Vals.get : ∀ {xs : List V} {us : List Value} {i : Nat} {x : V}, Vals xs us → xs[i]? = some x → ∃ u, us[i]? = some u ∧ RelV x u
  | _, _, _, _, .nil, e => by simp at e
  | _, _, 0, _, .cons r _, e => by simp at e; subst e; exact ⟨_, rfl, r⟩
  | _, _, i + 1, x, .cons _ t, e => by
    obtain ⟨u, h1, h2⟩ := Vals.get (i := i) (x := x) t (by simpa using e)
    exact ⟨u, by simpa using h1, h2⟩
theorem Vals.set {x : V} {u : Value} (r : RelV x u) : ∀ {xs : List V} {us : List Value} (i : Nat), Vals xs us → Vals (xs.set i x) (us.set i u)
  | _, _, _, .nil => .nil
  | _, _, 0, .cons _ t => .cons r t
  | _, _, i + 1, .cons q t => .cons q (Vals.set r i t)
theorem Vals.append : ∀ {xs ys : List V} {us ws : List Value}, Vals xs us → Vals ys ws → Vals (xs ++ ys) (us ++ ws)
  | _, _, _, _, .nil, s => s
  | _, _, _, _, .cons r t, s => .cons r (Vals.append t s)
theorem Vals.take : ∀ {xs : List V} {us : List Value} (n : Nat), Vals xs us → Vals (xs.take n) (us.take n)
  | _, _, 0, _ => .nil
  | _, _, _ + 1, .nil => .nil
  | _, _, n + 1, .cons r t => .cons r (Vals.take n t)
theorem Vals.drop : ∀ {xs : List V} {us : List Value} (n : Nat), Vals xs us → Vals (xs.drop n) (us.drop n)
  | _, _, 0, r => r
  | _, _, _ + 1, .nil => .nil
  | _, _, n + 1, .cons _ t => Vals.drop n t
theorem Vals.none_of : ∀ {xs : List V} {us : List Value} {i : Nat}, Vals xs us → xs[i]? = none → us[i]? = none := fun {xs us i} r e => by
  have h1 := r.length
  have h2 : xs.length ≤ i := List.getElem?_eq_none_iff.mp e
  exact List.getElem?_eq_none_iff.mpr (by omega)

def RelO : Option V → Option Value → Prop
  | some v, some u => RelV v u
  | none, none => True
  | _, _ => False
def KV {κ : Type} : List (κ × V) → List (κ × Value) → Prop := Paired fun (p : κ × V) (q : κ × Value) => p.1 = q.1 ∧ RelV p.2 q.2

/-- a key of a dict (00_mix): an int or a text -/
def kV : Key → V
  | .inl i => .int i
  | .inr x => .str x

/-- what stands at a tracked address -/
inductive HO where
  /-- a list -/
  | lst (xs : List V)
  /-- a tuple (never changes) -/
  | tup (xs : List V)
  /-- a dict whose keys are ints and texts; one whose keys are tuples of ints and texts (the empty one is both) -/
  | dK (kvs : List (Key × V)) | dT (kvs : List (List Key × V))
  /-- a set of ints: its members, its size -/
  | set (S : Int → Bool) (n : Nat)
  /-- an instance of the class at C, its dict at dx, its attributes -/
  | ins (C dx : Addr) (fs : List (Str × V))
  /-- the dict of the instance at x -/
  | own (x : Addr)
  /-- the dict of an exception -/
  | xd (fs : List (Str × V))
  /-- a bound method, f of x -/
  | met (f x : Addr)
  /-- a range object lo, lo + 1, .. below hi -/
  | rng (lo hi : Int)
  /-- a thing that is known to the object (the script; a dict while a loop walks it): read, never written while it is so -/
  | frz (o : Obj) (u : HO)
  /-- a code object's table -/
  | tbl (ps : Array Value)
  /-- any other thing, by what is true of its one object (a def of one's own: SetO a S n := HO.ext fun h => ..) -/
  | ext (φ : Heap → Prop)

abbrev Hp := Addr → Option HO
def upd (H : Hp) (a : Addr) (o : HO) : Hp := fun b => if b = a then some o else H b
theorem upd_same {H : Hp} {a : Addr} {o : HO} : upd H a o a = some o := by unfold upd; rw [if_pos rfl]
theorem upd_ne {H : Hp} {a b : Addr} {o : HO} (h : b ≠ a) : upd H a o b = H b := by unfold upd; rw [if_neg h]
theorem upd_upd {H : Hp} {a : Addr} {o u : HO} : upd (upd H a o) a u = upd H a u := by
  funext b; unfold upd; split <;> rfl
/-- two objects of different content stand apart -/
theorem ne_of {H : Hp} {a b : Addr} {o u : HO} (h : H a = some o) (h' : H b = some u) (d : o ≠ u) : a ≠ b := by
  intro e; subst e; rw [h] at h'; exact d (Option.some.inj h')
theorem ne_of_none {H : Hp} {a b : Addr} {o : HO} (h : H a = some o) (h' : H b = none) : a ≠ b := by
  intro e; subst e; rw [h] at h'; cases h'

section
variable (P : Program) (w : World)
def ObjOk (H : Hp) (h : Heap) (a : Addr) : HO → Prop
  | .lst xs => xs.length ≤ sizeLine ∧ ∃ (its : List Value) (n : Nat), Vals xs its ∧ h.get? a = some { cls := .type "list", data := .seq its.toArray n }
  | .tup xs => xs.length ≤ sizeLine ∧ ∃ its : List Value, Vals xs its ∧ IsTup h a its.toArray
  | .dK kvs => kvs.length ≤ sizeLine ∧ (a == sysModules) = false ∧ ∃ vs, KV kvs vs ∧ h.DictOf (mixKind P w) a vs
  | .dT kvs => kvs.length ≤ sizeLine ∧ (a == sysModules) = false ∧ ∃ xs : List (List Key × Addr × Value),
      Paired (fun (p : List Key × V) (q : List Key × Addr × Value) => p.1 = q.1 ∧ H q.2.1 = some (.tup (p.1.map kV)) ∧ RelV p.2 q.2.2) kvs xs ∧
      ∃ o es ep, h.get? a = some o ∧ o.ExactDict ∧ o.data = .dict es ep ∧ es.toList = xs.map (entryOfKey (tupleKind (mixKind P w))) ∧ (xs.map (·.1)).Nodup
  | .set S n => h.SetOf (intKind P w) a S n
  | .ins C dx fs => H dx = some (.own a) ∧ fs.length ≤ 1000 ∧ dx ≠ a ∧ h.get? a = some (PySem.W.instObj C dx) ∧
      ∃ mA, h.Ns1 dx mA ∧ (∀ f, RelO (fs.lookup f) (mA f)) ∧ PySem.Within mA (fs.map (·.1))
  | .own _ => ∃ o, h.get? a = some o
  | .xd fs => ∃ mA, h.Ns1 a mA ∧ ∀ f, RelO (fs.lookup f) (mA f)
  | .rng lo hi => ∃ t u v, h.get? a = some { cls := .type "range", data := .fields #[.int lo t, .int hi u, .int 1 v] }
  | .frz o u => h.get? a = some o ∧ ObjOk H h a u
  | .tbl ps => h.get? a = some { cls := .none, data := .fields ps }
  | .met f x => h.get? a = some (PySem.W.methodObj (.ref f) (.ref x))
  | .ext φ => φ h ∧ (∃ o, h.get? a = some o) ∧ ∀ h1 h2 : Heap, φ h1 → (∀ o, h1.get? a = some o → h2.get? a = some o) → φ h2
/-- the abstract heap is held -/
def HOk (H : Hp) (h : Heap) : Prop := ∀ a o, H a = some o → ObjOk P w H h a o
end

section
variable {P : Program} {w : World} {H H' : Hp} {h h' : Heap} {a : Addr} {o : HO}
theorem ObjOk.lt (x : ObjOk P w H h a o) : a < h.objs.size := by
  cases o with
  | lst xs => obtain ⟨_, _, _, _, e⟩ := x; exact Heap.lt_size e
  | tup xs => obtain ⟨_, _, _, p⟩ := x; exact p.lt
  | dK kvs => obtain ⟨_, _, _, _, o, _, _, e, _⟩ := x; exact Heap.lt_size e
  | dT kvs => obtain ⟨_, _, _, _, o, _, _, e, _⟩ := x; exact Heap.lt_size e
  | set S n => obtain ⟨o, _, _, _, e, _⟩ := x; exact Heap.lt_size e
  | ins C dx fs => obtain ⟨_, _, _, e, _⟩ := x; exact Heap.lt_size e
  | own y => obtain ⟨_, e⟩ := x; exact Heap.lt_size e
  | xd fs => obtain ⟨_, ⟨_, _, _, e, _⟩, _⟩ := x; exact Heap.lt_size e
  | rng lo hi => obtain ⟨_, _, _, e⟩ := x; exact Heap.lt_size e
  | frz ob u => obtain ⟨e, _⟩ := x; exact Heap.lt_size e
  | tbl ps => exact Heap.lt_size (show h.get? a = some _ from x)
  | met f y => exact Heap.lt_size (show h.get? a = some _ from x)
  | ext φ => obtain ⟨_, ⟨_, e⟩, _⟩ := x; exact Heap.lt_size e
theorem Paired.mapP {α β : Type} {F G : α → β → Prop} : ∀ {l₁ : List α} {l₂ : List β}, Paired F l₁ l₂ → (∀ a b, F a b → G a b) → Paired G l₁ l₂
  | _, _, .nil, _ => .nil
  | _, _, .cons r t, f => .cons (f _ _ r) (Paired.mapP t f)
theorem Paired.imp' {α β : Type} {F G : α → β → Prop} (f : ∀ a b, F a b → G a b) {l₁ : List α} {l₂ : List β} (r : Paired F l₁ l₂) : Paired G l₁ l₂ := Paired.mapP r f
/-- what an object's description leans on: its own object, its own dict, the tuples -/
theorem ObjOk.stay (x : ObjOk P w H h a o) (k : ∀ b u, (b = a ∨ H b = some (.own a)) → h.get? b = some u → h'.get? b = some u)
    (ho : ∀ b, H b = some (.own a) → H' b = some (.own a)) (ht : ∀ b xs, H b = some (.tup xs) → H' b = some (.tup xs)) : ObjOk P w H' h' a o := by
  induction o with
  | lst xs => obtain ⟨z, its, n, r, e⟩ := x; exact ⟨z, its, n, r, k _ _ (.inl rfl) e⟩
  | tup xs => obtain ⟨z, its, r, ob, e, c⟩ := x; exact ⟨z, its, r, ob, k _ _ (.inl rfl) e, c⟩
  | dK kvs => obtain ⟨z, y, vs, r, ob, es, ep, e, c⟩ := x; exact ⟨z, y, vs, r, ob, es, ep, k _ _ (.inl rfl) e, c⟩
  | dT kvs =>
    obtain ⟨z, y, xs, r, ob, es, ep, e, c⟩ := x
    exact ⟨z, y, xs, Paired.mapP r fun p q z => ⟨z.1, ht _ _ z.2.1, z.2.2⟩, ob, es, ep, k _ _ (.inl rfl) e, c⟩
  | set S n => obtain ⟨ob, es, ep, t, e, c⟩ := x; exact ⟨ob, es, ep, t, k _ _ (.inl rfl) e, c⟩
  | ins C dx fs =>
    obtain ⟨d, z, ne, e, mA, ⟨od, es, ep, e2, c⟩, r⟩ := x
    exact ⟨ho _ d, z, ne, k _ _ (.inl rfl) e, mA, ⟨od, es, ep, k _ _ (.inr d) e2, c⟩, r⟩
  | own y => obtain ⟨ob, e⟩ := x; exact ⟨ob, k _ _ (.inl rfl) e⟩
  | xd fs => obtain ⟨mA, ⟨od, es, ep, e, c⟩, r⟩ := x; exact ⟨mA, ⟨od, es, ep, k _ _ (.inl rfl) e, c⟩, r⟩
  | rng lo hi => obtain ⟨t, u, v, e⟩ := x; exact ⟨t, u, v, k _ _ (.inl rfl) e⟩
  | frz ob u ih => obtain ⟨e, q⟩ := x; exact ⟨k _ _ (.inl rfl) e, ih q⟩
  | tbl ps =>
    have e : h.get? a = some { cls := .none, data := .fields ps } := x
    show h'.get? a = some { cls := .none, data := .fields ps }
    exact k a _ (.inl rfl) e
  | met f y =>
    have e : h.get? a = some (PySem.W.methodObj (.ref f) (.ref y)) := x
    show h'.get? a = some (PySem.W.methodObj (.ref f) (.ref y))
    exact k a _ (.inl rfl) e
  | ext φ => obtain ⟨p, ⟨o, e⟩, st⟩ := x; exact ⟨st _ _ p fun o q => k _ _ (.inl rfl) q, ⟨o, k _ _ (.inl rfl) e⟩, st⟩
theorem HOk.lt (x : HOk P w H h) (e : H a = some o) : a < h.objs.size := (x a o e).lt
theorem HOk.fresh (x : HOk P w H h) (e : h.objs.size ≤ a) : H a = none := by
  cases q : H a with
  | none => rfl
  | some u => exact absurd (Nat.lt_of_lt_of_le (x.lt q) e) (Nat.lt_irrefl _)
/-- every object of the heap is kept -/
theorem HOk.kept (x : HOk P w H h) (k : ∀ b u, h.get? b = some u → h'.get? b = some u) : HOk P w H h' := fun a o e =>
  (x a o e).stay (fun b u _ q => k b u q) (fun _ q => q) fun _ _ q => q
/-- a new object is laid and tracked -/
theorem HOk.laid (x : HOk P w H h) (k : ∀ b u, h.get? b = some u → h'.get? b = some u) (hp : h.objs.size ≤ a) (new : ObjOk P w (upd H a o) h' a o) : HOk P w (upd H a o) h' := fun b u e => by
  have hn := x.fresh hp
  by_cases hb : b = a
  · subst hb; rw [upd_same] at e; cases e; exact new
  · rw [upd_ne hb] at e
    exact (x b u e).stay (fun c v _ q => k c v q) (fun c q => by rw [upd_ne (ne_of_none q hn)]; exact q) fun c xs q => by rw [upd_ne (ne_of_none q hn)]; exact q
end

/-- what may be read as u: it is u, or a known u -/
def Rd (H : Hp) (a : Addr) (u : HO) : Prop := H a = some u ∨ ∃ o, H a = some (.frz o u)
theorem Rd.of {H : Hp} {a : Addr} {u : HO} (h : H a = some u) : Rd H a u := .inl h
theorem Rd.ok {P : Program} {w : World} {H : Hp} {h : Heap} {a : Addr} {u : HO} (r : Rd H a u) (x : HOk P w H h) : ObjOk P w H h a u := by
  rcases r with r | ⟨o, r⟩
  · exact x a u r
  · obtain ⟨_, q⟩ := x a _ r
    exact q
/-- what may be written -/
def Mut : Option HO → Prop
  | some (.lst _) => True
  | some (.dK _) => True
  | some (.dT _) => True
  | some (.set _ _) => True
  | some (.ins _ _ _) => True
  | some (.ext _) => True
  | _ => False
section
variable {P : Program} {w : World} {H : Hp} {h h' : Heap} {x e : Addr} {o' : HO}
/-- the object at e is changed: x itself, or the dict of the instance x -/
theorem HOk.write (ok : HOk P w H h) (mu : Mut (H x)) (he : e = x ∨ H e = some (.own x)) (k : ∀ b u, b ≠ e → h.get? b = some u → h'.get? b = some u) (heo : ∃ u, h'.get? e = some u)
    (new : ObjOk P w (upd H x o') h' x o') : HOk P w (upd H x o') h' := fun b u q => by
  have nown : ∀ c y, H c = some (.own y) → c ≠ x := fun c y r z => by subst z; rw [r] at mu; exact mu
  have ntup : ∀ c xs, H c = some (.tup xs) → c ≠ x := fun c xs r z => by subst z; rw [r] at mu; exact mu
  by_cases hb : b = x
  · subst hb; rw [upd_same] at q; cases q; exact new
  · rw [upd_ne hb] at q
    by_cases hbe : b = e
    · have q' : H b = some (.own x) := by
        rcases he with z | z
        · exact absurd (hbe.trans z) hb
        · rw [hbe]; exact z
      rw [q] at q'; cases q'
      obtain ⟨v, hv⟩ := heo
      exact ⟨v, by rw [hbe]; exact hv⟩
    · refine (ok b u q).stay (fun c v hc r => k c v ?_ r) (fun c r => by rw [upd_ne (nown c b r)]; exact r) fun c xs r => by rw [upd_ne (ntup c xs r)]; exact r
      rcases hc with rfl | hc
      · exact hbe
      · rintro rfl
        rcases he with z | z
        · exact nown c b hc z
        · rw [hc] at z; cases z; exact hb rfl
end

/-! ### kept unless tracked; of the frames at fs (the callers') the slots may change (an exception that passes writes there); of the records at ex (iterators) nothing is said -/
structure Un (fs ex : List Addr) (H H' : Hp) (h h' : Heap) : Prop where
  keep : ∀ b o, h.get? b = some o → H b = none → b ∉ fs → b ∉ ex → h'.get? b = some o
  slot : ∀ b o, h.get? b = some o → H b = none → b ∈ fs → b ∉ ex → ∃ sl, h'.get? b = some { o with slots := sl }
  free : ∀ b o, h.get? b = some o → H b = none → b ∉ ex → H' b = none
  there : ∀ b o, h.get? b = some o → b ∉ ex → ∃ o', h'.get? b = some o'
  tups : ∀ b xs, H b = some (.tup xs) → H' b = some (.tup xs)
  frzs : ∀ b o u, H b = some (.frz o u) → H' b = some (.frz o u)
  tbls : ∀ b ps, H b = some (.tbl ps) → ∃ more, H' b = some (.tbl (ps ++ more))
section
variable {fs fs' ex ex' : List Addr} {H H1 H2 : Hp} {h h1 h2 h' : Heap} {a x e : Addr} {o : HO}
theorem Un.any (u : Un fs ex H H1 h h1) {b : Addr} {ob : Obj} (q : h.get? b = some ob) (n : H b = none) (hx : b ∉ ex) : ∃ sl, h1.get? b = some { ob with slots := sl } := by
  by_cases hb : b ∈ fs
  · exact u.slot b ob q n hb hx
  · exact ⟨ob.slots, u.keep b ob q n hb hx⟩
theorem Un.trans (a : Un fs ex H H1 h h1) (b : Un fs ex H1 H2 h1 h2) : Un fs ex H H2 h h2 where
  keep := fun c ob q n hc hx => b.keep c ob (a.keep c ob q n hc hx) (a.free c ob q n hx) hc hx
  slot := fun c ob q n hc hx => by
    obtain ⟨sl, e1⟩ := a.slot c ob q n hc hx
    obtain ⟨sl', e2⟩ := b.slot c _ e1 (a.free c ob q n hx) hc hx
    exact ⟨sl', e2⟩
  free := fun c ob q n hx => by
    obtain ⟨o', e1⟩ := a.there c ob q hx
    exact b.free c o' e1 (a.free c ob q n hx) hx
  there := fun c ob q hx => by
    obtain ⟨o', e1⟩ := a.there c ob q hx
    exact b.there c o' e1 hx
  tups := fun c xs q => b.tups c xs (a.tups c xs q)
  frzs := fun c ob xs q => b.frzs c ob xs (a.frzs c ob xs q)
  tbls := fun c ps q => by
    obtain ⟨m1, e1⟩ := a.tbls c ps q
    obtain ⟨m2, e2⟩ := b.tbls c _ e1
    exact ⟨m1 ++ m2, by rw [e2, Array.append_assoc]⟩
theorem Un.kept (k : ∀ b u, h.get? b = some u → h'.get? b = some u) : Un fs ex H H h h' :=
  ⟨fun b ob q _ _ _ => k b ob q, fun b ob q _ _ _ => ⟨ob.slots, k b ob q⟩, fun _ _ _ n _ => n, fun b ob q _ => ⟨ob, k b ob q⟩, fun _ _ q => q, fun _ _ _ q => q, fun _ ps q => ⟨#[], by rw [q]; simp⟩⟩
theorem Un.refl : Un fs ex H H h h := Un.kept fun _ _ q => q
theorem Un.laid (k : ∀ b u, h.get? b = some u → h'.get? b = some u) (hp : h.objs.size ≤ a) (hn : H a = none) : Un fs ex H (upd H a o) h h' where
  keep := fun b u q _ _ _ => k b u q
  slot := fun b u q _ _ _ => ⟨u.slots, k b u q⟩
  free := fun b u q n _ => by rw [upd_ne (Nat.ne_of_lt (Nat.lt_of_lt_of_le (Heap.lt_size q) hp))]; exact n
  there := fun b u q _ => ⟨u, k b u q⟩
  tups := fun b xs q => by rw [upd_ne (ne_of_none q hn)]; exact q
  frzs := fun b u xs q => by rw [upd_ne (ne_of_none q hn)]; exact q
  tbls := fun b ps q => ⟨#[], by rw [upd_ne (ne_of_none q hn), q]; simp⟩
theorem Un.write (mu : Mut (H x)) (he : e = x ∨ H e = some (.own x)) (k : ∀ b u, b ≠ e → h.get? b = some u → h'.get? b = some u) (heo : ∃ u, h'.get? e = some u) : Un fs ex H (upd H x o) h h' := by
  have hx : ∀ b, H b = none → b ≠ x := fun b n z => by subst z; rw [n] at mu; exact mu
  have hb : ∀ b, H b = none → b ≠ e := fun b n z => by
    subst z
    rcases he with r | r
    · exact hx b n r
    · rw [n] at r; cases r
  have hm : ∀ b u, H b = some u → ¬ Mut (some u) → b ≠ x := fun b u q nm z => by subst z; rw [q] at mu; exact nm mu
  refine ⟨fun b u q n _ _ => k b u (hb b n) q, fun b u q n _ _ => ⟨u.slots, k b u (hb b n) q⟩, fun b u q n _ => by rw [upd_ne (hx b n)]; exact n, fun b u q _ => ?_,
    fun b xs q => by rw [upd_ne (hm b _ q fun z => z)]; exact q, fun b u xs q => by rw [upd_ne (hm b _ q fun z => z)]; exact q, fun b ps q => ⟨#[], by rw [upd_ne (hm b _ q fun z => z), q]; simp⟩⟩
  by_cases hbe : b = e
  · subst hbe; exact heo
  · exact ⟨u, k b u hbe q⟩
theorem Un.mono (u : Un fs ex H H1 h h1) (hs : ∀ b ∈ fs, b ∈ fs') (hx : ∀ b ∈ ex, b ∈ ex') : Un fs' ex' H H1 h h1 :=
  ⟨fun b ob q n hb he => u.keep b ob q n (fun z => hb (hs b z)) fun z => he (hx b z), fun _ _ q n _ he => u.any q n fun z => he (hx _ z), fun b ob q n he => u.free b ob q n fun z => he (hx b z), fun b ob q he => u.there b ob q fun z => he (hx b z), u.tups, u.frzs, u.tbls⟩
end

/-! ### the heap without what is tracked -/
def trk (h : Heap) (H : Hp) : List Addr := (List.range h.objs.size).filter fun a => (H a).isSome
def hidT (h : Heap) (H : Hp) : Heap := PySem.W.hideAll h (trk h H)
theorem hidT_size (h : Heap) (H : Hp) : (hidT h H).objs.size = h.objs.size := PySem.W.hideAll_size _ _
theorem hidT_get {h : Heap} {H : Hp} {b : Addr} {o : Obj} (e : h.get? b = some o) (n : H b = none) : (hidT h H).get? b = some o :=
  PySem.W.hideAll_get _ e fun hm => by
    have q : (H b).isSome = true := (List.mem_filter.mp hm).2
    rw [n] at q; simp at q
theorem of_hidT {h : Heap} {H : Hp} {b : Addr} {o : Obj} (e : (hidT h H).get? b = some o) : h.get? b = some o ∧ H b = none := by
  have e' : h.get? b = some o := PySem.W.of_hideAll (trk h H) e
  refine ⟨e', ?_⟩
  cases q : H b with
  | none => rfl
  | some x =>
    have hm : b ∈ trk h H := List.mem_filter.mpr ⟨List.mem_range.mpr (Heap.lt_size e'), by simp [q]⟩
    have z : (hidT h H).get? b = none := PySem.W.hideAll_none (trk h H) hm
    rw [z] at e; cases e

/-! ### OpenK's ledger, filled with every new object but one -/
def allNews (g h : Heap) (L : Addr) : List (Addr × Obj) := (List.range h.objs.size).filterMap fun a => if a = L ∨ (g.get? a).isSome = true then none else (h.get? a).map fun o => (a, o)
theorem mem_allNews {g h : Heap} {L a : Addr} {o : Obj} (h1 : a ≠ L) (h2 : g.get? a = none) (h3 : h.get? a = some o) : (a, o) ∈ allNews g h L :=
  List.mem_filterMap.mpr ⟨a, List.mem_range.mpr (Heap.lt_size h3), by simp [h1, h2, h3]⟩
theorem of_mem_allNews {g h : Heap} {L : Addr} {p : Addr × Obj} (hp : p ∈ allNews g h L) : p.1 ≠ L ∧ g.get? p.1 = none ∧ h.get? p.1 = some p.2 := by
  obtain ⟨b, _, e⟩ := List.mem_filterMap.mp hp
  split at e
  · cases e
  · rename_i hn
    cases q : h.get? b with
    | none => rw [q] at e; simp at e
    | some u =>
      rw [q] at e
      simp only [Option.map_some, Option.some.injEq] at e
      subst e
      refine ⟨fun z => hn (.inl z), ?_, q⟩
      show g.get? b = none
      cases r : g.get? b with
      | none => rfl
      | some v => exact (hn (.inr (by simp [r]))).elim
def rest (g h : Heap) (L d : Addr) : List (Addr × Obj) := (allNews g h L).filter fun p => decide (p.1 ≠ d)
theorem rest_ne {g h : Heap} {L d : Addr} : ∀ p ∈ rest g h L d, p.1 ≠ d := fun p hp => of_decide_eq_true (List.mem_filter.mp hp).2
theorem mem_rest {g h : Heap} {L d a : Addr} {o : Obj} (h1 : a ≠ L) (h2 : g.get? a = none) (h3 : h.get? a = some o) (h4 : a ≠ d) : (a, o) ∈ rest g h L d :=
  List.mem_filter.mpr ⟨mem_allNews h1 h2 h3, decide_eq_true h4⟩
theorem news_all {g h : Heap} {L : Addr} : News g L h (allNews g h L) := fun p hp => let ⟨a, b, c⟩ := of_mem_allNews hp; ⟨c, a, b⟩
theorem news_at {g h : Heap} {L d : Addr} {o : Obj} (h1 : d ≠ L) (h2 : g.get? d = none) (h3 : h.get? d = some o) : News g L h ((d, o) :: rest g h L d) := fun p hp => by
  rcases List.mem_cons.mp hp with rfl | hp
  · exact ⟨h3, h1, h2⟩
  · exact news_all p (List.mem_filter.mp hp).1
/-- behind a rule that changed d alone: all else but the frame is kept -/
theorem kept_of_news {g h h' : Heap} {L d : Addr} {m : Str → Option Value} (k : ∀ b o, g.get? b = some o → h.get? b = some o) (F : Fr g L h' m) (N : News g L h' (rest g h L d)) :
    ∀ b o, b ≠ L → b ≠ d → h.get? b = some o → h'.get? b = some o := fun b o h1 h2 e => by
  cases q : g.get? b with
  | some u =>
    have := k b u q
    rw [e] at this; cases this
    exact F.keep b _ q
  | none => exact (N (b, o) (mem_rest h1 q e h2)).1
end L2

namespace L2
open PySem PySem.Spec PyProof.Rows

/-- the module's facts, over the base: the heap at the law's entry without what is tracked there -/
structure Mod (K : PySem.W.Frag) (mg : Str → Option Value) (base : Heap) : Prop where
  kin : K.In base
  glob : base.Ns mainGlobals mg
  blt : ∃ mb, base.Ns builtinsNs mb ∧ ∀ x : Str, x ≠ "__name__" → mb x = bootBuiltins x
  nolimit : base.NoLimit

/- the context: a def's body (or a comprehension's block) running. base: fixed through the whole law; s₀, H₀: the entry; outer: the frames whose slots others may change (a def's callers); stack: all frames that run;
   ex: iterators that were made ahead of the entry and are walked here (a comprehension's); fn: the names whose cells were made at the entry (a def: all; a comprehension's block: its own); calm: not within an except suite; pn: pins that every state bears; xe: what is wanted of an exception that leaves the code -/
set_option genInjectivity false in
set_option genSizeOfSpec false in
set_option genSizeOf false in
structure Cx where
  prog : Program
  w : World
  K : PySem.W.Frag
  mg : Str → Option Value
  base : Heap
  A : Around
  N : List Str
  s₀ : Shared
  H₀ : Hp
  env : Env
  outer : List Env
  stack : List Env
  ex : List Addr
  fn : Str → Bool
  calm : Bool
  pn : List (Addr × Obj)
  xe : Value → Shared → Prop
/-- the callers' frames -/
def frs (l : List Env) : List Addr := l.filterMap (·.frame)
abbrev Cx.fs (X : Cx) : List Addr := frs X.outer

def Vis (sc : Scope) (x : Str) : Prop := sc.names.lookup x = some .local ∨ sc.names.lookup x = some .cell ∨ sc.names.lookup x = some .free
def Loc (sc : Scope) (x : Str) : Prop := sc.names.lookup x = some .local ∨ sc.names.lookup x = some .cell
def Look (env : Env) (h : Heap) (m : Str → Option Value) (x : Str) (u : Value) : Prop :=
  (env.kindOf x = some .local ∧ m x = some u) ∨ ((env.kindOf x = some .cell ∨ env.kindOf x = some .free) ∧ ∃ c, env.cells.lookup x = some c ∧ h.IsCell c (some u))

structure Cx.Ok (X : Cx) : Prop where
  mod : Mod X.K X.mg X.base
  kind : X.env.scope.kind = .function
  glob : X.env.globals = mainGlobals
  blt : X.env.builtins = builtinsNs
  above : X.s₀.heap.objs.size ≤ X.env.locals
  inj : ∀ x y c, X.env.cells.lookup x = some c → X.env.cells.lookup y = some c → x = y
  has : ∀ x, (X.env.kindOf x = some .cell ∨ X.env.kindOf x = some .free) → ∃ c, X.env.cells.lookup x = some c
  cab : ∀ x c, X.fn x = true → X.env.cells.lookup x = some c → X.s₀.heap.objs.size ≤ c
  hd : X.calm = true → X.A.handled = none
  frames : X.A.frames = some X.stack
  stk : X.stack = X.outer ∨ (X.stack = X.env :: X.outer ∧ X.env.frame = some X.env.locals)
  exf : ∀ b ∈ X.ex, b ≠ X.env.locals ∧ ∀ x c, X.env.cells.lookup x = some c → c ≠ b
  bs : ∀ b o, X.base.get? b = some o → X.s₀.heap.get? b = some o ∧ X.H₀ b = none
  bsz : X.base.objs.size ≤ X.s₀.heap.objs.size
  noex : ∀ b o, X.base.get? b = some o → b ∉ X.ex
  exfs : ∀ b ∈ X.ex, b ∉ X.fs
  funs : X.s₀.heap.FunFrames X.base X.outer
  frf : ∀ b ∈ X.fs, X.H₀ b = none

structure Inv (X : Cx) (pins : List (Addr × Obj)) (σ : List (Option V)) (H : Hp) (s : Shared) : Prop where
  ok : X.Ok
  os : s.os = X.s₀.os
  bare : AllBare s.gens
  base : Un X.fs X.ex X.H₀ H X.s₀.heap s.heap
  loc : ∃ m, s.heap.Ns X.env.locals m ∧ ∀ (i : Nat) (x : Str) (v : V), X.N[i]? = some x → σ[i]? = some (some v) → Vis X.env.scope x → ∃ u, RelV v u ∧ Look X.env s.heap m x u
  cell : ∀ x c, X.env.cells.lookup x = some c → ∃ v, s.heap.IsCell c v
  free : H X.env.locals = none
  freeC : ∀ x c, X.env.cells.lookup x = some c → H c = none
  pin : ∀ p ∈ X.pn ++ pins, s.heap.get? p.1 = some p.2 ∧ H p.1 = none ∧ p.1 ≠ X.env.locals ∧ p.1 ∉ X.fs ∧ ∀ v, p.2.data ≠ .cell v
  hok : HOk X.prog X.w H s.heap
  len : σ.length = X.N.length

section
variable {X : Cx} {pins : List (Addr × Obj)} {σ : List (Option V)} {H H' : Hp} {s : Shared} {h' : Heap}

theorem Cx.Ok.nofr (ok : X.Ok) {b : Addr} {o : Obj} (e : X.base.get? b = some o) : b ∉ X.fs := fun hb => by
  have := (ok.funs.mem hb).1
  rw [e] at this; cases this
theorem Inv.bs (I : Inv X pins σ H s) : ∀ b o, X.base.get? b = some o → s.heap.get? b = some o ∧ H b = none := fun b o e =>
  ⟨I.base.keep b o (I.ok.bs b o e).1 (I.ok.bs b o e).2 (I.ok.nofr e) (I.ok.noex b o e), I.base.free b o (I.ok.bs b o e).1 (I.ok.bs b o e).2 (I.ok.noex b o e)⟩
theorem Inv.bk (I : Inv X pins σ H s) : ∀ b o, X.base.get? b = some o → s.heap.get? b = some o := fun b o e => (I.bs b o e).1
theorem Inv.mod (I : Inv X pins σ H s) : Mod X.K X.mg X.base := I.ok.mod
theorem Inv.kIn (I : Inv X pins σ H s) : X.K.In s.heap := I.ok.mod.kin.keeps I.bk
theorem Inv.nolimit (I : Inv X pins σ H s) : s.heap.NoLimit := I.ok.mod.nolimit.keeps I.bk
/-- the frame over the base: for OpenK's rules (K.In X.base is I.mod.kin) -/
theorem Inv.fr (I : Inv X pins σ H s) : ∃ m, Fr X.base X.env.locals s.heap m :=
  let ⟨m, hn, _⟩ := I.loc
  ⟨m, hn, I.bk, Nat.le_trans I.ok.bsz I.ok.above⟩
theorem Inv.lt (I : Inv X pins σ H s) : X.env.locals < s.heap.objs.size := let ⟨_, hn, _⟩ := I.loc; hn.lt
theorem Inv.sz (I : Inv X pins σ H s) : X.s₀.heap.objs.size ≤ s.heap.objs.size := Nat.le_trans I.ok.above (Nat.le_of_lt I.lt)
theorem Inv.nofs (I : Inv X pins σ H s) {a : Addr} (h : s.heap.objs.size ≤ a) : a ∉ X.fs := fun hb => by
  obtain ⟨_, o, ho, _⟩ := I.ok.funs.mem hb
  exact absurd (Nat.lt_of_lt_of_le (Heap.lt_size ho) (Nat.le_trans I.sz h)) (Nat.lt_irrefl _)
theorem Inv.cne (I : Inv X pins σ H s) : ∀ x c, X.env.cells.lookup x = some c → c ≠ X.env.locals := fun x c e z => by
  obtain ⟨v, o, ho, hd⟩ := I.cell x c e
  obtain ⟨m, ⟨o', es, ep, ho', hd', _⟩, _⟩ := I.loc
  rw [z, ho'] at ho; cases ho; rw [hd'] at hd; cases hd
theorem Inv.funs (I : Inv X pins σ H s) : s.heap.FunFrames X.base X.outer := by
  have all : ∀ (l : List Env), (∀ b ∈ frs l, b ∈ X.fs) → X.s₀.heap.FunFrames X.base l → s.heap.FunFrames X.base l := by
    intro l
    induction l with
    | nil => intro _ _; trivial
    | cons env r ih =>
      intro hs hl
      obtain ⟨hk, ⟨L, o, hf, hn, ho, hd⟩, hr⟩ := hl
      have hL : L ∈ X.fs := hs L (by unfold frs; rw [List.filterMap_cons, hf]; exact List.mem_cons_self)
      obtain ⟨sl, e⟩ := I.base.slot L o ho (I.ok.frf L hL) hL fun z => I.ok.exfs L z hL
      exact ⟨hk, ⟨L, _, hf, hn, e, hd⟩, ih (fun b hb => hs b (by unfold frs; rw [List.filterMap_cons, hf]; exact List.mem_cons_of_mem _ hb)) hr⟩
  exact all X.outer (fun _ hb => hb) I.ok.funs

/-- the frames that run, for a call -/
theorem Inv.stack (I : Inv X pins σ H s) : s.heap.FunFrames X.base X.stack := by
  rcases I.ok.stk with e | ⟨e, hf⟩
  · rw [e]; exact I.funs
  · rw [e]
    obtain ⟨m, hn, _⟩ := I.loc
    refine .cons (by rw [I.ok.kind]; decide) hf hn ?_ I.funs
    exact Heap.get?_none_of_le (Nat.le_trans I.ok.bsz I.ok.above)
theorem Inv.stkSub (I : Inv X pins σ H s) : ∀ b ∈ frs X.stack, b ∈ X.env.locals :: X.fs := fun b hb => by
  rcases I.ok.stk with e | ⟨e, hf⟩
  · rw [e] at hb; exact List.mem_cons_of_mem _ hb
  · rw [e] at hb
    unfold frs at hb
    rw [List.filterMap_cons, hf] at hb
    exact hb
theorem Inv.stkFree (I : Inv X pins σ H s) : ∀ b ∈ frs X.stack, H b = none := fun b hb => by
  rcases List.mem_cons.mp (I.stkSub b hb) with e | hb
  · rw [e]; exact I.free
  · obtain ⟨_, o, ho, _⟩ := I.ok.funs.mem hb
    exact I.base.free b o ho (I.ok.frf b hb) fun z => I.ok.exfs b z hb

/-- THE STEP: the untracked objects but the frame and the records at ch are kept (the callers' frames up to slots), the frame's map is kept, the new abstract heap is held -/
theorem Inv.step {g' : Array GenState} {t' : Nat} {d' : Drawn} {ch : List Addr} (I : Inv X pins σ H s)
    (hch : ∀ b ∈ ch, (b ∈ X.ex ∨ X.s₀.heap.objs.size ≤ b) ∧ b ≠ X.env.locals ∧ (∀ x c, X.env.cells.lookup x = some c → c ≠ b) ∧ ∀ p ∈ X.pn ++ pins, p.1 ≠ b)
    (keep : ∀ b o, b ≠ X.env.locals → b ∉ X.fs → b ∉ ch → s.heap.get? b = some o → H b = none → h'.get? b = some o)
    (slot : ∀ b o, b ≠ X.env.locals → b ∈ X.fs → b ∉ ch → s.heap.get? b = some o → H b = none → ∃ sl, h'.get? b = some { o with slots := sl }) (free : ∀ b o, b ∉ ch → s.heap.get? b = some o → H b = none → H' b = none)
    (there : ∀ b o, b ∉ ch → s.heap.get? b = some o → ∃ o', h'.get? b = some o')
    (tups : ∀ b xs, H b = some (.tup xs) → H' b = some (.tup xs)) (frzs : ∀ b o u, H b = some (.frz o u) → H' b = some (.frz o u)) (tbls : ∀ b ps, H b = some (.tbl ps) → ∃ more, H' b = some (.tbl (ps ++ more)))
    (ns : ∀ m, s.heap.Ns X.env.locals m → h'.Ns X.env.locals m) (hok : HOk X.prog X.w H' h') (hg : AllBare g') :
    Inv X pins σ H' { s with heap := h', gens := g', drawn := d', toks := t' } := by
  have neL : ∀ b o, X.s₀.heap.get? b = some o → b ≠ X.env.locals := fun b o e => Nat.ne_of_lt (Nat.lt_of_lt_of_le (Heap.lt_size e) I.ok.above)
  have neC : ∀ b o, X.s₀.heap.get? b = some o → b ∉ X.ex → b ∉ ch := fun b o e hx hb => by
    rcases (hch b hb).1 with z | z
    · exact hx z
    · exact absurd (Nat.lt_of_lt_of_le (Heap.lt_size e) z) (Nat.lt_irrefl _)
  have cellK : ∀ x c, X.env.cells.lookup x = some c → ∀ v, s.heap.IsCell c v → h'.IsCell c v := fun x c e v ⟨o, ho, hd⟩ => by
    have nch : c ∉ ch := fun z => (hch c z).2.2.1 x c e rfl
    by_cases hc : c ∈ X.fs
    · obtain ⟨sl, q⟩ := slot c o (I.cne x c e) hc nch ho (I.freeC x c e)
      exact ⟨_, q, hd⟩
    · exact ⟨o, keep c o (I.cne x c e) hc nch ho (I.freeC x c e), hd⟩
  refine ⟨I.ok, I.os, hg, ⟨fun b o e n hb hx => ?_, fun b o e n hb hx => ?_, fun b o e n hx => ?_, fun b o e hx => ?_, fun b xs e => tups b xs (I.base.tups b xs e), fun b o xs e => frzs b o xs (I.base.frzs b o xs e), fun b ps e => ?_⟩, ?_, fun x c e => ?_, ?_, fun x c e => ?_, fun p hp => ?_, hok, I.len⟩
  · exact keep b o (neL b o e) hb (neC b o e hx) (I.base.keep b o e n hb hx) (I.base.free b o e n hx)
  · obtain ⟨sl, e1⟩ := I.base.slot b o e n hb hx
    obtain ⟨sl', e2⟩ := slot b _ (neL b o e) hb (neC b o e hx) e1 (I.base.free b o e n hx)
    exact ⟨sl', e2⟩
  · obtain ⟨o', e1⟩ := I.base.there b o e hx
    exact free b o' (neC b o e hx) e1 (I.base.free b o e n hx)
  · obtain ⟨o', e1⟩ := I.base.there b o e hx
    exact there b o' (neC b o e hx) e1
  · obtain ⟨m1, e1⟩ := I.base.tbls b ps e
    obtain ⟨m2, e2⟩ := tbls b _ e1
    exact ⟨m1 ++ m2, by rw [e2, Array.append_assoc]⟩
  · obtain ⟨m, hn, hl⟩ := I.loc
    refine ⟨m, ns m hn, fun i x v e1 e2 e3 => ?_⟩
    obtain ⟨u, r, l⟩ := hl i x v e1 e2 e3
    refine ⟨u, r, ?_⟩
    rcases l with l | ⟨k, c, e, z⟩
    · exact .inl l
    · exact .inr ⟨k, c, e, cellK x c e _ z⟩
  · obtain ⟨v, z⟩ := I.cell x c e
    exact ⟨v, cellK x c e v z⟩
  · obtain ⟨m, ⟨o, _, _, ho, _⟩, _⟩ := I.loc
    exact free _ o (fun z => (hch _ z).2.1 rfl) ho I.free
  · obtain ⟨v, o, ho, hd⟩ := I.cell x c e
    exact free c o (fun z => (hch c z).2.2.1 x c e rfl) ho (I.freeC x c e)
  · obtain ⟨e, n, ne, nf, d⟩ := I.pin p hp
    have nch : p.1 ∉ ch := fun z => (hch p.1 z).2.2.2 p hp rfl
    exact ⟨keep p.1 p.2 ne nf nch e n, free p.1 p.2 nch e n, ne, nf, d⟩
/-- .. where the frame's own object is kept too -/
theorem Inv.un {t' : Nat} (I : Inv X pins σ H s) (u : Un X.fs [] H H' s.heap h') (hok : HOk X.prog X.w H' h') : Inv X pins σ H' { s with heap := h', toks := t' } := by
  obtain ⟨m, ⟨o, es, ep, ho, r⟩, _⟩ := id I.loc
  obtain ⟨sl, hL⟩ := u.any ho I.free (by simp)
  exact I.step (g' := s.gens) (d' := s.drawn) (ch := []) (fun _ z => nomatch z) (fun b o _ hb _ e n => u.keep b o e n hb (by simp)) (fun b o _ hb _ e n => u.slot b o e n hb (by simp)) (fun b o _ e n => u.free b o e n (by simp)) (fun b o _ e => u.there b o e (by simp)) u.tups u.frzs u.tbls (fun m' hm => by
    obtain ⟨o', es', ep', ho', r'⟩ := hm
    rw [ho] at ho'; cases ho'
    exact ⟨_, es', ep', hL, r'⟩) hok I.bare
/-- behind a call (or a comprehension's block): the slots of this frame may have changed too, the records at ch may have turned -/
theorem Inv.call {g' : Array GenState} {t' : Nat} {d' : Drawn} {ch : List Addr} (I : Inv X pins σ H s) (u : Un (frs X.stack) ch H H' s.heap h') (hok : HOk X.prog X.w H' h') (hg : AllBare g')
    (hch : ∀ b ∈ ch, (b ∈ X.ex ∨ X.s₀.heap.objs.size ≤ b) ∧ b ≠ X.env.locals ∧ (∀ x c, X.env.cells.lookup x = some c → c ≠ b) ∧ ∀ p ∈ X.pn ++ pins, p.1 ≠ b) :
    Inv X pins σ H' { s with heap := h', gens := g', drawn := d', toks := t' } := by
  obtain ⟨m, ⟨o, es, ep, ho, r⟩, _⟩ := id I.loc
  obtain ⟨sl, hL⟩ := u.any ho I.free fun z => (hch _ z).2.1 rfl
  exact I.step (ch := ch) hch (fun b o hL hb hc e n => u.keep b o e n (fun z => (List.mem_cons.mp (I.stkSub b z)).elim hL hb) hc) (fun b o _ _ hc e n => u.any e n hc) (fun b o hc e n => u.free b o e n hc) (fun b o hc e => u.there b o e hc) u.tups u.frzs u.tbls (fun m' hm => by
    obtain ⟨o', es', ep', ho', r'⟩ := hm
    rw [ho] at ho'; cases ho'
    exact ⟨_, es', ep', hL, r'⟩) hok hg
/-- an untracked record of ours (an iterator) has turned -/
theorem Inv.turned {t' : Nat} {it : Addr} (I : Inv X pins σ H s) (k : ∀ b o, b ≠ it → s.heap.get? b = some o → h'.get? b = some o) (hn : H it = none) (hL : it ≠ X.env.locals)
    (h1 : it ∈ X.ex ∨ X.s₀.heap.objs.size ≤ it) (h2 : ∀ x c, X.env.cells.lookup x = some c → c ≠ it) (h3 : ∀ p ∈ X.pn ++ pins, p.1 ≠ it) : Inv X pins σ H { s with heap := h', toks := t' } := by
  have nit : ∀ b u, H b = some u → b ≠ it := fun b u e z => by rw [z, hn] at e; cases e
  refine I.step (g' := s.gens) (d' := s.drawn) (ch := [it]) (fun b hb => ?_) (fun b o _ _ hc e _ => k b o (fun z => hc (by simp [z])) e) (fun b o _ _ hc e _ => ⟨o.slots, k b o (fun z => hc (by simp [z])) e⟩) (fun _ _ _ _ n => n)
    (fun b o hc e => ⟨o, k b o (fun z => hc (by simp [z])) e⟩) (fun _ _ e => e) (fun _ _ _ e => e) (fun b ps e => ⟨#[], by rw [e]; simp⟩) (fun m hm => ?_) (fun b u e => ?_) I.bare
  · have e : b = it := by simpa using hb
    subst e
    exact ⟨h1, hL, h2, h3⟩
  · obtain ⟨o, es, ep, ho, r⟩ := hm
    exact ⟨o, es, ep, k _ o (Ne.symm hL) ho, r⟩
  · refine (I.hok b u e).stay (fun c v hc q => k c v ?_ q) (fun _ q => q) fun _ _ q => q
    rcases hc with z | z
    · rw [z]; exact nit b u e
    · exact nit c _ z
theorem Inv.tok (I : Inv X pins σ H s) (t : Nat) : Inv X pins σ H { s with toks := t } := I.un (h' := s.heap) (t' := t) Un.refl I.hok
/-- all objects kept -/
theorem Inv.kept {t' : Nat} (I : Inv X pins σ H s) (k : ∀ b u, s.heap.get? b = some u → h'.get? b = some u) : Inv X pins σ H { s with heap := h', toks := t' } := I.un (Un.kept k) (I.hok.kept k)
/-- a new object laid and tracked -/
theorem Inv.laid {a : Addr} {o : HO} {t' : Nat} (I : Inv X pins σ H s) (k : ∀ b u, s.heap.get? b = some u → h'.get? b = some u) (hp : s.heap.objs.size ≤ a) (new : ObjOk X.prog X.w (upd H a o) h' a o) :
    Inv X pins σ (upd H a o) { s with heap := h', toks := t' } := I.un (Un.laid k hp (I.hok.fresh hp)) (I.hok.laid k hp new)
/-- an object written -/
theorem Inv.write {x e : Addr} {o : HO} {t' : Nat} (I : Inv X pins σ H s) (mu : Mut (H x)) (he : e = x ∨ H e = some (.own x)) (k : ∀ b u, b ≠ e → s.heap.get? b = some u → h'.get? b = some u) (heo : ∃ u, h'.get? e = some u)
    (new : ObjOk X.prog X.w (upd H x o) h' x o) : Inv X pins σ (upd H x o) { s with heap := h', toks := t' } := I.un (Un.write mu he k heo) (I.hok.write mu he k heo new)
/-- forgetting slots, pins -/
theorem Inv.weak {σ' : List (Option V)} (I : Inv X pins σ H s) (hl : σ'.length = σ.length) (w : ∀ (i : Nat) v, σ'[i]? = some (some v) → σ[i]? = some (some v)) : Inv X pins σ' H s :=
  ⟨I.ok, I.os, I.bare, I.base, let ⟨m, hn, hl'⟩ := I.loc; ⟨m, hn, fun i x v e1 e2 e3 => hl' i x v e1 (w i v e2) e3⟩, I.cell, I.free, I.freeC, I.pin, I.hok, hl.trans I.len⟩
theorem Inv.pins_of {pins' : List (Addr × Obj)} (I : Inv X pins σ H s) (h : ∀ p ∈ pins', s.heap.get? p.1 = some p.2 ∧ H p.1 = none ∧ p.1 ≠ X.env.locals ∧ p.1 ∉ X.fs ∧ ∀ v, p.2.data ≠ .cell v) : Inv X pins' σ H s :=
  ⟨I.ok, I.os, I.bare, I.base, I.loc, I.cell, I.free, I.freeC, fun p hp => (List.mem_append.mp hp).elim (fun z => I.pin p (List.mem_append_left _ z)) (h p), I.hok, I.len⟩

theorem nodup_ix {N : List Str} (hN : N.Nodup) {i j : Nat} {x : Str} (a : N[i]? = some x) (b : N[j]? = some x) : i = j := by
  obtain ⟨h1, e1⟩ := List.getElem?_eq_some_iff.mp a
  obtain ⟨h2, e2⟩ := List.getElem?_eq_some_iff.mp b
  exact (List.getElem_inj hN).mp (e1.trans e2.symm)

/-- a name is stored; what changed -/
theorem store_ok2 {M : Model} {A : Around} {E : Value → Shared → Prop} {i : Nat} {x : Str} {v : V} {u : Value} {Q : Unit → Shared → Prop} (I : Inv X pins σ H s) (hN : X.N.Nodup) (hi : X.N[i]? = some x) (hx : Loc X.env.scope x) (r : RelV v u)
    (h : ∀ s', Inv X pins (σ.set i (some v)) H s' → (∃ a, Heap.SameBut a s.heap s'.heap ∧ (a = X.env.locals ∨ X.env.cells.lookup x = some a)) → Q () s') (hf : X.fn x = true ∨ X.env.scope.names.lookup x = some .local := by first | exact .inl rfl | exact .inr rfl | assumption) : wpAny M A (storeName X.env x u) Q E s := by
  obtain ⟨m, hn, hl⟩ := id I.loc
  have hcls : (X.env.scope.kind == .class || (X.env.scope.kind == .module && X.env.locals != X.env.globals)) = false := by rw [I.ok.kind]; rfl
  have hiσ : i < σ.length := by rw [I.len]; exact (List.getElem?_eq_some_iff.mp hi).1
  have cne := I.cne
  have tracked : ∀ {a : Addr} {h' : Heap}, (∃ o, s.heap.get? a = some o ∧ H a = none) → Heap.SameBut a s.heap h' → HOk X.prog X.w H h' := fun {a h'} ha hs b ob e => by
    obtain ⟨_, _, hfree⟩ := ha
    refine (I.hok b ob e).stay (fun c w' hc q => (hs.2 c ?_).trans q) (fun _ q => q) fun _ _ q => q
    rintro rfl
    rcases hc with rfl | hc
    · rw [hfree] at e; cases e
    · rw [hfree] at hc; cases hc
  rcases hx with hk | hk
  · refine wpAny_storeName_local hk hn (fun h' hn' hs => ?_) hcls
    obtain ⟨oL, _, _, hoL, _⟩ := id hn
    refine h _ ⟨I.ok, I.os, I.bare, ⟨fun b o e n hb hx => ?_, fun b o e n hb hx => ?_, I.base.free, fun b o e hx => ?_, I.base.tups, I.base.frzs, I.base.tbls⟩, ⟨_, hn', fun j y v' e1 e2 e3 => ?_⟩, fun y c e => ?_, I.free, I.freeC, fun p hp => ?_, tracked ⟨oL, hoL, I.free⟩ hs, by simpa using I.len⟩ ⟨_, hs, .inl rfl⟩
    · exact (hs.2 b (Nat.ne_of_lt (Nat.lt_of_lt_of_le (Heap.lt_size e) I.ok.above))).trans (I.base.keep b o e n hb hx)
    · obtain ⟨sl, e1⟩ := I.base.slot b o e n hb hx
      exact ⟨sl, (hs.2 b (Nat.ne_of_lt (Nat.lt_of_lt_of_le (Heap.lt_size e) I.ok.above))).trans e1⟩
    · obtain ⟨o', e1⟩ := I.base.there b o e hx
      exact ⟨o', (hs.2 b (Nat.ne_of_lt (Nat.lt_of_lt_of_le (Heap.lt_size e) I.ok.above))).trans e1⟩
    · by_cases hj : j = i
      · subst hj
        rw [hi] at e1; cases e1
        rw [List.getElem?_set_self hiσ] at e2
        cases e2
        exact ⟨u, r, .inl ⟨hk, by simp⟩⟩
      · rw [List.getElem?_set_ne (Ne.symm hj)] at e2
        obtain ⟨u', r', q⟩ := hl j y v' e1 e2 e3
        refine ⟨u', r', ?_⟩
        rcases q with ⟨k, e⟩ | ⟨k, c, e, z⟩
        · refine .inl ⟨k, ?_⟩
          have : y ≠ x := fun e => hj (nodup_ix hN e1 (e ▸ hi))
          simp [this, e]
        · exact .inr ⟨k, c, e, z.sameBut hs (cne y c e)⟩
    · obtain ⟨w', z⟩ := I.cell y c e
      exact ⟨w', z.sameBut hs (cne y c e)⟩
    · obtain ⟨e, n, ne, nf, d⟩ := I.pin p hp
      exact ⟨(hs.2 p.1 ne).trans e, n, ne, nf, d⟩
  · have hfn : X.fn x = true := by
      rcases hf with z | z
      · exact z
      · rw [z] at hk; cases hk
    obtain ⟨c, hc⟩ := I.ok.has x (.inl hk)
    obtain ⟨w', z⟩ := I.cell x c hc
    refine wpAny_storeName_cell I.ok.kind hk hc z (fun h' hc' hs => ?_)
    obtain ⟨oc, hoc, hocd⟩ := id z
    refine h { s with heap := h' } ⟨I.ok, I.os, I.bare, ⟨fun b o e n hb hx => ?_, fun b o e n hb hx => ?_, I.base.free, fun b o e hx => ?_, I.base.tups, I.base.frzs, I.base.tbls⟩, ⟨m, hn.sameBut hs (Ne.symm (cne x c hc)), fun j y v' e1 e2 e3 => ?_⟩, fun y c' e => ?_, I.free, I.freeC, fun p hp => ?_, tracked ⟨oc, hoc, I.freeC x c hc⟩ hs, by simpa using I.len⟩ ⟨c, hs, .inr hc⟩
    · exact (hs.2 b (Nat.ne_of_lt (Nat.lt_of_lt_of_le (Heap.lt_size e) (I.ok.cab x c hfn hc)))).trans (I.base.keep b o e n hb hx)
    · obtain ⟨sl, e1⟩ := I.base.slot b o e n hb hx
      exact ⟨sl, (hs.2 b (Nat.ne_of_lt (Nat.lt_of_lt_of_le (Heap.lt_size e) (I.ok.cab x c hfn hc)))).trans e1⟩
    · obtain ⟨o', e1⟩ := I.base.there b o e hx
      exact ⟨o', (hs.2 b (Nat.ne_of_lt (Nat.lt_of_lt_of_le (Heap.lt_size e) (I.ok.cab x c hfn hc)))).trans e1⟩
    · by_cases hj : j = i
      · subst hj
        rw [hi] at e1; cases e1
        rw [List.getElem?_set_self hiσ] at e2
        cases e2
        exact ⟨u, r, .inr ⟨.inl hk, c, hc, hc'⟩⟩
      · rw [List.getElem?_set_ne (Ne.symm hj)] at e2
        obtain ⟨u', r', q⟩ := hl j y v' e1 e2 e3
        refine ⟨u', r', ?_⟩
        rcases q with q | ⟨k, c', e, z'⟩
        · exact .inl q
        · refine .inr ⟨k, c', e, z'.sameBut hs ?_⟩
          rintro rfl
          exact hj (nodup_ix hN e1 (I.ok.inj _ _ _ e hc ▸ hi))
    · by_cases hcc : c' = c
      · subst hcc; exact ⟨_, hc'⟩
      · obtain ⟨w2, z2⟩ := I.cell y c' e
        exact ⟨w2, z2.sameBut hs hcc⟩
    · obtain ⟨e, n, ne, nf, d⟩ := I.pin p hp
      refine ⟨(hs.2 p.1 ?_).trans e, n, ne, nf, d⟩
      intro q
      rw [q, hoc] at e
      have q' : oc = p.2 := Option.some.inj e
      exact d w' (by rw [← q']; exact hocd)
theorem store_ok {M : Model} {A : Around} {E : Value → Shared → Prop} {i : Nat} {x : Str} {v : V} {u : Value} {Q : Unit → Shared → Prop} (I : Inv X pins σ H s) (hN : X.N.Nodup) (hi : X.N[i]? = some x) (hx : Loc X.env.scope x) (r : RelV v u)
    (h : ∀ s', Inv X pins (σ.set i (some v)) H s' → Q () s') (hf : X.fn x = true ∨ X.env.scope.names.lookup x = some .local := by first | exact .inl rfl | exact .inr rfl | assumption) : wpAny M A (storeName X.env x u) Q E s :=
  store_ok2 I hN hi hx r (fun s' I' _ => h s' I') hf
/-- behind a call or a block, the state as it is -/
theorem Inv.call' {s' : Shared} {ch : List Addr} (I : Inv X pins σ H s) (ho : s'.os = s.os) (u : Un (frs X.stack) ch H H' s.heap s'.heap) (hok : HOk X.prog X.w H' s'.heap) (hg : AllBare s'.gens)
    (hch : ∀ b ∈ ch, (b ∈ X.ex ∨ X.s₀.heap.objs.size ≤ b) ∧ b ≠ X.env.locals ∧ (∀ x c, X.env.cells.lookup x = some c → c ≠ b) ∧ ∀ p ∈ X.pn ++ pins, p.1 ≠ b) : Inv X pins σ H' s' := by
  obtain ⟨h', g', d', t', o'⟩ := s'
  have e : o' = s.os := ho
  subst e
  exact I.call (g' := g') (t' := t') (d' := d') u hok hg hch
end

/-! ### the judgements -/
/-- an exception: its class, its own dict's address (where it has one), the abstract heap behind it -/
abbrev XK := Value → Option Addr → Hp → Prop
abbrev St := List (Option V)
abbrev VK := V → Hp → Prop
/-- an expression's reading; a test's; an argument list's -/
abbrev TE := St → Hp → VK → Prop
abbrev TT := St → Hp → (Bool → Hp → Prop) → Prop
abbrev TA := St → Hp → (List V → Hp → Prop) → Prop
/- what is wanted behind a statement -/
set_option genInjectivity false in
set_option genSizeOfSpec false in
set_option genSizeOf false in
structure Ends where
  nx : St → Hp → Prop
  rt : VK
  bk : St → Hp → Prop := fun _ _ => False
  ct : St → Hp → Prop := fun _ _ => False
abbrev TS := Ends → St → Hp → Prop

def EP (X : Cx) (pins : List (Addr × Obj)) (σ : St) (Q : VK) (u : Value) (s' : Shared) : Prop := ∃ v H', Inv X pins σ H' s' ∧ RelV v u ∧ Q v H'
def TP (X : Cx) (pins : List (Addr × Obj)) (σ : St) (Q : Bool → Hp → Prop) (b : Bool) (s' : Shared) : Prop := ∃ H', Inv X pins σ H' s' ∧ Q b H'
def AP (X : Cx) (pins : List (Addr × Obj)) (σ : St) (Q : List V → Hp → Prop) (us : List Value) (s' : Shared) : Prop := ∃ vs H', Inv X pins σ H' s' ∧ Vals vs us ∧ Q vs H'
def SP (X : Cx) (pins : List (Addr × Obj)) (D : Ends) (f : Flow) (s' : Shared) : Prop :=
  match f with
  | .next => ∃ σ' H', Inv X pins σ' H' s' ∧ D.nx σ' H'
  | .brk => ∃ σ' H', Inv X pins σ' H' s' ∧ D.bk σ' H'
  | .cont => ∃ σ' H', Inv X pins σ' H' s' ∧ D.ct σ' H'
  | .ret u => ∃ v σ' H', Inv X pins σ' H' s' ∧ RelV v u ∧ D.rt v H'

@[irreducible] def PE (X : Cx) (e : Expr) (t : TE) : Prop :=
  ∀ (pins : List (Addr × Obj)) (s : Shared) (σ : St) (H : Hp) (Q : VK), Inv X pins σ H s → t σ H Q → wpAny (model X.prog X.w) X.A (eval e X.env) (EP X pins σ Q) X.xe s
@[irreducible] def PT (X : Cx) (e : Expr) (t : TT) : Prop :=
  ∀ (pins : List (Addr × Obj)) (s : Shared) (σ : St) (H : Hp) (Q : Bool → Hp → Prop), Inv X pins σ H s → t σ H Q → wpAny (model X.prog X.w) X.A (isTrue e X.env (eval e X.env)) (TP X pins σ Q) X.xe s
/-- a test whatever its 'whole' is (and, or) -/
@[irreducible] def PW (X : Cx) (e : Expr) (t : TT) : Prop :=
  ∀ (whole : Sem Value) (pins : List (Addr × Obj)) (s : Shared) (σ : St) (H : Hp) (Q : Bool → Hp → Prop), Inv X pins σ H s → t σ H Q → wpAny (model X.prog X.w) X.A (isTrue e X.env whole) (TP X pins σ Q) X.xe s
theorem PW.pt {X : Cx} {e : Expr} {t : TT} (h : PW X e t) : PT X e t := by
  first
  | exact (h _)
  | (unfold PT at *; unfold PW at *; exact (h _))

/-- an argument list (no star), from the left -/
@[irreducible] def PA (X : Cx) (es : List Expr) (t : TA) : Prop :=
  ∀ (pos : Pos) (pins : List (Addr × Obj)) (s : Shared) (σ : St) (H : Hp) (Q : List V → Hp → Prop), Inv X pins σ H s → t σ H Q → wpAny (model X.prog X.w) X.A (spliced (backTo pos (starEach es X.env))) (AP X pins σ Q) X.xe s
@[irreducible] def PS (X : Cx) (st : Stmt) (t : TS) : Prop :=
  ∀ (pins : List (Addr × Obj)) (s : Shared) (σ : St) (H : Hp) (D : Ends), Inv X pins σ H s → t D σ H → wpAny (model X.prog X.w) X.A (exec st X.env) (SP X pins D) X.xe s
@[irreducible] def PSs (X : Cx) (st : List Stmt) (t : TS) : Prop :=
  ∀ (pins : List (Addr × Obj)) (s : Shared) (σ : St) (H : Hp) (D : Ends), Inv X pins σ H s → t D σ H → wpAny (model X.prog X.w) X.A (execs st X.env) (SP X pins D) X.xe s
/-- weaken the end -/
theorem thn {α : Type} {t : Sem α} {Q Q' : α → Shared → Prop} {M : Model} {A : Around} {E : Value → Shared → Prop} {s : Shared} (h : wpAny M A t Q E s) (hQ : ∀ a s, Q a s → Q' a s) : wpAny M A t Q' E s := wpAny_mono h hQ fun _ _ x => x
end L2

namespace L2
open PySem PySem.Spec PyProof.Rows
section
variable {X : Cx}

/-- two expressions in a row -/
theorem bin {a b : Expr} {ta tb : TE} (ha : PE X a ta) (hb : PE X b tb) {pins : List (Addr × Obj)} {s : Shared} {σ : St} {H : Hp} {R : V → V → Hp → Prop} (I : Inv X pins σ H s) (h : ta σ H fun x H1 => tb σ H1 fun y H2 => R x y H2)
    {α : Type} {Q : α → Shared → Prop} {f : Value → Value → Sem α}
    (hf : ∀ v u s2 x y H2, Inv X pins σ H2 s2 → RelV x v → RelV y u → R x y H2 → wpAny (model X.prog X.w) X.A (f v u) Q X.xe s2) :
    wpAny (model X.prog X.w) X.A (eval a X.env) (fun v s₁ => wpAny (model X.prog X.w) X.A (eval b X.env) (fun u s₂ => wpAny (model X.prog X.w) X.A (f v u) Q X.xe s₂) X.xe s₁) X.xe s := by
  unfold PE at *
  exact by
    refine thn (ha pins s σ H _ I h) fun v s1 ⟨x, H1, I1, r1, q1⟩ => ?_
    refine thn (hb pins s1 σ H1 _ I1 q1) fun u s2 ⟨y, H2, I2, r2, q2⟩ => ?_
    exact hf v u s2 x y H2 I2 r1 r2 q2

/-! ### names and constants -/
def tVar (i : Nat) : TE := fun σ H Q => ∃ v, σ[i]? = some (some v) ∧ Q v H
def tC (v : V) : TE := fun _ H Q => Q v H
theorem pe_var {i : Nat} {x : Str} {pos : Pos} (hN : X.N[i]? = some x) (hv : Vis X.env.scope x) (hd : (x == ("__debug__" : Str)) = false := by decide) (hcd : (x == ("__classdict__" : Str)) = false := by decide) : PE X (.Name x pos) (tVar i) := by
  unfold PE at *
  exact by
    intro pins s σ H Q I h
    obtain ⟨v, e, h⟩ := h
    obtain ⟨m, hn, hl⟩ := I.loc
    obtain ⟨u, r, l⟩ := hl i x v hN e hv
    have fin : EP X pins σ Q u s := ⟨v, H, I, r, h⟩
    rcases l with ⟨hk, hm⟩ | ⟨hk, c, hc, hcell⟩
    · exact wpAny_Name (wpAny_loadName_local I.ok.kind hk hn hm fin) hd
    · rcases hk with hk | hk
      · exact wpAny_Name (wpAny_loadName_cell I.ok.kind hk hc hcell fin) hd
      · exact wpAny_Name (wpAny_loadName_free I.ok.kind hk hc hcell fin hcd) hd

theorem pe_int {i j pos} : PE X (.Constant (.int i) j pos) (tC (.int i)) := by
  first
  | exact (fun _ _ _ H _ I h => wpAny_Constant_int ⟨.int i, H, I.tok _, ⟨_, rfl⟩, h⟩)
  | (unfold PE at *; exact (fun _ _ _ H _ I h => wpAny_Constant_int ⟨.int i, H, I.tok _, ⟨_, rfl⟩, h⟩))

theorem pe_bl {b j pos} : PE X (.Constant (.bool b) j pos) (tC (.bl b)) := by
  first
  | exact (fun _ _ _ H _ I h => Constant_bool ⟨.bl b, H, I, rfl, h⟩)
  | (unfold PE at *; exact (fun _ _ _ H _ I h => Constant_bool ⟨.bl b, H, I, rfl, h⟩))

theorem pe_non {j pos} : PE X (.Constant .none j pos) (tC .non) := by
  first
  | exact (fun _ _ _ H _ I h => Constant_none ⟨.non, H, I, rfl, h⟩)
  | (unfold PE at *; exact (fun _ _ _ H _ I h => Constant_none ⟨.non, H, I, rfl, h⟩))

theorem pe_str {x j pos} : PE X (.Constant (.str x) j pos) (tC (.str x)) := by
  first
  | exact (fun _ _ _ H _ I h => Calls.Constant_str ⟨.str x, H, I.tok _, ⟨_, rfl⟩, h⟩)
  | (unfold PE at *; exact (fun _ _ _ H _ I h => Calls.Constant_str ⟨.str x, H, I.tok _, ⟨_, rfl⟩, h⟩))

/-- a global name of the def -/
def Gl (X : Cx) (x : Str) : Prop := X.env.kindOf x = some .globalImplicit
theorem ld_glob {E : Value → Shared → Prop} {pins : List (Addr × Obj)} {s : Shared} {σ : St} {H : Hp} {x : Str} {u : Value} {pos : Pos} {Q : Value → Shared → Prop} (I : Inv X pins σ H s) (hg : Gl X x) (hm : X.mg x = some u) (h : Q u s)
    (hd : (x == ("__debug__" : Str)) = false := by decide) : wpAny (model X.prog X.w) X.A (eval (.Name x pos) X.env) Q E s :=
  Calls.Name_function_global I.ok.kind hg (Calls.loadGlobal_global (by rw [I.ok.glob]; exact I.mod.glob.keeps I.bk) hm h) hd
theorem ld_blt {E : Value → Shared → Prop} {pins : List (Addr × Obj)} {s : Shared} {σ : St} {H : Hp} {x : Str} {u : Value} {pos : Pos} {Q : Value → Shared → Prop} (I : Inv X pins σ H s) (hg : Gl X x) (hm : X.mg x = none) (hv : bootBuiltins x = some u) (h : Q u s)
    (hn : x ≠ "__name__" := by decide) (hd : (x == ("__debug__" : Str)) = false := by decide) : wpAny (model X.prog X.w) X.A (eval (.Name x pos) X.env) Q E s := by
  obtain ⟨mb, h1, h2⟩ := I.mod.blt
  exact Calls.Name_function_global I.ok.kind hg (Calls.loadGlobal_builtin (by rw [I.ok.glob]; exact I.mod.glob.keeps I.bk) hm (by rw [I.ok.blt]; exact h1.keeps I.bk) ((h2 x hn).trans hv) h) hd
/-- a module's constant, a class, a function, as a value -/
theorem pe_glob {x : Str} {v : V} {u : Value} {pos : Pos} (hg : Gl X x) (hm : X.mg x = some u) (r : RelV v u) (hd : (x == ("__debug__" : Str)) = false := by decide) : PE X (.Name x pos) (tC v) := by
  first
  | exact (fun _ _ _ H _ I h => ld_glob I hg hm ⟨v, H, I, r, h⟩ hd)
  | (unfold PE at *; exact (fun _ _ _ H _ I h => ld_glob I hg hm ⟨v, H, I, r, h⟩ hd))

theorem pe_bltn {x : Str} {v : V} {u : Value} {pos : Pos} (hg : Gl X x) (hm : X.mg x = none) (hv : bootBuiltins x = some u) (r : RelV v u) (hn : x ≠ "__name__" := by decide) (hd : (x == ("__debug__" : Str)) = false := by decide) : PE X (.Name x pos) (tC v) := by
  first
  | exact (fun _ _ _ H _ I h => ld_blt I hg hm hv ⟨v, H, I, r, h⟩ hn hd)
  | (unfold PE at *; exact (fun _ _ _ H _ I h => ld_blt I hg hm hv ⟨v, H, I, r, h⟩ hn hd))

/-! ### arithmetic -/
/-- two ints -/
def t2I (ta tb : TE) (k : Int → Int → Hp → Prop) : St → Hp → Prop := fun σ H => ta σ H fun x H1 => tb σ H1 fun y H2 => ∃ i j, x = .int i ∧ y = .int j ∧ k i j H2
def tAdd (ta tb : TE) : TE := fun σ H Q => t2I ta tb (fun i j H2 => Q (.int (i + j)) H2) σ H
def tSub (ta tb : TE) : TE := fun σ H Q => t2I ta tb (fun i j H2 => Q (.int (i - j)) H2) σ H
/-- the left factor below 2^64 -/
def tMul (ta tb : TE) : TE := fun σ H Q => t2I ta tb (fun i j H2 => (-(2 ^ 64) < i ∧ i < 2 ^ 64) ∧ Q (.int (i * j)) H2) σ H
variable {a b : Expr} {ta tb : TE} {pos : Pos}
theorem pe_add (ha : PE X a ta) (hb : PE X b tb) : PE X (.BinOp a .Add b pos) (tAdd ta tb) := by
  unfold PE
  exact by
    intro pins s σ H Q I h
    refine wpAny_BinOp (bin ha hb I h fun v u s2 x y H2 I2 rx ry q => ?_)
    obtain ⟨i, j, rfl, rfl, q⟩ := q
    obtain ⟨t, rfl⟩ := rx
    obtain ⟨t', rfl⟩ := ry
    exact add_int ⟨.int _, H2, I2.tok _, ⟨_, rfl⟩, q⟩

theorem pe_sub (ha : PE X a ta) (hb : PE X b tb) : PE X (.BinOp a .Sub b pos) (tSub ta tb) := by
  unfold PE
  exact by
    intro pins s σ H Q I h
    refine wpAny_BinOp (bin ha hb I h fun v u s2 x y H2 I2 rx ry q => ?_)
    obtain ⟨i, j, rfl, rfl, q⟩ := q
    obtain ⟨t, rfl⟩ := rx
    obtain ⟨t', rfl⟩ := ry
    exact sub_int ⟨.int _, H2, I2.tok _, ⟨_, rfl⟩, q⟩

theorem pe_mul (ha : PE X a ta) (hb : PE X b tb) : PE X (.BinOp a .Mult b pos) (tMul ta tb) := by
  unfold PE
  exact by
    intro pins s σ H Q I h
    refine wpAny_BinOp (bin ha hb I h fun v u s2 x y H2 I2 rx ry q => ?_)
    obtain ⟨i, j, rfl, rfl, ⟨q1, q2⟩, q⟩ := q
    obtain ⟨t, rfl⟩ := rx
    obtain ⟨t', rfl⟩ := ry
    exact mul_int ⟨.int _, H2, I2.tok _, ⟨_, rfl⟩, q⟩ (.of_left (intBits_le_64 q1 q2))

/-! ### comparisons -/
@[irreducible] def PC (X : Cx) (op : CmpOp) (a b : Expr) (t : TE) : Prop :=
  ∀ (pins : List (Addr × Obj)) (s : Shared) (σ : St) (H : Hp) (Q : VK), Inv X pins σ H s → t σ H Q →
    wpAny (model X.prog X.w) X.A (eval a X.env) (fun v s₁ => wpAny (model X.prog X.w) X.A (eval b X.env) (fun u s₂ => wpAny (model X.prog X.w) X.A (compareOp op v u) (EP X pins σ Q) X.xe s₂) X.xe s₁) X.xe s
theorem nobehind (b : Expr) {op : CmpOp} (h : op ≠ .In) (h2 : op ≠ .NotIn) : behindInMarks op b = false := by
  have e1 : (op == CmpOp.In) = false := by cases op <;> first | rfl | exact absurd rfl h
  have e2 : (op == CmpOp.NotIn) = false := by cases op <;> first | rfl | exact absurd rfl h2
  cases b <;> simp [behindInMarks, e1, e2]
def tCmp (p : Int → Int → Bool) (ta tb : TE) : TE := fun σ H Q => t2I ta tb (fun i j H2 => Q (.bl (p i j)) H2) σ H
abbrev tLt : TE → TE → TE := tCmp fun i j => decide (i < j)
abbrev tLe : TE → TE → TE := tCmp fun i j => decide (i ≤ j)
abbrev tGt : TE → TE → TE := tCmp fun i j => decide (j < i)
abbrev tGe : TE → TE → TE := tCmp fun i j => decide (j ≤ i)
abbrev tEqI : TE → TE → TE := tCmp fun i j => decide (i = j)
abbrev tNeI : TE → TE → TE := tCmp fun i j => !decide (i = j)
/-- a comparison of two ints, by its rule -/
theorem pc_int {op : CmpOp} {p : Int → Int → Bool} (ha : PE X a ta) (hb : PE X b tb)
    (rule : ∀ (i j : Int) (t u : Tok) (Q : Value → Shared → Prop) (s : Shared), Q (.bool (p i j)) s → wpAny (model X.prog X.w) X.A (compareOp op (.int i t) (.int j u)) Q X.xe s) : PC X op a b (tCmp p ta tb) := by
  unfold PC
  exact by
    intro pins s σ H Q I h
    refine bin ha hb I h fun v u s2 x y H2 I2 rx ry q => ?_
    obtain ⟨i, j, rfl, rfl, q⟩ := q
    obtain ⟨t, rfl⟩ := rx
    obtain ⟨t', rfl⟩ := ry
    exact rule i j t t' _ s2 ⟨.bl _, H2, I2, rfl, q⟩

theorem pc_lt (ha : PE X a ta) (hb : PE X b tb) : PC X .Lt a b (tLt ta tb) := by
  first
  | exact (pc_int ha hb fun _ _ _ _ _ _ h => lt_int h)
  | (unfold PE at *; unfold PC at *; exact (pc_int ha hb fun _ _ _ _ _ _ h => lt_int h))

theorem pc_le (ha : PE X a ta) (hb : PE X b tb) : PC X .LtE a b (tLe ta tb) := by
  first
  | exact (pc_int ha hb fun _ _ _ _ _ _ h => le_int h)
  | (unfold PE at *; unfold PC at *; exact (pc_int ha hb fun _ _ _ _ _ _ h => le_int h))

theorem pc_gt (ha : PE X a ta) (hb : PE X b tb) : PC X .Gt a b (tGt ta tb) := by
  first
  | exact (pc_int ha hb fun _ _ _ _ _ _ h => gt_int h)
  | (unfold PE at *; unfold PC at *; exact (pc_int ha hb fun _ _ _ _ _ _ h => gt_int h))

theorem pc_ge (ha : PE X a ta) (hb : PE X b tb) : PC X .GtE a b (tGe ta tb) := by
  first
  | exact (pc_int ha hb fun _ _ _ _ _ _ h => ge_int h)
  | (unfold PE at *; unfold PC at *; exact (pc_int ha hb fun _ _ _ _ _ _ h => ge_int h))

theorem pc_eqI (ha : PE X a ta) (hb : PE X b tb) : PC X .Eq a b (tEqI ta tb) := by
  first
  | exact (pc_int ha hb fun _ _ _ _ _ _ h => eq_int (by rw [Bool.beq_eq_decide_eq]; exact h))
  | (unfold PE at *; unfold PC at *; exact (pc_int ha hb fun _ _ _ _ _ _ h => eq_int (by rw [Bool.beq_eq_decide_eq]; exact h)))

theorem pc_neI (ha : PE X a ta) (hb : PE X b tb) : PC X .NotEq a b (tNeI ta tb) := by
  first
  | exact (pc_int ha hb fun _ _ _ _ _ _ h => ne_int (by rw [bne, Bool.beq_eq_decide_eq]; exact h))
  | (unfold PE at *; unfold PC at *; exact (pc_int ha hb fun _ _ _ _ _ _ h => ne_int (by rw [bne, Bool.beq_eq_decide_eq]; exact h)))

/-- is None -/
def tIsN (ta : TE) : TE := fun σ H Q => ta σ H fun x H1 => Q (.bl (decide (x = .non))) H1
def tNotN (ta : TE) : TE := fun σ H Q => ta σ H fun x H1 => Q (.bl (!decide (x = .non))) H1
theorem RelV.none_iff {x : V} {v : Value} (r : RelV x v) : (v == Value.none) = decide (x = .non) := by
  cases x with
  | non => cases r; rfl
  | bl _ => cases r; rfl
  | int _ => obtain ⟨t, rfl⟩ := r; rfl
  | str _ => obtain ⟨t, rfl⟩ := r; rfl
  | byt _ => obtain ⟨t, rfl⟩ := r; rfl
  | flt _ => obtain ⟨t, rfl⟩ := r; rfl
  | ref _ => cases r; rfl
  | ty _ => cases r; rfl
theorem pc_isN {j pos'} (ha : PE X a ta) : PC X .Is a (.Constant .none j pos') (tIsN ta) := by
  unfold PE at *; unfold PC at *
  exact by
    intro pins s σ H Q I h
    refine thn (ha pins s σ H _ I h) fun v s1 ⟨x, H1, I1, r1, q1⟩ => ?_
    exact Constant_none (is_none_gen ⟨.bl _, H1, I1, by rw [r1.none_iff]; rfl, q1⟩)

theorem pc_notN {j pos'} (ha : PE X a ta) : PC X .IsNot a (.Constant .none j pos') (tNotN ta) := by
  unfold PE at *; unfold PC at *
  exact by
    intro pins s σ H Q I h
    refine thn (ha pins s σ H _ I h) fun v s1 ⟨x, H1, I1, r1, q1⟩ => ?_
    exact Constant_none (isnot_none_gen ⟨.bl _, H1, I1, by rw [r1.none_iff]; rfl, q1⟩)

/-- a comparison as a value, as a test -/
def tB (t : TE) : TT := fun σ H Q => t σ H fun x H1 => ∃ c, x = .bl c ∧ Q c H1
theorem pe_cmp {op : CmpOp} {t : TE} (h : PC X op a b t) (h1 : behindInMarks op b = false := by first | exact nobehind _ (by decide) (by decide) | rfl) : PE X (.Compare a [op] [b] pos) t := by
  first
  | exact (fun pins s σ H Q I hw => wpAny_Compare1 (h pins s σ H Q I hw) h1)
  | (unfold PE at *; unfold PC at *; exact (fun pins s σ H Q I hw => wpAny_Compare1 (h pins s σ H Q I hw) h1))

theorem pt_cmp {op : CmpOp} {t : TE} (h : PC X op a b t) (h1 : behindInMarks op b = false := by first | exact nobehind _ (by decide) (by decide) | rfl) : PT X (.Compare a [op] [b] pos) (tB t) := by
  unfold PT at *; unfold PC at *
  exact by
    intro pins s σ H Q I hw
    refine wpAny_isTrue_Compare1 (thn (h pins s σ H _ I hw) fun v s1 h1 => thn h1 fun u s2 h2 => thn h2 fun c s3 ⟨x, H1, I1, r1, q1⟩ => ?_) h1
    obtain ⟨d, rfl, q⟩ := q1
    cases r1
    exact wpAny_truthy_bool ⟨H1, I1, q⟩

/-- an expression whose value is a bool, as a test -/
theorem pt_val {e : Expr} {t : TE} (h : PE X e t) (he : ∀ whole, isTrue e X.env whole = (do let v ← whole; standAt e.pos; holding [v] (truthy v)) := by intro _; rfl) : PT X e (tB t) := by
  unfold PE at *; unfold PT at *
  exact by
    intro pins s σ H Q I hw
    refine isTrue_plain (thn (h pins s σ H _ I hw) fun v s1 ⟨x, H1, I1, r1, q1⟩ => ?_) (he _)
    obtain ⟨d, rfl, q⟩ := q1
    cases r1
    exact wpAny_truthy_bool ⟨H1, I1, q⟩

/-! ### and, or, not -/
variable {tA tB' : TT} {rest : List Expr}
def tAnd (t u : TT) : TT := fun σ H Q => t σ H fun c H1 => if c = true then u σ H1 Q else Q false H1
def tOr (t u : TT) : TT := fun σ H Q => t σ H fun c H1 => if c = true then Q true H1 else u σ H1 Q
def tNot (t : TT) : TT := fun σ H Q => t σ H fun c H1 => Q (!c) H1
theorem pw_and1 (ha : PT X a tA) : PW X (.BoolOp .And [a] pos) tA := by
  unfold PT at *; unfold PW at *
  exact by
    intro wh pins s σ H Q I h
    refine isTrue_and (thn (ha pins s σ H Q I h) fun c s1 e => ?_)
    cases c with
    | true => exact isTrue_and_nil e
    | false => exact e

theorem pw_or1 (ha : PT X a tA) : PW X (.BoolOp .Or [a] pos) tA := by
  unfold PT at *; unfold PW at *
  exact by
    intro wh pins s σ H Q I h
    refine isTrue_or (thn (ha pins s σ H Q I h) fun c s1 e => ?_)
    cases c with
    | false => exact isTrue_or_nil e
    | true => exact e

theorem pw_and (ha : PT X a tA) (hb : PW X (.BoolOp .And (b :: rest) pos) tB') : PW X (.BoolOp .And (a :: b :: rest) pos) (tAnd tA tB') := by
  unfold PT at *; unfold PW at *
  exact by
    intro wh pins s σ H Q I h
    refine isTrue_and (thn (ha pins s σ H _ I h) fun c s1 ⟨H1, I1, q1⟩ => ?_)
    cases c with
    | true => exact hb wh pins s1 σ H1 Q I1 q1
    | false => exact ⟨H1, I1, q1⟩

theorem pw_or (ha : PT X a tA) (hb : PW X (.BoolOp .Or (b :: rest) pos) tB') : PW X (.BoolOp .Or (a :: b :: rest) pos) (tOr tA tB') := by
  unfold PT at *; unfold PW at *
  exact by
    intro wh pins s σ H Q I h
    refine isTrue_or (thn (ha pins s σ H _ I h) fun c s1 ⟨H1, I1, q1⟩ => ?_)
    cases c with
    | true => exact ⟨H1, I1, q1⟩
    | false => exact hb wh pins s1 σ H1 Q I1 q1

theorem pt_not (ha : PT X a tA) : PT X (.UnaryOp .Not a pos) (tNot tA) := by
  unfold PT at *
  exact by
    intro pins s σ H Q I h
    exact isTrue_not (ha pins s σ H (fun c H1 => Q (!c) H1) I h)

/-- .. as values (bools) -/
def tAndV (ta tb : TE) : TE := fun σ H Q => ta σ H fun x H1 => ∃ c, x = .bl c ∧ if c = true then tb σ H1 Q else Q (.bl false) H1
def tOrV (ta tb : TE) : TE := fun σ H Q => ta σ H fun x H1 => ∃ c, x = .bl c ∧ if c = true then Q (.bl true) H1 else tb σ H1 Q
def tNotV (ta : TE) : TE := fun σ H Q => ta σ H fun x H1 => ∃ c, x = .bl c ∧ Q (.bl (!c)) H1
theorem pe_one {op} {t : TE} (h : PE X a t) : PE X (.BoolOp op [a] pos) t := by
  first
  | exact (fun pins s σ H Q I hw => BoolOp_one (h pins s σ H Q I hw))
  | (unfold PE at *; exact (fun pins s σ H Q I hw => BoolOp_one (h pins s σ H Q I hw)))

theorem pe_and (ha : PE X a ta) (hb : PE X (.BoolOp .And (b :: rest) pos) tb) : PE X (.BoolOp .And (a :: b :: rest) pos) (tAndV ta tb) := by
  unfold PE at *
  exact by
    intro pins s σ H Q I h
    refine BoolOp_and (thn (ha pins s σ H _ I h) fun v s1 ⟨x, H1, I1, r1, q1⟩ => ?_)
    obtain ⟨c, rfl, q1⟩ := q1
    cases r1
    refine wpAny_truthy_bool ?_
    cases c with
    | true => exact hb pins s1 σ H1 Q I1 q1
    | false => exact ⟨.bl false, H1, I1, rfl, q1⟩

theorem pe_or (ha : PE X a ta) (hb : PE X (.BoolOp .Or (b :: rest) pos) tb) : PE X (.BoolOp .Or (a :: b :: rest) pos) (tOrV ta tb) := by
  unfold PE at *
  exact by
    intro pins s σ H Q I h
    refine BoolOp_or (thn (ha pins s σ H _ I h) fun v s1 ⟨x, H1, I1, r1, q1⟩ => ?_)
    obtain ⟨c, rfl, q1⟩ := q1
    cases r1
    refine wpAny_truthy_bool ?_
    cases c with
    | false => exact hb pins s1 σ H1 Q I1 q1
    | true => exact ⟨.bl true, H1, I1, rfl, q1⟩

theorem pe_not (ha : PE X a ta) : PE X (.UnaryOp .Not a pos) (tNotV ta) := by
  unfold PE at *
  exact by
    intro pins s σ H Q I h
    refine UnaryOp_ (thn (ha pins s σ H _ I h) fun v s1 ⟨x, H1, I1, r1, q1⟩ => ?_)
    obtain ⟨c, rfl, q1⟩ := q1
    cases r1
    exact not_of (wpAny_truthy_bool ⟨.bl (!c), H1, I1, rfl, q1⟩)

/-- a if t else b -/
def tIf (t : TT) (ta tb : TE) : TE := fun σ H Q => t σ H fun c H1 => if c = true then ta σ H1 Q else tb σ H1 Q
theorem pe_ifExp {c : Expr} (hc : PT X c tA) (ha : PE X a ta) (hb : PE X b tb) : PE X (.IfExp c a b pos) (tIf tA ta tb) := by
  unfold PE at *; unfold PT at *
  exact by
    intro pins s σ H Q I h
    refine wpAny_IfExp (thn (hc pins s σ H _ I h) fun d s1 ⟨H1, I1, q1⟩ => ?_)
    cases d with
    | true => exact ha pins s1 σ H1 Q I1 q1
    | false => exact hb pins s1 σ H1 Q I1 q1

end
end L2

namespace L2
open PySem PySem.Spec PyProof.Rows

/-! ### a list, a tuple that is read: tracked, frozen, or an object of the module -/
def SqL (K : PySem.W.Frag) (H : Hp) (a : Addr) (xs : List V) : Prop :=
  Rd H a (.lst xs) ∨
    ∃ (o : Obj) (its : Array Value) (n : Nat), K.lookup a = some o ∧ o.cls = .type "list" ∧ o.dict = none ∧ o.data = .seq its n ∧ its.size ≤ sizeLine ∧ Vals xs its.toList
def SqT (K : PySem.W.Frag) (H : Hp) (a : Addr) (xs : List V) : Prop :=
  Rd H a (.tup xs) ∨
    ∃ (o : Obj) (its : Array Value) (n : Nat), K.lookup a = some o ∧ o.cls = .type "tuple" ∧ o.data = .seq its n ∧ its.size ≤ sizeLine ∧ Vals xs its.toList
def absV : Value → Option V
  | .none => some .non
  | .bool b => some (.bl b)
  | .int i _ => some (.int i)
  | .str x _ => some (.str x)
  | .bytes b _ => some (.byt b)
  | .float b _ => some (.flt b)
  | .ref a => some (.ref a)
  | .type n => some (.ty n)
  | _ => none
theorem RelV.abs {x : V} {u : Value} (r : RelV x u) : absV u = some x := by
  cases x with
  | non => cases r; rfl
  | bl _ => cases r; rfl
  | int _ => obtain ⟨t, rfl⟩ := r; rfl
  | str _ => obtain ⟨t, rfl⟩ := r; rfl
  | byt _ => obtain ⟨t, rfl⟩ := r; rfl
  | flt _ => obtain ⟨t, rfl⟩ := r; rfl
  | ref _ => cases r; rfl
  | ty _ => cases r; rfl
theorem RelV.inj {x y : V} {u : Value} (r : RelV x u) (q : RelV y u) : x = y := Option.some.inj (r.abs.symm.trans q.abs)
theorem Vals.inj : ∀ {xs ys : List V} {us : List Value}, Vals xs us → Vals ys us → xs = ys
  | _, _, _, .nil, .nil => rfl
  | _, _, _, .cons r t, .cons r' t' => by rw [r.inj r', Vals.inj t t']
section
variable {X : Cx} {pins : List (Addr × Obj)} {σ : St} {H : Hp} {s : Shared} {a : Addr} {xs ys : List V}
theorem SqL.of {K : PySem.W.Frag} (h : H a = some (.lst xs)) : SqL K H a xs := .inl (.inl h)
theorem SqT.of {K : PySem.W.Frag} (h : H a = some (.tup xs)) : SqT K H a xs := .inl (.inl h)
theorem Inv.list (I : Inv X pins σ H s) (h : SqL X.K H a xs) : ∃ its : List Value, Vals xs its ∧ PlainL s.heap a its.toArray ∧ xs.length ≤ sizeLine := by
  rcases h with h | ⟨o, its, n, hk, hc, hd, hs, hz, r⟩
  · obtain ⟨z, its, n, r, e⟩ := h.ok I.hok
    exact ⟨its, r, ⟨_, n, e, rfl, rfl, rfl⟩, z⟩
  · refine ⟨its.toList, r, ⟨o, n, I.kIn a o hk, hc, hd, by simpa using hs⟩, ?_⟩
    have e := r.length
    simp only [Array.length_toList] at e
    omega
theorem Inv.tuple (I : Inv X pins σ H s) (h : SqT X.K H a xs) : ∃ its : List Value, Vals xs its ∧ IsTup s.heap a its.toArray ∧ xs.length ≤ sizeLine := by
  rcases h with h | ⟨o, its, n, hk, hc, hs, hz, r⟩
  · obtain ⟨z, its, r, p⟩ := h.ok I.hok
    exact ⟨its, r, p, z⟩
  · refine ⟨its.toList, r, ⟨o, I.kIn a o hk, hc, n, by simpa using hs⟩, ?_⟩
    have e := r.length
    simp only [Array.length_toList] at e
    omega
theorem Inv.list_inj (I : Inv X pins σ H s) (h : SqL X.K H a xs) (h' : SqL X.K H a ys) : xs = ys := by
  obtain ⟨its, r, ⟨o, n, e, _, _, d⟩, _⟩ := I.list h
  obtain ⟨its', r', ⟨o', n', e', _, _, d'⟩, _⟩ := I.list h'
  rw [e] at e'; cases e'
  rw [d] at d'
  injection d' with d1 _
  have : its = its' := by simpa using congrArg Array.toList d1
  subst this
  exact r.inj r'
theorem Inv.tuple_inj (I : Inv X pins σ H s) (h : SqT X.K H a xs) (h' : SqT X.K H a ys) : xs = ys := by
  obtain ⟨its, r, ⟨o, e, _, n, d⟩, _⟩ := I.tuple h
  obtain ⟨its', r', ⟨o', e', _, n', d'⟩, _⟩ := I.tuple h'
  rw [e] at e'; cases e'
  rw [d] at d'
  injection d' with d1 _
  have : its = its' := by simpa using congrArg Array.toList d1
  subst this
  exact r.inj r'
end

/-! ### another wish about exceptions -/
abbrev Cx.wish (X : Cx) (E : Value → Shared → Prop) : Cx := { X with xe := E }
/-- no exception leaves -/
abbrev Cx.nox (X : Cx) : Cx := X.wish fun _ _ => False
theorem Cx.Ok.wish {X : Cx} (ok : X.Ok) (E : Value → Shared → Prop) : (X.wish E).Ok :=
  ⟨ok.mod, ok.kind, ok.glob, ok.blt, ok.above, ok.inj, ok.has, ok.cab, ok.hd, ok.frames, ok.stk, ok.exf, ok.bs, ok.bsz, ok.noex, ok.exfs, ok.funs, ok.frf⟩
theorem Cx.Ok.unwish {X : Cx} {E : Value → Shared → Prop} (ok : (X.wish E).Ok) : X.Ok :=
  ⟨ok.mod, ok.kind, ok.glob, ok.blt, ok.above, ok.inj, ok.has, ok.cab, ok.hd, ok.frames, ok.stk, ok.exf, ok.bs, ok.bsz, ok.noex, ok.exfs, ok.funs, ok.frf⟩
section
variable {X : Cx} {pins : List (Addr × Obj)} {σ : St} {H : Hp} {s : Shared} {E : Value → Shared → Prop}
theorem Inv.wish (I : Inv X pins σ H s) (E : Value → Shared → Prop) : Inv (X.wish E) pins σ H s := ⟨I.ok.wish E, I.os, I.bare, I.base, I.loc, I.cell, I.free, I.freeC, I.pin, I.hok, I.len⟩
theorem Inv.unwish (I : Inv (X.wish E) pins σ H s) : Inv X pins σ H s := ⟨I.ok.unwish, I.os, I.bare, I.base, I.loc, I.cell, I.free, I.freeC, I.pin, I.hok, I.len⟩
theorem SP.unwish {D : Ends} {f : Flow} {s' : Shared} (h : SP (X.wish E) pins D f s') : SP X pins D f s' := by
  cases f with
  | next => obtain ⟨σ', H', I, q⟩ := h; exact ⟨σ', H', I.unwish, q⟩
  | brk => obtain ⟨σ', H', I, q⟩ := h; exact ⟨σ', H', I.unwish, q⟩
  | cont => obtain ⟨σ', H', I, q⟩ := h; exact ⟨σ', H', I.unwish, q⟩
  | ret u => obtain ⟨v, σ', H', I, r, q⟩ := h; exact ⟨v, σ', H', I.unwish, r, q⟩
theorem PE.nox {e : Expr} {t : TE} (h : PE X.nox e t) : PE X e t := by
  unfold PE at *
  exact (fun pins s σ H Q I hw =>
    wpAny_mono (h pins s σ H Q (I.wish _) hw) (fun _ _ ⟨v, H', I', r, q⟩ => ⟨v, H', I'.unwish, r, q⟩) fun _ _ z => False.elim z)

theorem PT.nox {e : Expr} {t : TT} (h : PT X.nox e t) : PT X e t := by
  unfold PT at *
  exact (fun pins s σ H Q I hw =>
    wpAny_mono (h pins s σ H Q (I.wish _) hw) (fun _ _ ⟨H', I', q⟩ => ⟨H', I'.unwish, q⟩) fun _ _ z => False.elim z)

theorem PSs.nox {st : List Stmt} {t : TS} (h : PSs X.nox st t) : PSs X st t := by
  unfold PSs at *
  exact (fun pins s σ H D I hw =>
    wpAny_mono (h pins s σ H D (I.wish _) hw) (fun _ _ q => q.unwish) fun _ _ z => False.elim z)

end

/-! ### blocks and small statements -/
section
variable {X : Cx} {st : Stmt} {rest : List Stmt} {t u : TS} {e : Expr} {te : TE} {pos : Pos}
def tNext : TS := fun D σ H => D.nx σ H
def tSeq (t u : TS) : TS := fun D σ H => t { D with nx := u D } σ H
theorem pss_nil : PSs X [] tNext := by
  first
  | exact (fun _ _ σ H _ I h => wpAny_execs_nil ⟨σ, H, I, h⟩)
  | (unfold PSs at *; exact (fun _ _ σ H _ I h => wpAny_execs_nil ⟨σ, H, I, h⟩))

theorem pss_cons (h1 : PS X st t) (h2 : PSs X rest u) : PSs X (st :: rest) (tSeq t u) := by
  unfold PS at *; unfold PSs at *
  exact by
    intro pins s σ H D I h
    refine wpAny_execs_cons (thn (h1 pins s σ H { D with nx := u D } I h) fun f s1 q => ?_)
    cases f with
    | next =>
      obtain ⟨σ', H', I', q⟩ := q
      exact h2 pins s1 σ' H' D I' q
    | ret v => exact q
    | brk => exact q
    | cont => exact q

theorem pss_one (h1 : PS X st t) : PSs X [st] t := by
  unfold PS at *; unfold PSs at *
  exact by
    intro pins s σ H D I h
    refine wpAny_execs_cons (thn (h1 pins s σ H D I h) fun f s1 q => ?_)
    cases f with
    | next => exact wpAny_execs_nil q
    | ret v => exact q
    | brk => exact q
    | cont => exact q

def tBreak : TS := fun D σ H => D.bk σ H
def tCont : TS := fun D σ H => D.ct σ H
theorem ps_pass : PS X (.Pass pos) tNext := by
  first
  | exact (fun _ _ σ H _ I h => wpAny_Pass ⟨σ, H, I, h⟩)
  | (unfold PS at *; exact (fun _ _ σ H _ I h => wpAny_Pass ⟨σ, H, I, h⟩))

theorem ps_break : PS X (.Break pos) tBreak := by
  first
  | exact (fun _ _ σ H _ I h => wpAny_Break ⟨σ, H, I, h⟩)
  | (unfold PS at *; exact (fun _ _ σ H _ I h => wpAny_Break ⟨σ, H, I, h⟩))

theorem ps_continue : PS X (.Continue pos) tCont := by
  first
  | exact (fun _ _ σ H _ I h => wpAny_Continue ⟨σ, H, I, h⟩)
  | (unfold PS at *; exact (fun _ _ σ H _ I h => wpAny_Continue ⟨σ, H, I, h⟩))

/-- in a def's body nothing is shown -/
theorem Inv.quiet {pins : List (Addr × Obj)} {σ : St} {H : Hp} {s : Shared} (I : Inv X pins σ H s) : interactive X.env = false := by simp [interactive, I.ok.kind]
/-- a docstring -/
theorem ps_doc {x j pos pos'} : PS X (.Expr (.Constant (.str x) j pos) pos') tNext := by
  first
  | exact (fun _ s σ H _ I h => wpAny_Expr (Calls.Constant_str (show SP X _ _ .next { s with toks := s.toks + 1 } from ⟨σ, H, I.tok _, h⟩)) I.quiet)
  | (unfold PS at *; exact (fun _ s σ H _ I h => wpAny_Expr (Calls.Constant_str (show SP X _ _ .next { s with toks := s.toks + 1 } from ⟨σ, H, I.tok _, h⟩)) I.quiet))

/-- an expression whose value is dropped -/
def tDrop (te : TE) : TS := fun D σ H => te σ H fun _ H1 => D.nx σ H1
theorem ps_expr (he : PE X e te) (hs : swapsWith e none pos.line X.env = pure false := by rfl) : PS X (.Expr e pos) (tDrop te) := by
  unfold PE at *; unfold PS at *
  exact by
    intro pins s σ H D I h
    exact wpAny_Expr_any (thn (he pins s σ H _ I h) fun v s1 ⟨x, H1, I1, r1, q1⟩ => ⟨σ, H1, I1, q1⟩) I.quiet hs

def tRet (te : TE) : TS := fun D σ H => te σ H D.rt
theorem ps_ret (he : PE X e te) : PS X (.Return (some e) pos) (tRet te) := by
  unfold PE at *; unfold PS at *
  exact by
    intro pins s σ H D I h
    exact wpAny_Return_some (thn (he pins s σ H _ I h) fun v s1 ⟨x, H1, I1, r1, q1⟩ => ⟨x, σ, H1, I1, r1, q1⟩)

def tRetN : TS := fun D _ H => D.rt .non H
theorem ps_retN : PS X (.Return none pos) tRetN := by
  first
  | exact (fun _ _ σ H _ I h => wpAny_Return_none ⟨.non, σ, H, I, rfl, h⟩)
  | (unfold PS at *; exact (fun _ _ σ H _ I h => wpAny_Return_none ⟨.non, σ, H, I, rfl, h⟩))

def tIfS (c : TT) (t u : TS) : TS := fun D σ H => c σ H fun b H1 => if b = true then t D σ H1 else u D σ H1
theorem ps_if {c : Expr} {a b : List Stmt} {tc : TT} (hc : PT X c tc) (ha : PSs X a t) (hb : PSs X b u) : PS X (.If c a b pos) (tIfS tc t u) := by
  unfold PT at *; unfold PS at *; unfold PSs at *
  exact by
    intro pins s σ H D I h
    refine wpAny_If (thn (hc pins s σ H _ I h) fun d s1 ⟨H1, I1, q1⟩ => ?_)
    cases d with
    | true => exact ha pins s1 σ H1 D I1 q1
    | false => exact hb pins s1 σ H1 D I1 q1

/-- code that the proof never comes to -/
def tNever : TS := fun _ _ _ => False
theorem ps_never : PS X st tNever := by
  first
  | exact (fun _ _ _ _ _ _ h => h.elim)
  | (unfold PS at *; exact (fun _ _ _ _ _ _ h => h.elim))

theorem pss_never {sts : List Stmt} : PSs X sts tNever := by
  first
  | exact (fun _ _ _ _ _ _ h => h.elim)
  | (unfold PSs at *; exact (fun _ _ _ _ _ _ h => h.elim))

end

/-! ### targets -/
abbrev TG := V → St → Hp → (St → Hp → Prop) → Prop
abbrev TGs := List V → St → Hp → (St → Hp → Prop) → Prop
@[irreducible] def PG (X : Cx) (target : Expr) (t : TG) : Prop :=
  ∀ (pins : List (Addr × Obj)) (s : Shared) (σ : St) (H : Hp) (v : V) (u : Value) (Q : St → Hp → Prop), Inv X pins σ H s → RelV v u → t v σ H Q →
    wpAny (model X.prog X.w) X.A (assign target X.env u) (fun _ s' => ∃ σ' H', Inv X pins σ' H' s' ∧ Q σ' H') X.xe s
/-- several targets, one after another -/
@[irreducible] def PGs (X : Cx) (ts : List Expr) (t : TGs) : Prop :=
  ∀ (pins : List (Addr × Obj)) (s : Shared) (σ : St) (H : Hp) (vs : List V) (us : List Value) (Q : St → Hp → Prop), Inv X pins σ H s → Vals vs us → t vs σ H Q →
    wpAny (model X.prog X.w) X.A (assignInOrder ((assignEach ts X.env).map (·.2)) us) (fun _ s' => ∃ σ' H', Inv X pins σ' H' s' ∧ Q σ' H') X.xe s
/-- o[i] = v, by values -/
abbrev TSet := V → V → V → Hp → (Hp → Prop) → Prop
@[irreducible] def PSet (X : Cx) (t : TSet) : Prop :=
  ∀ (pins : List (Addr × Obj)) (s : Shared) (σ : St) (H : Hp) (o i v : V) (ov iv u : Value) (Q : Hp → Prop), Inv X pins σ H s → RelV o ov → RelV i iv → RelV v u → t o i v H Q →
    wpAny (model X.prog X.w) X.A (setItem ov iv u) (fun _ s' => ∃ H', Inv X pins σ H' s' ∧ Q H') X.xe s
/-- a op= b, by values -/
abbrev TIp := V → V → Hp → VK → Prop
@[irreducible] def PIp (X : Cx) (op : Operator) (t : TIp) : Prop :=
  ∀ (pins : List (Addr × Obj)) (s : Shared) (σ : St) (H : Hp) (x y : V) (v u : Value) (Q : VK), Inv X pins σ H s → RelV x v → RelV y u → t x y H Q →
    wpAny (model X.prog X.w) X.A (inplaceOp op v u) (EP X pins σ Q) X.xe s
section
variable {X : Cx} {pos : Pos}
def gName (i : Nat) : TG := fun v σ H Q => Q (σ.set i (some v)) H
theorem pg_name {i : Nat} {x : Str} (hN : X.N.Nodup) (hi : X.N[i]? = some x) (hx : Loc X.env.scope x) (hf : X.fn x = true ∨ X.env.scope.names.lookup x = some .local := by first | exact .inl rfl | exact .inr rfl | assumption) : PG X (.Name x pos) (gName i) := by
  unfold PG at *
  exact by
    intro pins s σ H v u Q I r h
    exact wpAny_assign_Name (store_ok I hN hi hx r (fun s' I' => ⟨_, H, I', h⟩) hf)

def gNil : TGs := fun vs σ H Q => vs = [] ∧ Q σ H
def gCons (t : TG) (u : TGs) : TGs := fun vs σ H Q => ∃ v r, vs = v :: r ∧ t v σ H fun σ' H' => u r σ' H' Q
theorem pgs_nil : PGs X [] gNil := by
  unfold PGs at *
  exact by
    intro pins s σ H vs us Q I r h
    obtain ⟨e, h⟩ := h
    subst e
    cases r
    exact assignInOrder_nil ⟨σ, H, I, h⟩

theorem pgs_cons {e : Expr} {es : List Expr} {t : TG} {u : TGs} (h1 : PG X e t) (h2 : PGs X es u)
    (hs : (assignEach (e :: es) X.env).map (·.2) = assign e X.env :: (assignEach es X.env).map (·.2) := by rfl) : PGs X (e :: es) (gCons t u) := by
  unfold PG at *; unfold PGs at *
  exact by
    intro pins s σ H vs us Q I r h
    obtain ⟨v, vr, e1, h⟩ := h
    subst e1
    cases r with
    | cons r rr =>
      rw [hs]
      refine assignInOrder_cons (thn (h1 pins s σ H _ _ _ I r h) fun _ s1 ⟨σ1, H1, I1, q1⟩ => ?_)
      exact h2 pins s1 σ1 H1 _ _ Q I1 rr q1

/-- (a, b, ..) = a tuple of that length -/
def gTup (K : PySem.W.Frag) (n : Nat) (t : TGs) : TG := fun v σ H Q => ∃ a xs, v = .ref a ∧ SqT K H a xs ∧ xs.length = n ∧ t xs σ H Q
theorem pg_tup {es : List Expr} {k : Nat} {t : TGs} {n : Nat} (hc : X.calm = true) (h : PGs X es t)
    (hn : (assignEach es X.env).length = n := by rfl) (hst : (assignEach es X.env).findIdx? (·.1) = none := by rfl) : PG X (.Tuple es k pos) (gTup X.K n t) := by
  unfold PG at *; unfold PGs at *
  exact by
    intro pins s σ H v u Q I r hw
    obtain ⟨a, xs, e1, hq, hl, hw⟩ := hw
    subst e1
    cases r
    obtain ⟨its, rv, ht, hz⟩ := I.tuple hq
    refine assign_Tuple_tuple (I.ok.hd hc) ht (by simp [hn, ← hl, rv.length]) hst fun h' hx => ?_
    have I1 : Inv X pins σ H { s with heap := h' } := I.kept (t' := s.toks) fun b o e => hx b o (Nat.ne_of_lt (Heap.lt_size e)) e
    exact h pins _ σ H xs _ Q I1 (by simpa using rv) hw

/-- o[i] = .. -/
def gSub (to ti : TE) (t : TSet) : TG := fun v σ H Q => to σ H fun o H1 => ti σ H1 fun i H2 => t o i v H2 fun H3 => Q σ H3
theorem pg_sub {o i : Expr} {to ti : TE} {t : TSet} (ho : PE X o to) (hi : PE X i ti) (hs : PSet X t)
    (ha : ∀ v, assign (.Subscript o i pos) X.env v = (do
      let ov ← holding [v] (eval o X.env)
      let iv ← holding [v, ov] (eval i X.env)
      standAt pos
      holding [v, ov, iv] (setItem ov iv v)
      release [v, ov, iv] []) := by intro _; rfl) : PG X (.Subscript o i pos) (gSub to ti t) := by
  unfold PE at *; unfold PG at *; unfold PSet at *
  exact by
    intro pins s σ H v u Q I r h
    rw [ha]
    refine wpAny_bind (wpAny_holding (thn (ho pins s σ H _ I h) fun ov s1 ⟨x, H1, I1, r1, q1⟩ => ?_))
    refine wpAny_bind (wpAny_holding (thn (hi pins s1 σ H1 _ I1 q1) fun iv s2 ⟨y, H2, I2, r2, q2⟩ => ?_))
    refine wpAny_bind (wpAny_standAt (wpAny_bind (wpAny_holding (thn (hs pins s2 σ H2 x y v ov iv u _ I2 r1 r2 r q2) fun _ s3 ⟨H3, I3, q3⟩ => ?_))))
    exact wpAny_release ⟨σ, H3, I3, q3⟩

/-- target = value -/
def tAsg (te : TE) (g : TG) : TS := fun D σ H => te σ H fun x H1 => g x σ H1 D.nx
theorem ps_asg {tg e : Expr} {te : TE} {g : TG} (he : PE X e te) (hg : PG X tg g) (hs : swapsWithSole [tg] e pos.line X.env = pure false := by rfl) (hw : swappedStores [tg] e X.env = pure none := by rfl)
    (h1 : (assignEach [tg] X.env).map (·.2) = [assign tg X.env] := by rfl) : PS X (.Assign [tg] e pos) (tAsg te g) := by
  unfold PE at *; unfold PS at *; unfold PG at *
  exact by
    intro pins s σ H D I h
    refine wpAny_Assign_stores (thn (he pins s σ H _ I h) fun v s1 ⟨x, H1, I1, r1, q1⟩ => ?_) hs hw
    rw [h1]
    exact thn (hg pins s1 σ H1 x v _ I1 r1 q1) fun _ s2 q => q

/-- name = value -/
theorem ps_set {i : Nat} {x : Str} {e : Expr} {te : TE} {pos' : Pos} (hN : X.N.Nodup) (hi : X.N[i]? = some x) (hx : Loc X.env.scope x) (he : PE X e te) (hs : swapsWith e (some (.Name x pos')) pos.line X.env = pure false := by rfl) (hf : X.fn x = true ∨ X.env.scope.names.lookup x = some .local := by first | exact .inl rfl | exact .inr rfl | assumption) :
    PS X (.Assign [.Name x pos'] e pos) (tAsg te (gName i)) := by
  unfold PE at *; unfold PS at *
  exact by
    intro pins s σ H D I h
    refine wpAny_Assign_Name (thn (he pins s σ H _ I h) fun v s1 ⟨y, H1, I1, r1, q1⟩ => ?_) hs
    exact store_ok I1 hN hi hx r1 (fun s2 I2 => ⟨_, H1, I2, q1⟩) hf

/-- a, b = x, y with plain local names: stored from the right; the pair itself is not tracked (the opening rows as in PyProof/Rows/TupAssign.lean:23) -/
def tPar (i j : Nat) (ta : TA) : TS := fun D σ H => ta σ H fun vs H1 => ∃ v w, vs = [v, w] ∧ D.nx ((σ.set i (some v)).set j (some w)) H1
theorem ps_par {i j : Nat} {x y : Str} {a b : Expr} {ta : TA} {px py pt : Pos} {kt k2 pt2} (hc : X.calm = true) (hN : X.N.Nodup) (hi : X.N[i]? = some x) (hj : X.N[j]? = some y) (hij : i ≠ j)
    (hx : X.env.scope.names.lookup x = some .local) (hy : X.env.scope.names.lookup y = some .local) (ha : PA X [a, b] ta)
    (hw : swappedStores [.Tuple [.Name x px, .Name y py] kt pt] (.Tuple [a, b] k2 pt2) X.env = pure (some [x, y]))
    (hs : swapsWithSole [.Tuple [.Name x px, .Name y py] kt pt] (.Tuple [a, b] k2 pt2) pos.line X.env = pure false := by rfl) :
    PS X (.Assign [.Tuple [.Name x px, .Name y py] kt pt] (.Tuple [a, b] k2 pt2) pos) (tPar i j ta) := by
  unfold PA at *; unfold PS at *
  exact by
    intro pins s σ H D I h
    rw [exec_Assign_arm]
    refine wpAny_bind (wpAny_standAt ?_)
    rw [hs]
    refine wpAny_bind (wpAny_pure ?_)
    rw [if_neg (by decide)]
    refine wpAny_bind (Tuple_ (thn (ha _ pins s σ H _ I h) fun us s1 ⟨vs, H1, I1, r1, q1⟩ => ?_))
    obtain ⟨v, w, e1, q1⟩ := q1
    subst e1
    obtain ⟨u1, u2, rfl, rv, rw'⟩ : ∃ u1 u2, us = [u1, u2] ∧ RelV v u1 ∧ RelV w u2 := by
      cases r1 with
      | cons p q =>
        cases q with
        | cons p' q' =>
          cases q'
          exact ⟨_, _, rfl, p, p'⟩
    refine wpAny_newObj_type ?_ (by show 2 ≤ sizeLine; decide)
    have I2 : Inv X pins σ H1 { s1 with heap := s1.heap.push { cls := .type "tuple", data := .seq [u1, u2].toArray } } := I1.kept (t' := s1.toks) fun b o e => Heap.get?_push_of_some _ e
    rw [hw]
    refine wpAny_bind (wpAny_pure ?_)
    show wpAny (model X.prog X.w) X.A (do rule "assign.swapped-stores"; let items ← unpackItems (.ref s1.heap.objs.size) 2 none; assignInOrder [fun v => bindName X.env y v, fun v => bindName X.env x v] items.reverse; pure Flow.next) _ _ _
    refine wpAny_bind (wpAny_rule (wpAny_bind (unpackItems_tuple (items := #[u1, u2]) (I.ok.hd hc) (IsTup.new s1.heap _) fun h' hx' => ?_)))
    have I3 := I2.kept (h' := h') (t' := s1.toks) fun b o e => hx' b o (Nat.ne_of_lt (Heap.lt_size e)) e
    show wpAny _ _ (assignInOrder [fun v => bindName X.env y v, fun v => bindName X.env x v] [u2, u1] >>= fun _ => pure Flow.next) _ _ _
    refine wpAny_bind (assignInOrder_cons (wpAny_bindName (store_ok I3 hN hj (.inl hy) rw' (fun s2 I4 => ?_) (.inr hy))))
    refine assignInOrder_cons (wpAny_bindName (store_ok I4 hN hi (.inl hx) rv (fun s3 I5 => assignInOrder_nil (wpAny_pure ?_)) (.inr hx)))
    rw [List.set_comm _ _ (Ne.symm hij)] at I5
    exact ⟨_, H1, I5, q1⟩

/-- name op= e -/
def tAug (i : Nat) (te : TE) (ti : TIp) : TS := fun D σ H => ∃ x, σ[i]? = some (some x) ∧ te σ H fun y H1 => ti x y H1 fun z H2 => D.nx (σ.set i (some z)) H2
theorem ps_aug {i : Nat} {x : Str} {e : Expr} {te : TE} {op : Operator} {ti : TIp} {pos' : Pos} (hN : X.N.Nodup) (hi : X.N[i]? = some x) (hx : Loc X.env.scope x) (he : PE X e te) (ho : PIp X op ti) (hf : X.fn x = true ∨ X.env.scope.names.lookup x = some .local := by first | exact .inl rfl | exact .inr rfl | assumption) :
    PS X (.AugAssign (.Name x pos') op e pos) (tAug i te ti) := by
  unfold PE at *; unfold PS at *; unfold PIp at *
  exact by
    intro pins s σ H D I h
    obtain ⟨v, e1, h⟩ := h
    obtain ⟨m, hn, hl⟩ := I.loc
    have vis : Vis X.env.scope x := by rcases hx with k | k; exact .inl k; exact .inr (.inl k)
    obtain ⟨u, r, l⟩ := hl i x v hi e1 vis
    refine wpAny_AugAssign_Name ?_
    have go : wpAny (model X.prog X.w) X.A (eval e X.env) (fun w s₂ => wpAny (model X.prog X.w) X.A (inplaceOp op u w) (fun r s₃ => wpAny (model X.prog X.w) X.A (storeName X.env x r) (fun _ => SP X pins D .next) X.xe s₃) X.xe s₂) X.xe s := by
      refine thn (he pins s σ H _ I h) fun w s1 ⟨y, H1, I1, r1, q1⟩ => ?_
      refine thn (ho pins s1 σ H1 v y u w _ I1 r r1 q1) fun z s2 ⟨zv, H2, I2, r2, q2⟩ => ?_
      exact store_ok I2 hN hi hx r2 (fun s3 I3 => ⟨_, H2, I3, q2⟩) hf
    rcases l with ⟨hk, hm⟩ | ⟨hk, c, hc, hcell⟩
    · exact wpAny_loadName_local I.ok.kind hk hn hm go
    · rcases hk with hk | hk
      · exact wpAny_loadName_cell I.ok.kind hk hc hcell go
      · rcases hx with k | k
        · have : X.env.scope.names.lookup x = some .free := hk
          rw [k] at this; cases this
        · have : X.env.scope.names.lookup x = some .free := hk
          rw [k] at this; cases this

/-- o[i] op= e -/
def tAugS (to ti te : TE) (tget : V → V → Hp → VK → Prop) (tip : TIp) (tset : TSet) : TS := fun D σ H => to σ H fun o H1 => ti σ H1 fun i H2 => tget o i H2 fun x H3 => te σ H3 fun y H4 => tip x y H4 fun z H5 => tset o i z H5 fun H6 => D.nx σ H6
/-- o[i], by values -/
@[irreducible] def PGet (X : Cx) (t : V → V → Hp → VK → Prop) : Prop :=
  ∀ (pins : List (Addr × Obj)) (s : Shared) (σ : St) (H : Hp) (o i : V) (ov iv : Value) (Q : VK), Inv X pins σ H s → RelV o ov → RelV i iv → t o i H Q →
    wpAny (model X.prog X.w) X.A (getItem ov iv) (EP X pins σ Q) X.xe s
theorem ps_augS {o i e : Expr} {to ti te : TE} {tget : V → V → Hp → VK → Prop} {tip : TIp} {tset : TSet} {op : Operator} {tpos : Pos} (ho : PE X o to) (hi : PE X i ti) (hg : PGet X tget) (he : PE X e te) (hp : PIp X op tip) (hs : PSet X tset)
    (ha : ∀ ov iv new, augStore i ov iv new = (do holding [new, ov, iv] (setItem ov iv new); release [new, ov, iv] []; pure .next) := by intros; rfl) : PS X (.AugAssign (.Subscript o i tpos) op e pos) (tAugS to ti te tget tip tset) := by
  unfold PE at *; unfold PS at *; unfold PSet at *; unfold PIp at *; unfold PGet at *
  exact by
    intro pins s σ H D I h
    refine wpAny_AugAssign_SubscriptAny (thn (ho pins s σ H _ I h) fun ov s1 ⟨x1, H1, I1, r1, q1⟩ => ?_) ha
    refine thn (hi pins s1 σ H1 _ I1 q1) fun iv s2 ⟨x2, H2, I2, r2, q2⟩ => ?_
    refine thn (hg pins s2 σ H2 x1 x2 ov iv _ I2 r1 r2 q2) fun old s3 ⟨x3, H3, I3, r3, q3⟩ => ?_
    refine thn (he pins s3 σ H3 _ I3 q3) fun v s4 ⟨x4, H4, I4, r4, q4⟩ => ?_
    refine thn (hp pins s4 σ H4 x3 x4 old v _ I4 r3 r4 q4) fun new s5 ⟨x5, H5, I5, r5, q5⟩ => ?_
    exact thn (hs pins s5 σ H5 x1 x2 x5 ov iv new _ I5 r1 r2 r5 q5) fun _ s6 ⟨H6, I6, q6⟩ => ⟨σ, H6, I6, q6⟩

/-- ints -/
def ipI (f : Int → Int → Int) : TIp := fun x y H Q => ∃ i j, x = .int i ∧ y = .int j ∧ Q (.int (f i j)) H
theorem ip_add : PIp X .Add (ipI fun i j => i + j) := by
  unfold PIp at *
  exact by
    intro pins s σ H x y v u Q I r1 r2 h
    obtain ⟨i, j, e1, e2, q⟩ := h
    subst e1; subst e2
    obtain ⟨t, rfl⟩ := r1
    obtain ⟨t', rfl⟩ := r2
    exact iadd_int ⟨.int _, H, I.tok _, ⟨_, rfl⟩, q⟩

theorem ip_sub : PIp X .Sub (ipI fun i j => i - j) := by
  unfold PIp at *
  exact by
    intro pins s σ H x y v u Q I r1 r2 h
    obtain ⟨i, j, e1, e2, q⟩ := h
    subst e1; subst e2
    obtain ⟨t, rfl⟩ := r1
    obtain ⟨t', rfl⟩ := r2
    exact isub_int ⟨.int _, H, I.tok _, ⟨_, rfl⟩, q⟩

end

/-! ### while -/
section
variable {X : Cx} {pos : Pos}
/-- the invariant W with its measure -/
def tWhile (c : TT) (tb : TS) : TS := fun D σ H => ∃ W : Nat → St → Hp → Prop, (∃ m, W m σ H) ∧ ∀ m σ H, W m σ H →
  c σ H fun b H1 => if b = true then ∃ N : St → Hp → Prop, (∀ σ' H', N σ' H' → ∃ m', m' < m ∧ W m' σ' H') ∧ tb { D with nx := N, ct := N, bk := D.nx } σ H1 else D.nx σ H1
theorem ps_while {c : Expr} {body : List Stmt} {tc : TT} {tb : TS} (hp : PassesOwn (model X.prog X.w) X.A X.env X.xe) (hc : PT X c tc) (hb : PSs X body tb) : PS X (.While c body [] pos) (tWhile tc tb) := by
  unfold PT at *; unfold PS at *; unfold PSs at *
  exact by
    intro pins s σ H D I h
    obtain ⟨W, ⟨m0, w0⟩, turn⟩ := h
    refine wpAny_While (codeAny_whileLoop (fun n s' => ∃ σ' H', Inv X pins σ' H' s' ∧ W n σ' H') ?_ m0 ⟨σ, H, I, w0⟩)
    rintro n s1 ⟨σ1, H1, I1, w1⟩
    refine wpAny_passesOwn hp (thn (hc pins s1 σ1 H1 _ I1 (turn n σ1 H1 w1)) fun b s2 ⟨H2, I2, q2⟩ => ?_)
    cases b with
    | true =>
      obtain ⟨N, hN, q2⟩ := q2
      rw [if_pos rfl]
      refine wpAny_passesOwn hp (thn (hb pins s2 σ1 H2 _ I2 q2) fun f s3 q3 => ?_)
      cases f with
      | next =>
        obtain ⟨σ3, H3, I3, n3⟩ := q3
        obtain ⟨m', hm, w3⟩ := hN σ3 H3 n3
        exact ⟨m', hm, σ3, H3, I3, w3⟩
      | cont =>
        obtain ⟨σ3, H3, I3, n3⟩ := q3
        obtain ⟨m', hm, w3⟩ := hN σ3 H3 n3
        exact ⟨m', hm, σ3, H3, I3, w3⟩
      | brk => exact q3
      | ret v => exact q3
    | false =>
      rw [if_neg Bool.false_ne_true]
      exact wpAny_execs_nil ⟨σ1, H2, I2, q2⟩

end

/-! ### what a loop or a comprehension walks -/
/- at turn i: it yields x (the heap may grow), or it stops -/
set_option genInjectivity false in
set_option genSizeOfSpec false in
set_option genSizeOf false in
structure It where
  go : Nat → Hp → Prop
  yld : Nat → Hp → V → Hp → Prop
  stop : Nat → Hp → Prop
/-- the iterator's own objects may turn: they are not the frame's, not pinned, younger than the entry (or a comprehension's own) -/
def FpOk (X : Cx) (pins : List (Addr × Obj)) (H : Hp) (b : Addr) : Prop :=
  H b = none ∧ b ≠ X.env.locals ∧ b ∉ X.fs ∧ (b ∈ X.ex ∨ X.s₀.heap.objs.size ≤ b) ∧ (∀ x c, X.env.cells.lookup x = some c → c ≠ b) ∧ ∀ p ∈ X.pn ++ pins, p.1 ≠ b
theorem Inv.fpOk {X : Cx} {pins : List (Addr × Obj)} {σ : St} {H H' : Hp} {s : Shared} {b : Addr} (I : Inv X pins σ H s) (hb : s.heap.objs.size ≤ b) (hn : H' b = none) : FpOk X pins H' b := by
  refine ⟨hn, Nat.ne_of_gt (Nat.lt_of_lt_of_le I.lt hb), I.nofs hb, .inr (Nat.le_trans I.sz hb), fun x c e z => ?_, fun p hp z => ?_⟩
  · obtain ⟨v, q⟩ := I.cell x c e
    exact absurd (Nat.lt_of_lt_of_le q.lt (by rw [z]; exact hb)) (Nat.lt_irrefl _)
  · exact absurd (Nat.lt_of_lt_of_le (Heap.lt_size (I.pin p hp).1) (by rw [z]; exact hb)) (Nat.lt_irrefl _)
structure Turn (P : Program) (w : World) (K : PySem.W.Frag) (tg : Expr) (J : It) (fp : List Addr) (it : Addr) (tn : Nat → Heap → Prop) : Prop where
  mem : it ∈ fp
  obj : ∀ i h, tn i h → ∀ b ∈ fp, ∃ o, h.get? b = some o ∧ ∀ v, o.data ≠ .cell v
  keep : ∀ i h h', tn i h → (∀ b ∈ fp, ∀ o, h.get? b = some o → h'.get? b = some o) → tn i h'
  item : ∀ (X : Cx), X.prog = P → X.w = w → X.K = K → X.calm = true → ∀ (i : Nat) (pins : List (Addr × Obj)) (s : Shared) (σ : St) (H : Hp) (E : Value → Shared → Prop), Inv X pins σ H s → (∀ b ∈ fp, FpOk X pins H b) → tn i s.heap → J.go i H →
    wpAny (model P w) X.A (pyNext (.ref it)) (fun r s1 => ∃ u, r = some u ∧
      wpAny (model P w) X.A (letOwnedTupleGo tg (.ref it) u) (fun _ s2 => ∃ x H', Inv X pins σ H' s2 ∧ RelV x u ∧ J.yld i H x H' ∧ tn (i + 1) s2.heap ∧ ∀ b ∈ fp, H' b = none) E s1) E s
  done : ∀ (X : Cx), X.prog = P → X.w = w → X.K = K → X.calm = true → ∀ (i : Nat) (pins : List (Addr × Obj)) (s : Shared) (σ : St) (H : Hp) (E : Value → Shared → Prop), Inv X pins σ H s → (∀ b ∈ fp, FpOk X pins H b) → tn i s.heap → J.stop i H →
    wpAny (model P w) X.A (pyNext (.ref it)) (fun r s1 => r = none ∧ Inv X pins σ H s1) E s
  self : ∀ (A : Around) (i : Nat) (s : Shared) (Q : Value → Shared → Prop) (E : Value → Shared → Prop), tn i s.heap → Q (.ref it) s → wpAny (model P w) A (pyIter (.ref it)) Q E s
abbrev TI := St → Hp → (It → Hp → Prop) → Prop
/-- an iterator has come -/
def PIE (X : Cx) (pins : List (Addr × Obj)) (σ : St) (tg : Expr) (R : It → Hp → Prop) (itv : Value) (s2 : Shared) : Prop :=
  ∃ (it : Addr) (fp : List Addr) (tn : Nat → Heap → Prop) (J : It) (H' : Hp), itv = .ref it ∧ Inv X pins σ H' s2 ∧ Turn X.prog X.w X.K tg J fp it tn ∧ tn 0 s2.heap ∧ (∀ b ∈ fp, FpOk X pins H' b) ∧ R J H'
@[irreducible] def PI (X : Cx) (tg iter : Expr) (wi : TI) : Prop :=
  ∀ (pins : List (Addr × Obj)) (s : Shared) (σ : St) (H : Hp) (R : It → Hp → Prop), Inv X pins σ H s → wi σ H R →
    wpAny (model X.prog X.w) X.A (eval iter X.env) (fun v s1 => wpAny (model X.prog X.w) X.A (pyIter v) (PIE X pins σ tg R) X.xe s1) X.xe s

/-- the step ahead of the store is nothing for an iterator that keeps no tuple -/
theorem go_of {M : Model} {A : Around} {E : Value → Shared → Prop} {s : Shared} {tg : Expr} {it : Addr} {u : Value} {o : Obj} {n : String} {vs : Array Value} {Q : Unit → Shared → Prop} (ho : s.heap.get? it = some o) (hc : o.cls = .type n) (hd : o.data = .fields vs)
    (hn : ["enumerate", "zip", "dict_itemiterator", "dict_reverseitemiterator", "odict_iterator", "itertools.zip_longest", "itertools.pairwise"].contains n = false) (hQ : Q () s) : wpAny M A (letOwnedTupleGo tg (.ref it) u) Q E s := by
  unfold letOwnedTupleGo
  cases tg <;> first
    | exact wpAny_pure hQ
    | (cases u <;> first
        | exact wpAny_pure hQ
        | (refine wpAny_bind (wpAny_load ho ?_)
           rw [hc, hd]
           show wpAny M A (if (["enumerate", "zip", "dict_itemiterator", "dict_reverseitemiterator", "odict_iterator", "itertools.zip_longest", "itertools.pairwise"].contains n && vs[0]? == some (rawInt _)) = true then _ else _) Q E s
           rw [if_neg (by intro h; rw [hn, Bool.false_and] at h; cases h)]
           exact wpAny_pure hQ))

/-- the list at a, as it stands at each turn (a loop may append to it) -/
def Itl (K : PySem.W.Frag) (a : Addr) : It :=
  ⟨fun i H => ∃ xs x, SqL K H a xs ∧ xs[i]? = some x, fun i H x H' => H' = H ∧ ∀ xs, SqL K H a xs → xs[i]? = some x, fun i H => ∃ xs, SqL K H a xs ∧ xs.length ≤ i⟩
def Itt (K : PySem.W.Frag) (a : Addr) : It :=
  ⟨fun i H => ∃ xs x, SqT K H a xs ∧ xs[i]? = some x, fun i H x H' => H' = H ∧ ∀ xs, SqT K H a xs → xs[i]? = some x, fun i H => ∃ xs, SqT K H a xs ∧ xs.length ≤ i⟩
/-- lo, lo + 1, .. (n of them) -/
def Itr (lo : Int) (n : Nat) : It := ⟨fun i _ => i < n, fun i H x H' => H' = H ∧ x = .int (lo + i), fun i _ => n ≤ i⟩
theorem turn_list {P : Program} {w : World} {K : PySem.W.Frag} {tg : Expr} (a it : Addr) : Turn P w K tg (Itl K a) [it] it (fun i h => h.IsListIter it a i) where
  mem := by simp
  obj := fun i h st b hb => by
    have e : b = it := by simpa using hb
    subst e
    obtain ⟨o, e, c, d⟩ := st
    exact ⟨o, e, fun v z => by rw [d] at z; cases z⟩
  keep := fun i h h' st k => st.at fun o e => k it (by simp) o e
  item := by
    intro X hP hw hK hc i pins s σ H E I hf st hg
    subst hP hw hK
    obtain ⟨xs, x, hq, hx⟩ := hg
    obtain ⟨its, rv, p, hz⟩ := I.list hq
    obtain ⟨u, hu, ru⟩ := rv.get hx
    obtain ⟨f0, f1, f2, f3, f4, f5⟩ := hf it (by simp)
    refine wpAny_pyNext_list_item st p.isList (x := u) (by simpa using hu) fun h' st' sb => ?_
    have I1 : Inv X pins σ H { s with heap := h' } := I.turned (t' := s.toks) (fun b o hb e => (sb.2 b hb).trans e) f0 f1 f3 f4 f5
    obtain ⟨o, e, c, d⟩ := id st'
    exact ⟨u, rfl, go_of (s := { s with heap := h' }) e c d (by decide) ⟨x, H, I1, ru, ⟨rfl, fun ys hy => by rw [I.list_inj hy hq]; exact hx⟩, st', fun b hb => (hf b hb).1⟩⟩
  done := by
    intro X hP hw hK hc i pins s σ H E I hf st hg
    subst hP hw hK
    obtain ⟨xs, hq, hx⟩ := hg
    obtain ⟨its, rv, p, hz⟩ := I.list hq
    obtain ⟨f0, f1, f2, f3, f4, f5⟩ := hf it (by simp)
    have hl := rv.length
    exact wpAny_pyNext_list_end (I.ok.hd hc) st p.isList (by simp; omega) fun h' eb => ⟨rfl, I.turned (t' := s.toks) (fun b o hb e => eb b o hb e) f0 f1 f3 f4 f5⟩
  self := fun _ _ _ _ _ st h => wpAny_pyIter_listiter st h
theorem turn_tuple {P : Program} {w : World} {K : PySem.W.Frag} {tg : Expr} (a it : Addr) : Turn P w K tg (Itt K a) [it] it (fun i h => h.IsTupleIter it a i) where
  mem := by simp
  obj := fun i h st b hb => by
    have e : b = it := by simpa using hb
    subst e
    obtain ⟨o, e, c, d⟩ := st
    exact ⟨o, e, fun v z => by rw [d] at z; cases z⟩
  keep := fun i h h' st k => st.at fun o e => k it (by simp) o e
  item := by
    intro X hP hw hK hc i pins s σ H E I hf st hg
    subst hP hw hK
    obtain ⟨xs, x, hq, hx⟩ := hg
    obtain ⟨its, rv, p, hz⟩ := I.tuple hq
    obtain ⟨u, hu, ru⟩ := rv.get hx
    obtain ⟨f0, f1, f2, f3, f4, f5⟩ := hf it (by simp)
    refine wpAny_pyNext_tuple_item st (show s.heap.IsTuple a its.toArray from p) (x := u) (by simpa using hu) fun h' st' sb => ?_
    have I1 : Inv X pins σ H { s with heap := h' } := I.turned (t' := s.toks) (fun b o hb e => (sb.2 b hb).trans e) f0 f1 f3 f4 f5
    obtain ⟨o, e, c, d⟩ := id st'
    exact ⟨u, rfl, go_of (s := { s with heap := h' }) e c d (by decide) ⟨x, H, I1, ru, ⟨rfl, fun ys hy => by rw [I.tuple_inj hy hq]; exact hx⟩, st', fun b hb => (hf b hb).1⟩⟩
  done := by
    intro X hP hw hK hc i pins s σ H E I hf st hg
    subst hP hw hK
    obtain ⟨xs, hq, hx⟩ := hg
    obtain ⟨its, rv, p, hz⟩ := I.tuple hq
    obtain ⟨f0, f1, f2, f3, f4, f5⟩ := hf it (by simp)
    have hl := rv.length
    exact wpAny_pyNext_tuple_end (I.ok.hd hc) st (show s.heap.IsTuple a its.toArray from p) (by simp; omega) fun h' eb => ⟨rfl, I.turned (t' := s.toks) (fun b o hb e => eb b o hb e) f0 f1 f3 f4 f5⟩
  self := fun _ _ _ _ _ st h => wpAny_pyIter_tupleiter st h
theorem turn_range {P : Program} {w : World} {K : PySem.W.Frag} {tg : Expr} (it : Addr) (lo : Int) (n : Nat) : Turn P w K tg (Itr lo n) [it] it (fun i h => IsRangeIter h it (lo + (i : Nat) * 1) ((n : Int) - (i : Nat)) 1) where
  mem := by simp
  obj := fun i h st b hb => by
    have e : b = it := by simpa using hb
    subst e
    exact ⟨_, st, fun v z => by
      have z' : Data.fields _ = Data.cell v := z
      cases z'⟩
  keep := fun i h h' st k => k it (by simp) _ st
  item := by
    intro X hP hw hK hc i pins s σ H E I hf st hg
    subst hP hw hK
    obtain ⟨f0, f1, f2, f3, f4, f5⟩ := hf it (by simp)
    have W := Walks.range (prog := X.prog) (w := X.w) (I.ok.hd hc) it lo 1 n
    refine W.item i s _ _ hg st fun v h' tk hv st' kk => ?_
    obtain ⟨t, rfl⟩ := hv
    have I1 : Inv X pins σ H { s with heap := h', toks := tk } := I.turned (fun b o hb e => kk b o (by simpa using hb) e) f0 f1 f3 f4 f5
    refine ⟨_, rfl, go_of (s := { s with heap := h', toks := tk }) (n := "range_iterator") st' rfl rfl (by decide) ⟨.int (lo + i), H, I1, ⟨t, ?_⟩, ⟨rfl, rfl⟩, st', fun b hb => (hf b hb).1⟩⟩
    rw [Int.mul_one]
  done := by
    intro X hP hw hK hc i pins s σ H E I hf st hg
    subst hP hw hK
    obtain ⟨f0, f1, f2, f3, f4, f5⟩ := hf it (by simp)
    exact wpAny_pyNext_range_end (I.ok.hd hc) st (by have : n ≤ i := hg; omega) fun h' eb => ⟨rfl, I.turned (t' := s.toks) (fun b o hb e => eb b o hb e) f0 f1 f3 f4 f5⟩
  self := fun _ _ _ _ _ st h => wpAny_pyIter_rangeiter st h
end L2

namespace L2
open PySem PySem.Spec PyProof.Rows
section
variable {X : Cx} {tg : Expr}
def iList (K : PySem.W.Frag) (tl : TE) : TI := fun σ H R => tl σ H fun x H1 => ∃ a, x = .ref a ∧ (∃ xs, SqL K H1 a xs) ∧ R (Itl K a) H1
def iTup (K : PySem.W.Frag) (tl : TE) : TI := fun σ H R => tl σ H fun x H1 => ∃ a, x = .ref a ∧ (∃ xs, SqT K H1 a xs) ∧ R (Itt K a) H1
theorem pi_list {l : Expr} {tl : TE} (hl : PE X l tl) : PI X tg l (iList X.K tl) := by
  unfold PE at *; unfold PI at *
  exact by
    intro pins s σ H R I h
    refine thn (hl pins s σ H _ I h) fun v s1 ⟨x, H1, I1, r1, q1⟩ => ?_
    obtain ⟨a, e, ⟨xs, hq⟩, q⟩ := q1
    subst e
    cases r1
    obtain ⟨its, rv, p, hz⟩ := I1.list hq
    refine wpAny_pyIter_list p.isList ?_
    refine ⟨s1.heap.objs.size, [s1.heap.objs.size], _, _, H1, rfl, I1.kept (t' := s1.toks) fun b o e => Heap.get?_push_of_some _ e, turn_list a _, ⟨_, Heap.get?_push_size _ rfl, rfl, rfl⟩, fun b hb => ?_, q⟩
    have e : b = s1.heap.objs.size := by simpa using hb
    subst e
    exact I1.fpOk (Nat.le_refl _) (I1.hok.fresh (Nat.le_refl _))

theorem pi_tup {l : Expr} {tl : TE} (hl : PE X l tl) : PI X tg l (iTup X.K tl) := by
  unfold PE at *; unfold PI at *
  exact by
    intro pins s σ H R I h
    refine thn (hl pins s σ H _ I h) fun v s1 ⟨x, H1, I1, r1, q1⟩ => ?_
    obtain ⟨a, e, ⟨xs, hq⟩, q⟩ := q1
    subst e
    cases r1
    obtain ⟨its, rv, p, hz⟩ := I1.tuple hq
    refine wpAny_pyIter_tuple (show s1.heap.IsTuple a its.toArray from p) ?_
    refine ⟨s1.heap.objs.size, [s1.heap.objs.size], _, _, H1, rfl, I1.kept (t' := s1.toks) fun b o e => Heap.get?_push_of_some _ e, turn_tuple a _, ⟨_, Heap.get?_push_size _ rfl, rfl, rfl⟩, fun b hb => ?_, q⟩
    have e : b = s1.heap.objs.size := by simpa using hb
    subst e
    exact I1.fpOk (Nat.le_refl _) (I1.hok.fresh (Nat.le_refl _))

/-- a range object just made, walked -/
theorem range_it {pins : List (Addr × Obj)} {σ : St} {H : Hp} {s : Shared} {R : It → Hp → Prop} {E : Value → Shared → Prop} {lo hi : Int} {t u v : Tok} {tk : Nat} (I : Inv X pins σ H s) (h1 : -(2 ^ 62) ≤ lo) (h2 : lo < 2 ^ 62) (h3 : -(2 ^ 62) ≤ hi) (h4 : hi < 2 ^ 62)
    (q : R (Itr lo (hi - lo).toNat) H) : wpAny (model X.prog X.w) X.A (pyIter (.ref s.heap.objs.size)) (PIE X pins σ tg R) E { s with heap := s.heap.push { cls := .type "range", data := .fields #[.int lo t, .int hi u, .int 1 v] }, toks := tk } := by
  refine wpAny_pyIter_range (IsRange.new ..) (small_one h1 h2 h3 h4) ?_
  have I1 : Inv X pins σ H { s with heap := s.heap.push { cls := .type "range", data := .fields #[.int lo t, .int hi u, .int 1 v] }, toks := tk } := I.kept fun b o e => Heap.get?_push_of_some _ e
  refine ⟨(s.heap.push { cls := .type "range", data := .fields #[.int lo t, .int hi u, .int 1 v] }).objs.size, [(s.heap.push { cls := .type "range", data := .fields #[.int lo t, .int hi u, .int 1 v] }).objs.size], _, _, H, rfl,
    I1.kept (t' := tk) fun b o e => Heap.get?_push_of_some _ e, turn_range _ lo (hi - lo).toNat, ?_, fun b hb => ?_, q⟩
  · have e1 : lo + ((0 : Nat) : Int) * 1 = lo := by simp
    have e2 : (((hi - lo).toNat : Nat) : Int) - ((0 : Nat) : Int) = Builtin.Range.rangeSize lo hi 1 := by rw [rangeSize_one]; split <;> omega
    show IsRangeIter _ _ (lo + ((0 : Nat) : Int) * 1) ((((hi - lo).toNat : Nat) : Int) - ((0 : Nat) : Int)) 1
    rw [e1, e2]
    exact Heap.get?_push_size _ rfl
  · have e : b = (s.heap.push { cls := .type "range", data := .fields #[.int lo t, .int hi u, .int 1 v] }).objs.size := by simpa using hb
    subst e
    exact I1.fpOk (Nat.le_refl _) (I1.hok.fresh (Nat.le_refl _))
def iRng1 (ta : TA) : TI := fun σ H R => ta σ H fun vs H1 => ∃ j : Int, vs = [.int j] ∧ -(2 ^ 62) ≤ j ∧ j < 2 ^ 62 ∧ R (Itr 0 j.toNat) H1
def iRng2 (ta : TA) : TI := fun σ H R => ta σ H fun vs H1 => ∃ i j : Int, vs = [.int i, .int j] ∧ (-(2 ^ 62) ≤ i ∧ i < 2 ^ 62 ∧ -(2 ^ 62) ≤ j ∧ j < 2 ^ 62) ∧ R (Itr i (j - i).toNat) H1
theorem pi_range1 {a : Expr} {ta : TA} {p pos : Pos} (hg : Gl X "range") (hm : X.mg "range" = none) (ha : PA X [a] ta) (hs : starEach [a] X.env = [(false, eval a X.env)] := by rfl) : PI X tg (.Call (.Name "range" p) [a] [] pos) (iRng1 ta) := by
  unfold PA at *; unfold PI at *
  exact by
    intro pins s σ H R I h
    refine Call_ (ld_blt I hg hm boot_range (PyProof.Rows.callWith_type1 (thn (ha pos pins s σ H _ I h) fun us s1 ⟨vs, H1, I1, r1, q1⟩ => ?_) hs rfl))
    obtain ⟨j, e, q1, q2, q⟩ := q1
    subst e
    cases r1 with
    | cons r rr =>
      cases rr
      obtain ⟨t, rfl⟩ := r
      exact call_range_1 (range_it I1 (by omega) (by omega) q1 q2 (by simpa using q))

theorem pi_range2 {a b : Expr} {ta : TA} {p pos : Pos} (hg : Gl X "range") (hm : X.mg "range" = none) (ha : PA X [a, b] ta) (hs : starEach [a, b] X.env = [(false, eval a X.env), (false, eval b X.env)] := by rfl) (hs2 : starEach [b] X.env = [(false, eval b X.env)] := by rfl) :
    PI X tg (.Call (.Name "range" p) [a, b] [] pos) (iRng2 ta) := by
  unfold PA at *; unfold PI at *
  exact by
    intro pins s σ H R I h
    refine Call_ (ld_blt I hg hm boot_range (PyProof.Rows.callWith_type1 (thn (ha pos pins s σ H _ I h) fun us s1 ⟨vs, H1, I1, r1, q1⟩ => ?_) (by rw [hs, hs2]) (by rw [hs2]; rfl)))
    obtain ⟨i, j, e, ⟨q1, q2, q3, q4⟩, q⟩ := q1
    subst e
    cases r1 with
    | cons r rr =>
      cases rr with
      | cons r' rr =>
        cases rr
        obtain ⟨t, rfl⟩ := r
        obtain ⟨t', rfl⟩ := r'
        exact call_range_2 (range_it I1 q1 q2 q3 q4 q)

/-! ### for -/
/-- W: the invariant by the turn and a measure; N: what the body is to reach -/
def tFor (wi : TI) (g : TG) (tb : TS) : TS := fun D σ H => wi σ H fun J H1 => ∃ W : Nat → Nat → St → Hp → Prop, (∃ m, W 0 m σ H1) ∧ ∀ i m σ H, W i m σ H →
  (J.stop i H ∧ D.nx σ H) ∨ (J.go i H ∧ ∃ N : St → Hp → Prop, (∀ σ' H', N σ' H' → ∃ m', m' < m ∧ W (i + 1) m' σ' H') ∧ ∀ x H', J.yld i H x H' → g x σ H' fun σ2 H2 => tb { D with nx := N, ct := N, bk := D.nx } σ2 H2)
/-- the records at fp as they stand -/
def pinsAt (fp : List Addr) (h : Heap) : List (Addr × Obj) := fp.filterMap fun b => (h.get? b).map fun o => (b, o)
theorem mem_pinsAt {fp : List Addr} {h : Heap} {b : Addr} {o : Obj} (hb : b ∈ fp) (e : h.get? b = some o) : (b, o) ∈ pinsAt fp h := List.mem_filterMap.mpr ⟨b, hb, by rw [e]; rfl⟩
theorem of_pinsAt {fp : List Addr} {h : Heap} {p : Addr × Obj} (hp : p ∈ pinsAt fp h) : p.1 ∈ fp ∧ h.get? p.1 = some p.2 := by
  obtain ⟨b, hb, e⟩ := List.mem_filterMap.mp hp
  cases q : h.get? b with
  | none => rw [q] at e; cases e
  | some o =>
    rw [q] at e
    have e' : (b, o) = p := Option.some.inj e
    subst e'
    exact ⟨hb, q⟩
theorem Inv.pinned {pins : List (Addr × Obj)} {σ : St} {H : Hp} {s : Shared} {fp : List Addr} (I : Inv X pins σ H s) (hf : ∀ b ∈ fp, FpOk X pins H b) (ho : ∀ b ∈ fp, ∃ o, s.heap.get? b = some o ∧ ∀ v, o.data ≠ .cell v) : Inv X (pins ++ pinsAt fp s.heap) σ H s :=
  I.pins_of fun p hp => (List.mem_append.mp hp).elim (fun z => I.pin p (List.mem_append_right _ z)) fun z => by
    obtain ⟨hb, e⟩ := of_pinsAt z
    obtain ⟨f0, f1, f2, _⟩ := hf p.1 hb
    obtain ⟨o, e', d⟩ := ho p.1 hb
    rw [e] at e'; cases e'
    exact ⟨e, f0, f1, f2, d⟩
theorem Inv.unpinned {pins pl : List (Addr × Obj)} {σ : St} {H : Hp} {s : Shared} (I : Inv X (pins ++ pl) σ H s) : Inv X pins σ H s := I.pins_of fun p hp => I.pin p (List.mem_append_right _ (List.mem_append_left _ hp))
theorem ps_for {iter : Expr} {body : List Stmt} {wi : TI} {g : TG} {tb : TS} {pos : Pos} (hp : PassesOwn (model X.prog X.w) X.A X.env X.xe) (hc : X.calm = true) (hi : PI X tg iter wi) (hg : PG X tg g) (hb : PSs X body tb)
    (hs : ∀ x, foldedSetIterable iter X.env x = pure x := by intro _; rfl) : PS X (.For tg iter body [] pos) (tFor wi g tb) := by
  unfold PS at *; unfold PSs at *; unfold PG at *; unfold PI at *
  exact by
    intro pins s σ H D I h
    refine wpAny_For (thn (hi pins s σ H _ I h) fun v s1 h1 => thn h1 fun itv s2 h2 => ?_) hs
    obtain ⟨it, fp, tn, J, H2, e, I2, T, st2, f2, W, ⟨m0, w0⟩, turn⟩ := h2
    subst e
    -- what stays true of the iterator's objects through the loop
    have stat : ∀ {H' : Hp}, (∀ b ∈ fp, H' b = none) → ∀ b ∈ fp, FpOk X pins H' b := fun hn b hb => ⟨hn b hb, (f2 b hb).2⟩
    refine codeAny_forLoop_any (fun n s' => ∃ i σ' H', Inv X pins σ' H' s' ∧ tn i s'.heap ∧ (∀ b ∈ fp, H' b = none) ∧ W i n σ' H') ?_ m0 ⟨0, σ, H2, I2, st2, fun b hb => (f2 b hb).1, w0⟩
    rintro n s3 ⟨i, σ3, H3, I3, st3, fr3, w3⟩
    rcases turn i n σ3 H3 w3 with ⟨stop, qn⟩ | ⟨go, N, hN, step⟩
    · refine wpAny_passesOwn hp (thn (T.done X rfl rfl rfl hc i pins s3 σ3 H3 X.xe I3 (stat fr3) st3 stop) fun r s4 ⟨hr, I4⟩ => ?_)
      subst hr
      exact wpAny_execs_nil ⟨σ3, H3, I4, qn⟩
    · refine wpAny_passesOwn hp (thn (T.item X rfl rfl rfl hc i pins s3 σ3 H3 X.xe I3 (stat fr3) st3 go) fun r s4 ⟨u, hr, h4⟩ => ?_)
      subst hr
      refine wpAny_passesOwn hp (thn h4 fun _ s5 ⟨x, H5, I5, r5, y5, st5, fr5⟩ => ?_)
      have I5' := I5.pinned (stat fr5) (T.obj _ _ st5)
      refine wpAny_passesOwn hp (thn (hg _ s5 σ3 H5 x u _ I5' r5 (step x H5 y5)) fun _ s6 ⟨σ6, H6, I6, q6⟩ => ?_)
      refine wpAny_passesOwn hp (thn (hb _ s6 σ6 H6 _ I6 q6) fun f s7 q7 => ?_)
      have again : ∀ {σ7 : St} {H7 : Hp}, Inv X (pins ++ pinsAt fp s5.heap) σ7 H7 s7 → N σ7 H7 → ∃ m, m < n ∧ ∃ i σ' H', Inv X pins σ' H' s7 ∧ tn i s7.heap ∧ (∀ b ∈ fp, H' b = none) ∧ W i m σ' H' := fun {σ7 H7} I7 n7 => by
        obtain ⟨m', hm, w7⟩ := hN σ7 H7 n7
        refine ⟨m', hm, i + 1, σ7, H7, I7.unpinned, T.keep _ _ _ st5 fun b hb o e => (I7.pin (b, o) (List.mem_append_right _ (List.mem_append_right _ (mem_pinsAt hb e)))).1, fun b hb => ?_, w7⟩
        obtain ⟨o, e, d⟩ := T.obj _ _ st5 b hb
        exact (I7.pin (b, o) (List.mem_append_right _ (List.mem_append_right _ (mem_pinsAt hb e)))).2.1
      cases f with
      | next => obtain ⟨σ7, H7, I7, n7⟩ := q7; exact again I7 n7
      | cont => obtain ⟨σ7, H7, I7, n7⟩ := q7; exact again I7 n7
      | brk => obtain ⟨σ7, H7, I7, q7⟩ := q7; exact ⟨σ7, H7, I7.unpinned, q7⟩
      | ret v => obtain ⟨x7, σ7, H7, I7, r7, q7⟩ := q7; exact ⟨x7, σ7, H7, I7.unpinned, r7, q7⟩

end

/-! ### the forms one uses -/
/-- over a list that the body leaves as it is -/
theorem for_list {K : PySem.W.Frag} {a : Addr} {xs : List V} {g : TG} {tb : TS} {D : Ends} {σ : St} {H : Hp} (Pv : Nat → St → Hp → Prop) (h0 : Pv 0 σ H) (hl : ∀ i σ H, i ≤ xs.length → Pv i σ H → SqL K H a xs)
    (hs : ∀ i x σ H, xs[i]? = some x → Pv i σ H → g x σ H fun σ2 H2 => tb { D with nx := Pv (i + 1), ct := Pv (i + 1), bk := D.nx } σ2 H2) (hd : ∀ σ H, Pv xs.length σ H → D.nx σ H) :
    ∃ W : Nat → Nat → St → Hp → Prop, (∃ m, W 0 m σ H) ∧ ∀ i m σ H, W i m σ H →
      ((Itl K a).stop i H ∧ D.nx σ H) ∨ ((Itl K a).go i H ∧ ∃ N : St → Hp → Prop, (∀ σ' H', N σ' H' → ∃ m', m' < m ∧ W (i + 1) m' σ' H') ∧ ∀ x H', (Itl K a).yld i H x H' → g x σ H' fun σ2 H2 => tb { D with nx := N, ct := N, bk := D.nx } σ2 H2) := by
  refine ⟨fun i m σ H => m = xs.length - i ∧ i ≤ xs.length ∧ Pv i σ H, ⟨xs.length, by simp, Nat.zero_le _, h0⟩, ?_⟩
  rintro i m σ H ⟨rfl, hi, p⟩
  have q := hl i σ H hi p
  by_cases hlt : i < xs.length
  · refine .inr ⟨⟨xs, xs[i], q, by simp [hlt]⟩, Pv (i + 1), fun σ' H' p' => ⟨xs.length - (i + 1), by omega, rfl, hlt, p'⟩, fun x H' y => ?_⟩
    obtain ⟨e, y⟩ := y
    subst e
    exact hs i x σ _ (y xs q) p
  · have e : i = xs.length := by omega
    subst e
    exact .inl ⟨⟨xs, q, Nat.le_refl _⟩, hd σ H p⟩
theorem for_tup {K : PySem.W.Frag} {a : Addr} {xs : List V} {g : TG} {tb : TS} {D : Ends} {σ : St} {H : Hp} (Pv : Nat → St → Hp → Prop) (h0 : Pv 0 σ H) (hl : ∀ i σ H, i ≤ xs.length → Pv i σ H → SqT K H a xs)
    (hs : ∀ i x σ H, xs[i]? = some x → Pv i σ H → g x σ H fun σ2 H2 => tb { D with nx := Pv (i + 1), ct := Pv (i + 1), bk := D.nx } σ2 H2) (hd : ∀ σ H, Pv xs.length σ H → D.nx σ H) :
    ∃ W : Nat → Nat → St → Hp → Prop, (∃ m, W 0 m σ H) ∧ ∀ i m σ H, W i m σ H →
      ((Itt K a).stop i H ∧ D.nx σ H) ∨ ((Itt K a).go i H ∧ ∃ N : St → Hp → Prop, (∀ σ' H', N σ' H' → ∃ m', m' < m ∧ W (i + 1) m' σ' H') ∧ ∀ x H', (Itt K a).yld i H x H' → g x σ H' fun σ2 H2 => tb { D with nx := N, ct := N, bk := D.nx } σ2 H2) := by
  refine ⟨fun i m σ H => m = xs.length - i ∧ i ≤ xs.length ∧ Pv i σ H, ⟨xs.length, by simp, Nat.zero_le _, h0⟩, ?_⟩
  rintro i m σ H ⟨rfl, hi, p⟩
  have q := hl i σ H hi p
  by_cases hlt : i < xs.length
  · refine .inr ⟨⟨xs, xs[i], q, by simp [hlt]⟩, Pv (i + 1), fun σ' H' p' => ⟨xs.length - (i + 1), by omega, rfl, hlt, p'⟩, fun x H' y => ?_⟩
    obtain ⟨e, y⟩ := y
    subst e
    exact hs i x σ _ (y xs q) p
  · have e : i = xs.length := by omega
    subst e
    exact .inl ⟨⟨xs, q, Nat.le_refl _⟩, hd σ H p⟩
theorem for_range {lo : Int} {n : Nat} {g : TG} {tb : TS} {D : Ends} {σ : St} {H : Hp} (Pv : Nat → St → Hp → Prop) (h0 : Pv 0 σ H)
    (hs : ∀ i σ H, i < n → Pv i σ H → g (.int (lo + i)) σ H fun σ2 H2 => tb { D with nx := Pv (i + 1), ct := Pv (i + 1), bk := D.nx } σ2 H2) (hd : ∀ σ H, Pv n σ H → D.nx σ H) :
    ∃ W : Nat → Nat → St → Hp → Prop, (∃ m, W 0 m σ H) ∧ ∀ i m σ H, W i m σ H →
      ((Itr lo n).stop i H ∧ D.nx σ H) ∨ ((Itr lo n).go i H ∧ ∃ N : St → Hp → Prop, (∀ σ' H', N σ' H' → ∃ m', m' < m ∧ W (i + 1) m' σ' H') ∧ ∀ x H', (Itr lo n).yld i H x H' → g x σ H' fun σ2 H2 => tb { D with nx := N, ct := N, bk := D.nx } σ2 H2) := by
  refine ⟨fun i m σ H => m = n - i ∧ i ≤ n ∧ Pv i σ H, ⟨n, by simp, Nat.zero_le _, h0⟩, ?_⟩
  rintro i m σ H ⟨rfl, hi, p⟩
  by_cases hlt : i < n
  · refine .inr ⟨hlt, Pv (i + 1), fun σ' H' p' => ⟨n - (i + 1), by omega, rfl, hlt, p'⟩, fun x H' y => ?_⟩
    obtain ⟨e, y⟩ := y
    subst e y
    exact hs i σ _ hlt p
  · have e : i = n := by omega
    subst e
    exact .inl ⟨Nat.le_refl _, hd σ H p⟩
/-- while, by a word and a measure of the state -/
theorem while_by {c : TT} {tb : TS} {D : Ends} {σ : St} {H : Hp} (Pv : St → Hp → Prop) (μ : St → Hp → Nat) (h0 : Pv σ H)
    (hs : ∀ σ H, Pv σ H → c σ H fun b H1 => if b = true then tb { D with nx := fun σ' H' => Pv σ' H' ∧ μ σ' H' < μ σ H, ct := fun σ' H' => Pv σ' H' ∧ μ σ' H' < μ σ H, bk := D.nx } σ H1 else D.nx σ H1)
    (mono : ∀ σ H Q Q', (∀ b H1, Q b H1 → Q' b H1) → c σ H Q → c σ H Q') : tWhile c tb D σ H := by
  refine ⟨fun m σ H => m = μ σ H ∧ Pv σ H, ⟨_, rfl, h0⟩, ?_⟩
  rintro m σ H ⟨rfl, p⟩
  refine mono σ H _ _ (fun b H1 q => ?_) (hs σ H p)
  cases b with
  | true => exact ⟨_, fun σ' H' ⟨p', l⟩ => ⟨_, l, rfl, p'⟩, q⟩
  | false => exact q
end L2

namespace L2
open PySem PySem.Spec PyProof.Rows

abbrev R2 := V → V → Hp → VK → Prop
/-- a two-place operation on values: f is binaryOp op, inplaceOp op or compareOp op -/
@[irreducible] def OpR (X : Cx) (f : Value → Value → Sem Value) (r : R2) : Prop :=
  ∀ (pins : List (Addr × Obj)) (s : Shared) (σ : St) (H : Hp) (x y : V) (v u : Value) (Q : VK), Inv X pins σ H s → RelV x v → RelV y u → r x y H Q →
    wpAny (model X.prog X.w) X.A (f v u) (EP X pins σ Q) X.xe s
/-- a one-place operation -/
@[irreducible] def UnR (X : Cx) (f : Value → Sem Value) (r : V → Hp → VK → Prop) : Prop :=
  ∀ (pins : List (Addr × Obj)) (s : Shared) (σ : St) (H : Hp) (x : V) (v : Value) (Q : VK), Inv X pins σ H s → RelV x v → r x H Q →
    wpAny (model X.prog X.w) X.A (f v) (EP X pins σ Q) X.xe s
/-- a call of a value that is known (a builtin, a type) with values -/
@[irreducible] def CallR (X : Cx) (f : Value) (r : List V → Hp → VK → Prop) : Prop :=
  ∀ (pins : List (Addr × Obj)) (s : Shared) (σ : St) (H : Hp) (xs : List V) (us : List Value) (Q : VK), Inv X pins σ H s → Vals xs us → r xs H Q →
    wpAny (model X.prog X.w) X.A (call f us) (EP X pins σ Q) X.xe s
/-- a value's truth -/
@[irreducible] def TruR (X : Cx) (r : V → Hp → (Bool → Hp → Prop) → Prop) : Prop :=
  ∀ (pins : List (Addr × Obj)) (s : Shared) (σ : St) (H : Hp) (x : V) (v : Value) (Q : Bool → Hp → Prop), Inv X pins σ H s → RelV x v → r x H Q →
    wpAny (model X.prog X.w) X.A (truthy v) (TP X pins σ Q) X.xe s

def tOp (r : R2) (ta tb : TE) : TE := fun σ H Q => ta σ H fun x H1 => tb σ H1 fun y H2 => r x y H2 Q
def tUn (r : V → Hp → VK → Prop) (ta : TE) : TE := fun σ H Q => ta σ H fun x H1 => r x H1 Q
/-- ints in, under C, and a value out -/
def rI (C : Int → Int → Prop) (g : Int → Int → V) : R2 := fun x y H Q => ∃ i j, x = .int i ∧ y = .int j ∧ C i j ∧ Q (g i j) H
def rI0 (g : Int → Int → V) : R2 := fun x y H Q => ∃ i j, x = .int i ∧ y = .int j ∧ Q (g i j) H
def rU (g : Int → V) : V → Hp → VK → Prop := fun x H Q => ∃ i, x = .int i ∧ Q (g i) H

section
variable {X : Cx} {a b c : Expr} {ta tb tc : TE} {pos : Pos}

theorem binT (ha : PE X a ta) (hb : PE X b tb) {pins : List (Addr × Obj)} {s : Shared} {σ : St} {H : Hp} {R : V → V → Hp → Prop} (I : Inv X pins σ H s)
    (h : ta σ H fun x H1 => tb σ H1 fun y H2 => R x y H2) {Q : Value → Shared → Prop} {f : Value → Value → Sem Value}
    (hf : ∀ v u s2 x y H2, Inv X pins σ H2 s2 → RelV x v → RelV y u → R x y H2 → wpAny (model X.prog X.w) X.A (f v u) Q X.xe s2) :
    wpAny (model X.prog X.w) X.A (eval a X.env) (fun v s₁ => wpAny (model X.prog X.w) X.A (eval b X.env) (fun u s₂ => wpAny (model X.prog X.w) X.A (f v u) Q X.xe s₂) X.xe s₁) X.xe s := by
  unfold PE at *
  exact by
    refine thn (ha pins s σ H _ I h) fun v s1 ⟨x, H1, I1, r1, q1⟩ => ?_
    refine thn (hb pins s1 σ H1 _ I1 q1) fun u s2 ⟨y, H2, I2, r2, q2⟩ => ?_
    exact hf v u s2 x y H2 I2 r1 r2 q2

theorem pe_op {op : Operator} {r : R2} (ho : OpR X (binaryOp op) r) (ha : PE X a ta) (hb : PE X b tb) : PE X (.BinOp a op b pos) (tOp r ta tb) := by
  unfold PE; unfold OpR at ho
  exact by
    intro pins s σ H Q I h
    exact wpAny_BinOp (binT ha hb I h fun v u s2 x y H2 I2 rx ry q => ho pins s2 σ H2 x y v u Q I2 rx ry q)

theorem pe_un {op : UnaryOp} {r : V → Hp → VK → Prop} (ho : UnR X (unaryOp op) r) (ha : PE X a ta) : PE X (.UnaryOp op a pos) (tUn r ta) := by
  unfold PE at *; unfold UnR at *
  exact by
    intro pins s σ H Q I h
    exact UnaryOp_ (thn (ha pins s σ H _ I h) fun v s1 ⟨x, H1, I1, r1, q1⟩ => ho pins s1 σ H1 x v Q I1 r1 q1)

/-- a op= e at a name: the name's slot i -/
theorem augR {op : Operator} {r : R2} (ho : OpR X (inplaceOp op) r) {pins : List (Addr × Obj)} {s : Shared} {σ : St} {H : Hp} {x y : V} {v u : Value} {Q : VK} (I : Inv X pins σ H s)
    (rx : RelV x v) (ry : RelV y u) (q : r x y H Q) : wpAny (model X.prog X.w) X.A (inplaceOp op v u) (EP X pins σ Q) X.xe s := by
  first
  | exact (ho pins s σ H x y v u Q I rx ry q)
  | (unfold OpR at *; exact (ho pins s σ H x y v u Q I rx ry q))

/-! ### ints -/
theorem opI {f : Value → Value → Sem Value} {C : Int → Int → Prop} {g : Int → Int → Int}
    (rule : ∀ (i j : Int) (t u : Tok) (s : Shared) (Q : Value → Shared → Prop) (E : Value → Shared → Prop), C i j → Q (.int (g i j) s.toks) { s with toks := s.toks + 1 } → wpAny (model X.prog X.w) X.A (f (.int i t) (.int j u)) Q E s) :
    OpR X f (rI C fun i j => .int (g i j)) := by
  unfold OpR at *
  exact by
    intro pins s σ H x y v u Q I rx ry h
    obtain ⟨i, j, rfl, rfl, hc, q⟩ := h
    obtain ⟨t, rfl⟩ := rx
    obtain ⟨t', rfl⟩ := ry
    exact rule i j t t' s _ _ hc ⟨.int (g i j), H, I.tok _, ⟨_, rfl⟩, q⟩

theorem opI0 {f : Value → Value → Sem Value} {g : Int → Int → Int}
    (rule : ∀ (i j : Int) (t u : Tok) (s : Shared) (Q : Value → Shared → Prop) (E : Value → Shared → Prop), Q (.int (g i j) s.toks) { s with toks := s.toks + 1 } → wpAny (model X.prog X.w) X.A (f (.int i t) (.int j u)) Q E s) :
    OpR X f (rI0 fun i j => .int (g i j)) := by
  unfold OpR at *
  exact by
    intro pins s σ H x y v u Q I rx ry h
    obtain ⟨i, j, rfl, rfl, q⟩ := h
    obtain ⟨t, rfl⟩ := rx
    obtain ⟨t', rfl⟩ := ry
    exact rule i j t t' s _ _ ⟨.int (g i j), H, I.tok _, ⟨_, rfl⟩, q⟩

theorem opB0 {f : Value → Value → Sem Value} {g : Int → Int → Bool}
    (rule : ∀ (i j : Int) (t u : Tok) (s : Shared) (Q : Value → Shared → Prop) (E : Value → Shared → Prop), Q (.bool (g i j)) s → wpAny (model X.prog X.w) X.A (f (.int i t) (.int j u)) Q E s) :
    OpR X f (rI0 fun i j => .bl (g i j)) := by
  unfold OpR at *
  exact by
    intro pins s σ H x y v u Q I rx ry h
    obtain ⟨i, j, rfl, rfl, q⟩ := h
    obtain ⟨t, rfl⟩ := rx
    obtain ⟨t', rfl⟩ := ry
    exact rule i j t t' s _ _ ⟨.bl (g i j), H, I, rfl, q⟩

def CDiv (i j : Int) : Prop := 0 < j ∧ j < 1073741824
def CDivN (i j : Int) : Prop := j ≠ 0 ∧ j.natAbs < 1073741824
def CPow (i j : Int) : Prop := 0 ≤ j ∧ j ≤ 1000000 ∧ i.natAbs < 2 ^ 64
def CMul (i j : Int) : Prop := (-(2 ^ 64) < i ∧ i < 2 ^ 64) ∨ (-(2 ^ 64) < j ∧ j < 2 ^ 64)
theorem CMul.ok {i j : Int} (h : CMul i j) : IntMulOk i j := by
  rcases h with ⟨h1, h2⟩ | ⟨h1, h2⟩
  · exact .of_left (intBits_le_64 h1 h2)
  · exact .of_right (intBits_le_64 h1 h2)
theorem two_pow_nn (k : Nat) : (0 : Int) ≤ 2 ^ k := by
  rw [two_pow_cast]
  exact Int.natCast_nonneg _

theorem op_add : OpR X (binaryOp .Add) (rI0 fun i j => .int (i + j)) := by
  first
  | exact (opI0 fun _ _ _ _ _ _ _ q => add_int q)
  | (unfold OpR at *; exact (opI0 fun _ _ _ _ _ _ _ q => add_int q))

theorem op_sub : OpR X (binaryOp .Sub) (rI0 fun i j => .int (i - j)) := by
  first
  | exact (opI0 fun _ _ _ _ _ _ _ q => sub_int q)
  | (unfold OpR at *; exact (opI0 fun _ _ _ _ _ _ _ q => sub_int q))

theorem op_mul : OpR X (binaryOp .Mult) (rI CMul fun i j => .int (i * j)) := by
  first
  | exact (opI fun _ _ _ _ _ _ _ hc q => mul_int q hc.ok)
  | (unfold OpR at *; exact (opI fun _ _ _ _ _ _ _ hc q => mul_int q hc.ok))

/-- // by a positive divisor -/
theorem op_fdiv : OpR X (binaryOp .FloorDiv) (rI CDiv fun i j => .int (i / j)) := opI fun i j _ _ _ _ _ hc q => by
  have h1 : (0 : Int) < j := hc.1
  have h2 : j < 1073741824 := hc.2
  exact floordiv_int (by omega) (by rw [Int.fdiv_eq_ediv_of_nonneg i (by omega)]; exact q) (.inl (PyProof.noPylong_small (by omega)))
theorem op_fdivN : OpR X (binaryOp .FloorDiv) (rI CDivN fun i j => .int (i.fdiv j)) := by
  first
  | exact (opI fun _ _ _ _ _ _ _ hc q => floordiv_int hc.1 q (.inl (PyProof.noPylong_small hc.2)))
  | (unfold OpR at *; exact (opI fun _ _ _ _ _ _ _ hc q => floordiv_int hc.1 q (.inl (PyProof.noPylong_small hc.2))))

/-- % by a positive divisor of any size -/
theorem op_mod : OpR X (binaryOp .Mod) (rI (fun _ j => 0 < j) fun i j => .int (i % j)) := opI fun i j _ _ _ _ _ hc q => by
  have h1 : (0 : Int) < j := hc
  exact mod_int' (by omega) (by rw [Int.fmod_eq_emod_of_nonneg i (by omega)]; exact q)
theorem op_modN : OpR X (binaryOp .Mod) (rI (fun _ j => j ≠ 0) fun i j => .int (i.fmod j)) := by
  first
  | exact (opI fun _ _ _ _ _ _ _ hc q => mod_int' hc q)
  | (unfold OpR at *; exact (opI fun _ _ _ _ _ _ _ hc q => mod_int' hc q))

theorem op_pow : OpR X (binaryOp .Pow) (rI CPow fun i j => .int (i ^ j.toNat)) := by
  first
  | exact (opI fun _ _ _ _ _ _ _ hc q => pow_int_small hc.1 hc.2.1 hc.2.2 q)
  | (unfold OpR at *; exact (opI fun _ _ _ _ _ _ _ hc q => pow_int_small hc.1 hc.2.1 hc.2.2 q))

theorem op_shl : OpR X (binaryOp .LShift) (rI CPow fun i j => .int (i * 2 ^ j.toNat)) := by
  first
  | exact (opI fun _ _ _ _ _ _ _ hc q => lshift_int_small hc.1 hc.2.1 hc.2.2 q)
  | (unfold OpR at *; exact (opI fun _ _ _ _ _ _ _ hc q => lshift_int_small hc.1 hc.2.1 hc.2.2 q))

theorem op_shr : OpR X (binaryOp .RShift) (rI (fun _ j => 0 ≤ j) fun i j => .int (i / 2 ^ j.toNat)) := opI fun i j _ _ _ _ _ hc q =>
  rshift_int hc (by rw [Int.fdiv_eq_ediv_of_nonneg i (two_pow_nn _)]; exact q)
theorem op_and : OpR X (binaryOp .BitAnd) (rI0 fun i j => .int (Builtin.bitAnd i j)) := by
  first
  | exact (opI0 fun _ _ _ _ _ _ _ q => and_int q)
  | (unfold OpR at *; exact (opI0 fun _ _ _ _ _ _ _ q => and_int q))

theorem op_or : OpR X (binaryOp .BitOr) (rI0 fun i j => .int (Builtin.bitOr i j)) := by
  first
  | exact (opI0 fun _ _ _ _ _ _ _ q => or_int q)
  | (unfold OpR at *; exact (opI0 fun _ _ _ _ _ _ _ q => or_int q))

theorem op_xor : OpR X (binaryOp .BitXor) (rI0 fun i j => .int (Builtin.bitXor i j)) := by
  first
  | exact (opI0 fun _ _ _ _ _ _ _ q => xor_int q)
  | (unfold OpR at *; exact (opI0 fun _ _ _ _ _ _ _ q => xor_int q))

theorem iop_add : OpR X (inplaceOp .Add) (rI0 fun i j => .int (i + j)) := by
  first
  | exact (opI0 fun _ _ _ _ _ _ _ q => iadd_int q)
  | (unfold OpR at *; exact (opI0 fun _ _ _ _ _ _ _ q => iadd_int q))

theorem iop_sub : OpR X (inplaceOp .Sub) (rI0 fun i j => .int (i - j)) := by
  first
  | exact (opI0 fun _ _ _ _ _ _ _ q => isub_int q)
  | (unfold OpR at *; exact (opI0 fun _ _ _ _ _ _ _ q => isub_int q))

theorem iop_mul : OpR X (inplaceOp .Mult) (rI CMul fun i j => .int (i * j)) := by
  first
  | exact (opI fun _ _ _ _ _ _ _ hc q => imul_int q hc.ok)
  | (unfold OpR at *; exact (opI fun _ _ _ _ _ _ _ hc q => imul_int q hc.ok))

theorem iop_fdiv : OpR X (inplaceOp .FloorDiv) (rI CDiv fun i j => .int (i / j)) := opI fun i j _ _ _ _ _ hc q => by
  have h1 : (0 : Int) < j := hc.1
  have h2 : j < 1073741824 := hc.2
  exact ifloordiv_int (by omega) (by rw [Int.fdiv_eq_ediv_of_nonneg i (by omega)]; exact q) (.inl (PyProof.noPylong_small (by omega)))
theorem iop_mod : OpR X (inplaceOp .Mod) (rI (fun _ j => 0 < j) fun i j => .int (i % j)) := opI fun i j _ _ _ _ _ hc q => by
  have h1 : (0 : Int) < j := hc
  exact imod_int (by omega) (by rw [Int.fmod_eq_emod_of_nonneg i (by omega)]; exact q)
theorem iop_shl : OpR X (inplaceOp .LShift) (rI CPow fun i j => .int (i * 2 ^ j.toNat)) := by
  first
  | exact (opI fun _ _ _ _ _ _ _ hc q => ilshift_int_small hc.1 hc.2.1 hc.2.2 q)
  | (unfold OpR at *; exact (opI fun _ _ _ _ _ _ _ hc q => ilshift_int_small hc.1 hc.2.1 hc.2.2 q))

theorem iop_shr : OpR X (inplaceOp .RShift) (rI (fun _ j => 0 ≤ j) fun i j => .int (i / 2 ^ j.toNat)) := opI fun i j _ _ _ _ _ hc q =>
  irshift_int hc (by rw [Int.fdiv_eq_ediv_of_nonneg i (two_pow_nn _)]; exact q)
theorem iop_and : OpR X (inplaceOp .BitAnd) (rI0 fun i j => .int (Builtin.bitAnd i j)) := by
  first
  | exact (opI0 fun _ _ _ _ _ _ _ q => iand_int q)
  | (unfold OpR at *; exact (opI0 fun _ _ _ _ _ _ _ q => iand_int q))

theorem iop_or : OpR X (inplaceOp .BitOr) (rI0 fun i j => .int (Builtin.bitOr i j)) := by
  first
  | exact (opI0 fun _ _ _ _ _ _ _ q => ior_int q)
  | (unfold OpR at *; exact (opI0 fun _ _ _ _ _ _ _ q => ior_int q))

theorem iop_xor : OpR X (inplaceOp .BitXor) (rI0 fun i j => .int (Builtin.bitXor i j)) := by
  first
  | exact (opI0 fun _ _ _ _ _ _ _ q => ixor_int q)
  | (unfold OpR at *; exact (opI0 fun _ _ _ _ _ _ _ q => ixor_int q))

theorem unI {f : Value → Sem Value} {g : Int → Int}
    (rule : ∀ (i : Int) (t : Tok) (s : Shared) (Q : Value → Shared → Prop) (E : Value → Shared → Prop), Q (.int (g i) s.toks) { s with toks := s.toks + 1 } → wpAny (model X.prog X.w) X.A (f (.int i t)) Q E s) :
    UnR X f (rU fun i => .int (g i)) := by
  unfold UnR at *
  exact by
    intro pins s σ H x v Q I rx h
    obtain ⟨i, rfl, q⟩ := h
    obtain ⟨t, rfl⟩ := rx
    exact rule i t s _ _ ⟨.int (g i), H, I.tok _, ⟨_, rfl⟩, q⟩

theorem un_neg : UnR X (unaryOp .USub) (rU fun i => .int (-i)) := by
  first
  | exact (unI fun _ _ _ _ _ q => neg_int q)
  | (unfold UnR at *; exact (unI fun _ _ _ _ _ q => neg_int q))

theorem un_inv : UnR X (unaryOp .Invert) (rU fun i => .int (Builtin.bitNot i)) := by
  first
  | exact (unI fun _ _ _ _ _ q => invert_int q)
  | (unfold UnR at *; exact (unI fun _ _ _ _ _ q => invert_int q))

/-! ### bools among ints: n += (a < b) -/
theorem op_add_ib : OpR X (binaryOp .Add) (fun x y H Q => ∃ i k, x = .int i ∧ y = .bl k ∧ Q (.int (i + b2i k)) H) := by
  unfold OpR at *
  exact by
    intro pins s σ H x y v u Q I rx ry h
    obtain ⟨i, k, rfl, rfl, q⟩ := h
    obtain ⟨t, rfl⟩ := rx
    cases ry
    exact add_int_bool ⟨.int (i + b2i k), H, I.tok _, ⟨_, rfl⟩, q⟩

end

/-! ### comparisons -/
/-- the scalars that == tells apart as data does -/
def scal : V → V → Bool
  | .non, .non => true | .non, .int _ => true | .int _, .non => true | .non, .bl _ => true | .bl _, .non => true | .non, .str _ => true | .str _, .non => true
  | .int _, .int _ => true | .bl _, .bl _ => true | .str _, .str _ => true | .byt _, .byt _ => true
  | .int _, .str _ => true | .str _, .int _ => true | .bl _, .str _ => true | .str _, .bl _ => true
  | _, _ => false
def rEq : R2 := fun x y H Q => scal x y = true ∧ Q (.bl (decide (x = y))) H
def rNe : R2 := fun x y H Q => scal x y = true ∧ Q (.bl (!decide (x = y))) H

theorem dec_int {i j : Int} : decide (V.int i = V.int j) = (i == j) := by
  rw [Bool.eq_iff_iff]
  simp
theorem dec_bl {i j : Bool} : decide (V.bl i = V.bl j) = (i == j) := by
  rw [Bool.eq_iff_iff]
  simp
theorem dec_str {i j : Str} : decide (V.str i = V.str j) = (i == j) := by
  rw [Bool.eq_iff_iff]
  simp
theorem dec_byt {i j : Array UInt8} : decide (V.byt i = V.byt j) = (i.toList == j.toList) := by
  rw [Bool.eq_iff_iff]
  cases i
  cases j
  simp

section
variable {X : Cx} {a b c : Expr} {ta tb tc : TE} {pos : Pos}
theorem fin_bl {pins : List (Addr × Obj)} {σ : St} {H : Hp} {s : Shared} {Q : VK} {k k' : Bool} (I : Inv X pins σ H s) (q : Q (.bl k) H) (e : k = k') : EP X pins σ Q (.bool k') s := by
  subst e
  exact ⟨.bl k, H, I, rfl, q⟩
theorem op_eq : OpR X (compareOp .Eq) rEq := by
  unfold OpR at *
  exact by
    intro pins s σ H x y v u Q I rx ry h
    obtain ⟨hs, q⟩ := h
    cases x with
    | non =>
      cases rx
      cases y with
      | non => cases ry; exact PySem.EqNone.eq_none_none (fin_bl I q (by simp))
      | bl j => cases ry; exact PySem.EqNone.eq_none_bool (fin_bl I q (by simp))
      | int j => obtain ⟨t', rfl⟩ := ry; exact PySem.EqNone.eq_none_int (fin_bl I q (by simp))
      | str j => obtain ⟨t', rfl⟩ := ry; exact PySem.EqNone.eq_none_str (fin_bl I q (by simp))
      | _ => exact absurd (show false = true from hs) Bool.false_ne_true
    | bl i =>
      cases rx
      cases y with
      | non => cases ry; exact PySem.EqNone.eq_bool_none (fin_bl I q (by simp))
      | bl j => cases ry; exact eq_bool (fin_bl I q dec_bl)
      | str j => obtain ⟨t', rfl⟩ := ry; exact PySem.EqMixed.eq_bool_str (fin_bl I q (by simp))
      | _ => exact absurd (show false = true from hs) Bool.false_ne_true
    | int i =>
      obtain ⟨t, rfl⟩ := rx
      cases y with
      | non => cases ry; exact PySem.EqNone.eq_int_none (fin_bl I q (by simp))
      | int j => obtain ⟨t', rfl⟩ := ry; exact eq_int (fin_bl I q dec_int)
      | str j => obtain ⟨t', rfl⟩ := ry; exact PySem.EqMixed.eq_int_str (fin_bl I q (by simp))
      | _ => exact absurd (show false = true from hs) Bool.false_ne_true
    | str i =>
      obtain ⟨t, rfl⟩ := rx
      cases y with
      | non => cases ry; exact PySem.EqNone.eq_str_none (fin_bl I q (by simp))
      | bl j => cases ry; exact PySem.EqMixed.eq_str_bool (fin_bl I q (by simp))
      | int j => obtain ⟨t', rfl⟩ := ry; exact PySem.EqMixed.eq_str_int (fin_bl I q (by simp))
      | str j => obtain ⟨t', rfl⟩ := ry; exact eq_str (fin_bl I q dec_str)
      | _ => exact absurd (show false = true from hs) Bool.false_ne_true
    | byt i =>
      obtain ⟨t, rfl⟩ := rx
      cases y with
      | byt j => obtain ⟨t', rfl⟩ := ry; exact PySem.W.eq_bytes (fin_bl I q dec_byt)
      | _ => exact absurd (show false = true from hs) Bool.false_ne_true
    | _ => cases y <;> exact absurd (show false = true from hs) Bool.false_ne_true

theorem op_ne : OpR X (compareOp .NotEq) rNe := by
  unfold OpR at *
  exact by
    intro pins s σ H x y v u Q I rx ry h
    obtain ⟨hs, q⟩ := h
    cases x with
    | non =>
      cases rx
      cases y with
      | non => cases ry; exact PySem.EqNone.ne_none_none (fin_bl I q (by simp))
      | bl j => cases ry; exact PySem.EqNone.ne_none_bool (fin_bl I q (by simp))
      | int j => obtain ⟨t', rfl⟩ := ry; exact PySem.EqNone.ne_none_int (fin_bl I q (by simp))
      | str j => obtain ⟨t', rfl⟩ := ry; exact PySem.EqNone.ne_none_str (fin_bl I q (by simp))
      | _ => exact absurd (show false = true from hs) Bool.false_ne_true
    | bl i =>
      cases rx
      cases y with
      | non => cases ry; exact PySem.EqNone.ne_bool_none (fin_bl I q (by simp))
      | bl j => cases ry; exact ne_bool (fin_bl I q (congrArg not dec_bl))
      | str j => obtain ⟨t', rfl⟩ := ry; exact PySem.EqMixed.ne_bool_str (fin_bl I q (by simp))
      | _ => exact absurd (show false = true from hs) Bool.false_ne_true
    | int i =>
      obtain ⟨t, rfl⟩ := rx
      cases y with
      | non => cases ry; exact PySem.EqNone.ne_int_none (fin_bl I q (by simp))
      | int j => obtain ⟨t', rfl⟩ := ry; exact ne_int (fin_bl I q (congrArg not dec_int))
      | str j => obtain ⟨t', rfl⟩ := ry; exact PySem.EqMixed.ne_int_str (fin_bl I q (by simp))
      | _ => exact absurd (show false = true from hs) Bool.false_ne_true
    | str i =>
      obtain ⟨t, rfl⟩ := rx
      cases y with
      | non => cases ry; exact PySem.EqNone.ne_str_none (fin_bl I q (by simp))
      | bl j => cases ry; exact PySem.EqMixed.ne_str_bool (fin_bl I q (by simp))
      | int j => obtain ⟨t', rfl⟩ := ry; exact PySem.EqMixed.ne_str_int (fin_bl I q (by simp))
      | str j => obtain ⟨t', rfl⟩ := ry; exact ne_str (fin_bl I q (congrArg not dec_str))
      | _ => exact absurd (show false = true from hs) Bool.false_ne_true
    | byt i =>
      obtain ⟨t, rfl⟩ := rx
      cases y with
      | byt j => obtain ⟨t', rfl⟩ := ry; exact PySem.W.ne_bytes (fin_bl I q (congrArg not dec_byt))
      | _ => exact absurd (show false = true from hs) Bool.false_ne_true
    | _ => cases y <;> exact absurd (show false = true from hs) Bool.false_ne_true

theorem op_lt : OpR X (compareOp .Lt) (rI0 fun i j => .bl (decide (i < j))) := by
  first
  | exact (opB0 fun _ _ _ _ _ _ _ q => lt_int q)
  | (unfold OpR at *; exact (opB0 fun _ _ _ _ _ _ _ q => lt_int q))

theorem op_le : OpR X (compareOp .LtE) (rI0 fun i j => .bl (decide (i ≤ j))) := by
  first
  | exact (opB0 fun _ _ _ _ _ _ _ q => le_int q)
  | (unfold OpR at *; exact (opB0 fun _ _ _ _ _ _ _ q => le_int q))

theorem op_gt : OpR X (compareOp .Gt) (rI0 fun i j => .bl (decide (j < i))) := by
  first
  | exact (opB0 fun _ _ _ _ _ _ _ q => gt_int q)
  | (unfold OpR at *; exact (opB0 fun _ _ _ _ _ _ _ q => gt_int q))

theorem op_ge : OpR X (compareOp .GtE) (rI0 fun i j => .bl (decide (j ≤ i))) := by
  first
  | exact (opB0 fun _ _ _ _ _ _ _ q => ge_int q)
  | (unfold OpR at *; exact (opB0 fun _ _ _ _ _ _ _ q => ge_int q))

theorem op_lt_str : OpR X (compareOp .Lt) (fun x y H Q => ∃ i j, x = .str i ∧ y = .str j ∧ Q (.bl (decide (i.cps.toList < j.cps.toList))) H) := by
  unfold OpR at *
  exact by
    intro pins s σ H x y v u Q I rx ry h
    obtain ⟨i, j, rfl, rfl, q⟩ := h
    obtain ⟨t, rfl⟩ := rx
    obtain ⟨t', rfl⟩ := ry
    exact lt_str (fin_bl I q rfl)

/-- the one string within the other -/
theorem op_in_str : OpR X (compareOp .In) (fun x y H Q => ∃ i j, x = .str i ∧ y = .str j ∧ Q (.bl (!(Builtin.Str.occurrences j i 0 j.length 1).isEmpty)) H) := by
  unfold OpR at *
  exact by
    intro pins s σ H x y v u Q I rx ry h
    obtain ⟨i, j, rfl, rfl, q⟩ := h
    obtain ⟨t, rfl⟩ := rx
    obtain ⟨t', rfl⟩ := ry
    exact in_str (fin_bl I q rfl)

/-- is None, is not None: the right side a value none -/
theorem op_isN : OpR X (compareOp .Is) (fun x y H Q => y = .non ∧ Q (.bl (decide (x = .non))) H) := by
  unfold OpR at *
  exact by
    intro pins s σ H x y v u Q I rx ry h
    obtain ⟨rfl, q⟩ := h
    cases ry
    refine is_none_gen (fin_bl I q ?_)
    cases x <;> first
      | (cases rx; rfl)
      | (obtain ⟨t, rfl⟩ := rx; rfl)

theorem op_notN : OpR X (compareOp .IsNot) (fun x y H Q => y = .non ∧ Q (.bl (!decide (x = .non))) H) := by
  unfold OpR at *
  exact by
    intro pins s σ H x y v u Q I rx ry h
    obtain ⟨rfl, q⟩ := h
    cases ry
    refine isnot_none_gen (fin_bl I q ?_)
    cases x <;> first
      | (cases rx; rfl)
      | (obtain ⟨t, rfl⟩ := rx; rfl)

theorem op_notin_str : OpR X (compareOp .NotIn) (fun x y H Q => ∃ i j, x = .str i ∧ y = .str j ∧ Q (.bl (!(!(Builtin.Str.occurrences j i 0 j.length 1).isEmpty))) H) := by
  unfold OpR at *
  exact by
    intro pins s σ H x y v u Q I rx ry h
    obtain ⟨i, j, rfl, rfl, q⟩ := h
    obtain ⟨t, rfl⟩ := rx
    obtain ⟨t', rfl⟩ := ry
    exact notIn_str (fin_bl I q rfl)

/-- is, is not of two objects that are tracked lists or instances -/
def isObj : HO → Bool
  | .lst _ => true
  | .ins _ _ _ => true
  | _ => false
theorem obj_there {pins : List (Addr × Obj)} {s : Shared} {σ : St} {H : Hp} {a : Addr} {o : HO} (I : Inv X pins σ H s) (h : H a = some o) (p : isObj o = true) : ∃ ob, s.heap.get? a = some ob ∧ ob.cls ≠ .type "tuple" := by
  cases o with
  | lst xs =>
    obtain ⟨_, its, n, _, e⟩ : xs.length ≤ sizeLine ∧ ∃ (its : List Value) (n : Nat), Vals xs its ∧ s.heap.get? a = some { cls := .type "list", data := .seq its.toArray n } := I.hok a _ h
    exact ⟨_, e, (by show Value.type "list" ≠ .type "tuple"; decide +kernel)⟩
  | ins C dx fs =>
    have x := I.hok a _ h
    obtain ⟨_, _, _, e, _⟩ := x
    exact ⟨_, e, (by show Value.ref C ≠ .type "tuple"; exact fun z => by cases z)⟩
  | _ => exact absurd (show false = true from p) Bool.false_ne_true
theorem op_is_ref : OpR X (compareOp .Is) (fun x y H Q => ∃ a b oa ob, x = .ref a ∧ y = .ref b ∧ H a = some oa ∧ isObj oa = true ∧ H b = some ob ∧ isObj ob = true ∧ Q (.bl (decide (a = b))) H) := by
  unfold OpR at *
  exact by
    intro pins s σ H x y v u Q I rx ry h
    obtain ⟨a, b, oa, ob, rfl, rfl, ha, pa, hb, pb, q⟩ := h
    cases rx
    cases ry
    obtain ⟨o1, e1, n1⟩ := obj_there I ha pa
    obtain ⟨o2, e2, _⟩ := obj_there I hb pb
    by_cases z : a = b
    · subst z
      exact wpAny_is_ref_self (fin_bl I q (by simp))
    · exact wpAny_is_ref_other z e1 e2 n1 (fin_bl I q (by simp [z]))

theorem op_isnot_ref : OpR X (compareOp .IsNot) (fun x y H Q => ∃ a b oa ob, x = .ref a ∧ y = .ref b ∧ H a = some oa ∧ isObj oa = true ∧ H b = some ob ∧ isObj ob = true ∧ Q (.bl (!decide (a = b))) H) := by
  unfold OpR at *
  exact by
    intro pins s σ H x y v u Q I rx ry h
    obtain ⟨a, b, oa, ob, rfl, rfl, ha, pa, hb, pb, q⟩ := h
    cases rx
    cases ry
    obtain ⟨o1, e1, n1⟩ := obj_there I ha pa
    obtain ⟨o2, e2, _⟩ := obj_there I hb pb
    by_cases z : a = b
    · subst z
      exact wpAny_isNot_ref_self (fin_bl I q (by simp))
    · exact wpAny_isNot_ref_other z e1 e2 n1 (fin_bl I q (by simp [z]))

/-- two rules for one operation: by cases -/
theorem OpR.or {f : Value → Value → Sem Value} {r r' : R2} (h : OpR X f r) (h' : OpR X f r') : OpR X f (fun x y H Q => r x y H Q ∨ r' x y H Q) := by
  unfold OpR at *
  exact by
    intro pins s σ H x y v u Q I rx ry q
    rcases q with q | q
    · exact h pins s σ H x y v u Q I rx ry q
    · exact h' pins s σ H x y v u Q I rx ry q

theorem nomark (b : Expr) {op : CmpOp} (h : op ≠ .In := by decide) (h2 : op ≠ .NotIn := by decide) : behindInMarks op b = false := by
  have e1 : (op == CmpOp.In) = false := by cases op <;> first | rfl | exact absurd rfl h
  have e2 : (op == CmpOp.NotIn) = false := by cases op <;> first | rfl | exact absurd rfl h2
  cases b <;> simp [behindInMarks, e1, e2]
/-- a comparison as a value; hm: nomark b, or (for in, not in) by with_unfolding_all rfl -/
theorem pe_cmpR {op : CmpOp} {r : R2} (ho : OpR X (compareOp op) r) (ha : PE X a ta) (hb : PE X b tb) (hm : behindInMarks op b = false) : PE X (.Compare a [op] [b] pos) (tOp r ta tb) := by
  unfold PE; unfold OpR at ho
  exact by
    intro pins s σ H Q I h
    exact wpAny_Compare1 (binT ha hb I h fun v u s2 x y H2 I2 rx ry q => ho pins s2 σ H2 x y v u Q I2 rx ry q) hm

/-- a reading of a value as a test -/
def tTest (t : TE) : TT := fun σ H Q => t σ H fun x H' => ∃ k, x = .bl k ∧ Q k H'
theorem pt_cmpR {op : CmpOp} {r : R2} (ho : OpR X (compareOp op) r) (ha : PE X a ta) (hb : PE X b tb) (hm : behindInMarks op b = false) : PT X (.Compare a [op] [b] pos) (tTest (tOp r ta tb)) := by
  unfold PE at *; unfold PT at *; unfold OpR at *
  exact by
    intro pins s σ H Q I h
    refine wpAny_isTrue_Compare1 (thn (ha pins s σ H _ I h) fun v s1 ⟨x, H1, I1, r1, q1⟩ => thn (hb pins s1 σ H1 _ I1 q1) fun u s2 ⟨y, H2, I2, r2, q2⟩ =>
      thn (ho pins s2 σ H2 x y v u _ I2 r1 r2 q2) fun c s3 ⟨z, H3, I3, r3, k, e, q3⟩ => ?_) hm
    subst e
    cases r3
    exact wpAny_truthy_bool ⟨H3, I3, q3⟩

/-- a op1 b op2 c -/
def tChain (r r' : R2) (ta tb tc : TE) : TE := fun σ H Q => ta σ H fun x H1 => tb σ H1 fun y H2 => r x y H2 fun z H3 => ∃ k, z = .bl k ∧
  (if k = true then tc σ H3 fun w' H4 => r' y w' H4 Q else Q (.bl false) H3)
theorem pe_chain {op op' : CmpOp} {r r' : R2} (ho : OpR X (compareOp op) r) (ho' : OpR X (compareOp op') r') (ha : PE X a ta) (hb : PE X b tb) (hc : PE X c tc)
    (hm : lastMarks [op, op'] [b, c] = false := by with_unfolding_all rfl) : PE X (.Compare a [op, op'] [b, c] pos) (tChain r r' ta tb tc) := by
  unfold PE at *; unfold OpR at *
  exact by
    intro pins s σ H Q I h
    refine Compare_chain (thn (ha pins s σ H _ I h) fun v s1 ⟨x, H1, I1, r1, q1⟩ => chain_link (thn (hb pins s1 σ H1 _ I1 q1) fun u s2 ⟨y, H2, I2, r2, q2⟩ =>
      thn (ho pins s2 σ H2 x y v u _ I2 r1 r2 q2) fun d s3 ⟨z, H3, I3, r3, k, e, q3⟩ => ?_)) hm
    subst e
    cases r3
    refine wpAny_truthy_bool ?_
    cases k with
    | false => exact ite_ff ⟨.bl false, H3, I3, rfl, q3⟩
    | true => exact ite_tt (chain_last (thn (hc pins s3 σ H3 _ I3 q3) fun w' s4 ⟨z', H4, I4, r4, q4⟩ => ho' pins s4 σ H4 y z' u w' Q I4 r2 r4 q4))

theorem pt_chain {op op' : CmpOp} {r r' : R2} (ho : OpR X (compareOp op) r) (ho' : OpR X (compareOp op') r') (ha : PE X a ta) (hb : PE X b tb) (hc : PE X c tc)
    (hm : lastMarks [op, op'] [b, c] = false := by with_unfolding_all rfl) : PT X (.Compare a [op, op'] [b, c] pos) (tTest (tChain r r' ta tb tc)) := by
  unfold PE at *; unfold PT at *; unfold OpR at *
  exact by
    intro pins s σ H Q I h
    refine isTrue_chain (thn (ha pins s σ H _ I h) fun v s1 ⟨x, H1, I1, r1, q1⟩ => test_link (thn (hb pins s1 σ H1 _ I1 q1) fun u s2 ⟨y, H2, I2, r2, q2⟩ =>
      thn (ho pins s2 σ H2 x y v u _ I2 r1 r2 q2) fun d s3 ⟨z, H3, I3, r3, k, e, q3⟩ => ?_)) hm
    subst e
    cases r3
    refine wpAny_truthy_bool ?_
    cases k with
    | false =>
      obtain ⟨k', e', q'⟩ := q3
      cases e'
      exact ite_ff ⟨H3, I3, q'⟩
    | true =>
      refine ite_tt (test_last (thn (hc pins s3 σ H3 _ I3 q3) fun w' s4 ⟨z', H4, I4, r4, q4⟩ => thn (ho' pins s4 σ H4 y z' u w' _ I4 r2 r4 q4) fun d' s5 ⟨z2, H5, I5, r5, k2, e2, q5⟩ => ?_))
      subst e2
      cases r5
      exact wpAny_truthy_bool ⟨H5, I5, q5⟩

/-! ### truth -/
/-- a value's truth by the abstract heap -/
def TruV (K : PySem.W.Frag) (x : V) (H : Hp) (k : Bool) : Prop :=
  match x with
  | .non => k = false
  | .bl b => k = b
  | .int i => k = (i != 0)
  | .str y => y.length ≤ sizeLine ∧ k = ((y.length : Int) != 0)
  | .byt y => y.size ≤ sizeLine ∧ k = ((y.size : Int) != 0)
  | .ref p => (∃ xs, SqL K H p xs ∧ k = !xs.isEmpty) ∨ (∃ xs, SqT K H p xs ∧ k = !xs.isEmpty) ∨ ∃ kvs, H p = some (.dK kvs) ∧ k = !kvs.isEmpty
  | _ => False
theorem isEmpty_kv {κ : Type} {kvs : List (κ × V)} {vs : List (κ × Value)} (r : KV kvs vs) : (!vs.isEmpty) = !kvs.isEmpty := by
  cases r <;> rfl
theorem isEmpty_of {xs : List V} {its : List Value} (r : Vals xs its) : (!its.toArray.isEmpty) = !xs.isEmpty := by
  cases r <;> simp
theorem line63 : (sizeLine : Nat) < 2 ^ 63 := by rw [sizeLine_eq]; decide
theorem tru_ok : TruR X (fun x H Q => ∃ k, TruV X.K x H k ∧ Q k H) := by
  unfold TruR at *
  exact by
    intro pins s σ H x v Q I rx h
    obtain ⟨k, e, q⟩ := h
    have hl := line63
    have hs : sizeLine = 16777216 := sizeLine_eq
    cases x with
    | non =>
      cases rx
      have e' : k = false := e
      subst e'
      exact truthy_none ⟨H, I, q⟩
    | bl b =>
      cases rx
      have e' : k = b := e
      subst e'
      exact wpAny_truthy_bool ⟨H, I, q⟩
    | int i =>
      obtain ⟨t, rfl⟩ := rx
      have e' : k = (i != 0) := e
      subst e'
      exact PySem.P.truthy_int ⟨H, I, q⟩
    | str y =>
      obtain ⟨t, rfl⟩ := rx
      obtain ⟨hy, e'⟩ : y.length ≤ sizeLine ∧ k = ((y.length : Int) != 0) := e
      subst e'
      exact PySem.P.truthy_str (by omega) ⟨H, I.tok _, q⟩
    | byt y =>
      obtain ⟨t, rfl⟩ := rx
      obtain ⟨hy, e'⟩ : y.size ≤ sizeLine ∧ k = ((y.size : Int) != 0) := e
      subst e'
      exact PySem.W.truthy_bytes (by omega) ⟨H, I.tok _, q⟩
    | ref p =>
      cases rx
      have e' : (∃ xs, SqL X.K H p xs ∧ k = !xs.isEmpty) ∨ (∃ xs, SqT X.K H p xs ∧ k = !xs.isEmpty) ∨ ∃ kvs, H p = some (.dK kvs) ∧ k = !kvs.isEmpty := e
      rcases e' with ⟨xs, hx, e'⟩ | ⟨xs, hx, e'⟩ | ⟨kvs, hx, e'⟩
      · subst e'
        obtain ⟨its, r, pl, hz⟩ := I.list hx
        have hlen := r.length
        exact wpAny_truthy_list pl.isList (by simp only [List.size_toArray]; omega) ⟨H, I.tok _, by rw [isEmpty_of r]; exact q⟩
      · subst e'
        obtain ⟨its, r, pl, hz⟩ := I.tuple hx
        have hlen := r.length
        exact truthy_tuple pl (by simp only [List.size_toArray]; omega) ⟨H, I.tok _, by rw [isEmpty_of r]; exact q⟩
      · subst e'
        obtain ⟨hz, hS, vs, r, m⟩ : kvs.length ≤ sizeLine ∧ (p == sysModules) = false ∧ ∃ vs, KV kvs vs ∧ s.heap.DictOf (mixKind X.prog X.w) p vs := I.hok p _ hx
        have hlen : kvs.length = vs.length := Paired.length r
        exact wpAny_truthy_dict hS m (by omega) ⟨H, I.tok _, by rw [isEmpty_kv r]; exact q⟩
    | _ => exact (show False from e).elim

/-- any expression whose test is its value's truth (a name, a call, a subscript, a field ..: he by fun _ => rfl) -/
theorem pt_truth (ha : PE X a ta) (he : ∀ whole, isTrue a X.env whole = (do let v ← whole; standAt a.pos; holding [v] (truthy v))) :
    PT X a (fun σ H Q => ta σ H fun x H' => ∃ k, TruV X.K x H' k ∧ Q k H') := by
  unfold PE at *; unfold PT at *; have tru_ok := tru_ok (X := X); unfold TruR at tru_ok
  exact by
    intro pins s σ H Q I h
    exact isTrue_plain (thn (ha pins s σ H _ I h) fun v s1 ⟨x, H1, I1, r1, q1⟩ => tru_ok pins s1 σ H1 x v Q I1 r1 q1) (he _)

/-! ### strs and bytes -/
theorem pe_byt {x : List UInt8} {k : Nat} : PE X (.Constant (.bytes x) k pos) (fun _ H Q => Q (.byt x.toArray) H) := by
  first
  | exact (fun _ _ _ H _ I h => PySem.W.Constant_bytes ⟨.byt x.toArray, H, I.tok _, ⟨_, rfl⟩, h⟩)
  | (unfold PE at *; exact (fun _ _ _ H _ I h => PySem.W.Constant_bytes ⟨.byt x.toArray, H, I.tok _, ⟨_, rfl⟩, h⟩))

theorem op_add_str : OpR X (binaryOp .Add) (fun x y H Q => ∃ i j, x = .str i ∧ y = .str j ∧ i.length + j.length ≤ sizeLine ∧ Q (.str (i ++ j)) H) := by
  unfold OpR at *
  exact by
    intro pins s σ H x y v u Q I rx ry h
    obtain ⟨i, j, rfl, rfl, hz, q⟩ := h
    obtain ⟨t, rfl⟩ := rx
    obtain ⟨t', rfl⟩ := ry
    exact add_str (fun t' tk => ⟨.str (i ++ j), H, I.tok _, ⟨_, rfl⟩, q⟩) hz

theorem iop_add_str : OpR X (inplaceOp .Add) (fun x y H Q => ∃ i j, x = .str i ∧ y = .str j ∧ i.length + j.length ≤ sizeLine ∧ Q (.str (i ++ j)) H) := by
  unfold OpR at *
  exact by
    intro pins s σ H x y v u Q I rx ry h
    obtain ⟨i, j, rfl, rfl, hz, q⟩ := h
    obtain ⟨t, rfl⟩ := rx
    obtain ⟨t', rfl⟩ := ry
    exact iadd_str (fun t' tk => ⟨.str (i ++ j), H, I.tok _, ⟨_, rfl⟩, q⟩) hz

theorem op_add_byt : OpR X (binaryOp .Add) (fun x y H Q => ∃ i j, x = .byt i ∧ y = .byt j ∧ i.size + j.size ≤ 16777216 ∧ Q (.byt (i ++ j)) H) := by
  unfold OpR at *
  exact by
    intro pins s σ H x y v u Q I rx ry h
    obtain ⟨i, j, rfl, rfl, hz, q⟩ := h
    obtain ⟨t, rfl⟩ := rx
    obtain ⟨t', rfl⟩ := ry
    exact PySem.W.KBy.add_bytes hz (fun t' tk => ⟨.byt (i ++ j), H, I.tok _, ⟨_, rfl⟩, q⟩)

def PlainIxT (b : Expr) : Prop := ∀ o i, subscripted b false o i = operate [o, i] (getItem o i)
/-- s[i], 0 ≤ i < len -/
theorem pe_item_str (ha : PE X a ta) (hb : PE X b tb) (hs : PlainIxT b) :
    PE X (.Subscript a b pos) (tOp (fun x y H Q => ∃ z i c, x = .str z ∧ y = .int i ∧ 0 ≤ i ∧ i < 2 ^ 63 ∧ i < z.length ∧ z.cps[i.toNat]? = some c ∧ Q (.str ⟨#[c]⟩) H) ta tb) := by
  unfold PE
  exact by
    intro pins s σ H Q I h
    refine Subscript_ (binT ha hb I h fun v u s2 x y H2 I2 rx ry q => ?_)
    obtain ⟨z, i, c, rfl, rfl, h0, h63, h1, hc, q⟩ := q
    obtain ⟨t, rfl⟩ := rx
    obtain ⟨t', rfl⟩ := ry
    have e : seqIndex? i z.length = some i.toNat := PySem.StrLaws.seqIndex_nonneg h0 h1
    exact tail_any (typeIs_str s2 z t) slot_str_getitem.lookup (getItem_str (c := c) (by
      have e1 : decide (i < -(2 ^ 63 : Int)) = false := decide_eq_false (by omega)
      have e2 : decide (i ≥ 2 ^ 63) = false := decide_eq_false (by omega)
      rw [e1, e2] <;> rfl) (by rw [e]; exact hc) ⟨.str ⟨#[c]⟩, H2, I2.tok _, ⟨_, rfl⟩, q⟩) (hs _ _)

/-- b[i], 0 ≤ i < len -/
theorem pe_item_byt (ha : PE X a ta) (hb : PE X b tb) (hs : PlainIxT b) :
    PE X (.Subscript a b pos) (tOp (fun x y H Q => ∃ (z : List UInt8) (i : Int), x = .byt z.toArray ∧ y = .int i ∧ z.length ≤ sizeLine ∧ 0 ≤ i ∧ i < z.length ∧ Q (.int ((z.getD i.toNat 0).toNat : Nat)) H) ta tb) := by
  unfold PE
  exact by
    intro pins s σ H Q I h
    refine Subscript_ (binT ha hb I h fun v u s2 x y H2 I2 rx ry q => ?_)
    obtain ⟨z, i, rfl, rfl, hz, h0, h1, q⟩ := q
    obtain ⟨t, rfl⟩ := rx
    obtain ⟨t', rfl⟩ := ry
    have hl : sizeLine = 16777216 := sizeLine_eq
    exact tail_any (PySem.W.typeIs_bytes s2 z.toArray t) PySem.W.FB.slot_bytes_getitem.lookup (PySem.W.getItem_bytes (by omega) h0 h1 ⟨.int ((z.getD i.toNat 0).toNat : Nat), H2, I2.tok _, ⟨_, rfl⟩, q⟩) (hs _ _)

/-! ### scalar builtins, by CallR -/
theorem vals1 {x : V} {us : List Value} (r : Vals [x] us) : ∃ u, us = [u] ∧ RelV x u := by
  cases r with
  | cons r1 r2 => cases r2; exact ⟨_, rfl, r1⟩
theorem vals2 {x y : V} {us : List Value} (r : Vals [x, y] us) : ∃ u w', us = [u, w'] ∧ RelV x u ∧ RelV y w' := by
  cases r with
  | cons r1 r2 =>
    cases r2 with
    | cons r3 r4 => cases r4; exact ⟨_, _, rfl, r1, r3⟩
theorem call_abs : CallR X (.builtin "abs") (fun xs H Q => ∃ i, xs = [.int i] ∧ Q (.int (if i < 0 then -i else i)) H) := by
  unfold CallR at *
  exact by
    intro pins s σ H xs us Q I r h
    obtain ⟨i, rfl, q⟩ := h
    obtain ⟨u, rfl, t, rfl⟩ := vals1 r
    exact call_abs_int fun u tk => ⟨.int (if i < 0 then -i else i), H, I.tok _, ⟨_, rfl⟩, q⟩

theorem call_max2 (hc : X.calm = true) : CallR X (.builtin "max") (fun xs H Q => ∃ i j, xs = [.int i, .int j] ∧ Q (.int (if j > i then j else i)) H) := by
  unfold CallR at *
  exact by
    intro pins s σ H xs us Q I r h
    obtain ⟨i, j, rfl, q⟩ := h
    obtain ⟨u, w', rfl, ⟨t, rfl⟩, ⟨t', rfl⟩⟩ := vals2 r
    refine max_two_ints (I.ok.hd hc) fun h' tk k => ⟨_, H, I.kept k, ?_, q⟩
    by_cases hj : j > i
    · rw [if_pos hj, if_pos hj]; exact ⟨_, rfl⟩
    · rw [if_neg hj, if_neg hj]; exact ⟨_, rfl⟩

theorem call_min2 (hc : X.calm = true) : CallR X (.builtin "min") (fun xs H Q => ∃ i j, xs = [.int i, .int j] ∧ Q (.int (if j < i then j else i)) H) := by
  unfold CallR at *
  exact by
    intro pins s σ H xs us Q I r h
    obtain ⟨i, j, rfl, q⟩ := h
    obtain ⟨u, w', rfl, ⟨t, rfl⟩, ⟨t', rfl⟩⟩ := vals2 r
    refine min_two_ints (I.ok.hd hc) fun h' tk k => ⟨_, H, I.kept k, ?_, q⟩
    by_cases hj : j < i
    · rw [if_pos hj, if_pos hj]; exact ⟨_, rfl⟩
    · rw [if_neg hj, if_neg hj]; exact ⟨_, rfl⟩

theorem call_int1 : CallR X (.type "int") (fun xs H Q => (∃ i, xs = [.int i] ∧ Q (.int i) H) ∨ ∃ k, xs = [.bl k] ∧ Q (.int (if k then 1 else 0)) H) := by
  unfold CallR at *
  exact by
    intro pins s σ H xs us Q I r h
    rcases h with ⟨i, rfl, q⟩ | ⟨k, rfl, q⟩
    · obtain ⟨u, rfl, t, rfl⟩ := vals1 r
      exact call_int_int ⟨.int i, H, I, ⟨_, rfl⟩, q⟩
    · obtain ⟨u, rfl, r1⟩ := vals1 r
      cases r1
      exact call_int_bool ⟨.int (if k then 1 else 0), H, I.tok _, ⟨_, rfl⟩, q⟩

theorem call_bool1 : CallR X (.type "bool") (fun xs H Q => (∃ i, xs = [.int i] ∧ Q (.bl (i != 0)) H) ∨ ∃ k, xs = [.bl k] ∧ Q (.bl k) H) := by
  unfold CallR at *
  exact by
    intro pins s σ H xs us Q I r h
    rcases h with ⟨i, rfl, q⟩ | ⟨k, rfl, q⟩
    · obtain ⟨u, rfl, t, rfl⟩ := vals1 r
      exact call_bool_int ⟨.bl (i != 0), H, I, rfl, q⟩
    · obtain ⟨u, rfl, r1⟩ := vals1 r
      cases r1
      exact call_bool_bool ⟨.bl k, H, I, rfl, q⟩

theorem call_str_int : CallR X (.type "str") (fun xs H Q => ∃ i, xs = [.int i] ∧ i.natAbs.log2 < 1920 ∧ Q (.str (toString i)) H) := by
  unfold CallR at *
  exact by
    intro pins s σ H xs us Q I r h
    obtain ⟨i, rfl, hz, q⟩ := h
    obtain ⟨u, rfl, t, rfl⟩ := vals1 r
    exact PySem.P.str_of_int hz ⟨.str _, H, I.tok _, ⟨_, rfl⟩, q⟩

theorem call_ord : CallR X (.builtin "ord") (fun xs H Q => ∃ x, xs = [.str x] ∧ x.length = 1 ∧ Q (.int (x.cps.getD 0 0 : Nat)) H) := by
  unfold CallR at *
  exact by
    intro pins s σ H xs us Q I r h
    obtain ⟨x, rfl, hz, q⟩ := h
    obtain ⟨u, rfl, t, rfl⟩ := vals1 r
    exact ord_of_one hz ⟨.int _, H, I.tok _, ⟨_, rfl⟩, q⟩

theorem call_chr : CallR X (.builtin "chr") (fun xs H Q => ∃ i, xs = [.int i] ∧ 0 ≤ i ∧ i ≤ 1114111 ∧ Q (.str ⟨#[i.toNat]⟩) H) := by
  unfold CallR at *
  exact by
    intro pins s σ H xs us Q I r h
    obtain ⟨i, rfl, h0, h1, q⟩ := h
    obtain ⟨u, rfl, t, rfl⟩ := vals1 r
    exact chr_of_range h0 h1 ⟨.str _, H, I.tok _, ⟨_, rfl⟩, q⟩

/-- len of a str, a bytes, a list, a tuple -/
def LenV (K : PySem.W.Frag) (x : V) (H : Hp) (n : Nat) : Prop :=
  match x with
  | .str y => y.length ≤ sizeLine ∧ n = y.length
  | .byt y => y.size ≤ sizeLine ∧ n = y.size
  | .ref p => (∃ xs, SqL K H p xs ∧ n = xs.length) ∨ ∃ xs, SqT K H p xs ∧ n = xs.length
  | _ => False
theorem call_len : CallR X (.builtin "len") (fun xs H Q => ∃ x n, xs = [x] ∧ LenV X.K x H n ∧ Q (.int n) H) := by
  unfold CallR at *
  exact by
    intro pins s σ H xs us Q I r h
    obtain ⟨x, n, rfl, e, q⟩ := h
    obtain ⟨u, rfl, rx⟩ := vals1 r
    have hl := line63
    have hs : sizeLine = 16777216 := sizeLine_eq
    cases x with
    | str y =>
      obtain ⟨t, rfl⟩ := rx
      obtain ⟨hy, e'⟩ : y.length ≤ sizeLine ∧ n = y.length := e
      subst e'
      exact len_str (by omega) ⟨.int _, H, I.tok _, ⟨_, rfl⟩, q⟩
    | byt y =>
      obtain ⟨t, rfl⟩ := rx
      obtain ⟨hy, e'⟩ : y.size ≤ sizeLine ∧ n = y.size := e
      subst e'
      exact PySem.W.len_bytes (by omega) ⟨.int _, H, I.tok _, ⟨_, rfl⟩, q⟩
    | ref p =>
      cases rx
      have e' : (∃ xs, SqL X.K H p xs ∧ n = xs.length) ∨ ∃ xs, SqT X.K H p xs ∧ n = xs.length := e
      rcases e' with ⟨xs, hx, e'⟩ | ⟨xs, hx, e'⟩
      · subst e'
        obtain ⟨its, r', pl, hz⟩ := I.list hx
        have hlen := r'.length
        exact Calls.call_len_list pl.isList (by simp only [List.size_toArray]; omega) ⟨.int xs.length, H, I.tok _, ⟨_, by simp only [List.size_toArray]; rw [hlen]⟩, q⟩
      · subst e'
        obtain ⟨its, r', pl, hz⟩ := I.tuple hx
        have hlen := r'.length
        exact len_tuple pl (by simp only [List.size_toArray]; omega) ⟨.int xs.length, H, I.tok _, ⟨_, by simp only [List.size_toArray]; rw [hlen]⟩, q⟩
    | _ => exact (show False from e).elim

/-- divmod: a new tuple -/
theorem call_divmod : CallR X (.builtin "divmod") (fun xs H Q => ∃ i j, xs = [.int i, .int j] ∧ CDiv i j ∧ ∀ p, H p = none → Q (.ref p) (upd H p (.tup [.int (i / j), .int (i % j)]))) := by
  unfold CallR at *
  exact by
    intro pins s σ H xs us Q I r h
    obtain ⟨i, j, rfl, ⟨h1, h2⟩, q⟩ := h
    obtain ⟨u, w', rfl, ⟨t, rfl⟩, ⟨t', rfl⟩⟩ := vals2 r
    refine divmod_int (by omega) ?_ (.inl (PyProof.noPylong_small (by omega)))
    rw [Int.fdiv_eq_ediv_of_nonneg i (by omega), Int.fmod_eq_emod_of_nonneg i (by omega)]
    have hn : H s.heap.objs.size = none := I.hok.fresh (Nat.le_refl _)
    refine ⟨.ref s.heap.objs.size, _, ?_, rfl, q _ hn⟩
    refine I.laid (fun b o e => Heap.get?_push_of_some _ e) (Nat.le_refl _) ⟨by simp only [List.length_cons, List.length_nil]; rw [sizeLine_eq]; decide, [.int (i / j) s.toks, .int (i % j) (s.toks + 1)], .cons ⟨_, rfl⟩ (.cons ⟨_, rfl⟩ .nil), ?_⟩
    exact ⟨_, Heap.get?_push_size s.heap rfl, rfl, 0, rfl⟩

end
end L2

namespace L2
open PySem PySem.Spec PyProof.Rows

/-! ### an instance, its attributes a map -/
structure ObjM (h : Heap) (x dx C : Addr) (mA : Str → Option Value) : Prop where
  obj : h.get? x = some (PySem.W.instObj C dx)
  ns : h.Ns1 dx mA
  ne : dx ≠ x

theorem lookIn_ns {h : Heap} {dx : Addr} {mA : Str → Option Value} (n : h.Ns1 dx mA) : ∃ od, h.get? dx = some od ∧ ∀ name, PySem.W.lookIn name od = some (mA name) := by
  obtain ⟨o, es, ep, ho, hd, hk, _, hm⟩ := n
  refine ⟨o, ho, fun name => ?_⟩
  have e := hm name
  unfold nsFind findBy at e
  rw [← Array.find?_toList] at e
  unfold PySem.W.lookIn
  rw [hd]
  dsimp only
  split
  · rename_i y q
    rw [q] at e
    exact congrArg some e
  · rename_i q
    rw [q] at e
    have a : es.toList.any (·.refKey) = false := by
      rw [List.any_eq_false]
      intro y hy
      obtain ⟨z, t, hkey⟩ := hk y (Array.mem_toList_iff.mp hy)
      simp [DictEntry.refKey, hkey]
    have a' : ¬ es.toList.any (·.refKey) = true := by rw [a]; exact Bool.false_ne_true
    rw [if_neg a']
    exact congrArg some e

theorem ObjM.look {h : Heap} {x dx C : Addr} {mA : Str → Option Value} (I : ObjM h x dx C mA) : ∃ od, PySem.W.InstAt h x (PySem.W.instObj C dx) C (some od) ∧ ∀ name, PySem.W.lookIn name od = some (mA name) :=
  let ⟨od, ho, hl⟩ := lookIn_ns I.ns
  ⟨od, ⟨I.obj, rfl, rfl, ho⟩, hl⟩

section
variable {prog : Program} {w : World} {A : Around} {E : Value → Shared → Prop} {s : Shared} {K : PySem.W.Frag} {x dx C f : Addr} {mA : Str → Option Value} {name : Str} {v : Value}

theorem get_map {expr : Bool} {Q : Value → Shared → Prop} (X : K.In s.heap) (I : ObjM s.heap x dx C mA) (hg : PySem.W.plainGet K C name = true) (hh : PySem.W.hasDictIn K C = true)
    (ha : PySem.W.findIn K (.ref C) name = some none) (hv : mA name = some v) (hv' : PySem.W.handedIn v = true) (h : Q v { s with toks := s.toks + 1 }) :
    wpAny (model prog w) A (getAttr (.ref x) name expr) Q E s := by
  obtain ⟨od, J, hl⟩ := I.look
  exact PySem.W.get_value X J (PySem.W.plainGet_of hg).1 (PySem.W.findObj_own hh ha rfl (by rw [hl, hv])) hv' h

theorem get_const {expr : Bool} {a : Value} {Q : Value → Shared → Prop} (X : K.In s.heap) (I : ObjM s.heap x dx C mA) (hg : PySem.W.plainGet K C name = true) (hh : PySem.W.hasDictIn K C = true)
    (ha : PySem.W.findIn K (.ref C) name = some (some a)) (hn : PySem.W.specialIn K a "__get__" = some none) (hc : PySem.W.copiedNames.contains name = false) (hv : mA name = none) (hv' : PySem.W.handedIn a = true)
    (h : Q a { s with toks := s.toks + 1 }) : wpAny (model prog w) A (getAttr (.ref x) name expr) Q E s := by
  obtain ⟨od, J, hl⟩ := I.look
  exact PySem.W.get_value X J (PySem.W.plainGet_of hg).1 (PySem.W.findObj_cls hh ha hn hv' hc (by rw [hl, hv])) hv' h

theorem get_meth {pl : Sem Bool} {Q : Value × List Value → Shared → Prop} (X : K.In s.heap) (I : ObjM s.heap x dx C mA) (hg : PySem.W.plainGet K C name = true)
    (hf : PySem.W.findIn K (.ref C) name = some (some (.ref f))) (ht : PySem.W.isFn K (.ref f) = true) (hv : mA name = none) (h : Q (.ref f, [.ref x]) s) :
    wpAny (model prog w) A (getMethod (.ref x) name pl) Q E s := by
  obtain ⟨od, J, hl⟩ := I.look
  exact PySem.W.method_fn X J (PySem.W.plainGet_of hg).1 (PySem.W.plainGet_of hg).2 hf (beq_iff_eq.mp ht) (by show (PySem.W.lookIn name od).map (·.isSome) = some false; rw [hl, hv]; rfl) h

theorem set_map {ns : List Str} {Q : Unit → Shared → Prop} (X : K.In s.heap) (I : ObjM s.heap x dx C mA)
    (hs : PySem.W.findIn K (.ref C) "__setattr__" = some (some (.builtin "object.__setattr__"))) (hp : PySem.W.plainOver K C = true) (ht : PySem.W.takerIn K C name = some none) (hh : PySem.W.hasDictIn K C = true)
    (hw : PySem.Within mA ns) (hsz : ns.length ≤ sizeLine)
    (h : ∀ h', ObjM h' x dx C (fun y => if y = name then some v else mA y) → Heap.SameBut dx s.heap h' → Q () { s with heap := h', toks := s.toks + 2 }) :
    wpAny (model prog w) A (setAttr (.ref x) name v) Q E s := by
  obtain ⟨od, J, hl⟩ := I.look
  refine PySem.W.set_plain X J hs (PySem.W.osa_open (s := { s with toks := s.toks + 1 }) (r := none) X J hp ht fun b => ?_)
  obtain ⟨cd, hc, hd'⟩ := PySem.W.any_some hh
  have hx : s.heap.get? x = some ⟨.ref C, some dx, .plain, #[]⟩ := I.obj
  refine wpAny_bind (wpAny_pure (wpAny_bind (wpAny_bind (wpAny_loadPart hx (wpAny_bind (PySem.W.Looks.here (s := { s with toks := s.toks + 1 }) (PySem.W.looks_clsIn X hc) ?_))))))
  rw [hd']
  refine wpAny_pure (a := some dx) (wpAny_bind (wpAny_pure (wpAny_bind ?_)))
  refine wpAny_nsSet1 (s := { s with toks := s.toks + 1 }) I.ns fun h' hn2 hs2 => ?_
  obtain ⟨oD, esD, epD, hoD, hdD, hcD⟩ := hn2.count (PySem.Within.cons name v hw)
  refine wpAny_bind (wpAny_lookBehind hoD (by rw [hdD]; exact pastItsLine_dict (Nat.le_trans hcD (by rw [List.length_cons]; omega))) ?_)
  exact wpAny_pure (h _ ⟨(hs2.2 _ (Ne.symm I.ne)).trans I.obj, hn2, I.ne⟩ hs2)

/-- C(..): the dict at the heap's end, the instance behind it; then its __init__ -/
theorem make_map {R : Result → Shared → Prop} {vs : List Value} {kw : List (Str × Value)} (X : K.In s.heap) (hm : PySem.W.makesIn K C = true)
    (hi : PySem.W.findIn K (.ref C) "__init__" = some (some (.ref f))) (hf : PySem.W.typeIn K (.ref f) = some (.type "function"))
    (h : codeAny (model prog w) (A.under (.builtin "type.__call__" ⟨.ref C :: vs, kw⟩)) (.call (.ref f) ⟨.ref (s.heap.objs.size + 1) :: vs, kw⟩) (PySem.W.InitBack (s.heap.objs.size + 1) R)
      { s with heap := (s.heap.push PySem.W.emptyDict).push (PySem.W.instObj C s.heap.objs.size) }) :
    codeAny (model prog w) A (.call (.ref C) ⟨vs, kw⟩) R s := by
  obtain ⟨hh, g, d, t, os⟩ := s
  exact PySem.W.make_core (PySem.W.makes_of X hm) (PySem.W.looks_findIn X hi) (fun self => PySem.W.bind_fn X self hf) (.inl rfl) h
/-- C() where there is no __init__ but object's -/
theorem make_map0 {R : Result → Shared → Prop} (X : K.In s.heap) (hm : PySem.W.makesIn K C = true)
    (hi : PySem.W.findIn K (.ref C) "__init__" = some (some (.builtin "object.__init__")))
    (hb : ∀ self, PySem.W.Looks (model prog w) s.heap (bindSpecial (.builtin "object.__init__") self) (.builtin "object.__init__", [self]))
    (h : codeAny (model prog w) (A.under (.builtin "type.__call__" ⟨[.ref C], []⟩)) (.call (.builtin "object.__init__") ⟨[.ref (s.heap.objs.size + 1)], []⟩) (PySem.W.InitBack (s.heap.objs.size + 1) R)
      { s with heap := (s.heap.push PySem.W.emptyDict).push (PySem.W.instObj C s.heap.objs.size) }) :
    codeAny (model prog w) A (.call (.ref C) ⟨[], []⟩) R s := by
  obtain ⟨hh, g, d, t, os⟩ := s
  exact PySem.W.make_core (PySem.W.makes_of X hm) (PySem.W.looks_findIn X hi) hb (.inr ⟨rfl, rfl⟩) h
end

/-! ### the attributes as a list of pairs -/
def putF (f : Str) (v : V) : List (Str × V) → List (Str × V)
  | [] => [(f, v)]
  | (g, x) :: r => if g = f then (g, v) :: r else (g, x) :: putF f v r
theorem lookup_putF (f g : Str) (v : V) : ∀ fs : List (Str × V), (putF f v fs).lookup g = if g = f then some v else fs.lookup g
  | [] => by
    show List.lookup g [(f, v)] = _
    by_cases h : g = f
    · have hb : (g == f) = true := beq_iff_eq.mpr h
      simp only [List.lookup, hb, if_pos h]
    · have hb : (g == f) = false := beq_eq_false_iff_ne.mpr h
      simp only [List.lookup, hb, if_neg h]
  | (k, x) :: r => by
    have ih := lookup_putF f g v r
    rw [show putF f v ((k, x) :: r) = (if k = f then (k, v) :: r else (k, x) :: putF f v r) from rfl]
    by_cases hk : k = f
    · rw [if_pos hk]
      by_cases h : g = k
      · have hb : (g == k) = true := beq_iff_eq.mpr h
        simp only [List.lookup, hb, if_pos (h.trans hk)]
      · have hb : (g == k) = false := beq_eq_false_iff_ne.mpr h
        simp only [List.lookup, hb, if_neg (fun e : g = f => h (e.trans hk.symm))]
    · rw [if_neg hk]
      by_cases h : g = k
      · have hb : (g == k) = true := beq_iff_eq.mpr h
        simp only [List.lookup, hb, if_neg (fun e : g = f => hk (h.symm.trans e))]
      · have hb : (g == k) = false := beq_eq_false_iff_ne.mpr h
        simp only [List.lookup, hb]
        exact ih
theorem keys_putF (f : Str) (v : V) : ∀ fs : List (Str × V), f ∈ (putF f v fs).map (·.1) ∧ ∀ g, g ∈ fs.map (·.1) → g ∈ (putF f v fs).map (·.1)
  | [] => ⟨by simp [putF], fun g h => by simp at h⟩
  | (k, x) :: r => by
    obtain ⟨i1, i2⟩ := keys_putF f v r
    rw [show putF f v ((k, x) :: r) = (if k = f then (k, v) :: r else (k, x) :: putF f v r) from rfl]
    by_cases hk : k = f
    · rw [if_pos hk]
      subst hk
      exact ⟨by simp, fun g h => by simpa using h⟩
    · rw [if_neg hk]
      refine ⟨?_, fun g h => ?_⟩
      · rw [List.map_cons]
        exact List.mem_cons_of_mem _ i1
      · rw [List.map_cons] at h ⊢
        rcases List.mem_cons.mp h with e | e
        · exact List.mem_cons.mpr (.inl e)
        · exact List.mem_cons_of_mem _ (i2 g e)
theorem length_putF (f : Str) (v : V) : ∀ fs : List (Str × V), (putF f v fs).length ≤ fs.length + 1
  | [] => by simp [putF]
  | (k, x) :: r => by
    have ih := length_putF f v r
    rw [show putF f v ((k, x) :: r) = (if k = f then (k, v) :: r else (k, x) :: putF f v r) from rfl]
    by_cases hk : k = f
    · rw [if_pos hk, List.length_cons, List.length_cons]; omega
    · rw [if_neg hk, List.length_cons, List.length_cons]; omega

theorem RelO.some_of {v : V} {o : Option Value} (r : RelO (some v) o) : ∃ u, o = some u ∧ RelV v u := by
  cases o with
  | none => exact (show False from r).elim
  | some u => exact ⟨u, rfl, r⟩
theorem RelO.none_of {o : Option Value} (r : RelO none o) : o = none := by
  cases o with
  | none => rfl
  | some u => exact (show False from r).elim
theorem handed_of {v : V} {u : Value} (r : RelV v u) : PySem.W.handedIn u = true := by
  cases v with
  | non => cases (show u = Value.none from r); rfl
  | bl b => cases (show u = Value.bool b from r); rfl
  | int i => obtain ⟨t, e⟩ := (show ∃ t, u = Value.int i t from r); cases e; rfl
  | str x => obtain ⟨t, e⟩ := (show ∃ t, u = Value.str x t from r); cases e; rfl
  | byt b => obtain ⟨t, e⟩ := (show ∃ t, u = Value.bytes b t from r); cases e; rfl
  | flt b => obtain ⟨t, e⟩ := (show ∃ t, u = Value.float b t from r); cases e; rfl
  | ref a => cases (show u = Value.ref a from r); rfl
  | ty n => cases (show u = Value.type n from r); rfl

section
variable {P : Program} {w : World} {H H' : Hp} {h h' : Heap} {a C dx : Addr} {fs fs' : List (Str × V)}
theorem ins_get (hok : HOk P w H h) (e : H a = some (.ins C dx fs)) : ∃ mA, ObjM h a dx C mA ∧ (∀ f, RelO (fs.lookup f) (mA f)) ∧ PySem.Within mA (fs.map (·.1)) ∧ fs.length ≤ 1000 ∧ H dx = some (.own a) := by
  obtain ⟨d, z, ne, ob, mA, n, r, q⟩ := (show ObjOk P w H h a (.ins C dx fs) from hok a _ e)
  exact ⟨mA, ⟨ob, n, ne⟩, r, q, z, d⟩
end

/-! ### what of the text a class must have -/
structure Cls (K : PySem.W.Frag) (C : Addr) : Prop where
  pg : PySem.W.plainGet K C Str.empty = true
  hd : PySem.W.hasDictIn K C = true
  po : PySem.W.plainOver K C = true
  sa : PySem.W.findIn K (.ref C) "__setattr__" = some (some (.builtin "object.__setattr__"))
theorem Cls.get {K : PySem.W.Frag} {C : Addr} (c : Cls K C) (f : Str) : PySem.W.plainGet K C f = true := c.pg
/-- no class of it has the name -/
def NoAttr (K : PySem.W.Frag) (C : Addr) (f : Str) : Prop := PySem.W.findIn K (.ref C) f = some none
theorem NoAttr.taker {K : PySem.W.Frag} {C : Addr} {f : Str} (n : NoAttr K C f) : PySem.W.takerIn K C f = some none := by
  unfold PySem.W.takerIn
  rw [show PySem.W.findIn K (.ref C) f = some none from n]
  rfl
/-- a constant of the class -/
structure Con (K : PySem.W.Frag) (C : Addr) (f : Str) (v : V) (u : Value) : Prop where
  at_ : PySem.W.findIn K (.ref C) f = some (some u)
  rel : RelV v u
  get : PySem.W.specialIn K u "__get__" = some none
  cp : PySem.W.copiedNames.contains f = false
/-- a method: a plain def of the class or of one above it -/
structure Meth (K : PySem.W.Frag) (C : Addr) (m : Str) (f : Addr) : Prop where
  at_ : PySem.W.findIn K (.ref C) m = some (some (.ref f))
  fn : PySem.W.isFn K (.ref f) = true
  kp : PySem.W.keepIn K (.ref f) = true

section
variable {X : Cx} {pins : List (Addr × Obj)} {σ : St} {H : Hp} {s : Shared} {a C dx : Addr} {fs : List (Str × V)} {f : Str} {v : V} {A : Around} {E : Value → Shared → Prop}

theorem getattr_ok {b : Bool} {Q : Value → Shared → Prop} (I : Inv X pins σ H s) (e : H a = some (.ins C dx fs)) (c : Cls X.K C) (n : NoAttr X.K C f) (l : fs.lookup f = some v)
    (h : ∀ u s', Inv X pins σ H s' → RelV v u → Q u s') : wpAny (model X.prog X.w) A (getAttr (.ref a) f b) Q E s := by
  obtain ⟨mA, O, r, _, _, _⟩ := ins_get I.hok e
  obtain ⟨u, hu, ru⟩ := RelO.some_of (v := v) (o := mA f) (by rw [← l]; exact r f)
  exact get_map I.kIn O (c.get f) c.hd n hu (handed_of ru) (h u _ (I.tok _) ru)

theorem getcon_ok {b : Bool} {u : Value} {Q : Value → Shared → Prop} (I : Inv X pins σ H s) (e : H a = some (.ins C dx fs)) (c : Cls X.K C) (k : Con X.K C f v u) (l : fs.lookup f = none)
    (h : ∀ s', Inv X pins σ H s' → Q u s') : wpAny (model X.prog X.w) A (getAttr (.ref a) f b) Q E s := by
  obtain ⟨mA, O, r, _, _, _⟩ := ins_get I.hok e
  have hn : mA f = none := RelO.none_of (by rw [← l]; exact r f)
  exact get_const I.kIn O (c.get f) c.hd k.at_ k.get k.cp hn (handed_of k.rel) (h _ (I.tok _))

theorem getmeth_ok {m : Str} {g : Addr} {pl : Sem Bool} {Q : Value × List Value → Shared → Prop} (I : Inv X pins σ H s) (e : H a = some (.ins C dx fs)) (c : Cls X.K C) (k : Meth X.K C m g) (l : fs.lookup m = none)
    (h : Q (.ref g, [.ref a]) s) : wpAny (model X.prog X.w) A (getMethod (.ref a) m pl) Q E s := by
  obtain ⟨mA, O, r, _, _, _⟩ := ins_get I.hok e
  have hn : mA m = none := RelO.none_of (by rw [← l]; exact r m)
  exact get_meth I.kIn O (c.get m) k.at_ k.fn hn h

theorem setattr_ok {y : V} {u : Value} {Q : Unit → Shared → Prop} (I : Inv X pins σ H s) (e : H a = some (.ins C dx fs)) (c : Cls X.K C) (n : NoAttr X.K C f) (hl : fs.length < 1000) (ry : RelV y u)
    (h : ∀ s', Inv X pins σ (upd H a (.ins C dx (putF f y fs))) s' → Q () s') : wpAny (model X.prog X.w) A (setAttr (.ref a) f u) Q E s := by
  obtain ⟨mA, O, r, wi, _, ho⟩ := ins_get I.hok e
  have hz : (fs.map (·.1)).length ≤ sizeLine := by rw [List.length_map, sizeLine_eq]; omega
  refine set_map I.kIn O c.sa c.po n.taker c.hd wi hz fun h' O' sb => h _ ?_
  have hd : ∃ o, h'.get? dx = some o := let ⟨o, _, _, e', _⟩ := O'.ns; ⟨o, e'⟩
  refine I.write (x := a) (e := dx) (by rw [e]; exact True.intro) (.inr ho) (fun b q hb z => (sb.2 b hb).trans z) hd ?_
  refine ⟨by rw [upd_ne O.ne]; exact ho, ?_, O.ne, O'.obj, _, O'.ns, fun g => ?_, fun g hg => ?_⟩
  · have := length_putF f y fs; omega
  · show RelO ((putF f y fs).lookup g) (if g = f then some u else mA g)
    rw [lookup_putF]
    by_cases q : g = f
    · rw [if_pos q, if_pos q]; exact ry
    · rw [if_neg q, if_neg q]; exact r g
  · by_cases q : g = f
    · rw [q]; exact (keys_putF f y fs).1
    · refine (keys_putF f y fs).2 g (wi g fun z => hg ?_)
      show (if g = f then some u else mA g) = none
      rw [if_neg q]; exact z

/-- a new instance, tracked, without attributes -/
theorem Inv.made (I : Inv X pins σ H s) : Inv X pins σ (upd (upd H s.heap.objs.size (.own (s.heap.objs.size + 1))) (s.heap.objs.size + 1) (.ins C s.heap.objs.size []))
    { s with heap := (s.heap.push PySem.W.emptyDict).push (PySem.W.instObj C s.heap.objs.size) } := by
  have e1 : (s.heap.push PySem.W.emptyDict).get? s.heap.objs.size = some PySem.W.emptyDict := Heap.get?_push_size s.heap rfl
  have e2 : ((s.heap.push PySem.W.emptyDict).push (PySem.W.instObj C s.heap.objs.size)).get? (s.heap.objs.size + 1) = some (PySem.W.instObj C s.heap.objs.size) := by
    have := Heap.get?_push_size (s.heap.push PySem.W.emptyDict) (o := PySem.W.instObj C s.heap.objs.size) rfl
    rwa [Heap.size_push] at this
  have e3 : (s.heap.push PySem.W.emptyDict).Ns s.heap.objs.size (fun _ => none) := ⟨PySem.W.emptyDict, #[], _, e1, rfl, (fun e he => absurd he (by simp)), fun _ => rfl⟩
  have I1 := I.laid (a := s.heap.objs.size) (o := .own (s.heap.objs.size + 1)) (h' := s.heap.push PySem.W.emptyDict) (t' := s.toks) (fun b u q => Heap.get?_push_of_some _ q) (Nat.le_refl _) ⟨_, e1⟩
  refine I1.laid (a := s.heap.objs.size + 1) (o := .ins C s.heap.objs.size []) (t' := s.toks) (fun b u q => Heap.get?_push_of_some _ q) (Nat.le_of_eq (Heap.size_push _ _)) ?_
  have ne : s.heap.objs.size ≠ s.heap.objs.size + 1 := Nat.ne_of_lt (Nat.lt_succ_self _)
  refine ⟨by rw [upd_ne ne, upd_same], Nat.zero_le _, ne, e2, fun _ => none, (Heap.Ns1.of_empty e3).at fun o q => Heap.get?_push_of_some _ q, fun _ => True.intro, fun y hy => absurd rfl hy⟩

/-- e.f where nothing but the object is asked: through attributeBase (super) and the last hold -/
theorem attr_of {prog : Program} {w : World} {env : Env} {e : Expr} {f : Str} {pos : Pos} {s : Shared} {Q : Value → Shared → Prop} (hb : attributeBase e f env (eval e env) = eval e env)
    (h : wpAny (model prog w) A (eval e env) (fun o s₁ => wpAny (model prog w) A (getAttr o f true) Q E s₁) E s) : wpAny (model prog w) A (eval (.Attribute e f pos) env) Q E s :=
  Attribute_any_ h (by rw [arm_eval_Attribute, hb])
end

/-! ### readings and rules -/
/-- e.f, an attribute of the instance -/
def tFld (K : PySem.W.Frag) (ta : TE) (f : Str) : TE := fun σ H Q => ta σ H fun x H1 => ∃ a C dx fs v, x = .ref a ∧ H1 a = some (.ins C dx fs) ∧ Cls K C ∧ NoAttr K C f ∧ fs.lookup f = some v ∧ Q v H1
/-- e.f, a constant of the class -/
def tCon (K : PySem.W.Frag) (ta : TE) (f : Str) : TE := fun σ H Q => ta σ H fun x H1 => ∃ a C dx fs v u, x = .ref a ∧ H1 a = some (.ins C dx fs) ∧ Cls K C ∧ Con K C f v u ∧ fs.lookup f = none ∧ Q v H1
/-- e.f = value -/
def sFld (K : PySem.W.Frag) (ta tv : TE) (f : Str) : TS := fun D σ H => tv σ H fun y H1 => ta σ H1 fun x H2 => ∃ a C dx fs, x = .ref a ∧ H2 a = some (.ins C dx fs) ∧ Cls K C ∧ NoAttr K C f ∧ fs.length < 1000 ∧
  D.nx σ (upd H2 a (.ins C dx (putF f y fs)))
/-- an augmented operator on two values -/
def InOp (X : Cx) (op : Operator) (rd : V → V → Hp → VK → Prop) : Prop :=
  ∀ (pins : List (Addr × Obj)) (s : Shared) (σ : St) (H : Hp) (x y : V) (u v : Value) (Q : VK), Inv X pins σ H s → RelV x u → RelV y v → rd x y H Q → wpAny (model X.prog X.w) X.A (inplaceOp op u v) (EP X pins σ Q) X.xe s
/-- e.f op= value -/
def sFldAug (K : PySem.W.Frag) (ta tv : TE) (rd : V → V → Hp → VK → Prop) (f : Str) : TS := fun D σ H => ta σ H fun x H1 => ∃ a C dx fs v, x = .ref a ∧ H1 a = some (.ins C dx fs) ∧ Cls K C ∧ NoAttr K C f ∧ fs.lookup f = some v ∧
  tv σ H1 fun y H2 => rd v y H2 fun z H3 => ∃ dx' fs', H3 a = some (.ins C dx' fs') ∧ fs'.length < 1000 ∧ D.nx σ (upd H3 a (.ins C dx' (putF f z fs')))

section
variable {X : Cx} {o e value : Expr} {f : Str} {pos pos' tpos : Pos} {ta tv : TE}
theorem pe_fld (he : PE X e ta) (hb : attributeBase e f X.env (eval e X.env) = eval e X.env) : PE X (.Attribute e f pos) (tFld X.K ta f) := by
  unfold PE at *
  exact by
    intro pins s σ H Q I h
    refine attr_of hb (thn (he pins s σ H _ I h) fun u s1 ⟨x, H1, I1, rx, a, C, dx, fs, v, ex, ea, c, n, l, q⟩ => ?_)
    subst ex
    obtain rfl : u = Value.ref a := rx
    exact getattr_ok I1 ea c n l fun u' s2 I2 ru => ⟨v, H1, I2, ru, q⟩

theorem pe_con (he : PE X e ta) (hb : attributeBase e f X.env (eval e X.env) = eval e X.env) : PE X (.Attribute e f pos) (tCon X.K ta f) := by
  unfold PE at *
  exact by
    intro pins s σ H Q I h
    refine attr_of hb (thn (he pins s σ H _ I h) fun u s1 ⟨x, H1, I1, rx, a, C, dx, fs, v, u0, ex, ea, c, k, l, q⟩ => ?_)
    subst ex
    obtain rfl : u = Value.ref a := rx
    exact getcon_ok I1 ea c k l fun s2 I2 => ⟨v, H1, I2, k.rel, q⟩

theorem ps_fld (ha : PE X o ta) (hv : PE X value tv) (hs : swapsWith value (some (.Attribute o f pos')) pos.line X.env = pure false) : PS X (.Assign [.Attribute o f pos'] value pos) (sFld X.K ta tv f) := by
  unfold PE at *; unfold PS at *
  exact by
    intro pins s σ H D I h
    refine plainObj_wpAny_Assign_Attribute (thn (hv pins s σ H _ I h) fun u s1 ⟨y, H1, I1, ry, q⟩ => thn (ha pins s1 σ H1 _ I1 q) fun ov s2 ⟨x, H2, I2, rx, a, C, dx, fs, ex, ea, c, n, l, q2⟩ => ?_) hs
    subst ex
    obtain rfl : ov = Value.ref a := rx
    exact setattr_ok I2 ea c n l ry fun s3 I3 => ⟨σ, _, I3, q2⟩

theorem ps_fldaug {op : Operator} {rd : V → V → Hp → VK → Prop} (ha : PE X o ta) (hv : PE X value tv) (hop : InOp X op rd) : PS X (.AugAssign (.Attribute o f tpos) op value pos) (sFldAug X.K ta tv rd f) := by
  unfold PE at *; unfold PS at *
  exact by
    intro pins s σ H D I h
    refine wpAny_AugAssign_AttributeAny (thn (ha pins s σ H _ I h) fun ov s1 ⟨x, H1, I1, rx, a, C, dx, fs, v, ex, ea, c, n, l, q⟩ => ?_)
    subst ex
    obtain rfl : ov = Value.ref a := rx
    refine getattr_ok I1 ea c n l fun u s2 I2 ru => thn (hv pins s2 σ H1 _ I2 q) fun w3 s3 ⟨y, H2, I3, ry, q3⟩ => thn (hop pins s3 σ H2 v y u w3 _ I3 ru ry q3) fun w4 s4 ⟨z, H3, I4, rz, dx', fs', ea', l', q4⟩ => ?_
    exact setattr_ok I4 ea' c n l' rz fun s5 I5 => ⟨σ, _, I5, q4⟩

def rAdd : V → V → Hp → VK → Prop := fun x y H Q => ∃ i j, x = .int i ∧ y = .int j ∧ Q (.int (i + j)) H
def rSub : V → V → Hp → VK → Prop := fun x y H Q => ∃ i j, x = .int i ∧ y = .int j ∧ Q (.int (i - j)) H
theorem in_add : InOp X .Add rAdd := by
  rintro pins s σ H x y u v Q I rx ry ⟨i, j, rfl, rfl, q⟩
  obtain ⟨t, rfl⟩ := (show ∃ t, u = Value.int i t from rx)
  obtain ⟨t', rfl⟩ := (show ∃ t', v = Value.int j t' from ry)
  exact PyProof.Rows.iadd_int ⟨.int (i + j), H, I.tok _, ⟨_, rfl⟩, q⟩
theorem in_sub : InOp X .Sub rSub := by
  rintro pins s σ H x y u v Q I rx ry ⟨i, j, rfl, rfl, q⟩
  obtain ⟨t, rfl⟩ := (show ∃ t, u = Value.int i t from rx)
  obtain ⟨t', rfl⟩ := (show ∃ t', v = Value.int j t' from ry)
  exact PyProof.Rows.isub_int ⟨.int (i - j), H, I.tok _, ⟨_, rfl⟩, q⟩

/-- what is between an instance and its method: the tree of a method call -/
theorem methcall_of {pl : Sem Bool} {m : Str} {apos : Pos} {args : List Expr} {pins : List (Addr × Obj)} {s : Shared} {σ : St} {H : Hp} {Q : Value → Shared → Prop} {te : TE} (he : PE X e te) (I : Inv X pins σ H s)
    (h : te σ H fun x H1 => ∃ a C dx fs g, x = .ref a ∧ H1 a = some (.ins C dx fs) ∧ Cls X.K C ∧ Meth X.K C m g ∧ fs.lookup m = none ∧
      ∀ s1, Inv X pins σ H1 s1 → wpAny (model X.prog X.w) X.A (callWith pos (.ref g) [.ref a] (backTo pos (starEach args X.env)) (backToKw pos (keywordEach [] X.env))) Q X.xe s1)
    (ht : eval (.Call (.Attribute e m apos) args [] pos) X.env = (do
      let ov ← eval e X.env
      standAt apos.atName
      let (f, first) ← holding [ov] (getMethod ov m pl)
      callWith pos f first (backTo pos (starEach args X.env)) (backToKw pos (keywordEach [] X.env)))) :
    wpAny (model X.prog X.w) X.A (eval (.Call (.Attribute e m apos) args [] pos) X.env) Q X.xe s := by
  unfold PE at *
  exact by
    refine PySem.W.methodCall_KW (pl := pl) (thn (he pins s σ H _ I h) fun u s1 ⟨x, H1, I1, rx, a, C, dx, fs, g, ex, ea, c, k, l, q⟩ => ?_) ht
    subst ex
    obtain rfl : u = Value.ref a := rx
    exact getmeth_ok I1 ea c k l (q s1 I1)

end

/-! ### isinstance -/
section
variable {X : Cx} {pins : List (Addr × Obj)} {σ : St} {H : Hp} {s : Shared} {A : Around} {E : Value → Shared → Prop} {Q : Value → Shared → Prop} {c : Value} {b : Bool}
/-- the type of a value, as the fragment's deciders take it; for an instance its class -/
inductive TyOf (K : PySem.W.Frag) (H : Hp) : V → Value → Prop where
  | non : TyOf K H .non (.type "NoneType")
  | bl (x : Bool) : TyOf K H (.bl x) (.type "bool")
  | int (i : Int) : TyOf K H (.int i) (.type "int")
  | str (x : Str) : TyOf K H (.str x) (.type "str")
  | flt (x : UInt64) : TyOf K H (.flt x) (.type "float")
  | lst {a : Addr} {xs : List V} (e : H a = some (.lst xs)) : TyOf K H (.ref a) (.type "list")
  | frz {a : Addr} {o : Obj} {xs : List V} (e : H a = some (.frz o (.lst xs))) : TyOf K H (.ref a) (.type "list")
  | tup {a : Addr} {xs : List V} (e : H a = some (.tup xs)) : TyOf K H (.ref a) (.type "tuple")
  | dK {a : Addr} {kvs : List (Key × V)} (e : H a = some (.dK kvs)) : TyOf K H (.ref a) (.type "dict")
  | dT {a : Addr} {kvs : List (List Key × V)} (e : H a = some (.dT kvs)) : TyOf K H (.ref a) (.type "dict")
  | ins {a C dx : Addr} {fs : List (Str × V)} (e : H a = some (.ins C dx fs)) (cl : Cls K C) (ha : PySem.W.findIn K (.ref C) "__class__" = some (some (.builtin "object.__class__")))
      (hn : PySem.W.specialIn K (.builtin "object.__class__") "__get__" = some (some (.builtin "getset_descriptor.__get__"))) (htk : PySem.W.takesIn K (.builtin "object.__class__") = some true)
      (hm : PySem.W.mroIn K C (.type "object") = some true) : TyOf K H (.ref a) (.ref C)
/-- isinstance(x, c) for one class c, a built-in or an own one: kitOne's answer -/
theorem isinst_ok {x : V} {u t : Value} (I : Inv X pins σ H s) (rx : RelV x u) (ty : TyOf X.K H x t) (e : PySem.W.kitOne X.K t c = some b) (h : ∀ tk, Q (.bool b) { s with toks := tk }) :
    wpAny (model X.prog X.w) A (call (.builtin "isinstance") [u, c]) Q E s := by
  cases ty with
  | non => cases (show u = Value.none from rx); exact PySem.W.kia_one PySem.W.kitx_none I.kIn True.intro e (fun z => nomatch z) h
  | bl y => cases (show u = Value.bool y from rx); exact PySem.W.kia_one PySem.W.kitx_bool I.kIn True.intro e (fun z => nomatch z) h
  | int i => obtain ⟨t, q⟩ := (show ∃ t, u = Value.int i t from rx); cases q; exact PySem.W.kia_one PySem.W.kitx_int I.kIn True.intro e (fun z => nomatch z) h
  | str y => obtain ⟨t, q⟩ := (show ∃ t, u = Value.str y t from rx); cases q; exact PySem.W.kia_one PySem.W.kitx_str I.kIn True.intro e (fun z => nomatch z) h
  | flt y => obtain ⟨t, q⟩ := (show ∃ t, u = Value.float y t from rx); cases q; exact PySem.W.kia_one PySem.W.kitx_float I.kIn True.intro e (fun z => nomatch z) h
  | @lst a xs ea =>
    cases (show u = Value.ref a from rx)
    obtain ⟨_, _, n, _, h1⟩ := (show ObjOk X.prog X.w H s.heap a (.lst xs) from I.hok a _ ea)
    exact PySem.W.kia_one PySem.W.kitx_list I.kIn ⟨_, h1, rfl⟩ e (fun z => nomatch z) h
  | @frz a ob xs ea =>
    cases (show u = Value.ref a from rx)
    obtain ⟨_, _, _, n, _, h1⟩ := (show ObjOk X.prog X.w H s.heap a (.frz ob (.lst xs)) from I.hok a _ ea)
    exact PySem.W.kia_one PySem.W.kitx_list I.kIn ⟨_, h1, rfl⟩ e (fun z => nomatch z) h
  | @tup a xs ea =>
    cases (show u = Value.ref a from rx)
    obtain ⟨_, _, _, p⟩ := (show ObjOk X.prog X.w H s.heap a (.tup xs) from I.hok a _ ea)
    obtain ⟨o, h1, h2, _⟩ := p
    exact PySem.W.kia_one PySem.W.kitx_tuple I.kIn ⟨o, h1, h2⟩ e (fun z => nomatch z) h
  | @dK a kvs ea =>
    cases (show u = Value.ref a from rx)
    obtain ⟨_, _, vs, _, p⟩ := (show ObjOk X.prog X.w H s.heap a (.dK kvs) from I.hok a _ ea)
    obtain ⟨o, es, ep, h1, h2, _⟩ := p
    exact PySem.W.kia_one PySem.W.kitx_dict I.kIn ⟨o, h1, h2.1⟩ e (fun z => nomatch z) h
  | @dT a kvs ea =>
    cases (show u = Value.ref a from rx)
    obtain ⟨_, _, xs, _, o, es, ep, h1, h2, _⟩ := (show ObjOk X.prog X.w H s.heap a (.dT kvs) from I.hok a _ ea)
    exact PySem.W.kia_one PySem.W.kitx_dict I.kIn ⟨o, h1, h2.1⟩ e (fun z => nomatch z) h
  | @ins a C dx fs ea cl ha hn htk hm =>
    cases (show u = Value.ref a from rx)
    obtain ⟨mA, O, _⟩ := ins_get I.hok ea
    obtain ⟨od, J, _⟩ := O.look
    exact PySem.W.kia_one (PySem.W.kitx_own (cl.get _) cl.hd ha hn htk hm) I.kIn J e (fun z => nomatch z) h
end
end L2

namespace L2
open PySem PySem.Spec PyProof.Rows

/-! ### room -/
structure Room (k : Nat) (A : Around) : Prop where
  hd : A.handled = none
  dp : A.depth + 3 * k + 5 < recursionLimit
  un : A.units + 16 * k + 200 < cLine
theorem Room.mono {j k : Nat} {A : Around} (r : Room k A) (h : j ≤ k) : Room j A := ⟨r.hd, by have := r.dp; omega, by have := r.un; omega⟩
theorem Room.deeper {k : Nat} {A : Around} (r : Room (k + 1) A) (env : Env) : Room k (A.deeper env) :=
  ⟨r.hd, by have := r.dp; show A.depth + 1 + 3 * k + 5 < _; omega, by have := r.un; show A.units + 3 + 16 * k + 200 < _; omega⟩
theorem Room.in1 {k : Nat} {A : Around} (r : Room (k + 1) A) : Room k A.in1 :=
  ⟨r.hd, by have := r.dp; show A.depth + 3 * k + 5 < _; omega, by have := r.un; show A.units + 1 + 16 * k + 200 < _; omega⟩
theorem make_depth {A : Around} {C : Addr} {us : List Value} {kw : List (Str × Value)} : (A.under (.builtin "type.__call__" ⟨.ref C :: us, kw⟩)).depth = A.depth + 1 := by
  first | rfl | simp [Around.under, Code.weight, Code.isCreation, Code.isGuard, Code.isCaller, Code.frames, Code.isFrame, guardIds]
theorem make_units {A : Around} {C : Addr} {us : List Value} {kw : List (Str × Value)} : (A.under (.builtin "type.__call__" ⟨.ref C :: us, kw⟩)).units = A.units + 1 := by
  first | rfl | simp [Around.under, Code.cUnits, Code.frames, Code.isFrame]
theorem Room.make {k : Nat} {A : Around} (r : Room (k + 1) A) (C : Addr) (us : List Value) (kw : List (Str × Value)) : Room k (A.under (.builtin "type.__call__" ⟨.ref C :: us, kw⟩)) :=
  ⟨r.hd, by have := r.dp; rw [make_depth]; omega, by have := r.un; rw [make_units]; omega⟩
theorem Room.depth {k : Nat} {A : Around} (r : Room k A) : A.depth < recursionLimit := by have := r.dp; omega
theorem Room.units {k : Nat} {A : Around} (r : Room k A) : A.units + 64 < cLine := by have := r.un; omega
theorem Room.units0 {k : Nat} {A : Around} (r : Room k A) : A.units < cLine := by have := r.un; omega

/-! ### argument lists and displays -/
def tNil : TA := fun _ H Q => Q [] H
def tCons (ta : TE) (tr : TA) : TA := fun σ H Q => ta σ H fun x H1 => tr σ H1 fun xs H2 => Q (x :: xs) H2
section
variable {X : Cx} {e : Expr} {es : List Expr} {te : TE} {t : TA} {pos : Pos}
theorem pa_nil : PA X [] tNil := by
  first
  | exact (fun _ _ _ _ H Q I h => Calls.spliced_nil ⟨[], H, I, .nil, h⟩)
  | (unfold PA at *; exact (fun _ _ _ _ H Q I h => Calls.spliced_nil ⟨[], H, I, .nil, h⟩))

theorem pa_cons (ha : PE X e te) (hr : PA X es t) (hs : starEach (e :: es) X.env = (false, eval e X.env) :: starEach es X.env := by rfl) : PA X (e :: es) (tCons te t) := by
  unfold PE at *; unfold PA at *
  exact by
    intro pos pins s σ H Q I h
    rw [hs]
    show wpAny _ _ (spliced ((false, eval e X.env) :: backTo pos (starEach es X.env))) _ _ s
    refine Calls.spliced_cons (thn (ha pins s σ H _ I h) fun u s1 ⟨x, H1, I1, r1, q1⟩ => ?_)
    exact thn (hr pos pins s1 σ H1 _ I1 q1) fun us s2 ⟨xs, H2, I2, r2, q2⟩ => ⟨x :: xs, H2, I2, .cons r1 r2, q2⟩

/-- a tuple, a list of written items -/
def tTup (t : TA) : TE := fun σ H Q => t σ H fun xs H1 => xs.length ≤ sizeLine ∧ ∀ p, H1 p = none → Q (.ref p) (upd H1 p (.tup xs))
def tLst (t : TA) : TE := fun σ H Q => t σ H fun xs H1 => xs.length ≤ sizeLine ∧ ∀ p, H1 p = none → Q (.ref p) (upd H1 p (.lst xs))
theorem pe_tup {x1} (h : PA X es t) : PE X (.Tuple es x1 pos) (tTup t) := by
  unfold PE at *; unfold PA at *
  exact by
    intro pins s σ H Q I hq
    refine wpAny_Tuple_spliced (thn (h pos pins s σ H _ I hq) fun us s1 ⟨xs, H1, I1, r, z, q⟩ => ⟨by rw [← r.length]; exact z, ?_⟩)
    have hf : H1 s1.heap.objs.size = none := I1.hok.fresh (Nat.le_refl _)
    refine ⟨.ref s1.heap.objs.size, upd H1 s1.heap.objs.size (.tup xs), I1.laid (t' := s1.toks) (fun b u e => Heap.get?_push_of_some _ e) (Nat.le_refl _) ?_, rfl, q _ hf⟩
    exact ⟨z, us, r, ⟨_, Heap.get?_push_size _ rfl, rfl, _, rfl⟩⟩

theorem pe_lst (h : PA X es t) : PE X (.List es pos) (tLst t) := by
  unfold PE at *; unfold PA at *
  exact by
    intro pins s σ H Q I hq
    refine wpAny_List_spliced (thn (h pos pins s σ H _ I hq) fun us s1 ⟨xs, H1, I1, r, z, q⟩ => ⟨by rw [← r.length]; exact z, ?_⟩)
    have hf : H1 s1.heap.objs.size = none := I1.hok.fresh (Nat.le_refl _)
    refine ⟨.ref s1.heap.objs.size, upd H1 s1.heap.objs.size (.lst xs), I1.laid (t' := s1.toks) (fun b u e => Heap.get?_push_of_some _ e) (Nat.le_refl _) ?_, rfl, q _ hf⟩
    exact ⟨z, us, 0, r, Heap.get?_push_size _ rfl⟩

end

/-! ### what a def promises -/
/-- a def's promise: the bound arguments in the parameters' order, the heap, the wanted end, the wanted exception -/
abbrev Sp := List V → Hp → VK → XK → Prop
/-- how an exception lies behind a call (file 08 gives it): the callers' frames, abstract heap and state ahead of the call, the wish, the exception, the state -/
abbrev CXT := List Env → Hp → Shared → XK → Value → Shared → Prop

/-- the state at a call -/
structure Env0 (P : Program) (w : World) (K : PySem.W.Frag) (mg : Str → Option Value) (base : Heap) (A : Around) (outer : List Env) (s : Shared) (H : Hp) : Prop where
  frames : A.frames = some outer
  mod : Mod K mg base
  bs : ∀ b o, base.get? b = some o → s.heap.get? b = some o ∧ H b = none
  bsz : base.objs.size ≤ s.heap.objs.size
  funs : s.heap.FunFrames base outer
  frf : ∀ b ∈ frs outer, H b = none
  hok : HOk P w H s.heap
  bare : AllBare s.gens
/-- a call's end -/
def CE (outer : List Env) (P : Program) (w : World) (H : Hp) (s : Shared) (Q : VK) (u : Value) (s' : Shared) : Prop :=
  ∃ v H', s'.os = s.os ∧ AllBare s'.gens ∧ Un (frs outer) [] H H' s.heap s'.heap ∧ HOk P w H' s'.heap ∧ RelV v u ∧ Q v H'
def CR (CX : CXT) (outer : List Env) (P : Program) (w : World) (H : Hp) (s : Shared) (Q : VK) (E : XK) (r : Result) (s' : Shared) : Prop :=
  match r with
  | .ok (.ret u) => CE outer P w H s Q u s'
  | .ok _ => False
  | .error e => CX outer H s E e s'
structure FnOk (P : Program) (w : World) (K : PySem.W.Frag) (mg : Str → Option Value) (base : Heap) (CX : CXT) (k : Nat) (f : Addr) (fd : FuncData) (ps : List Str) (sp : Sp) : Prop where
  len : ∀ vs H Q E, sp vs H Q E → vs.length = ps.length
  run : ∀ (A : Around) (outer : List Env) (s : Shared) (H : Hp) (args : Args) (us : List Value) (vs : List V) (Q : VK) (E : XK), Room k A → Env0 P w K mg base A outer s H → BindsTo s fd args (ps.zip us) → Vals vs us → sp vs H Q E →
    codeAny (model P w) A (.call (.ref f) args) (CR CX outer P w H s Q E) s
theorem FnOk.mono {P : Program} {w : World} {K : PySem.W.Frag} {mg : Str → Option Value} {base : Heap} {CX : CXT} {j k : Nat} {f : Addr} {fd : FuncData} {ps : List Str} {sp : Sp} (F : FnOk P w K mg base CX j f fd ps sp) (h : j ≤ k) :
    FnOk P w K mg base CX k f fd ps sp := ⟨F.len, fun A outer s H args us vs Q E hr => F.run A outer s H args us vs Q E (hr.mono h)⟩
/-- a weaker promise -/
theorem FnOk.imp {P : Program} {w : World} {K : PySem.W.Frag} {mg : Str → Option Value} {base : Heap} {CX : CXT} {k : Nat} {f : Addr} {fd : FuncData} {ps : List Str} {sp sp' : Sp} (F : FnOk P w K mg base CX k f fd ps sp)
    (h : ∀ vs H Q E, sp' vs H Q E → sp vs H Q E) : FnOk P w K mg base CX k f fd ps sp' :=
  ⟨fun vs H Q E q => F.len vs H Q E (h _ _ _ _ q), fun A outer s H args us vs Q E hr he hb hv hs => F.run A outer s H args us vs Q E hr he hb hv (h _ _ _ _ hs)⟩

theorem Env0.make {P : Program} {w : World} {K : PySem.W.Frag} {mg : Str → Option Value} {base : Heap} {A : Around} {outer : List Env} {s : Shared} {H : Hp} (e : Env0 P w K mg base A outer s H) (C : Addr) (us : List Value) (kw : List (Str × Value)) :
    Env0 P w K mg base (A.under (.builtin "type.__call__" ⟨.ref C :: us, kw⟩)) outer s H := ⟨by first | exact e.frames | (simpa [Around.under, Code.envs, Code.isFrame, pushEnvs] using e.frames), e.mod, e.bs, e.bsz, e.funs, e.frf, e.hok, e.bare⟩
theorem Env0.in1 {P : Program} {w : World} {K : PySem.W.Frag} {mg : Str → Option Value} {base : Heap} {A : Around} {outer : List Env} {s : Shared} {H : Hp} (e : Env0 P w K mg base A outer s H) :
    Env0 P w K mg base A.in1 outer s H := ⟨e.frames, e.mod, e.bs, e.bsz, e.funs, e.frf, e.hok, e.bare⟩

section
variable {X : Cx} {pins : List (Addr × Obj)} {σ : St} {H : Hp} {s s' : Shared}
/-- from a body: what a callee wants -/
theorem Inv.env0 (I : Inv X pins σ H s) : Env0 X.prog X.w X.K X.mg X.base X.A X.stack s H :=
  ⟨I.ok.frames, I.ok.mod, I.bs, Nat.le_trans I.ok.bsz I.sz, I.stack, I.stkFree, I.hok, I.bare⟩
/-- behind a call -/
theorem Inv.after {Q : VK} {u : Value} (I : Inv X pins σ H s) (h : CE X.stack X.prog X.w H s Q u s') : EP X pins σ Q u s' := by
  obtain ⟨v, H', os, bare, un, hok, r, q⟩ := h
  obtain ⟨hh, g, d, t, os'⟩ := s'
  obtain rfl : os' = s.os := os
  exact ⟨v, H', I.call (h' := hh) (g' := g) (d' := d) (t' := t) (ch := []) un hok bare (fun b z => absurd z (by simp)), r, q⟩
end

/-! ### calls -/
/-- f(..): the written arguments, then the defaults dvs; E: what is wanted of an exception -/
def tCall (sp : Sp) (dvs : List V) (E : XK) (t : TA) : TE := fun σ H Q => t σ H fun vs H1 => sp (vs ++ dvs) H1 Q E
/-- o.m(..) of an instance of the class at C -/
def tMeth (C : Addr) (m : Str) (sp : Sp) (dvs : List V) (E : XK) (ta : TE) (t : TA) : TE := fun σ H Q => ta σ H fun x H1 => ∃ a dx fs, x = .ref a ∧ H1 a = some (.ins C dx fs) ∧ fs.lookup m = none ∧
  t σ H1 fun vs H2 => sp (x :: (vs ++ dvs)) H2 Q E
/-- C(..): a new instance and its dict, then __init__ -/
def tMake (C : Addr) (sp : Sp) (dvs : List V) (E : XK) (t : TA) : TE := fun σ H Q => t σ H fun vs H1 => ∀ x dx, H1 x = none → H1 dx = none → dx ≠ x →
  sp (.ref x :: (vs ++ dvs)) (upd (upd H1 dx (.own x)) x (.ins C dx [])) (fun v H2 => v = .non ∧ Q (.ref x) H2) E

/-- how the parameters are bound: us the positional arguments, kw the keywords' values by name, ds the defaults that fill up -/
def Binds (K : PySem.W.Frag) (fd : FuncData) (ps : List Str) (ds : List Value) : Prop :=
  ∀ (s : Shared) (us : List Value), K.In s.heap → (us ++ ds).length = ps.length → BindsTo s fd ⟨us, []⟩ (ps.zip (us ++ ds))
/-- every parameter is given -/
theorem Binds.all {K : PySem.W.Frag} {fd : FuncData} {ps : List Str} (h : ∀ us : List Value, us.length = ps.length → bindArgs fd ⟨us, []⟩ = pure (ps.zip us)) : Binds K fd ps [] := fun s us _ hl => by
  rw [List.append_nil] at hl ⊢
  exact .of_eq (h us hl)

/-- an exception of a callee reaches what this body wants of exceptions -/
def Passes (CX : CXT) (X : Cx) (E : XK) : Prop := ∀ (pins : List (Addr × Obj)) (σ : St) (H : Hp) (s : Shared) (e : Value) (s' : Shared), Inv X pins σ H s → CX X.stack H s E e s' → X.xe e s'

section
variable {X : Cx} {CX : CXT} {k : Nat} {f C : Addr} {fd : FuncData} {ps : List Str} {sp : Sp} {dvs : List V} {ds : List Value} {E : XK} {x m : Str} {p pos apos : Pos} {e o : Expr} {es : List Expr} {ta : TE} {t : TA}

/-- the callee runs -/
theorem run_fn {pins : List (Addr × Obj)} {σ : St} {H : Hp} {s : Shared} {Q : VK} {us : List Value} {vs : List V} (F : FnOk X.prog X.w X.K X.mg X.base CX k f fd ps sp) (hr : Room k X.A) (hb : Binds X.K fd ps ds) (hd : Vals dvs ds) (hx : Passes CX X E)
    (I : Inv X pins σ H s) (r : Vals vs us) (h : sp (vs ++ dvs) H Q E) : wpAny (model X.prog X.w) X.A (call (.ref f) us) (EP X pins σ Q) X.xe s := by
  have r2 : Vals (vs ++ dvs) (us ++ ds) := r.append hd
  have hl : (us ++ ds).length = ps.length := by rw [← r2.length]; exact F.len _ _ _ _ h
  refine wpAny_call (codeAny_mono (F.run X.A X.stack s H ⟨us, []⟩ (us ++ ds) (vs ++ dvs) Q E hr I.env0 (hb s us I.kIn hl) r2 h) fun r s' hq => ?_)
  cases r with
  | error e => exact hx pins σ H s e s' I hq
  | ok fl =>
    cases fl with
    | ret u => exact I.after hq
    | next => exact False.elim hq
    | brk => exact False.elim hq
    | cont => exact False.elim hq

theorem pe_call (F : FnOk X.prog X.w X.K X.mg X.base CX k f fd ps sp) (hr : Room k X.A) (hg : Gl X x) (hm : X.mg x = some (.ref f)) (hk : PySem.W.keepIn X.K (.ref f) = true) (hb : Binds X.K fd ps ds) (hd : Vals dvs ds) (hx : Passes CX X E)
    (ha : PA X (e :: es) t) (hdb : (x == ("__debug__" : Str)) = false := by decide) (he : starEach (e :: es) X.env = (false, eval e X.env) :: starEach es X.env := by rfl) (hpl : (backTo pos (starEach es X.env)).any (·.1) = false := by rfl) :
    PE X (.Call (.Name x p) (e :: es) [] pos) (tCall sp dvs E t) := by
  unfold PE at *; unfold PA at *
  exact by
    intro pins s σ H Q I h
    refine wpAny_Call_Name_kw (ld_glob I hg hm ?_ hdb)
    refine PySem.W.callWith_K (h₀ := X.base) I.ok.mod.kin hk (thn (ha pos pins s σ H _ I h) fun us s1 ⟨vs, H1, I1, r, q⟩ => ⟨I1.kIn, ?_⟩) he hpl
    exact run_fn F hr hb hd hx I1 r q

theorem pe_call0 (F : FnOk X.prog X.w X.K X.mg X.base CX k f fd ps sp) (hr : Room k X.A) (hg : Gl X x) (hm : X.mg x = some (.ref f)) (hk : PySem.W.keepIn X.K (.ref f) = true) (hb : Binds X.K fd ps ds) (hd : Vals dvs ds) (hx : Passes CX X E)
    (hdb : (x == ("__debug__" : Str)) = false := by decide) : PE X (.Call (.Name x p) [] [] pos) (tCall sp dvs E tNil) := by
  unfold PE at *
  exact by
    intro pins s σ H Q I h
    refine wpAny_Call_Name_kw (ld_glob I hg hm ?_ hdb)
    exact PySem.W.callWith_K0 I.kIn hk (run_fn (us := []) F hr hb hd hx I .nil h)

/-- o.m(e, ..) -/
theorem pe_meth {pl : Sem Bool} (he : PE X o ta) (c : Cls X.K C) (hm : Meth X.K C m f) (F : FnOk X.prog X.w X.K X.mg X.base CX k f fd ps sp) (hr : Room k X.A) (hb : Binds X.K fd ps ds) (hd : Vals dvs ds) (hx : Passes CX X E) (ha : PA X (e :: es) t)
    (hst : starEach (e :: es) X.env = (false, eval e X.env) :: starEach es X.env := by rfl) (hpl : (backTo pos (starEach es X.env)).any (·.1) = false := by rfl)
    (ht : eval (.Call (.Attribute o m apos) (e :: es) [] pos) X.env = (do
      let ov ← eval o X.env
      standAt apos.atName
      let (f, first) ← holding [ov] (getMethod ov m pl)
      callWith pos f first (backTo pos (starEach (e :: es) X.env)) (backToKw pos (keywordEach [] X.env))) := by rfl) :
    PE X (.Call (.Attribute o m apos) (e :: es) [] pos) (tMeth C m sp dvs E ta t) := by
  unfold PE at *; unfold PA at *
  exact by
    intro pins s σ H Q I h
    refine PySem.W.methodCall_KW (pl := pl) (thn (he pins s σ H _ I h) fun u s1 ⟨x, H1, I1, rx, a, dx, fs, ex, ea, l, q⟩ => ?_) ht
    subst ex
    obtain rfl : u = Value.ref a := rx
    refine getmeth_ok I1 ea c hm l ?_
    refine PySem.W.callWith_K (first := [.ref a]) (h₀ := X.base) I.ok.mod.kin hm.kp (thn (ha pos pins s1 σ H1 _ I1 q) fun us s2 ⟨vs, H2, I2, r, q2⟩ => ⟨I2.kIn, ?_⟩) hst hpl
    exact run_fn (us := .ref a :: us) (vs := .ref a :: vs) F hr hb hd hx I2 (.cons rfl r) q2

/-- o.m() -/
theorem pe_meth0 {pl : Sem Bool} (he : PE X o ta) (c : Cls X.K C) (hm : Meth X.K C m f) (F : FnOk X.prog X.w X.K X.mg X.base CX k f fd ps sp) (hr : Room k X.A) (hb : Binds X.K fd ps ds) (hd : Vals dvs ds) (hx : Passes CX X E)
    (ht : eval (.Call (.Attribute o m apos) [] [] pos) X.env = (do
      let ov ← eval o X.env
      standAt apos.atName
      let (f, first) ← holding [ov] (getMethod ov m pl)
      callWith pos f first (backTo pos (starEach [] X.env)) (backToKw pos (keywordEach [] X.env))) := by rfl) :
    PE X (.Call (.Attribute o m apos) [] [] pos) (tMeth C m sp dvs E ta tNil) := by
  unfold PE at *
  exact by
    intro pins s σ H Q I h
    refine PySem.W.methodCall_KW (pl := pl) (thn (he pins s σ H _ I h) fun u s1 ⟨x, H1, I1, rx, a, dx, fs, ex, ea, l, q⟩ => ?_) ht
    subst ex
    obtain rfl : u = Value.ref a := rx
    refine getmeth_ok I1 ea c hm l ?_
    exact PySem.W.callWith_K0 (first := [.ref a]) I1.kIn hm.kp (run_fn (us := [.ref a]) (vs := [.ref a]) F hr hb hd hx I1 (.cons rfl .nil) q)

/-- what a class must have to be made -/
structure Mk (K : PySem.W.Frag) (C f : Addr) : Prop where
  makes : PySem.W.makesIn K C = true
  init : PySem.W.findIn K (.ref C) "__init__" = some (some (.ref f))
  fn : PySem.W.isFn K (.ref f) = true
  kp : PySem.W.keepIn K (.ref C) = true

theorem run_make {pins : List (Addr × Obj)} {σ : St} {H : Hp} {s : Shared} {Q : VK} {us : List Value} {vs : List V} (M : Mk X.K C f) (F : FnOk X.prog X.w X.K X.mg X.base CX k f fd ps sp) (hr : Room (k + 1) X.A) (hb : Binds X.K fd ps ds) (hd : Vals dvs ds)
    (hx : Passes CX X E) (I : Inv X pins σ H s) (r : Vals vs us)
    (h : ∀ x dx, H x = none → H dx = none → dx ≠ x → sp (.ref x :: (vs ++ dvs)) (upd (upd H dx (.own x)) x (.ins C dx [])) (fun v H2 => v = .non ∧ Q (.ref x) H2) E) :
    wpAny (model X.prog X.w) X.A (call (.ref C) us) (EP X pins σ Q) X.xe s := by
  have hq := h (s.heap.objs.size + 1) s.heap.objs.size (I.hok.fresh (Nat.le_succ _)) (I.hok.fresh (Nat.le_refl _)) (Nat.ne_of_lt (Nat.lt_succ_self _))
  have I2 := Inv.made (C := C) I
  have r2 : Vals (V.ref (s.heap.objs.size + 1) :: (vs ++ dvs)) (Value.ref (s.heap.objs.size + 1) :: (us ++ ds)) := .cons rfl (r.append hd)
  have hl : (Value.ref (s.heap.objs.size + 1) :: us ++ ds).length = ps.length := by
    have e := r2.length
    rw [F.len _ _ _ _ hq] at e
    exact e.symm
  refine wpAny_call (make_map (f := f) I.kIn M.makes M.init (beq_iff_eq.mp M.fn) (codeAny_mono (F.run _ X.stack _ _ ⟨Value.ref (s.heap.objs.size + 1) :: us, []⟩ (Value.ref (s.heap.objs.size + 1) :: (us ++ ds)) _ _ E (hr.make C us [])
    (I2.env0.make C us []) (hb _ (Value.ref (s.heap.objs.size + 1) :: us) I2.kIn hl) r2 hq) fun r s' hq' => ?_))
  cases r with
  | error e => exact hx pins σ _ _ e s' I2 hq'
  | ok fl =>
    cases fl with
    | ret u =>
      obtain ⟨v, H', I3, rv, ev, q3⟩ := I2.after hq'
      subst ev
      exact ⟨rv, ⟨V.ref (s.heap.objs.size + 1), H', I3, rfl, q3⟩⟩
    | next => exact False.elim hq'
    | brk => exact False.elim hq'
    | cont => exact False.elim hq'
theorem pe_make (M : Mk X.K C f) (F : FnOk X.prog X.w X.K X.mg X.base CX k f fd ps sp) (hr : Room (k + 1) X.A) (hg : Gl X x) (hm : X.mg x = some (.ref C)) (hb : Binds X.K fd ps ds) (hd : Vals dvs ds) (hx : Passes CX X E)
    (ha : PA X (e :: es) t) (hdb : (x == ("__debug__" : Str)) = false := by decide) (he : starEach (e :: es) X.env = (false, eval e X.env) :: starEach es X.env := by rfl) (hpl : (backTo pos (starEach es X.env)).any (·.1) = false := by rfl) :
    PE X (.Call (.Name x p) (e :: es) [] pos) (tMake C sp dvs E t) := by
  unfold PE at *; unfold PA at *
  exact by
    intro pins s σ H Q I h
    refine wpAny_Call_Name_kw (ld_glob I hg hm ?_ hdb)
    refine PySem.W.callWith_K (h₀ := X.base) I.ok.mod.kin M.kp (thn (ha pos pins s σ H _ I h) fun us s1 ⟨vs, H1, I1, r, q⟩ => ⟨I1.kIn, ?_⟩) he hpl
    exact run_make M F hr hb hd hx I1 r q

theorem pe_make0 (M : Mk X.K C f) (F : FnOk X.prog X.w X.K X.mg X.base CX k f fd ps sp) (hr : Room (k + 1) X.A) (hg : Gl X x) (hm : X.mg x = some (.ref C)) (hb : Binds X.K fd ps ds) (hd : Vals dvs ds) (hx : Passes CX X E)
    (hdb : (x == ("__debug__" : Str)) = false := by decide) : PE X (.Call (.Name x p) [] [] pos) (tMake C sp dvs E tNil) := by
  unfold PE at *
  exact by
    intro pins s σ H Q I h
    refine wpAny_Call_Name_kw (ld_glob I hg hm ?_ hdb)
    exact PySem.W.callWith_K0 I.kIn M.kp (run_make (us := []) M F hr hb hd hx I .nil h)

end

/-! ### keywords -/
/-- the values of the keywords, from the left -/
@[irreducible] def PK (X : Cx) (kws : List Keyword) (t : TA) : Prop :=
  ∀ (pos : Pos) (pins : List (Addr × Obj)) (s : Shared) (σ : St) (H : Hp) (Q : List V → Hp → Prop), Inv X pins σ H s → t σ H Q → wpAny (model X.prog X.w) X.A (evalAll ((backToKw pos (keywordEach kws X.env)).map (·.2))) (AP X pins σ Q) X.xe s
section
variable {X : Cx} {CX : CXT} {k : Nat} {f C : Addr} {fd : FuncData} {ps ks : List Str} {sp : Sp} {E : XK} {x m : Str} {p pos apos kpos : Pos} {e o : Expr} {es : List Expr} {kws : List Keyword} {te ta : TE} {t tk : TA} {nm : Option Str}
theorem pk_nil : PK X [] tNil := by
  first
  | exact (fun _ _ _ _ H Q I h => wpAny_evalAll_nil ⟨[], H, I, .nil, h⟩)
  | (unfold PK at *; exact (fun _ _ _ _ H Q I h => wpAny_evalAll_nil ⟨[], H, I, .nil, h⟩))

theorem pk_cons (ha : PE X e te) (hr : PK X kws t) : PK X (⟨nm, e, kpos⟩ :: kws) (tCons te t) := by
  unfold PE at *; unfold PK at *
  exact by
    intro pos pins s σ H Q I h
    show wpAny _ _ (evalAll ((do let v ← eval e X.env; standAt pos; pure v) :: (backToKw pos (keywordEach kws X.env)).map (·.2))) _ _ s
    refine wpAny_evalAll_cons (wpAny_bind (thn (ha pins s σ H _ I h) fun u s1 ⟨x, H1, I1, r1, q1⟩ => wpAny_bind (wpAny_standAt (wpAny_pure ?_))))
    exact thn (hr pos pins s1 σ H1 _ I1 q1) fun us s2 ⟨xs, H2, I2, r2, q2⟩ => ⟨x :: xs, H2, I2, .cons r1 r2, q2⟩

/-- how a call with keywords binds: g puts the positional values us and the keywords' values ws (names ks) in the parameters' order, defaults among them -/
structure KBinds (K : PySem.W.Frag) (fd : FuncData) (ps ks : List Str) (g : List Value → List Value → List Value) (gV : List V → List V → List V) : Prop where
  to : ∀ (s : Shared) (us ws : List Value), K.In s.heap → (g us ws).length = ps.length → BindsTo s fd ⟨us, ks.zip ws⟩ (ps.zip (g us ws))
  rel : ∀ {vs : List V} {us : List Value} {zs : List V} {ws : List Value}, Vals vs us → Vals zs ws → Vals (gV vs zs) (g us ws)
def tCallK (sp : Sp) (gV : List V → List V → List V) (E : XK) (t tk : TA) : TE := fun σ H Q => t σ H fun vs H1 => tk σ H1 fun zs H2 => sp (gV vs zs) H2 Q E
variable {g : List Value → List Value → List Value} {gV : List V → List V → List V}
theorem run_fnk {pins : List (Addr × Obj)} {σ : St} {H : Hp} {s : Shared} {Q : VK} {us ws : List Value} {vs zs : List V} (F : FnOk X.prog X.w X.K X.mg X.base CX k f fd ps sp) (hr : Room k X.A) (hb : KBinds X.K fd ps ks g gV) (hx : Passes CX X E)
    (I : Inv X pins σ H s) (r : Vals vs us) (rz : Vals zs ws) (h : sp (gV vs zs) H Q E) : wpAny (model X.prog X.w) X.A (call (.ref f) us (ks.zip ws)) (EP X pins σ Q) X.xe s := by
  have r2 := hb.rel r rz
  have hl : (g us ws).length = ps.length := by rw [← r2.length]; exact F.len _ _ _ _ h
  refine wpAny_call (codeAny_mono (F.run X.A X.stack s H ⟨us, ks.zip ws⟩ (g us ws) (gV vs zs) Q E hr I.env0 (hb.to s us ws I.kIn hl) r2 h) fun r s' hq => ?_)
  cases r with
  | error e => exact hx pins σ H s e s' I hq
  | ok fl =>
    cases fl with
    | ret u => exact I.after hq
    | next => exact False.elim hq
    | brk => exact False.elim hq
    | cont => exact False.elim hq
/-- f(e, .., k = v, ..) -/
theorem pe_callK (F : FnOk X.prog X.w X.K X.mg X.base CX k f fd ps sp) (hr : Room k X.A) (hg : Gl X x) (hm : X.mg x = some (.ref f)) (hk : PySem.W.keepIn X.K (.ref f) = true) (hb : KBinds X.K fd ps ks g gV) (hx : Passes CX X E)
    (ha : PA X (e :: es) t) (hkw : PK X kws tk) (hall : (backToKw pos (keywordEach kws X.env)).all (·.1.isSome) = true := by rfl) (hks : (backToKw pos (keywordEach kws X.env)).filterMap (·.1) = ks := by rfl)
    (hdb : (x == ("__debug__" : Str)) = false := by decide) (he : starEach (e :: es) X.env = (false, eval e X.env) :: starEach es X.env := by rfl)
    (hpl : ((backTo pos (starEach (e :: es) X.env)).any (·.1) || (backToKw pos (keywordEach kws X.env)).any (·.1.isNone)) = false := by rfl) :
    PE X (.Call (.Name x p) (e :: es) kws pos) (tCallK sp gV E t tk) := by
  unfold PE at *; unfold PA at *; unfold PK at *
  exact by
    intro pins s σ H Q I h
    refine wpAny_Call_Name_kw (ld_glob I hg hm ?_ hdb)
    refine PySem.W.callWith_KW (h₀ := X.base) I.ok.mod.kin hk hall (thn (ha pos pins s σ H _ I h) fun us s1 ⟨vs, H1, I1, r, q⟩ => ?_) hpl he
    refine thn (hkw pos pins s1 σ H1 _ I1 q) fun ws s2 ⟨zs, H2, I2, rz, q2⟩ => ⟨I2.kIn, ?_⟩
    rw [hks]
    exact run_fnk F hr hb hx I2 r rz q2

end

/-! ### a def's body keeps its promise -/
/-- names: the parameters first -/
structure FnScope (N P : List Str) (sc : Scope) : Prop where
  kind : sc.kind = .function
  co : sc.isCoroutine = false
  gen : sc.isGenerator = false
  nd : N.Nodup
  pre : N.take P.length = P
  par : ∀ x ∈ P, sc.names.lookup x = some .local ∨ sc.names.lookup x = some .cell
  nofree : ∀ y ∈ sc.names, y.2 ≠ .free

theorem bindL_out {kindOf : Str → Option NameKind} {x : Str} : ∀ {binds : List (Str × Value)} {m : Str → Option Value}, (∀ v, (x, v) ∉ binds) → bindL kindOf binds m x = m x
  | [], _, _ => rfl
  | (n, v) :: r, m, h => by
    unfold bindL
    rw [bindL_out fun w hw => h w (List.mem_cons_of_mem _ hw)]
    split
    · have : x ≠ n := by rintro rfl; exact h v List.mem_cons_self
      simp [this]
    · rfl
theorem bindC_out {kindOf : Str → Option NameKind} {x : Str} : ∀ {binds : List (Str × Value)} {m : Str → Option Value}, (∀ v, (x, v) ∉ binds) → bindC kindOf binds m x = m x
  | [], _, _ => rfl
  | (n, v) :: r, m, h => by
    unfold bindC
    rw [bindC_out fun w hw => h w (List.mem_cons_of_mem _ hw)]
    split
    · rfl
    · have : x ≠ n := by rintro rfl; exact h v List.mem_cons_self
      simp [this]
theorem bindL_get {kindOf : Str → Option NameKind} {x : Str} {v : Value} : ∀ {P : List Str} {vs : List Value} {i : Nat} {m : Str → Option Value}, P.Nodup → P[i]? = some x → vs[i]? = some v → kindOf x = some .local →
    bindL kindOf (P.zip vs) m x = some v
  | [], _, _, _, _, h, _, _ => by simp at h
  | _ :: _, [], _, _, _, _, h, _ => by simp at h
  | p :: P, w :: vs, 0, m, nd, h1, h2, hk => by
    simp at h1 h2; subst h1; subst h2
    show bindL kindOf ((p, w) :: P.zip vs) m p = _
    unfold bindL
    rw [bindL_out fun v hv => (List.nodup_cons.mp nd).1 (List.of_mem_zip hv).1, if_pos hk]
    simp
  | p :: P, w :: vs, i + 1, m, nd, h1, h2, hk => by
    show bindL kindOf ((p, w) :: P.zip vs) m x = _
    unfold bindL
    exact bindL_get (i := i) (List.nodup_cons.mp nd).2 (by simpa using h1) (by simpa using h2) hk
theorem bindC_get {kindOf : Str → Option NameKind} {x : Str} {v : Value} : ∀ {P : List Str} {vs : List Value} {i : Nat} {m : Str → Option Value}, P.Nodup → P[i]? = some x → vs[i]? = some v → kindOf x ≠ some .local →
    bindC kindOf (P.zip vs) m x = some v
  | [], _, _, _, _, h, _, _ => by simp at h
  | _ :: _, [], _, _, _, _, h, _ => by simp at h
  | p :: P, w :: vs, 0, m, nd, h1, h2, hk => by
    simp at h1 h2; subst h1; subst h2
    show bindC kindOf ((p, w) :: P.zip vs) m p = _
    unfold bindC
    rw [bindC_out fun v hv => (List.nodup_cons.mp nd).1 (List.of_mem_zip hv).1, if_neg hk]
    simp
  | p :: P, w :: vs, i + 1, m, nd, h1, h2, hk => by
    show bindC kindOf ((p, w) :: P.zip vs) m x = _
    unfold bindC
    exact bindC_get (i := i) (List.nodup_cons.mp nd).2 (by simpa using h1) (by simpa using h2) hk

/-- the names' values at the entry -/
def start (N : List Str) (vs : List V) : St := vs.map some ++ List.replicate (N.length - vs.length) none

/-- the context of a def's body, at its entry; an exception leaves the frame, then lies as CX says -/
def cxOf (CX : CXT) (P : Program) (w : World) (K : PySem.W.Frag) (mg : Str → Option Value) (base : Heap) (N : List Str) (qual : Str) (scope : Scope) (f : Addr) (cd : Value) (A : Around) (outer : List Env) (s : Shared) (H : Hp) (E : XK) : Cx where
  prog := P
  w := w
  K := K
  mg := mg
  base := base
  A := A.deeper (envOfC qual scope s.heap.objs.size f cd)
  N := N
  s₀ := s
  H₀ := H
  env := envOfC qual scope s.heap.objs.size f cd
  outer := outer
  stack := envOfC qual scope s.heap.objs.size f cd :: outer
  ex := []
  calm := true
  fn := fun _ => true
  pn := []
  xe := fun e s' => wpAny (model P w) (A.deeper (envOfC qual scope s.heap.objs.size f cd)) (leaving (envOfC qual scope s.heap.objs.size f cd) e) (fun _ s'' => CX outer H s E e s'') (fun e' s'' => CX outer H s E e' s'') s'

theorem cell_has {sc : Scope} {n : Nat} {x : Str} (h : sc.names.lookup x = some .cell) : ∃ c, (cellsFrom n sc.names []).lookup x = some c := by
  have q := PySem.W.cellsFrom_some sc.names n [] (.inl h)
  exact Option.isSome_iff_exists.mp q

theorem inv_start {CX : CXT} {P : Program} {w : World} {K : PySem.W.Frag} {mg : Str → Option Value} {base : Heap} {N ps : List Str} {qual : Str} {scope : Scope} {f : Addr} {cd : Value} {A : Around} {outer : List Env} {s s1 : Shared} {H : Hp} {E : XK} {us : List Value} {vs : List V}
    (S : FnScope N ps scope) (hd : A.handled = none) (e0 : Env0 P w K mg base A outer s H) (hl : vs.length = ps.length) (r : Vals vs us)
    (x : InCallC s s.heap.objs.size (bindL (envOfC qual scope s.heap.objs.size f cd).kindOf (ps.zip us) fun _ => none) (cellsFrom (s.heap.objs.size + 1) scope.names []) (bindC (envOfC qual scope s.heap.objs.size f cd).kindOf (ps.zip us) fun _ => none) s1) :
    Inv (cxOf CX P w K mg base N qual scope f cd A outer s H E) [] (start N vs) H s1 := by
  have hpl : ps.length ≤ N.length := by have := congrArg List.length S.pre; rw [List.length_take] at this; omega
  obtain ⟨h1, tk, rfl, hk⟩ := x.done
  have noA : ∀ b : Addr, b ∉ (cxOf CX P w K mg base N qual scope f cd A outer s H E).ex := fun b z => absurd (show b ∈ ([] : List Addr) from z) (by simp)
  refine ⟨⟨e0.mod, S.kind, rfl, rfl, Nat.le_refl _, fun y z c h1 h2 => ?_, fun y hy => ?_, fun y c _ h => ?_, fun _ => hd, Around.frames_deeper e0.frames, .inr ⟨rfl, rfl⟩, fun b z => absurd z (noA b), e0.bs, e0.bsz, fun b _ _ => noA b, fun b z => absurd z (noA b), e0.funs, e0.frf⟩,
    rfl, e0.bare, Un.kept hk, ⟨_, x.toInCall.ns, fun i y v h1 h2 h3 => ?_⟩, fun y c h => ⟨_, x.cell y c h⟩, e0.hok.fresh (Nat.le_refl _), fun y c h => ?_, fun p hp => absurd (show p ∈ ([] : List (Addr × Obj)) from hp) (by simp), e0.hok.kept hk, ?_⟩
  · exact name_of_addr x.apart (PySem.mem_of_lookup h1) (PySem.mem_of_lookup h2)
  · have hy : scope.names.lookup y = some .cell ∨ scope.names.lookup y = some .free := hy
    rcases hy with hy | hy
    · exact cell_has hy
    · exact absurd rfl (S.nofree _ (PySem.mem_of_lookup hy))
  · exact Nat.le_of_lt (x.above y c (PySem.mem_of_lookup h))
  · have hi : i < vs.length := by
      unfold start at h2
      by_cases hi : i < vs.length
      · exact hi
      · rw [List.getElem?_append_right (by simpa using hi)] at h2
        rw [List.getElem?_replicate] at h2
        split at h2 <;> cases h2
    have ha : vs[i]? = some v := by
      unfold start at h2
      rw [List.getElem?_append_left (by simpa using hi), List.getElem?_map] at h2
      cases e : vs[i]? with
      | none => rw [e] at h2; cases h2
      | some a => rw [e] at h2; cases h2; rfl
    obtain ⟨u, hu, rv⟩ := r.get ha
    have hp : ps[i]? = some y := by
      rw [← S.pre, List.getElem?_take_of_lt (by omega)]; exact h1
    have ndP : ps.Nodup := by rw [← S.pre]; exact S.nd.sublist (List.take_sublist _ _)
    refine ⟨u, rv, ?_⟩
    rcases S.par y (List.mem_of_getElem? hp) with k | k
    · exact .inl ⟨k, bindL_get ndP hp hu k⟩
    · obtain ⟨c, e⟩ := cell_has (n := s.heap.objs.size + 1) k
      refine .inr ⟨.inl k, c, e, ?_⟩
      have q := x.cell y c e
      rw [bindC_get ndP hp hu (by show scope.names.lookup y ≠ _; rw [k]; decide)] at q
      exact q
  · exact e0.hok.fresh (Nat.le_of_lt (x.above y c (PySem.mem_of_lookup h)))
  · unfold start
    show _ = N.length
    rw [List.length_append, List.length_map, List.length_replicate]
    omega

/-- THE RULE: a def (or a method) of the text, by its body. The body's reading t is chosen for each entry; it is run at the parameters' values -/
theorem fn_of {CX : CXT} {P : Program} {w : World} {K : PySem.W.Frag} {mg : Str → Option Value} {base : Heap} {k : Nat} {f : Addr} {name qual : Str} {params : Arguments} {body : List Stmt} {scope : Scope} {dV kV doc pm cdv ct oc : Value} {an od : Option Addr}
    {osl : Array (Option Value)} {N ps : List Str} {sp : Sp} (lk : K.lookup f = some ⟨oc, od, .func (PySem.W.fnOf name qual params body scope dV kV doc pm an cdv ct), osl⟩) (hcd : PySem.W.codeIn K cdv qual = true) (S : FnScope N ps scope)
    (len : ∀ vs H Q E, sp vs H Q E → vs.length = ps.length)
    (hbody : ∀ (A : Around) (outer : List Env) (s : Shared) (H : Hp) (vs : List V) (Q : VK) (E : XK), Room k (A.deeper (envOfC qual scope s.heap.objs.size f cdv)) → sp vs H Q E →
      ∃ t, PSs (cxOf CX P w K mg base N qual scope f cdv A outer s H E) body t ∧ t { nx := fun _ H' => Q .non H', rt := Q } (start N vs) H) :
    FnOk P w K mg base CX (k + 1) f (PySem.W.fnOf name qual params body scope dV kV doc pm an cdv ct) ps sp := by
  unfold PSs at *
  exact by
    refine ⟨len, fun A outer s H args us vs Q E hr e0 hb r hsp => ?_⟩
    have hl := len _ _ _ _ hsp
    have KX : K.In s.heap := e0.mod.kin.keeps fun b o e => (e0.bs b o e).1
    have lim : s.heap.NoLimit := e0.mod.nolimit.keeps fun b o e => (e0.bs b o e).1
    have hkind : ∀ y ∈ ps.zip us, scope.names.lookup y.1 = some .local ∨ (scope.names.lookup y.1 = some .cell ∧ ((cellsFrom (s.heap.objs.size + 1) scope.names []).lookup y.1).isSome = true) := fun ⟨n, v⟩ hy => by
      rcases S.par n (List.of_mem_zip hy).1 with q | q
      · exact .inl q
      · exact .inr ⟨q, PySem.W.cellsFrom_some _ _ _ (.inl q)⟩
    refine codeAny_call_function hr.depth (KX _ _ lk) rfl S.co S.gen rfl (PySem.W.codeRec_of KX hcd) (hb _ _ _ _ ?_)
    refine wpAny_newFunctionEnv_cells S.kind hkind fun env he s1 x => ?_
    subst he
    refine ⟨lim.keeps x.toInCall.keep, codeAny_func ?_⟩
    obtain ⟨t, ht, hq⟩ := hbody A outer s H vs Q E (hr.deeper _) hsp
    have I : Inv (cxOf CX P w K mg base N qual scope f cdv A outer s H E) [] (start N vs) H s1 := inv_start S hr.hd e0 hl r x
    refine wpAny_mono (ht [] s1 (start N vs) H _ I hq) (fun fl s' hs => ?_) fun e s' hs => hs
    have fin : ∀ {σ' : St} {H' : Hp} {v : V} {u : Value}, Inv (cxOf CX P w K mg base N qual scope f cdv A outer s H E) [] σ' H' s' → RelV v u → Q v H' → CE outer P w H s Q u s' :=
      fun {σ' H' v u} J rv q => ⟨v, H', J.os, J.bare, J.base, J.hok, rv, q⟩
    cases fl with
    | ret u =>
      obtain ⟨v, σ', H', J, rv, q⟩ := hs
      exact fin J rv q
    | next =>
      obtain ⟨σ', H', J, q⟩ := hs
      exact fin (v := V.non) (u := Value.none) J rfl q
    | brk =>
      obtain ⟨_, _, _, q⟩ := hs
      exact False.elim q
    | cont =>
      obtain ⟨_, _, _, q⟩ := hs
      exact False.elim q

end L2

namespace L2
open PySem PySem.Spec PyProof.Rows
section
variable {X : Cx} {x : Str} {p pos : Pos} {e : Expr} {es : List Expr} {t : TA} {id T : String} {r : List V → Hp → VK → Prop}

def tCB (r : List V → Hp → VK → Prop) (t : TA) : TE := fun σ H Q => t σ H fun vs H1 => r vs H1 Q
/-- f(e, ..), f a built-in function -/
theorem pe_callB (hc : CallR X (.builtin id) r) (hg : Gl X x) (hm : X.mg x = none) (hv : bootBuiltins x = some (.builtin id)) (ha : PA X (e :: es) t) (hn : x ≠ "__name__" := by decide) (hdb : (x == ("__debug__" : Str)) = false := by decide)
    (he : starEach (e :: es) X.env = (false, eval e X.env) :: starEach es X.env := by rfl) (hpl : (backTo pos (starEach es X.env)).any (·.1) = false := by rfl) : PE X (.Call (.Name x p) (e :: es) [] pos) (tCB r t) := by
  unfold PE at *; unfold PA at *; unfold CallR at *
  exact by
    intro pins s σ H Q I h
    refine wpAny_Call_Name_kw (ld_blt I hg hm hv ?_ hn hdb)
    exact PyProof.Rows.callWith_builtin1 (thn (ha pos pins s σ H _ I h) fun us s1 ⟨vs, H1, I1, r1, q1⟩ => hc pins s1 σ H1 vs us Q I1 r1 q1) he hpl

/-- T(e, ..), T a built-in type -/
theorem pe_callTy (hc : CallR X (.type T) r) (hg : Gl X x) (hm : X.mg x = none) (hv : bootBuiltins x = some (.type T)) (ha : PA X (e :: es) t) (hn : x ≠ "__name__" := by decide) (hdb : (x == ("__debug__" : Str)) = false := by decide)
    (he : starEach (e :: es) X.env = (false, eval e X.env) :: starEach es X.env := by rfl) (hpl : (backTo pos (starEach es X.env)).any (·.1) = false := by rfl) : PE X (.Call (.Name x p) (e :: es) [] pos) (tCB r t) := by
  unfold PE at *; unfold PA at *; unfold CallR at *
  exact by
    intro pins s σ H Q I h
    refine wpAny_Call_Name_kw (ld_blt I hg hm hv ?_ hn hdb)
    exact PyProof.Rows.callWith_type1 (thn (ha pos pins s σ H _ I h) fun us s1 ⟨vs, H1, I1, r1, q1⟩ => hc pins s1 σ H1 vs us Q I1 r1 q1) he hpl

/-- T() -/
theorem pe_callTy0 (hc : CallR X (.type T) r) (hg : Gl X x) (hm : X.mg x = none) (hv : bootBuiltins x = some (.type T)) (hn : x ≠ "__name__" := by decide) (hdb : (x == ("__debug__" : Str)) = false := by decide) :
    PE X (.Call (.Name x p) [] [] pos) (tCB r tNil) := by
  unfold PE at *; unfold CallR at *
  exact by
    intro pins s σ H Q I h
    refine wpAny_Call_Name_kw (ld_blt I hg hm hv ?_ hn hdb)
    exact PyProof.Rows.callWith_type0 (hc pins s σ H [] [] Q I .nil h)

end
end L2

namespace HT
open PySem PyProof.Rows

/-- t < u of tuples of ints -/
def lexLt : List Int → List Int → Bool
  | [], [] => false
  | [], _ :: _ => true
  | _ :: _, [] => false
  | x :: xs, y :: ys => if x = y then lexLt xs ys else decide (x < y)
theorem lexLt_cons (x y : Int) (xs ys : List Int) : lexLt (x :: xs) (y :: ys) = if x = y then lexLt xs ys else decide (x < y) := rfl
theorem lexLt_nil_nil : lexLt [] [] = false := rfl
theorem lexLt_nil_cons (y : Int) (ys : List Int) : lexLt [] (y :: ys) = true := rfl
theorem lexLt_cons_nil (x : Int) (xs : List Int) : lexLt (x :: xs) [] = false := rfl

theorem eqAt_int (A : Around) (s : Shared) (a : Int) (t : Tok) (c : Int) (u : Tok) : ∃ e, SeqAt.EqAt A s (.int a t) (.int c u) e ∧ (e = true ↔ a = c) :=
  ⟨(a == c), SeqAt.EqAt.int_int a t c u, by simp⟩
theorem rcLt_int (A : Around) (s : Shared) (a : Int) (t : Tok) (c : Int) (u : Tok) (prog : Program) (w : World) (E : Value → Shared → Prop) (Q : Value → Shared → Prop) (h : Q (.bool (decide (a < c))) s) :
    wpAny (model prog w) A (richCompare .Lt (.int a t) (.int c u)) Q E s :=
  (PyProof.Rows.lt_int h : wpAny (model prog w) A (compareOp .Lt (.int a t) (.int c u)) Q E s)

section
open PySem.SeqAt
open PySem.AutoSeq1 (wpAny_loadPart')
open PySem.MeetsSeq PySem.MeetsSeq2 PySem.MeetsSeq3

theorem tuple_lt_ints (l b : Addr) (items items2 : Array Value) (n n2 : Nat) (dd dd2 : Option Addr) (sl sl2 : Array (Option Value)) (ns ms : List Int) (hi : IntsAre items.toList ns) (hj : IntsAre items2.toList ms) :
    Meets (Builtin.«tuple.__lt__» ⟨[.ref l, .ref b], []⟩)
      (fun _ R s => s.heap.get? l = some { cls := .type "tuple", dict := dd, data := .seq items n, slots := sl } ∧ s.heap.get? b = some { cls := .type "tuple", dict := dd2, data := .seq items2 n2, slots := sl2 } ∧
        R (.ok (.ret (.bool (lexLt ns ms)))) s) :=
  .of_wp fun prog w A R s h => by
    obtain ⟨hp, g, d, tk, os⟩ := s; obtain ⟨hl, hb, h⟩ := h
    have f2 := AutoSeq1.sub_tuple_tuple
    have z1 : items.size = ns.length := by rw [← hi.length]; simp
    have z2 : items2.size = ms.length := by rw [← hj.length]; simp
    wp_walk using wpAny_loadPart' hl, wpAny_loadPart' hb, wpAny_forIn_list _ (fun rest b s' => b.1 = none ∧ s' = ⟨hp, g, d, tk, os⟩ ∧ ∃ (vs ws : List Value) (ns' ms' : List Int), rest = vs.zip ws ∧
      IntsAre vs ns' ∧ IntsAre ws ms' ∧ ns'.length + items2.size = ms'.length + items.size ∧ R (.ok (.ret (.bool (lexLt ns' ms')))) ⟨hp, g, d, tk, os⟩) _
    case turn =>
      rintro ⟨y, x⟩ rest b s' ⟨hb', rfl, vs, ws, ns', ms', hz, hvi, hwi, hlen, hR⟩
      cases hvi with
      | nil => rw [List.zip_nil_left] at hz; cases hz
      | cons a t hvi' =>
        cases hwi with
        | nil => rw [List.zip_nil_right] at hz; cases hz
        | cons c u hwi' =>
          rw [List.zip_cons_cons] at hz
          injection hz with hyx hrest
          injection hyx with hy hx
          subst hy hx
          rw [lexLt_cons] at hR
          simp only [List.length_cons] at hlen
          obtain ⟨e, he, hiff⟩ := eqAt_int A.in1 ⟨hp, g, d, tk, os⟩ a t c u
          refine wpAny_bind (he prog w _ _ ?_)
          cases e with
          | true =>
            rw [if_pos (hiff.mp rfl)] at hR
            wp_walk
            exact ⟨rfl, rfl, _, _, _, _, hrest, hvi', hwi', by omega, hR⟩
          | false =>
            rw [if_neg (fun q => absurd (hiff.mpr q) Bool.false_ne_true)] at hR
            have hri := rcLt_int A.in1 ⟨hp, g, d, tk, os⟩ a t c u prog w
            wp_walk using hri
            exact ⟨_, rfl, by simpa using hR⟩
    case fin =>
      rintro ⟨b1, b2⟩ s' ⟨hb', rfl, vs, ws, ns', ms', hz, hvi, hwi, hlen, hR⟩
      simp only at hb'
      subst hb'
      have hv : lexLt ns' ms' = decide (items.size < items2.size) := by
        cases hvi with
        | nil =>
          cases hwi with
          | nil =>
            simp only [List.length_nil] at hlen
            rw [lexLt_nil_nil]
            exact (decide_eq_false (by omega)).symm
          | cons c u hw =>
            simp only [List.length_nil, List.length_cons] at hlen
            rw [lexLt_nil_cons]
            exact (decide_eq_true (by omega)).symm
        | cons a t hv =>
          cases hwi with
          | nil =>
            simp only [List.length_nil, List.length_cons] at hlen
            rw [lexLt_cons_nil]
            exact (decide_eq_false (by omega)).symm
          | cons c u hw =>
            rw [List.zip_cons_cons] at hz
            cases hz
      rw [hv] at hR
      wp_walk
      exact ⟨_, rfl, by simpa [Builtin.Tuple.tupleCompareSizes] using hR⟩
    case h =>
      exact ⟨rfl, rfl, items.toList, items2.toList, ns, ms, rfl, hi, hj, by omega, h⟩
end

section
variable {prog : Program} {w : World} {A : Around} {E : Value → Shared → Prop} {s : Shared}

theorem lt_tupInts {l b : Addr} {items items2 : Array Value} {ns ms : List Int} {Q : Value → Shared → Prop} (hl : IsTup s.heap l items) (hb : IsTup s.heap b items2) (hi : IntsAre items.toList ns) (hj : IntsAre items2.toList ms)
    (hu : A.units < cLine) (h : Q (.bool (lexLt ns ms)) s) : wpAny (model prog w) A (compareOp .Lt (.ref l) (.ref b)) Q E s := by
  obtain ⟨⟨cls, dd, data, sl⟩, ho, hc, n, hd⟩ := id hl
  obtain ⟨⟨cls2, dd2, data2, sl2⟩, ho2, hc2, n2, hd2⟩ := id hb
  simp only at hc hd hc2 hd2
  subst hc hd hc2 hd2
  exact richCompare_meets_room (op := .Lt) ⟨_, ho, rfl⟩ ⟨_, ho2, rfl⟩ PySem.F.slot_tuple_lt PySem.F.entry_tuple_lt (PySem.F.args_tuple_lt_2 _ _) (tuple_lt_ints l b items items2 n n2 dd dd2 sl sl2 ns ms hi hj)
    ⟨ho, ho2, show Value.bool (lexLt ns ms) ≠ Value.notImplemented ∧ Q (.bool (lexLt ns ms)) s from ⟨(fun x => nomatch x), h⟩⟩ hu

/-- t + u, t not empty -/
theorem cat_tup {t b : Addr} {vs ws : List Value} {Q : Value → Shared → Prop} (ht : IsTup s.heap t vs.toArray) (hb : IsTup s.heap b ws.toArray) (hv : vs ≠ [])
    (h1 : ws = [] → Q (.ref t) s) (h2 : ws ≠ [] → Q (.ref s.heap.objs.size) { s with heap := s.heap.push { cls := .type "tuple", data := .seq (vs ++ ws).toArray } })
    (hsz : vs.length + ws.length ≤ sizeLine) : wpAny (model prog w) A (binaryOp .Add (.ref t) (.ref b)) Q E s := by
  obtain ⟨⟨cls, dd, data, sl⟩, ho, hc, n, hd⟩ := id ht
  obtain ⟨⟨cls2, dd2, data2, sl2⟩, ho2, hc2, n2, hd2⟩ := id hb
  simp only at hc hd hc2 hd2
  subst hc hd hc2 hd2
  have e : vs.toArray ++ ws.toArray = (vs ++ ws).toArray := by simp
  by_cases hw : ws = []
  · exact concat_meets ⟨_, ho, rfl⟩ ⟨_, ho2, rfl⟩ noFill_tuple_add seq_tuple_add PySem.F.slot_tuple_add PySem.F.entry_tuple_add (PySem.F.args_tuple_add_2 _ _)
      (tuple_addW1 t b vs.toArray ws.toArray n n2 dd dd2 sl sl2 (by simpa using hv) (by simp [hw])) ⟨ho, ho2, h1 hw⟩
  · refine concat_meets ⟨_, ho, rfl⟩ ⟨_, ho2, rfl⟩ noFill_tuple_add seq_tuple_add PySem.F.slot_tuple_add PySem.F.entry_tuple_add (PySem.F.args_tuple_add_2 _ _)
      (tuple_addW2 t b vs.toArray ws.toArray n n2 dd dd2 sl sl2 (by simpa using hv) (by simpa using hw) (by rw [List.size_toArray, List.size_toArray]; exact hsz)) ⟨ho, ho2, ?_⟩
    rw [e]
    exact h2 hw

/-! ### t[a:b], not the whole -/
/-- a slice's bound as a place among n (d where it is left out) -/
def sIx (n d : Nat) : Option Int → Nat
  | none => d
  | some v => if v < 0 then (v + (n : Int)).toNat else min v.toNat n
theorem sIx_none (n d : Nat) : sIx n d none = d := rfl
theorem sIx_nat (n d k : Nat) : sIx n d (some (k : Int)) = min k n := by
  show (if (k : Int) < 0 then ((k : Int) + (n : Int)).toNat else min (k : Int).toNat n) = min k n
  rw [if_neg (by omega), Int.toNat_natCast]
theorem sIx_le (n d : Nat) (hd : d ≤ n) (o : Option Int) : sIx n d o ≤ n := by
  cases o with
  | none => exact hd
  | some v =>
    show (if v < 0 then (v + (n : Int)).toNat else min v.toNat n) ≤ n
    by_cases hv : v < 0
    · rw [if_pos hv]; omega
    · rw [if_neg hv]; exact Nat.min_le_right _ _
theorem clip_eq (v : Int) (n d : Nat) : (if v < 0 then max (v + (n : Int)) 0 else min v (n : Int)) = ((sIx n d (some v) : Nat) : Int) := by
  show (if v < 0 then max (v + (n : Int)) 0 else min v (n : Int)) = (((if v < 0 then (v + (n : Int)).toNat else min v.toNat n) : Nat) : Int)
  by_cases hv : v < 0
  · simp only [if_pos hv]; omega
  · simp only [if_neg hv]; omega
theorem adjust_gen (lo hi : Option Int) (n : Nat) : Builtin.Slice.sliceAdjust lo hi 1 (n : Int) = (((sIx n 0 lo : Nat) : Int), ((sIx n n hi : Nat) : Int)) := by
  have h1 : ¬ ((1 : Int) < 0) := by omega
  unfold Builtin.Slice.sliceAdjust
  simp only [h1, if_false]
  refine Prod.ext ?_ ?_
  · cases lo with
    | none => rfl
    | some v => exact clip_eq v n 0
  · cases hi with
    | none => rfl
    | some v => exact clip_eq v n n
theorem places_gen (i j : Nat) : Builtin.Slice.slicePlaces (i : Int) (j : Int) 1 = j - i := by
  unfold Builtin.Slice.slicePlaces
  have h1 : (1 : Int) > 0 := by omega
  simp only [h1, if_true, Int.ediv_one]
  split <;> omega
theorem slicePart_ {v : Value} {o : Option Int} {Q : Option Int → Shared → Prop} (p : IsPart v o) (h : Q o s) : wpAny (model prog w) A (Builtin.Slice.slicePartIndex v) Q E s := by
  cases p with
  | none => exact slicePart_none h
  | int i t => exact slicePart_int h
theorem sliceApplied_gen {sl : Addr} {vl vu : Value} {lo hi : Option Int} {n : Nat} {Q : Int × Int × Nat → Shared → Prop} (hs : s.heap.IsSliceOf sl vl vu .none) (pl : IsPart vl lo) (pu : IsPart vu hi)
    (h : Q (((sIx n 0 lo : Nat) : Int), 1, sIx n n hi - sIx n 0 lo) s) : wpAny (model prog w) A (Builtin.Slice.sliceApplied (.ref sl) (pure (n : Int))) Q E s := by
  obtain ⟨os, hos, hcs, hds⟩ := id hs
  unfold Builtin.Slice.sliceApplied Builtin.Slice.sliceFields
  refine wpAny_bind (wpAny_bind (wpAny_field hos hds (x := vl) rfl (wpAny_bind (wpAny_field hos hds (x := vu) rfl (wpAny_bind (wpAny_field hos hds (x := .none) rfl (wpAny_pure ?_)))))))
  refine wpAny_bind (slicePart_none ?_)
  show wpAny _ _ (if ((1 : Int) == 0) = true then _ else _) _ _ s
  rw [if_neg (by decide)]
  refine wpAny_bind (slicePart_ pl (wpAny_bind (slicePart_ pu (wpAny_bind (wpAny_pure ?_)))))
  show wpAny _ _ (match Builtin.Slice.sliceAdjust lo hi 1 (n : Int) with | (lo, hi) => pure (lo, (1 : Int), Builtin.Slice.slicePlaces lo hi 1)) _ _ s
  rw [adjust_gen lo hi n]
  show wpAny _ _ (pure (((sIx n 0 lo : Nat) : Int), (1 : Int), Builtin.Slice.slicePlaces ((sIx n 0 lo : Nat) : Int) ((sIx n n hi : Nat) : Int) 1)) _ _ s
  rw [places_gen]
  exact wpAny_pure h
theorem pick_gen (xs : Array Value) (i k : Nat) : ((List.range k).filterMap fun (m : Nat) => xs[((i : Int) + (m : Int) * 1).toNat]?).toArray = ((xs.toList.drop i).take k).toArray := by
  have e : (fun (m : Nat) => xs[((i : Int) + (m : Int) * 1).toNat]?) = fun m => xs[i + m]? := by
    funext m
    have : ((i : Int) + (m : Int) * 1).toNat = i + m := by omega
    rw [this]
  rw [e]
  have := pick_run xs i k
  rw [List.filterMap_map] at this
  have e2 : ((fun x => xs[x]?) ∘ fun x => i + x) = fun m => xs[i + m]? := rfl
  rw [e2] at this
  rw [this]

theorem getItem_tuple_cut {t sl : Addr} {items : Array Value} {vl vu : Value} {lo hi : Option Int} {Q : Value → Shared → Prop} (ht : IsTup s.heap t items) (hs : s.heap.IsSliceOf sl vl vu .none) (pl : IsPart vl lo) (pu : IsPart vu hi)
    (hw : ¬ (sIx items.size 0 lo = 0 ∧ sIx items.size items.size hi = items.size))
    (h : Q (.ref s.heap.objs.size) { s with heap := s.heap.push { cls := .type "tuple", data := .seq ((items.toList.drop (sIx items.size 0 lo)).take (sIx items.size items.size hi - sIx items.size 0 lo)).toArray } })
    (hsz : items.size ≤ sizeLine) : wpAny (model prog w) A (getItem (.ref t) (.ref sl)) Q E s := by
  have htake : sizeOk (.seq ((items.toList.drop (sIx items.size 0 lo)).take (sIx items.size items.size hi - sIx items.size 0 lo)).toArray) := by
    show ((items.toList.drop (sIx items.size 0 lo)).take (sIx items.size items.size hi - sIx items.size 0 lo)).toArray.size ≤ sizeLine
    rw [List.size_toArray, List.length_take, List.length_drop, Array.length_toList]
    omega
  have hj : sIx items.size items.size hi ≤ items.size := sIx_le _ _ (Nat.le_refl _) hi
  obtain ⟨os, hos, hcs, hds⟩ := id hs
  have hTs : s.TypeIs (.ref sl) "slice" := ⟨os, hos, hcs⟩
  unfold getItem
  try with_reducible refine wpAny_holding ?_
  first | refine wpAny_bind (wpAny_pure ?_) | skip
  refine wpAny_bind (wpAny_sequenceKey ht.typeIs (by decide) ?_)
  refine wpAny_bind (wpAny_callSpecial?_slot (name := Str.ofString "__getitem__") ht.typeIs PyProof.Rows.slot_tuple_getitem
    (wpAny_call_entry PyProof.Rows.slot_tuple_getitem ht.typeIs entry_tuple_getitem ?_ (args_tuple_getitem _ _)))
  show wpAny _ _ (Builtin.Tuple.tupleItemsOf (.ref t) >>= _) _ _ s
  refine wpAny_bind (tupleItemsOf_ ht ?_)
  refine wpAny_bind (wpAny_typeOf hTs ?_)
  rw [if_pos (by decide)]
  refine wpAny_bind (sliceApplied_gen hs pl pu ?_)
  have hno : ¬ ((((sIx items.size 0 lo : Nat) : Int) == 0 && (1 : Int) == 1 && (sIx items.size items.size hi - sIx items.size 0 lo) == items.size) = true) := by
    intro q
    rw [Bool.and_eq_true, Bool.and_eq_true] at q
    have q1 : ((sIx items.size 0 lo : Nat) : Int) = 0 := eq_of_beq q.1.1
    have q2 : sIx items.size items.size hi - sIx items.size 0 lo = items.size := eq_of_beq q.2
    exact hw ⟨by omega, by omega⟩
  show wpAny _ _ (if (((sIx items.size 0 lo : Nat) : Int) == 0 && (1 : Int) == 1 && (sIx items.size items.size hi - sIx items.size 0 lo) == items.size) = true then _ else _) _ _ s
  rw [if_neg hno, pick_gen]
  first
    | exact wpAny_bind (m := Builtin.Tuple.tupleExact _) (wpAny_newObj_type (wpAny_pure ⟨_, rfl, wpAny_pure h⟩) htake)
    | exact wpAny_bind (m := Builtin.Tuple.tupleExact _) (wpAny_newObj_type (wpAny_bind (wpAny_pure (wpAny_pure ⟨_, rfl, wpAny_pure h⟩))) htake)
    | exact wpAny_bind (wpAny_bind (m := Builtin.Tuple.tupleExact _) (wpAny_newObj_type (wpAny_pure (wpAny_pure ⟨_, rfl, wpAny_pure h⟩)) htake))
    | exact wpAny_bind (wpAny_bind (m := Builtin.Tuple.tupleExact _) (wpAny_newObj_type (wpAny_pure ⟨_, rfl, wpAny_pure h⟩) htake))
end
end HT

namespace L2
open PySem PySem.Spec PyProof.Rows

/-! ### the parts of a slice -/
abbrev TO := St → Hp → (Option Int → Hp → Prop) → Prop
/-- a slice's part (left out, or an int) -/
@[irreducible] def PO (X : Cx) (e : Option Expr) (t : TO) : Prop :=
  ∀ (pins : List (Addr × Obj)) (s : Shared) (σ : St) (H : Hp) (Q : Option Int → Hp → Prop), Inv X pins σ H s → t σ H Q →
    wpAny (model X.prog X.w) X.A (evalPart e X.env) (fun u s' => ∃ o H', Inv X pins σ H' s' ∧ IsPart u o ∧ Q o H') X.xe s
def tNoPart : TO := fun _ H Q => Q none H
def tPart (t : TE) : TO := fun σ H Q => t σ H fun x H1 => ∃ i, x = .int i ∧ Q (some i) H1

theorem intsAre_of {ns : List Int} : ∀ {us : List Value}, Vals (ns.map V.int) us → IntsAre us ns := by
  induction ns with
  | nil => intro us r; rw [List.map_nil] at r; cases r; exact .nil
  | cons n ns ih =>
    intro us r
    rw [List.map_cons] at r
    cases r with
    | cons r1 r2 =>
      obtain ⟨t, e⟩ := r1
      subst e
      exact .cons n t (ih r2)

section
variable {X : Cx} {e : Expr} {te : TE} {lo hi : Option Expr} {tl th : TO} {pos p2 : Pos}

theorem po_none : PO X none tNoPart := by
  unfold PO at *
  exact by
    intro pins s σ H Q I h
    rw [evalPart_none]
    exact wpAny_pure ⟨none, H, I, .none, h⟩

theorem po_some (h : PE X e te) : PO X (some e) (tPart te) := by
  unfold PE at *; unfold PO at *
  exact by
    intro pins s σ H Q I hw
    rw [evalPart_some]
    refine thn (h pins s σ H _ I hw) fun u s1 ⟨x, H1, I1, r1, q1⟩ => ?_
    obtain ⟨i, rfl, q⟩ := q1
    obtain ⟨t, rfl⟩ := r1
    exact ⟨some i, H1, I1, .int i t, q⟩

/-- what a slice of a value is, by values: the slice object stands at sl -/
@[irreducible] def SlR (X : Cx) (r : V → Option Int → Option Int → Hp → VK → Prop) : Prop :=
  ∀ (pins : List (Addr × Obj)) (s : Shared) (σ : St) (H : Hp) (x : V) (v vl vu : Value) (lo hi : Option Int) (sl : Addr) (Q : VK), Inv X pins σ H s → RelV x v → s.heap.IsSliceOf sl vl vu .none → IsPart vl lo → IsPart vu hi → r x lo hi H Q →
    ∃ T id, typeLookup (.type T) "__getitem__" = pure (some (.builtin id)) ∧ s.TypeIs v T ∧ wpAny (model X.prog X.w) X.A (getItem v (.ref sl)) (EP X pins σ Q) X.xe s
theorem SlR.or {r r' : V → Option Int → Option Int → Hp → VK → Prop} (h : SlR X r) (h' : SlR X r') : SlR X (fun x lo hi H Q => r x lo hi H Q ∨ r' x lo hi H Q) := by
  unfold SlR at *
  exact by
    intro pins s σ H x v vl vu lo hi sl Q I rx hs pl pu q
    rcases q with q | q
    · exact h pins s σ H x v vl vu lo hi sl Q I rx hs pl pu q
    · exact h' pins s σ H x v vl vu lo hi sl Q I rx hs pl pu q

def tSl (r : V → Option Int → Option Int → Hp → VK → Prop) (te : TE) (tl th : TO) : TE := fun σ H Q => te σ H fun x H1 => tl σ H1 fun l H2 => th σ H2 fun u H3 => r x l u H3 Q
/-- a[lo:hi], any a -/
theorem pe_slice {r : V → Option Int → Option Int → Hp → VK → Prop} (hr : SlR X r) (he : PE X e te) (hl : PO X lo tl) (hu : PO X hi th) : PE X (.Subscript e (.Slice lo hi none p2) pos) (tSl r te tl th) := by
  unfold PE at *; unfold PO at *; unfold SlR at *
  exact by
    intro pins s σ H Q I h
    refine Subscript_ (thn (he pins s σ H _ I h) fun v s1 ⟨x, H1, I1, r1, q1⟩ => ?_)
    refine wpAny_Slice (thn (hl pins s1 σ H1 _ I1 q1) fun vl s2 ⟨l, H2, I2, pl, q2⟩ => thn (hu pins s2 σ H2 _ I2 q2) fun vu s3 ⟨u, H3, I3, pu, q3⟩ => ?_)
    rw [evalPart_none]
    refine wpAny_pure ?_
    have I4 : Inv X pins σ H3 { s3 with heap := s3.heap.push { cls := .type "slice", data := .fields #[vl, vu, .none] } } := I3.kept (t' := s3.toks) fun b ob q => Heap.get?_push_of_some _ q
    obtain ⟨T, id, hT, ht, hg⟩ := hr pins { s3 with heap := s3.heap.push { cls := .type "slice", data := .fields #[vl, vu, .none] } } σ H3 x v vl vu l u s3.heap.objs.size Q I4 r1 (Heap.IsSliceOf.new ..) pl pu q3
    show wpAny (model X.prog X.w) X.A (subscriptTail e (.Slice lo hi none p2) v (.ref s3.heap.objs.size)) (EP X pins σ Q) X.xe { s3 with heap := s3.heap.push { cls := .type "slice", data := .fields #[vl, vu, .none] } }
    exact tail_any (ops := [.ref s3.heap.objs.size, v]) ht hT hg (by with_unfolding_all rfl)

/-- the items of xs[lo:hi] -/
def cutV (xs : List V) (lo hi : Option Int) : List V := (xs.drop (HT.sIx xs.length 0 lo)).take (HT.sIx xs.length xs.length hi - HT.sIx xs.length 0 lo)
theorem cutV_length (xs : List V) (lo hi : Option Int) : (cutV xs lo hi).length ≤ xs.length := by
  unfold cutV
  rw [List.length_take, List.length_drop]
  omega
/-- t[lo:hi], not the whole of it (the whole would be t itself) -/
def rSlT (K : PySem.W.Frag) : V → Option Int → Option Int → Hp → VK → Prop := fun x lo hi H Q => ∃ a xs, x = .ref a ∧ SqT K H a xs ∧
  ¬ (HT.sIx xs.length 0 lo = 0 ∧ HT.sIx xs.length xs.length hi = xs.length) ∧ ∀ p, H p = none → Q (.ref p) (upd H p (.tup (cutV xs lo hi)))
theorem sl_tup : SlR X (rSlT X.K) := by
  unfold SlR at *
  exact by
    intro pins s σ H x v vl vu lo hi sl Q I rx hs pl pu h
    obtain ⟨a, xs, rfl, hx, hw, q⟩ := h
    cases rx
    obtain ⟨its, r, ht, hz⟩ := I.tuple hx
    have hlen : its.toArray.size = xs.length := by rw [List.size_toArray]; exact r.length.symm
    refine ⟨"tuple", _, PyProof.Rows.slot_tuple_getitem.lookup, ht.typeIs, ?_⟩
    refine HT.getItem_tuple_cut ht hs pl pu (by rw [hlen]; exact hw) ?_ (by rw [hlen]; exact hz)
    rw [hlen]
    refine ⟨.ref s.heap.objs.size, _, I.laid (t' := s.toks) (o := .tup (cutV xs lo hi)) (fun b ob q => Heap.get?_push_of_some _ q) (Nat.le_refl _) ?_, rfl, q _ (I.hok.fresh (Nat.le_refl _))⟩
    exact ⟨Nat.le_trans (cutV_length xs lo hi) hz, _, (r.drop (HT.sIx xs.length 0 lo)).take (HT.sIx xs.length xs.length hi - HT.sIx xs.length 0 lo), IsTup.new _ _⟩

/-! ### t < u, t + u -/
def rLtT (K : PySem.W.Frag) : R2 := fun x y H Q => ∃ a b ns ms, x = .ref a ∧ y = .ref b ∧ SqT K H a (ns.map V.int) ∧ SqT K H b (ms.map V.int) ∧ Q (.bl (HT.lexLt ns ms)) H
theorem op_ltT (hu : X.A.units < cLine) : OpR X (compareOp .Lt) (rLtT X.K) := by
  unfold OpR at *
  exact by
    intro pins s σ H x y v u Q I rx ry h
    obtain ⟨a, b, ns, ms, rfl, rfl, ha, hb, q⟩ := h
    cases rx
    cases ry
    obtain ⟨its, r1, p1, _⟩ := I.tuple ha
    obtain ⟨its2, r2, p2, _⟩ := I.tuple hb
    have i1 : IntsAre its.toArray.toList ns := intsAre_of r1
    have i2 : IntsAre its2.toArray.toList ms := intsAre_of r2
    exact HT.lt_tupInts p1 p2 i1 i2 hu ⟨.bl (HT.lexLt ns ms), H, I, rfl, q⟩

/-- t + u, t not empty: u empty gives t itself -/
def rCatT (K : PySem.W.Frag) : R2 := fun x y H Q => ∃ a b xs ys, x = .ref a ∧ y = .ref b ∧ SqT K H a xs ∧ SqT K H b ys ∧ xs ≠ [] ∧ xs.length + ys.length ≤ sizeLine ∧
  (ys = [] → Q (.ref a) H) ∧ (ys ≠ [] → ∀ p, H p = none → Q (.ref p) (upd H p (.tup (xs ++ ys))))
theorem Vals.nil_iff {xs : List V} {us : List Value} (r : Vals xs us) : us = [] ↔ xs = [] := by
  cases r with
  | nil => simp
  | cons _ _ => simp
theorem op_catT : OpR X (binaryOp .Add) (rCatT X.K) := by
  unfold OpR at *
  exact by
    intro pins s σ H x y v u Q I rx ry h
    obtain ⟨a, b, xs, ys, rfl, rfl, ha, hb, hx, hz, q1, q2⟩ := h
    cases rx
    cases ry
    obtain ⟨its, r1, p1, _⟩ := I.tuple ha
    obtain ⟨its2, r2, p2, _⟩ := I.tuple hb
    refine HT.cat_tup p1 p2 (fun z => hx (r1.nil_iff.mp z)) (fun z => ⟨.ref a, H, I, rfl, q1 (r2.nil_iff.mp z)⟩) (fun z => ?_) (by rw [← r1.length, ← r2.length]; exact hz)
    refine ⟨.ref s.heap.objs.size, _, I.laid (t' := s.toks) (o := .tup (xs ++ ys)) (fun b ob q => Heap.get?_push_of_some _ q) (Nat.le_refl _) ?_, rfl, q2 (fun w => z (r2.nil_iff.mpr w)) _ (I.hok.fresh (Nat.le_refl _))⟩
    exact ⟨by rw [List.length_append]; exact hz, _, r1.append r2, IsTup.new _ _⟩

/-- tuple(t) -/
theorem call_tupleT : CallR X (.type "tuple") (fun xs H Q => ∃ a ys, xs = [.ref a] ∧ SqT X.K H a ys ∧ Q (.ref a) H) := by
  unfold CallR at *
  exact by
    intro pins s σ H xs us Q I r h
    obtain ⟨a, ys, rfl, ha, q⟩ := h
    obtain ⟨u, rfl, ru⟩ := vals1 r
    cases ru
    obtain ⟨its, _, p1, _⟩ := I.tuple ha
    exact call_tuple_same (items := its.toArray) p1 ⟨.ref a, H, I, rfl, q⟩

end
end L2

namespace L2
open PySem PySem.Spec PyProof.Rows

/-! ### places -/
/-- the place that an index of any sign means -/
def ixN (n : Nat) (i : Int) : Option Nat := if 0 ≤ i then (if i < n then some i.toNat else none) else if -(n : Int) ≤ i then some (i + n).toNat else none
def atI {α : Type} (xs : List α) (i : Int) : Option α := (ixN xs.length i).bind fun j => xs[j]?
theorem ixN_seq {n : Nat} {i : Int} {j : Nat} (h : ixN n i = some j) : seqIndex? i n = some j ∧ j < n ∧ -(n : Int) ≤ i ∧ i < n := by
  unfold ixN at h
  by_cases h0 : 0 ≤ i
  · rw [if_pos h0] at h
    by_cases h1 : i < n
    · rw [if_pos h1] at h
      have e : i.toNat = j := Option.some.inj h
      exact ⟨by rw [seqIndex_of h0 h1, e], by omega, by omega, h1⟩
    · rw [if_neg h1] at h; cases h
  · rw [if_neg h0] at h
    by_cases h1 : -(n : Int) ≤ i
    · rw [if_pos h1] at h
      have e : (i + n).toNat = j := Option.some.inj h
      exact ⟨by rw [seqIndex_neg (by omega) h1, e], by omega, h1, by omega⟩
    · rw [if_neg h1] at h; cases h
theorem atI_get {α : Type} {xs : List α} {i : Int} {v : α} (h : atI xs i = some v) : ∃ j, seqIndex? i xs.length = some j ∧ xs[j]? = some v ∧ j < xs.length ∧ -(xs.length : Int) ≤ i ∧ i < xs.length := by
  unfold atI at h
  cases e : ixN xs.length i with
  | none => rw [e] at h; cases h
  | some j =>
    rw [e] at h
    obtain ⟨h1, h2, h3, h4⟩ := ixN_seq e
    exact ⟨j, h1, h, h2, h3, h4⟩
theorem atI_nat {α : Type} {xs : List α} {j : Nat} {v : α} (h : xs[j]? = some v) : atI xs (j : Int) = some v := by
  have hj : j < xs.length := (List.getElem?_eq_some_iff.mp h).1
  have e : ixN xs.length (j : Int) = some j := by
    unfold ixN
    rw [if_pos (by omega), if_pos (by omega)]; simp
  unfold atI; rw [e]; exact h
theorem atI_last {α : Type} (xs : List α) (v : α) : atI (xs ++ [v]) (-1) = some v := by
  have hl : (xs ++ [v]).length = xs.length + 1 := by simp
  have e : ixN (xs ++ [v]).length (-1) = some xs.length := by
    unfold ixN
    rw [hl, if_neg (by decide), if_pos (by omega)]
    congr 1
    omega
  unfold atI
  rw [e]
  show (xs ++ [v])[xs.length]? = some v
  simp

/-! ### what may be subscripted -/
/-- what stands as an index of a plain subscript -/
def PlainIx (b : Expr) : Prop := ∀ o i, subscripted b false o i = operate [o, i] (getItem o i)
/-- a subscript by values -/
@[irreducible] def IxR (X : Cx) (r : R2) : Prop :=
  ∀ (value slice : Expr) (pins : List (Addr × Obj)) (s : Shared) (σ : St) (H : Hp) (x y : V) (v u : Value) (Q : VK), Inv X pins σ H s → RelV x v → RelV y u → r x y H Q →
    subscripted slice false v u = operate [v, u] (getItem v u) → wpAny (model X.prog X.w) X.A (subscriptTail value slice v u) (EP X pins σ Q) X.xe s
/-- a call of a builtin's method by values: the receiver, the arguments -/
@[irreducible] def MtR (X : Cx) (id : String) (r : V → List V → Hp → VK → Prop) : Prop :=
  ∀ (pins : List (Addr × Obj)) (s : Shared) (σ : St) (H : Hp) (x : V) (xs : List V) (v : Value) (us : List Value) (Q : VK), Inv X pins σ H s → RelV x v → Vals xs us → r x xs H Q →
    wpAny (model X.prog X.w) X.A (call (.builtin id) (v :: us)) (EP X pins σ Q) X.xe s
section
variable {X : Cx} {a b : Expr} {ta tb : TE} {pos : Pos}
theorem IxR.or {r r' : R2} (h : IxR X r) (h' : IxR X r') : IxR X (fun x y H Q => r x y H Q ∨ r' x y H Q) := by
  unfold IxR at *
  exact by
    intro value slice pins s σ H x y v u Q I rx ry q hs
    rcases q with q | q
    · exact h value slice pins s σ H x y v u Q I rx ry q hs
    · exact h' value slice pins s σ H x y v u Q I rx ry q hs

theorem MtR.or {id : String} {r r' : V → List V → Hp → VK → Prop} (h : MtR X id r) (h' : MtR X id r') : MtR X id (fun x xs H Q => r x xs H Q ∨ r' x xs H Q) := by
  unfold MtR at *
  exact by
    intro pins s σ H x xs v us Q I rx rs q
    rcases q with q | q
    · exact h pins s σ H x xs v us Q I rx rs q
    · exact h' pins s σ H x xs v us Q I rx rs q

/-- a[b] -/
theorem pe_ix {r : R2} (hr : IxR X r) (ha : PE X a ta) (hb : PE X b tb) (hs : PlainIx b) : PE X (.Subscript a b pos) (tOp r ta tb) := by
  unfold PE; unfold IxR at hr
  exact by
    intro pins s σ H Q I h
    exact Subscript_ (binT ha hb I h fun v u s2 x y H2 I2 rx ry q => hr a b pins s2 σ H2 x y v u Q I2 rx ry q (hs _ _))

def rIxL (K : PySem.W.Frag) : R2 := fun x y H Q => ∃ p xs i v, x = .ref p ∧ y = .int i ∧ SqL K H p xs ∧ atI xs i = some v ∧ Q v H
def rIxT (K : PySem.W.Frag) : R2 := fun x y H Q => ∃ p xs i v, x = .ref p ∧ y = .int i ∧ SqT K H p xs ∧ atI xs i = some v ∧ Q v H
def rIxS : R2 := fun x y H Q => ∃ z i c, x = .str z ∧ y = .int i ∧ z.length ≤ sizeLine ∧ atI z.cps.toList i = some c ∧ Q (.str ⟨#[c]⟩) H
theorem ix_list : IxR X (rIxL X.K) := by
  unfold IxR at *
  exact by
    intro value slice pins s σ H x y v u Q I rx ry h hs
    obtain ⟨p, xs, i, z, rfl, rfl, hq, he, q⟩ := h
    cases rx
    obtain ⟨t, rfl⟩ := ry
    obtain ⟨its, r, pl, hz⟩ := I.list hq
    obtain ⟨j, h1, h2, h3, h4, h5⟩ := atI_get he
    obtain ⟨w, ew, rw'⟩ := r.get h2
    have hl := r.length
    have hn := line63
    have fin : EP X pins σ Q w s := ⟨z, H, I, rw', q⟩
    by_cases h0 : 0 ≤ i
    · have hj : i.toNat = j := by
        rw [seqIndex_of h0 h5] at h1
        exact Option.some.inj h1
      exact item_listR pl.isList h0 (by omega) (by rw [hj]; simpa using ew) fin hs
    · have hj : (i + (its.toArray.size : Int)).toNat = j := by
        rw [seqIndex_neg (by omega) h4] at h1
        rw [List.size_toArray, ← hl]
        exact Option.some.inj h1
      exact subscriptTail_builtinR (x := w) pl.isList.typeIs slot_list_getitem.lookup
        (wpAny_getItem_list_neg (Q := fun r s' => r = w ∧ EP X pins σ Q r s') pl.isList (by omega) (by rw [List.size_toArray] <;> omega) (by omega) (by rw [hj]; simpa using ew) ⟨rfl, fin⟩) hs

theorem ix_tup : IxR X (rIxT X.K) := by
  unfold IxR at *
  exact by
    intro value slice pins s σ H x y v u Q I rx ry h hs
    obtain ⟨p, xs, i, z, rfl, rfl, hq, he, q⟩ := h
    cases rx
    obtain ⟨t, rfl⟩ := ry
    obtain ⟨its, r, pl, hz⟩ := I.tuple hq
    obtain ⟨j, h1, h2, h3, h4, h5⟩ := atI_get he
    obtain ⟨w, ew, rw'⟩ := r.get h2
    have hl := r.length
    have hn := line63
    have fin : EP X pins σ Q w s := ⟨z, H, I, rw', q⟩
    exact subscriptTail_builtinR (x := w) pl.typeIs slot_tuple_getitem.lookup
      (getItem_tuple (j := j) (Q := fun r s' => r = w ∧ EP X pins σ Q r s') pl (by omega) (by omega) (by rw [List.size_toArray, ← hl]; exact h1) (by simpa using ew) ⟨rfl, fin⟩) hs

theorem ix_str : IxR X rIxS := by
  unfold IxR at *
  exact by
    intro value slice pins s σ H x y v u Q I rx ry h hs
    obtain ⟨z, i, c, rfl, rfl, hz, he, q⟩ := h
    obtain ⟨t, rfl⟩ := rx
    obtain ⟨t', rfl⟩ := ry
    obtain ⟨j, h1, h2, h3, h4, h5⟩ := atI_get he
    have hl : z.cps.toList.length = z.length := by simp [Str.length]
    rw [hl] at h1 h4 h5
    have hn := line63
    exact tail_any (typeIs_str s z t) slot_str_getitem.lookup (getItem_str (c := c) (by
      have e1 : decide (i < -(2 ^ 63 : Int)) = false := decide_eq_false (by omega)
      have e2 : decide (i ≥ 2 ^ 63) = false := decide_eq_false (by omega)
      rw [e1, e2, Bool.or_false]) (by rw [h1]; simpa using h2) ⟨.str ⟨#[c]⟩, H, I.tok _, ⟨_, rfl⟩, q⟩) hs

/-- list, tuple or str -/
def rIx (K : PySem.W.Frag) : R2 := fun x y H Q => rIxL K x y H Q ∨ rIxT K x y H Q ∨ rIxS x y H Q
theorem ix_seq : IxR X (rIx X.K) := by
  first
  | exact (ix_list.or (ix_tup.or ix_str))
  | (unfold IxR at *; exact (ix_list.or (ix_tup.or ix_str)))

/-! ### xs[i] = v, any sign -/
/-- the list's object behind a store -/
theorem mapSeq_set (its : List Value) (n j : Nat) (u : Value) : Obj.mapSeq (·.setIfInBounds j u) { cls := .type "list", data := .seq its.toArray n } = { cls := .type "list", data := .seq (its.set j u).toArray n } := by
  simp [Obj.mapSeq]
theorem Inv.lst {pins : List (Addr × Obj)} {σ : St} {H : Hp} {s : Shared} {p : Addr} {xs : List V} (I : Inv X pins σ H s) (h : H p = some (.lst xs)) :
    ∃ (its : List Value) (n : Nat), Vals xs its ∧ s.heap.get? p = some { cls := .type "list", data := .seq its.toArray n } ∧ xs.length ≤ sizeLine := by
  obtain ⟨z, its, n, r, e⟩ := I.hok p _ h
  exact ⟨its, n, r, e, z⟩
/-- the list at p is written by an update of its object -/
theorem Inv.lstUpd {pins : List (Addr × Obj)} {σ : St} {H : Hp} {s : Shared} {p : Addr} {xs ys : List V} {its its' : List Value} {n n' : Nat} {f : Obj → Obj} (I : Inv X pins σ H s) (h : H p = some (.lst xs))
    (ho : s.heap.get? p = some { cls := .type "list", data := .seq its.toArray n }) (hf : f { cls := .type "list", data := .seq its.toArray n } = { cls := .type "list", data := .seq its'.toArray n' }) (r : Vals ys its') (hz : ys.length ≤ sizeLine) (t : Nat) :
    Inv X pins σ (upd H p (.lst ys)) { s with heap := s.heap.update p f, toks := t } := by
  have e : (s.heap.update p f).get? p = some { cls := .type "list", data := .seq its'.toArray n' } := by
    rw [Heap.get?_update_self f ho (by rw [hf] <;> rfl), hf]
  refine I.write (x := p) (e := p) (by rw [h]; trivial) (.inl rfl) (fun b u hb q => (Heap.get?_update_other _ _ (Ne.symm hb)).trans q) ⟨_, e⟩ ?_
  exact ⟨hz, its', n', r, e⟩
def rSetL : V → V → V → Hp → (Hp → Prop) → Prop := fun o i v H Q => ∃ p xs k j, o = .ref p ∧ i = .int k ∧ H p = some (.lst xs) ∧ ixN xs.length k = some j ∧ Q (upd H p (.lst (xs.set j v)))
theorem set_list : PSet X rSetL := by
  unfold PSet at *
  exact by
    intro pins s σ H o i v ov iv u Q I ro ri rv h
    obtain ⟨p, xs, k, j, rfl, rfl, hp, hj, q⟩ := h
    cases ro
    obtain ⟨t, rfl⟩ := ri
    obtain ⟨its, n, r, ho, hz⟩ := I.lst hp
    obtain ⟨h1, h2, h3, h4⟩ := ixN_seq hj
    have hl := r.length
    have hn := line63
    have I' : Inv X pins σ (upd H p (.lst (xs.set j v))) { s with heap := s.heap.update p (Obj.mapSeq (·.setIfInBounds j u)) } :=
      I.lstUpd hp ho (mapSeq_set its n j u) (r.set rv j) (by rw [List.length_set]; exact hz) s.toks
    by_cases h0 : 0 ≤ k
    · have hk : k.toNat = j := by
        rw [seqIndex_of h0 h4] at h1
        exact Option.some.inj h1
      exact PySem.W.ki_setAt ho h0 (by omega) (by rw [List.size_toArray, ← hl]; exact h4) (by rw [hk]; exact ⟨_, I', q⟩)
    · have hk : (k + (its.toArray.size : Int)).toNat = j := by
        rw [seqIndex_neg (by omega) h3] at h1
        rw [List.size_toArray, ← hl]
        exact Option.some.inj h1
      exact PySem.W.ki_setBack ho (by omega) (by rw [List.size_toArray, ← hl]; exact h3) (by omega) (by rw [hk]; exact ⟨_, I', q⟩)

/-! ### slices -/
theorem slice_bounds (lo hi : Option Int) (n : Nat) : (sliceBounds lo hi none n).1 = ((HT.sIx n 0 lo : Nat) : Int) ∧ (sliceBounds lo hi none n).2.1 = ((HT.sIx n n hi : Nat) : Int) ∧ (sliceBounds lo hi none n).2.2 = 1 := by
  refine ⟨?_, ?_, rfl⟩
  · cases lo with
    | none => simp [sliceBounds, HT.sIx]
    | some i =>
      simp only [sliceBounds, HT.sIx, Option.getD_none, show (1 : Int) > 0 by decide, if_true]
      by_cases h : i < 0
      · simp only [h, if_true] <;> omega
      · simp only [h, if_false] <;> omega
  · cases hi with
    | none => simp [sliceBounds, HT.sIx]
    | some i =>
      simp only [sliceBounds, HT.sIx, Option.getD_none, show (1 : Int) > 0 by decide, if_true]
      by_cases h : i < 0
      · simp only [h, if_true] <;> omega
      · simp only [h, if_false] <;> omega
theorem slicePick_cut (its : List Value) (lo hi : Option Int) : slicePick its.toArray lo hi none = ((its.drop (HT.sIx its.length 0 lo)).take (HT.sIx its.length its.length hi - HT.sIx its.length 0 lo)).toArray := by
  obtain ⟨h1, h2, h3⟩ := slice_bounds lo hi its.toArray.size
  unfold slicePick
  rw [h1, h2, h3]
  simp only [sliceRange_one, pick_run, List.size_toArray] <;> rfl
/-- xs[lo:hi] of a list: a new list -/
def rSlL (K : PySem.W.Frag) : V → Option Int → Option Int → Hp → VK → Prop := fun x lo hi H Q => ∃ a xs, x = .ref a ∧ SqL K H a xs ∧ ∀ p, H p = none → Q (.ref p) (upd H p (.lst (cutV xs lo hi)))
theorem sl_list : SlR X (rSlL X.K) := by
  unfold SlR at *
  exact by
    intro pins s σ H x v vl vu lo hi sl Q I rx hs pl pu h
    obtain ⟨a, xs, rfl, hx, q⟩ := h
    cases rx
    obtain ⟨its, r, ht, hz⟩ := I.list hx
    have hlen := r.length
    refine ⟨"list", _, slot_list_getitem.lookup, ht.isList.typeIs, ?_⟩
    refine wpAny_getItem_list_slice ht.isList hs pl pu .none (by simp) ?_ (by rw [List.size_toArray] <;> omega)
    rw [slicePick_cut, ← hlen]
    refine ⟨.ref s.heap.objs.size, _, I.laid (t' := s.toks) (o := .lst (cutV xs lo hi)) (fun b ob q => Heap.get?_push_of_some _ q) (Nat.le_refl _) ?_, rfl, q _ (I.hok.fresh (Nat.le_refl _))⟩
    exact ⟨Nat.le_trans (cutV_length xs lo hi) hz, _, 0, (r.drop (HT.sIx xs.length 0 lo)).take (HT.sIx xs.length xs.length hi - HT.sIx xs.length 0 lo), Heap.get?_push_size _ rfl⟩

/-! ### in, not in: flat items -/
def flatV : V → Bool
  | .non => true
  | .bl _ => true
  | .int _ => true
  | .str _ => true
  | _ => false
/-- == of flat values -/
def eqV : V → V → Bool
  | .non, .non => true
  | .bl a, .bl b => a == b
  | .bl a, .int b => (if a then 1 else 0) == b
  | .int a, .bl b => a == (if b then 1 else 0)
  | .int a, .int b => a == b
  | .str a, .str b => a == b
  | _, _ => false
theorem eqAt_V {A : Around} {s : Shared} {y x : V} {u v : Value} (ry : RelV y u) (rx : RelV x v) (fy : flatV y = true) (fx : flatV x = true) : SeqAt.EqAt A s u v (eqV y x) := by
  cases y with
  | non =>
    cases ry
    cases x with
    | non => cases rx; exact SeqAt.EqAt.same _
    | bl b => cases rx; exact SeqAt.EqAt.none_bool b
    | int b => obtain ⟨t, rfl⟩ := rx; exact SeqAt.EqAt.none_int b t
    | str b => obtain ⟨t, rfl⟩ := rx; exact SeqAt.EqAt.none_str b t
    | _ => exact absurd (show false = true from fx) Bool.false_ne_true
  | bl a =>
    cases ry
    cases x with
    | non => cases rx; exact SeqAt.EqAt.bool_none a
    | bl b => cases rx; exact SeqAt.EqAt.bool_bool a b
    | int b => obtain ⟨t, rfl⟩ := rx; exact SeqAt.EqAt.bool_int a b t
    | str b => obtain ⟨t, rfl⟩ := rx; exact SeqAt.EqAt.bool_str a b t
    | _ => exact absurd (show false = true from fx) Bool.false_ne_true
  | int a =>
    obtain ⟨t', rfl⟩ := ry
    cases x with
    | non => cases rx; exact SeqAt.EqAt.int_none a t'
    | bl b => cases rx; exact SeqAt.EqAt.int_bool a t' b
    | int b => obtain ⟨t, rfl⟩ := rx; exact SeqAt.EqAt.int_int a t' b t
    | str b => obtain ⟨t, rfl⟩ := rx; exact SeqAt.EqAt.int_str a t' b t
    | _ => exact absurd (show false = true from fx) Bool.false_ne_true
  | str a =>
    obtain ⟨t', rfl⟩ := ry
    cases x with
    | non => cases rx; exact SeqAt.EqAt.str_none a t'
    | bl b => cases rx; exact SeqAt.EqAt.str_bool a t' b
    | int b => obtain ⟨t, rfl⟩ := rx; exact SeqAt.EqAt.str_int a t' b t
    | str b => obtain ⟨t, rfl⟩ := rx; exact SeqAt.EqAt.str_str a t' b t
    | _ => exact absurd (show false = true from fx) Bool.false_ne_true
  | _ => exact absurd (show false = true from fy) Bool.false_ne_true
/-- the items' answers, read off the values (a value's own answer does not lean on its token) -/
def eqU (x : V) (u : Value) : Bool := match u with
  | .none => eqV .non x
  | .bool b => eqV (.bl b) x
  | .int i _ => eqV (.int i) x
  | .str z _ => eqV (.str z) x
  | _ => false
theorem eqU_of {x y : V} {u : Value} (r : RelV y u) (f : flatV y = true) : eqU x u = eqV y x := by
  cases y with
  | non => cases r; rfl
  | bl b => cases r; rfl
  | int i => obtain ⟨t, rfl⟩ := r; rfl
  | str z => obtain ⟨t, rfl⟩ := r; rfl
  | _ => exact absurd (show false = true from f) Bool.false_ne_true
theorem any_eqU {x : V} : ∀ {xs : List V} {us : List Value}, Vals xs us → xs.all flatV = true → us.any (eqU x) = xs.any fun y => eqV y x
  | _, _, .nil, _ => rfl
  | y :: xs, u :: us, .cons r t, f => by
    rw [List.all_cons, Bool.and_eq_true] at f
    rw [List.any_cons, List.any_cons, eqU_of r f.1, any_eqU t f.2]
theorem mem_eqAt {A : Around} {s : Shared} {x : V} {v : Value} (rx : RelV x v) (fx : flatV x = true) : ∀ {xs : List V} {us : List Value}, Vals xs us → xs.all flatV = true → ∀ u ∈ us, SeqAt.EqAt A s u v (eqU x u)
  | _, _, .nil, _ => fun u hu => by cases hu
  | y :: xs, u :: us, .cons r t, f => fun u' hu => by
    rw [List.all_cons, Bool.and_eq_true] at f
    rcases List.mem_cons.mp hu with rfl | hu
    · rw [eqU_of r f.1]; exact eqAt_V r rx f.1 fx
    · exact mem_eqAt rx fx t f.2 u' hu
def inV (x : V) (xs : List V) : Bool := xs.any fun y => eqV y x
/-- x in a list or tuple of flat items -/
def rIn (K : PySem.W.Frag) (neg : Bool) : R2 := fun x y H Q => ∃ p xs, y = .ref p ∧ (SqL K H p xs ∨ SqT K H p xs) ∧ flatV x = true ∧ xs.all flatV = true ∧ Q (.bl (if neg then !inV x xs else inV x xs)) H
theorem op_in_seq : OpR X (compareOp .In) (rIn X.K false) := by
  unfold OpR at *
  exact by
    intro pins s σ H x y v u Q I rx ry h
    obtain ⟨p, xs, rfl, hq, fx, fs, q⟩ := h
    cases ry
    rcases hq with hq | hq
    · obtain ⟨its, r, pl, hz⟩ := I.list hq
      refine SeqAt.in_listAt (eqU x) pl.isList (fun w hw => mem_eqAt rx fx r fs w (by simpa using hw)) ⟨.bl _, H, I, rfl, ?_⟩
      rw [show its.toArray.any (eqU x) = its.any (eqU x) by simp, any_eqU r fs]
      exact q
    · obtain ⟨its, r, pl, hz⟩ := I.tuple hq
      refine SeqAt.in_tupleAt (eqU x) pl (fun w hw => mem_eqAt rx fx r fs w (by simpa using hw)) ⟨.bl _, H, I, rfl, ?_⟩
      rw [show its.toArray.any (eqU x) = its.any (eqU x) by simp, any_eqU r fs]
      exact q

theorem op_notIn_seq : OpR X (compareOp .NotIn) (rIn X.K true) := by
  unfold OpR at *
  exact by
    intro pins s σ H x y v u Q I rx ry h
    obtain ⟨p, xs, rfl, hq, fx, fs, q⟩ := h
    cases ry
    rcases hq with hq | hq
    · obtain ⟨its, r, pl, hz⟩ := I.list hq
      refine SeqAt.notIn_listAt (eqU x) pl.isList (fun w hw => mem_eqAt rx fx r fs w (by simpa using hw)) ⟨.bl _, H, I, rfl, ?_⟩
      rw [show its.toArray.any (eqU x) = its.any (eqU x) by simp, any_eqU r fs]
      exact q
    · obtain ⟨its, r, pl, hz⟩ := I.tuple hq
      refine SeqAt.notIn_tupleAt (eqU x) pl (fun w hw => mem_eqAt rx fx r fs w (by simpa using hw)) ⟨.bl _, H, I, rfl, ?_⟩
      rw [show its.toArray.any (eqU x) = its.any (eqU x) by simp, any_eqU r fs]
      exact q

theorem op_notIn_str : OpR X (compareOp .NotIn) (fun x y H Q => ∃ i j, x = .str i ∧ y = .str j ∧ Q (.bl (!(!(Builtin.Str.occurrences j i 0 j.length 1).isEmpty))) H) := by
  unfold OpR at *
  exact by
    intro pins s σ H x y v u Q I rx ry h
    obtain ⟨i, j, rfl, rfl, q⟩ := h
    obtain ⟨t, rfl⟩ := rx
    obtain ⟨t', rfl⟩ := ry
    exact notIn_str ⟨.bl _, H, I, rfl, q⟩

/-! ### len, list(x), tuple(x) of any list or tuple that is read -/
theorem call_len_seq : CallR X (.builtin "len") (fun xs H Q => ∃ p ys, xs = [.ref p] ∧ (SqL X.K H p ys ∨ SqT X.K H p ys) ∧ Q (.int ys.length) H) := by
  unfold CallR at *
  exact by
    intro pins s σ H xs us Q I r h
    obtain ⟨p, ys, rfl, hq, q⟩ := h
    obtain ⟨u, rfl, rx⟩ := vals1 r
    cases rx
    have hn := line63
    rcases hq with hq | hq
    · obtain ⟨its, r', pl, hz⟩ := I.list hq
      have hlen := r'.length
      exact Calls.call_len_list pl.isList (by simp only [List.size_toArray] <;> omega) ⟨.int ys.length, H, I.tok _, ⟨s.toks + 1, by rw [List.size_toArray, hlen]⟩, q⟩
    · obtain ⟨its, r', pl, hz⟩ := I.tuple hq
      have hlen := r'.length
      exact len_tuple pl (by simp only [List.size_toArray] <;> omega) ⟨.int ys.length, H, I.tok _, ⟨s.toks + 1, by rw [List.size_toArray, hlen]⟩, q⟩

theorem call_len_str : CallR X (.builtin "len") (fun xs H Q => ∃ z, xs = [.str z] ∧ z.length ≤ sizeLine ∧ Q (.int z.length) H) := by
  unfold CallR at *
  exact by
    intro pins s σ H xs us Q I r h
    obtain ⟨z, rfl, hz, q⟩ := h
    obtain ⟨u, rfl, t, rfl⟩ := vals1 r
    have hn := line63
    exact len_str (by omega) ⟨.int z.length, H, I.tok _, ⟨_, rfl⟩, q⟩

theorem CallR.or {f : Value} {r r' : List V → Hp → VK → Prop} (h : CallR X f r) (h' : CallR X f r') : CallR X f (fun xs H Q => r xs H Q ∨ r' xs H Q) := by
  unfold CallR at *
  exact by
    intro pins s σ H xs us Q I rs q
    rcases q with q | q
    · exact h pins s σ H xs us Q I rs q
    · exact h' pins s σ H xs us Q I rs q

theorem call_list_of : CallR X (.type "list") (fun xs H Q => ∃ p ys, xs = [.ref p] ∧ (SqL X.K H p ys ∨ SqT X.K H p ys) ∧ ∀ l, H l = none → Q (.ref l) (upd H l (.lst ys))) := by
  unfold CallR at *
  exact by
    intro pins s σ H xs us Q I r h
    obtain ⟨p, ys, rfl, hq, q⟩ := h
    obtain ⟨u, rfl, rx⟩ := vals1 r
    cases rx
    have fin : ∀ (its : List Value), Vals ys its → ys.length ≤ sizeLine → ∀ (h' : Heap) (c' : Nat), (∀ b o', s.heap.get? b = some o' → h'.get? b = some o') →
        h'.get? s.heap.objs.size = some { cls := .type "list", dict := none, data := .seq its.toArray c', slots := #[] } → EP X pins σ Q (.ref s.heap.objs.size) { s with heap := h' } := fun its r' hz h' c' kp e =>
      ⟨.ref s.heap.objs.size, _, I.laid (t' := s.toks) kp (Nat.le_refl _) (show ObjOk X.prog X.w _ h' _ (.lst ys) from ⟨hz, its, c', r', e⟩), rfl, q _ (I.hok.fresh (Nat.le_refl _))⟩
    rcases hq with hq | hq
    · obtain ⟨its, r', pl, hz⟩ := I.list hq
      have hlen := r'.length
      obtain ⟨o, ho, hc, n, hd⟩ := pl.isList
      exact call_list_seq p (.inl rfl) ho hc hd (fun h' c' kp e => fin its r' hz h' c' kp e) (by simp only [List.size_toArray] <;> omega)
    · obtain ⟨its, r', pl, hz⟩ := I.tuple hq
      have hlen := r'.length
      obtain ⟨o, ho, hc, n, hd⟩ := pl
      exact call_list_seq p (.inr rfl) ho hc hd (fun h' c' kp e => fin its r' hz h' c' kp e) (by simp only [List.size_toArray] <;> omega)

theorem call_tuple_of : CallR X (.type "tuple") (fun xs H Q => ∃ p ys, xs = [.ref p] ∧ ((SqL X.K H p ys ∧ ∀ l, H l = none → Q (.ref l) (upd H l (.tup ys))) ∨ (SqT X.K H p ys ∧ Q (.ref p) H))) := by
  unfold CallR at *
  exact by
    intro pins s σ H xs us Q I r h
    obtain ⟨p, ys, rfl, h⟩ := h
    obtain ⟨u, rfl, rx⟩ := vals1 r
    cases rx
    rcases h with ⟨hq, q⟩ | ⟨hq, q⟩
    · obtain ⟨its, r', pl, hz⟩ := I.list hq
      have hlen := r'.length
      refine call_tuple_list pl.isList (fun h' kp => ?_) (by simp only [List.size_toArray] <;> omega)
      have I1 : Inv X pins σ H { s with heap := h' } := I.kept (t' := s.toks) kp
      have I2 : Inv X pins σ (upd H h'.objs.size (.tup ys)) { s with heap := h'.push { cls := .type "tuple", data := .seq its.toArray } } :=
        I1.laid (t' := s.toks) (fun b o e => Heap.get?_push_of_some _ e) (Nat.le_refl _) (show ObjOk X.prog X.w _ _ _ (.tup ys) from ⟨hz, its, r', IsTup.new _ _⟩)
      exact ⟨.ref h'.objs.size, _, I2, rfl, q _ (I1.hok.fresh (Nat.le_refl _))⟩
    · obtain ⟨its, r', pl, hz⟩ := I.tuple hq
      exact call_tuple_same pl ⟨.ref p, H, I, rfl, q⟩

/-! ### the call of a builtin's method: o.m(..) -/
/-- the value is of that builtin type -/
def tyV (K : PySem.W.Frag) (T : String) (x : V) (H : Hp) : Prop := match x with
  | .str _ => T = "str"
  | .int _ => T = "int"
  | .ref p => (T = "list" ∧ ∃ xs, SqL K H p xs) ∨ (T = "tuple" ∧ ∃ o, K.lookup p = some o ∧ o.cls = .type "tuple" ∧ o.dict = none) ∨
      (T = "dict" ∧ ((∃ kvs, H p = some (.dK kvs)) ∨ ∃ kvs, H p = some (.dT kvs))) ∨ (T = "set" ∧ ∃ S n, H p = some (.set S n))
  | _ => False
theorem tyV_is {pins : List (Addr × Obj)} {σ : St} {H : Hp} {s : Shared} {T : String} {x : V} {v : Value} (I : Inv X pins σ H s) (r : RelV x v) (ty : tyV X.K T x H) :
    s.TypeIs v T ∧ ∀ a, v = .ref a → ∃ ob, s.heap.get? a = some ob ∧ ob.dict = none := by
  cases x with
  | str z =>
    obtain ⟨t, rfl⟩ := r
    cases (show T = "str" from ty)
    exact ⟨typeIs_str s z t, fun _ e => nomatch e⟩
  | int i =>
    obtain ⟨t, rfl⟩ := r
    cases (show T = "int" from ty)
    exact ⟨typeIs_int s i t, fun _ e => nomatch e⟩
  | ref p =>
    cases r
    rcases ty with ⟨rfl, xs, hq⟩ | ⟨rfl, o, hk, hc, hd⟩ | ⟨rfl, hk⟩ | ⟨rfl, S, n, hk⟩
    · obtain ⟨its, _, pl, _⟩ := I.list hq
      refine ⟨pl.isList.typeIs, fun a e => ?_⟩
      cases e
      obtain ⟨o, n, e, c, hd, _⟩ := pl
      exact ⟨o, e, hd⟩
    · refine ⟨⟨o, I.kIn p o hk, hc⟩, fun a e => ?_⟩
      cases e
      exact ⟨o, I.kIn _ o hk, hd⟩
    · have z : ∃ o, s.heap.get? p = some o ∧ o.ExactDict := by
        rcases hk with ⟨kvs, hk⟩ | ⟨kvs, hk⟩
        · obtain ⟨_, _, _, _, o, _, _, e, ex, _⟩ := I.hok p _ hk
          exact ⟨o, e, ex⟩
        · obtain ⟨_, _, _, _, o, _, _, e, ex, _⟩ := I.hok p _ hk
          exact ⟨o, e, ex⟩
      obtain ⟨o, e, ex⟩ := z
      refine ⟨⟨o, e, ex.1⟩, fun a e2 => ?_⟩
      cases e2
      exact ⟨o, e, ex.2.1⟩
    · obtain ⟨o, _, _, _, e, ex, _⟩ := I.hok p _ hk
      refine ⟨⟨o, e, ex.1⟩, fun a e2 => ?_⟩
      cases e2
      exact ⟨o, e, ex.2.1⟩
  | _ => exact False.elim ty
def tBM0 (K : PySem.W.Frag) (T : String) (r : V → List V → Hp → VK → Prop) (to : TE) : TE := fun σ H Q => to σ H fun x H1 => tyV K T x H1 ∧ r x [] H1 Q
def tBM (K : PySem.W.Frag) (T : String) (r : V → List V → Hp → VK → Prop) (to : TE) (t : TA) : TE := fun σ H Q => to σ H fun x H1 => tyV K T x H1 ∧ t σ H1 fun xs H2 => r x xs H2 Q
variable {o e : Expr} {es : List Expr} {to : TE} {t : TA} {name : Str} {apos cpos : Pos} {T id : String} {r : V → List V → Hp → VK → Prop}
theorem pe_bm0 (pa : PlainAttrs T) (slot : Slot T name id) (hty : typeOf (.builtin id) = pure (.type "method_descriptor")) (hm : MtR X id r) (ho : PE X o to)
    (hbase : attributeBase o name X.env (eval o X.env) = eval o X.env := by rfl) (hline : (apos.endLine == cpos.line) = true := by rfl) : PE X (.Call (.Attribute o name apos) [] [] cpos) (tBM0 X.K T r to) := by
  unfold PE at *; unfold MtR at *
  exact by
    intro pins s σ H Q I h
    refine wpAny_Call_method0_late hbase hline (thn (ho pins s σ H _ I h) fun v s1 ⟨x, H1, I1, r1, ty, q1⟩ => ?_)
    obtain ⟨h1, h2⟩ := tyV_is I1 r1 ty
    exact ⟨T, id, pa, slot, hty, h1, h2, Calls.callWith_builtin rfl (PySem.evalArgs_none (hm pins s1 σ H1 x [] v [] Q I1 r1 .nil q1))⟩

theorem pe_bm (pa : PlainAttrs T) (slot : Slot T name id) (hty : typeOf (.builtin id) = pure (.type "method_descriptor")) (hm : MtR X id r) (ho : PE X o to) (ha : PA X (e :: es) t)
    (hbase : attributeBase o name X.env (eval o X.env) = eval o X.env := by rfl)
    (hfew : ((backTo cpos (starEach (e :: es) X.env)).all (fun x => !x.1) && (backToKw cpos (keywordEach [] X.env)).all (fun x => x.1.isSome)
      && decide ((e :: es).length + ([] : List Keyword).length + (if ([] : List Keyword).isEmpty then 0 else 1) < 30)) = true := by rfl)
    (hline : (apos.endLine == cpos.line) = true := by rfl) (hs : starEach (e :: es) X.env = (false, eval e X.env) :: starEach es X.env := by rfl) (hplain : (backTo cpos (starEach es X.env)).any (·.1) = false := by rfl) :
    PE X (.Call (.Attribute o name apos) (e :: es) [] cpos) (tBM X.K T r to t) := by
  unfold PE at *; unfold PA at *; unfold MtR at *
  exact by
    intro pins s σ H Q I h
    refine wpAny_Call_method_late hbase hfew hline rfl (thn (ho pins s σ H _ I h) fun v s1 ⟨x, H1, I1, r1, ty, q1⟩ => ?_)
    obtain ⟨h1, h2⟩ := tyV_is I1 r1 ty
    refine ⟨T, id, pa, slot, hty, h1, h2, ?_⟩
    have hA := ha cpos pins s1 σ H1 _ I1 q1
    rw [hs] at hA ⊢
    refine Calls.callWith_builtin (by show (false || (backTo cpos (starEach es X.env)).any (·.1)) = false; rw [hplain] <;> rfl) (Calls.evalArgs_plain ?_)
    exact thn hA fun us s2 ⟨vs, H2, I2, r2, q2⟩ => hm pins s2 σ H2 x vs v us Q I2 r1 r2 q2

/- xs.append(e), list.index on a module's tuple .. are MtR facts of 06m -/
end
end L2

namespace L2
open PySem PySem.Spec PyProof.Rows

@[irreducible] def MtM (X : Cx) (id : String) (r : V → List V → Hp → VK → Prop) : Prop :=
  ∀ (pins : List (Addr × Obj)) (s : Shared) (σ : St) (H : Hp) (x : V) (xs : List V) (v : Value) (us : List Value) (Q : VK), Inv X pins σ H s → RelV x v → Vals xs us → r x xs H Q →
    wpAny (model X.prog X.w) X.A (call (.builtin id) (v :: us)) (EP X pins σ Q) X.xe s

/-! ### lists of values -/
theorem Vals.one : ∀ {x : V} {us : List Value}, Vals [x] us → ∃ u, us = [u] ∧ RelV x u
  | _, _, .cons r .nil => ⟨_, rfl, r⟩
theorem Vals.two : ∀ {x y : V} {us : List Value}, Vals [x, y] us → ∃ u v, us = [u, v] ∧ RelV x u ∧ RelV y v
  | _, _, _, .cons r (.cons q .nil) => ⟨_, _, rfl, r, q⟩
theorem Vals.zero : ∀ {us : List Value}, Vals [] us → us = []
  | _, .nil => rfl
theorem Vals.dropLast {xs : List V} {us : List Value} (h : Vals xs us) : Vals xs.dropLast us.dropLast := by
  induction h with
  | nil => exact .nil
  | cons r t ih =>
    cases t with
    | nil => exact .nil
    | cons q t' => exact .cons r ih
theorem Vals.eraseIdx : ∀ {xs : List V} {us : List Value} (i : Nat), Vals xs us → Vals (xs.eraseIdx i) (us.eraseIdx i)
  | _, _, _, .nil => .nil
  | _, _, 0, .cons _ t => t
  | _, _, i + 1, .cons r t => .cons r (Vals.eraseIdx i t)
theorem Vals.reverse {xs : List V} {us : List Value} (h : Vals xs us) : Vals xs.reverse us.reverse := by
  induction h with
  | nil => exact .nil
  | cons r t ih => rw [List.reverse_cons, List.reverse_cons]; exact Vals.append ih (.cons r .nil)
theorem Vals.rep {xs : List V} {us : List Value} (h : Vals xs us) : ∀ k : Nat, Vals (List.replicate k xs).flatten (List.replicate k us).flatten
  | 0 => .nil
  | k + 1 => by
    rw [List.replicate_succ, List.replicate_succ, List.flatten_cons, List.flatten_cons]
    exact Vals.append h (Vals.rep h k)
theorem erase_last {α : Type} (l : List α) : l.eraseIdx (l.length - 1) = l.dropLast := by
  induction l with
  | nil => rfl
  | cons a r ih =>
    cases r with
    | nil => rfl
    | cons b r =>
      have e : (a :: b :: r).length - 1 = ((b :: r).length - 1) + 1 := by
        have h1 : (a :: b :: r).length = r.length + 2 := rfl
        have h2 : (b :: r).length = r.length + 1 := rfl
        omega
      rw [e, List.eraseIdx_cons_succ, ih]
      all_goals rfl
theorem len_erase {α : Type} : ∀ (l : List α) (i : Nat), (l.eraseIdx i).length ≤ l.length
  | [], _ => Nat.le_refl _
  | _ :: _, 0 => Nat.le_succ _
  | _ :: r, i + 1 => Nat.succ_le_succ (len_erase r i)
theorem foldl_rep (its : List Value) : ∀ (k : Nat) (acc : List Value),
    List.foldl (fun x1 x2 => x1 ++ x2) acc.toArray (List.replicate k its.toArray) = (acc ++ (List.replicate k its).flatten).toArray
  | 0, acc => by simp
  | k + 1, acc => by
    have e : acc.toArray ++ its.toArray = (acc ++ its).toArray := by simp
    have e2 : (acc ++ its) ++ (List.replicate k its).flatten = acc ++ (List.replicate (k + 1) its).flatten := by
      rw [List.replicate_succ, List.flatten_cons, List.append_assoc]
    rw [← e2, ← foldl_rep its k (acc ++ its), ← e, List.replicate_succ, List.foldl_cons]

section
variable {X : Cx} {pins : List (Addr × Obj)} {σ : St} {H : Hp} {s : Shared} {l b : Addr} {xs ys zs : List V}

/-! ### the two steps: a tracked list is rewritten, a new list is laid -/
theorem Inv.lset {its its' : List Value} {n : Nat} {f : Array Value → Array Value} {t' : Nat} (I : Inv X pins σ H s) (hH : H l = some (.lst xs))
    (e : s.heap.get? l = some { cls := .type "list", data := .seq its.toArray n }) (hf : f its.toArray = its'.toArray) (hv : Vals ys its') (hz : ys.length ≤ sizeLine) :
    Inv X pins σ (upd H l (.lst ys)) { s with heap := s.heap.update l (Obj.mapSeq f), toks := t' } := by
  have q := PySem.IsL.update e f
  rw [hf] at q
  refine I.write (x := l) (e := l) (by rw [hH]; exact trivial) (.inl rfl) (fun b' u hb hu => (Heap.get?_update_other s.heap (Obj.mapSeq f) (Ne.symm hb)).trans hu) ⟨_, q⟩ ?_
  exact ⟨hz, its', _, hv, q⟩
theorem Inv.lnew {its : List Value} {t' : Nat} (I : Inv X pins σ H s) (hv : Vals ys its) (hz : ys.length ≤ sizeLine) :
    Inv X pins σ (upd H s.heap.objs.size (.lst ys)) { s with heap := s.heap.push { cls := .type "list", data := .seq its.toArray }, toks := t' } :=
  I.laid (fun _ _ q => Heap.get?_push_of_some _ q) (Nat.le_refl _) ⟨hz, its, 0, hv, Heap.get?_push_size _ rfl⟩
theorem Inv.fresh (I : Inv X pins σ H s) : H s.heap.objs.size = none := I.hok.fresh (Nat.le_refl _)
theorem Inv.lstM (I : Inv X pins σ H s) (hH : H l = some (.lst xs)) : xs.length ≤ sizeLine ∧ ∃ (its : List Value) (n : Nat), Vals xs its ∧ xs.length = its.length ∧ s.heap.get? l = some { cls := .type "list", data := .seq its.toArray n } := by
  obtain ⟨z, its, n, r, e⟩ := I.hok l _ hH
  exact ⟨z, its, n, r, r.length, e⟩

theorem notLongL {n : Nat} (h : n ≤ sizeLine) : Builtin.List.listTooLong n = false := by
  unfold Builtin.List.listTooLong
  exact decide_eq_false (by omega)
end

section
variable {X : Cx}

/-! ### methods -/
def rAppend : V → List V → Hp → VK → Prop := fun x vs H Q => ∃ l xs y, x = .ref l ∧ vs = [y] ∧ H l = some (.lst xs) ∧ xs.length < sizeLine ∧ Q .non (upd H l (.lst (xs ++ [y])))
theorem mt_append : MtM X "list.append" rAppend := by
  unfold MtM at *
  exact by
    intro pins s σ H x vs v us Q I rx rv h
    obtain ⟨l, xs, y, rfl, rfl, hH, hz, q⟩ := h
    cases rx
    obtain ⟨u, rfl, ru⟩ := rv.one
    obtain ⟨z, its, n, r, hl, e⟩ := I.lstM hH
    refine call_meets F.slot_list_append ⟨_, e, rfl⟩ F.entry_list_append (F.args_list_append_2 _ _) (PySem.list_append l its.toArray n u (by rw [List.size_toArray]; omega)) ⟨e, ?_⟩
    refine ⟨.non, _, I.lset (its' := its ++ [u]) hH e (by simp) (r.append (.cons ru .nil)) ?_, rfl, q⟩
    rw [List.length_append, List.length_singleton]
    omega

def rExtend : V → List V → Hp → VK → Prop := fun x vs H Q => ∃ l b xs zs, x = .ref l ∧ vs = [.ref b] ∧ H l = some (.lst xs) ∧ H b = some (.lst zs) ∧ xs.length + zs.length ≤ sizeLine ∧ Q .non (upd H l (.lst (xs ++ zs)))
theorem mt_extend : MtM X "list.extend" rExtend := by
  unfold MtM at *
  exact by
    intro pins s σ H x vs v us Q I rx rv h
    obtain ⟨l, b, xs, zs, rfl, rfl, hH, hB, hz, q⟩ := h
    cases rx
    obtain ⟨u, rfl, ru⟩ := rv.one
    cases ru
    obtain ⟨z, its, n, r, hl, e⟩ := I.lstM hH
    obtain ⟨z2, its2, n2, r2, hl2, e2⟩ := I.lstM hB
    have hsz : its.toArray.size + its2.toArray.size ≤ sizeLine := by rw [List.size_toArray, List.size_toArray]; omega
    have hlong : ¬ (!its.toArray.isEmpty && Builtin.List.listTooLong (its.toArray.size + its2.toArray.size)) = true := by
      rw [notLongL hsz, Bool.and_false]
      exact Bool.false_ne_true
    refine call_meets F.slot_list_extend ⟨_, e, rfl⟩ F.entry_list_extend (F.args_list_extend_2 _ _)
      (AutoSeq1.list_extend_list_list_0 l its.toArray n b its2.toArray n2 hlong (by rw [List.size_toArray]; omega) (by omega)) ⟨e, e2, ?_⟩
    refine ⟨.non, _, I.lset (its' := its ++ its2) hH e (by simp) (r.append r2) ?_, rfl, q⟩
    rw [List.length_append]
    omega

def rPop : V → List V → Hp → VK → Prop := fun x vs H Q => ∃ l xs y, x = .ref l ∧ vs = [] ∧ H l = some (.lst xs) ∧ xs[xs.length - 1]? = some y ∧ Q y (upd H l (.lst xs.dropLast))
theorem mt_pop : MtM X "list.pop" rPop := by
  unfold MtM at *
  exact by
    intro pins s σ H x vs v us Q I rx rv h
    obtain ⟨l, xs, y, rfl, rfl, hH, hy, q⟩ := h
    cases rx
    have hus := rv.zero
    subst hus
    obtain ⟨z, its, n, r, hl, e⟩ := I.lstM hH
    obtain ⟨u, hu, ru⟩ := r.get hy
    have hy' : its.toArray[its.toArray.size - 1]? = some u := by
      show its.toArray[its.length - 1]? = some u
      rw [← Array.getElem?_toList, ← hl]
      exact hu
    refine call_meets F.slot_list_pop ⟨_, e, rfl⟩ F.entry_list_pop (F.args_list_pop_1 _) (MeetsSeq.list_pop_last l its.toArray n u hy' (by rw [List.size_toArray]; omega)) ⟨e, ?_⟩
    refine ⟨y, _, I.lset (its' := its.dropLast) hH e ?_ r.dropLast ?_, ru, q⟩
    · show its.toArray.eraseIdxIfInBounds (its.toArray.size - 1) = its.dropLast.toArray
      rw [List.size_toArray, List.eraseIdxIfInBounds_toArray, erase_last]
    · rw [List.length_dropLast]
      omega

def rPopAt : V → List V → Hp → VK → Prop := fun x vs H Q => ∃ l xs i k y, x = .ref l ∧ vs = [.int i] ∧ H l = some (.lst xs) ∧ -(2 ^ 63) ≤ i ∧ i < 2 ^ 63 ∧ seqIndex? i xs.length = some k ∧ xs[k]? = some y ∧ Q y (upd H l (.lst (xs.eraseIdx k)))
theorem mt_popAt : MtM X "list.pop" rPopAt := by
  unfold MtM at *
  exact by
    intro pins s σ H x vs v us Q I rx rv h
    obtain ⟨l, xs, i, k, y, rfl, rfl, hH, h1, h2, hk, hy, q⟩ := h
    cases rx
    obtain ⟨u, rfl, ru⟩ := rv.one
    obtain ⟨t, rfl⟩ := ru
    obtain ⟨z, its, n, r, hl, e⟩ := I.lstM hH
    obtain ⟨w, hw, rw'⟩ := r.get hy
    refine call_meets F.slot_list_pop ⟨_, e, rfl⟩ F.entry_list_pop (F.args_list_pop_2 _ _)
      (MeetsSeq.list_pop_at l its.toArray n i t k w (fitsIndex_both h1 h2) (by rw [List.size_toArray, ← hl]; exact hk) (by rw [← Array.getElem?_toList]; exact hw) (by rw [List.size_toArray]; omega)) ⟨e, ?_⟩
    refine ⟨y, _, I.lset (its' := its.eraseIdx k) hH e ?_ (r.eraseIdx k) ?_, rw', q⟩
    · show its.toArray.eraseIdxIfInBounds k = (its.eraseIdx k).toArray
      rw [List.eraseIdxIfInBounds_toArray]
    · have := len_erase xs k
      omega

def rReverse : V → List V → Hp → VK → Prop := fun x vs H Q => ∃ l xs, x = .ref l ∧ vs = [] ∧ H l = some (.lst xs) ∧ Q .non (upd H l (.lst xs.reverse))
theorem mt_reverse : MtM X "list.reverse" rReverse := by
  unfold MtM at *
  exact by
    intro pins s σ H x vs v us Q I rx rv h
    obtain ⟨l, xs, rfl, rfl, hH, q⟩ := h
    cases rx
    have hus := rv.zero
    subst hus
    obtain ⟨z, its, n, r, hl, e⟩ := I.lstM hH
    refine call_meets F.slot_list_reverse ⟨_, e, rfl⟩ F.entry_list_reverse (F.args_list_reverse_1 _) (AutoSeq1.list_reverse_list_0 l its.toArray n (by rw [List.size_toArray]; omega)) ⟨e, ?_⟩
    refine ⟨.non, _, I.lset (its' := its.reverse) hH e (by simp) r.reverse ?_, rfl, q⟩
    rw [List.length_reverse]
    omega

def rClear : V → List V → Hp → VK → Prop := fun x vs H Q => ∃ l xs, x = .ref l ∧ vs = [] ∧ H l = some (.lst xs) ∧ Q .non (upd H l (.lst []))
theorem mt_clear : MtM X "list.clear" rClear := by
  unfold MtM at *
  exact by
    intro pins s σ H x vs v us Q I rx rv h
    obtain ⟨l, xs, rfl, rfl, hH, q⟩ := h
    cases rx
    have hus := rv.zero
    subst hus
    obtain ⟨z, its, n, r, hl, e⟩ := I.lstM hH
    refine call_meets F.slot_list_clear ⟨_, e, rfl⟩ F.entry_list_clear (F.args_list_clear_1 _) (AutoSeq1.list_clear_list_0 l its.toArray n (by rw [List.size_toArray]; omega)) ⟨e, ?_⟩
    exact ⟨.non, _, I.lset (its' := []) (ys := []) hH e rfl .nil (Nat.zero_le _), rfl, q⟩

/-! ### list + list, list += list, list * int -/
def rCat : R2 := fun x y H Q => ∃ l b xs zs, x = .ref l ∧ y = .ref b ∧ H l = some (.lst xs) ∧ H b = some (.lst zs) ∧ xs.length + zs.length ≤ sizeLine ∧ ∀ p, H p = none → Q (.ref p) (upd H p (.lst (xs ++ zs)))
theorem op_cat : OpR X (binaryOp .Add) rCat := by
  unfold OpR at *
  exact by
    intro pins s σ H x y v u Q I rx ry h
    obtain ⟨l, b, xs, zs, rfl, rfl, hH, hB, hz, q⟩ := h
    cases rx
    cases ry
    obtain ⟨z, its, n, r, hl, e⟩ := I.lstM hH
    obtain ⟨z2, its2, n2, r2, hl2, e2⟩ := I.lstM hB
    refine PySem.P.add_list e e2 ?_ (by rw [List.size_toArray, List.size_toArray]; omega)
    have ea : its.toArray ++ its2.toArray = (its ++ its2).toArray := by simp
    rw [ea]
    exact ⟨.ref _, _, I.lnew (t' := s.toks) (r.append r2) (by rw [List.length_append]; omega), rfl, q _ I.fresh⟩

/-- a list times an int (a negative one is nothing) -/
def rRep : R2 := fun x y H Q => ∃ l k xs, x = .ref l ∧ y = .int k ∧ H l = some (.lst xs) ∧ -(2 ^ 63) ≤ k ∧ k < 2 ^ 63 ∧ xs.length * k.toNat ≤ sizeLine ∧
  ∀ p, H p = none → Q (.ref p) (upd H p (.lst (List.replicate k.toNat xs).flatten))
theorem len_rep {α : Type} (xs : List α) (k : Nat) : (List.replicate k xs).flatten.length = k * xs.length := by
  induction k with
  | zero => simp
  | succ k ih => rw [List.replicate_succ, List.flatten_cons, List.length_append, ih, Nat.succ_mul, Nat.add_comm]
theorem op_rep : OpR X (binaryOp .Mult) rRep := by
  unfold OpR at *
  exact by
    intro pins s σ H x y v u Q I rx ry h
    obtain ⟨l, k, xs, rfl, rfl, hH, h1, h2, hz, q⟩ := h
    cases rx
    obtain ⟨t, rfl⟩ := ry
    obtain ⟨z, its, n, r, hl, e⟩ := I.lstM hH
    have hlen : its.toArray.size * k.toNat ≤ sizeLine := by rw [List.size_toArray, ← hl]; exact hz
    have hcap : ¬ its.toArray.size * k.toNat > (2 ^ 63 - 1) / 8 := by
      have : (sizeLine : Nat) ≤ (2 ^ 63 - 1) / 8 := by decide
      omega
    have hfit : ¬ (!Builtin.List.listFitsIndex k) = true := by
      rw [fitsIndex_both h1 h2]
      exact Bool.false_ne_true
    have hlong : ¬ Builtin.List.listTooLong (its.toArray.size * k.toNat) = true := by
      rw [notLongL hlen]
      exact Bool.false_ne_true
    have hnew : List.foldl (fun x1 x2 => x1 ++ x2) #[] (List.replicate (if its.toArray.isEmpty = true then 0 else k.toNat) its.toArray) = (List.replicate k.toNat its).flatten.toArray := by
      have f0 : ∀ m : Nat, List.foldl (fun x1 x2 => x1 ++ x2) #[] (List.replicate m its.toArray) = (List.replicate m its).flatten.toArray := fun m => by
        have := foldl_rep its m []
        rw [List.nil_append] at this
        exact this
      rw [f0]
      cases its with
      | nil => simp
      | cons a r' => rw [if_neg (by simp)]
    refine wpAny_binaryOp_repeat_ref (T := "list") (U := "int") (by decide) ⟨_, e, rfl⟩ (fun s' => typeIs_int s' k t) noFill_list_mul F.fills_int_mul F.slot_int_rmul repeat_list F.slot_int_index.lookup
      (call_meets F.slot_int_rmul (typeIs_int s k t) F.entry_int_rmul (F.args_int_rmul_2 _ _) (int___rmul___int_list k t l its.toArray n)
        ⟨e, rfl, ⟨_, e, rfl⟩, call_meets F.slot_list_mul ⟨_, e, rfl⟩ F.entry_list_mul (F.args_list_mul_2 _ _) (AutoListH.list___mul___list_int_3 l its.toArray n k t hfit hcap hlong) ⟨e, ?_⟩⟩)
    rw [hnew]
    exact ⟨.ref _, _, I.lnew (t' := s.toks) (r.rep k.toNat) (by rw [len_rep, Nat.mul_comm]; exact hz), rfl, q _ I.fresh⟩

/-! ### del xs[i] -/
theorem del_list {pins : List (Addr × Obj)} {s : Shared} {σ : St} {H : Hp} {l : Addr} {xs : List V} {i : Int} {t : Tok} {k : Nat} {Q : Unit → Shared → Prop} (I : Inv X pins σ H s) (hH : H l = some (.lst xs))
    (h1 : -(2 ^ 63) ≤ i) (h2 : i < 2 ^ 63) (hk : seqIndex? i xs.length = some k) (h : ∀ s', Inv X pins σ (upd H l (.lst (xs.eraseIdx k))) s' → Q () s') :
    wpAny (model X.prog X.w) X.A (delItem (.ref l) (.int i t)) Q X.xe s := by
  obtain ⟨z, its, n, r, hl, e⟩ := I.lstM hH
  refine PySem.P.delItem_list (k := k) e (fitsIndex_both h1 h2) (by rw [List.size_toArray, ← hl]; exact hk) (h _ ?_) (by rw [List.size_toArray]; omega)
  refine I.lset (its' := its.eraseIdx k) (t' := s.toks) hH e ?_ (r.eraseIdx k) ?_
  · show its.toArray.eraseIdxIfInBounds k = (its.eraseIdx k).toArray
    rw [List.eraseIdxIfInBounds_toArray]
  · have := len_erase xs k
    omega
end

/-! ### xs[a:b] = ys -/
section
variable {prog : Program} {w : World} {A : Around} {E : Value → Shared → Prop} {s : Shared}
theorem splice_eq (its its2 : List Value) (a c : Nat) : its.toArray.extract 0 a ++ its2.toArray ++ its.toArray.extract c its.toArray.size = (its.take a ++ its2 ++ its.drop c).toArray := by
  apply Array.toList_inj.mp
  first
    | (simp
       exact List.take_of_length_le (by simp))
    | simp [List.take_of_length_le]
    | simp
theorem bounds_run {a c n : Nat} (hac : a ≤ c) (hc : c ≤ n) : sliceBounds (some (a : Int)) (some (c : Int)) none n = ((a : Int), (c : Int), 1) := by
  simp only [sliceBounds, Option.getD_none]
  have h1 : ¬ ((a : Int) < 0) := by omega
  have h2 : ¬ ((c : Int) < 0) := by omega
  simp only [h1, h2, if_false, show (1 : Int) > 0 by decide, if_true]
  congr 1
  · omega
  · congr 1; omega
set_option maxRecDepth 100000 in
/-- list.__setitem__ with a slice of step one and another list -/
theorem setItem_slice {l b sl : Addr} {items new : Array Value} {n n2 : Nat} {vl vu : Value} {a c : Nat} {Q : Unit → Shared → Prop}
    (e : s.heap.get? l = some { cls := .type "list", data := .seq items n }) (e2 : s.heap.get? b = some { cls := .type "list", data := .seq new n2 }) (hne : l ≠ b)
    (hs : s.heap.IsSliceOf sl vl vu .none) (pl : IsPart vl (some (a : Int))) (pu : IsPart vu (some (c : Int))) (hac : a ≤ c) (hc : c ≤ items.size)
    (hsz : items.size + new.size ≤ sizeLine) (h : Q () { s with heap := s.heap.update l (Obj.mapSeq fun xs => xs.extract 0 a ++ new ++ xs.extract c xs.size) }) :
    wpAny (model prog w) A (setItem (.ref l) (.ref sl) (.ref b)) Q E s := by
  have hl : s.heap.IsList l items := PySem.IsL.isList e
  have hb : s.heap.IsList b new := PySem.IsL.isList e2
  obtain ⟨os, hos, hcs, hds⟩ := id hs
  have hTs : s.TypeIs (.ref sl) "slice" := ⟨os, hos, hcs⟩
  have hstep : ¬ ((rawPart none == rawInt 0) = true) := Bool.false_ne_true
  have hsame : Builtin.List.listSameRef (.ref l) (.ref b) = false := by
    unfold Builtin.List.listSameRef
    exact beq_eq_false_iff_ne.mpr hne
  have hmax : (max (a : Int) (c : Int)).toNat = c := by omega
  have hz' : ((fun xs : Array Value => xs.extract 0 a ++ new ++ xs.extract c xs.size) items).size ≤ sizeLine + 1 := by
    simp only [Array.size_append, Array.size_extract]
    omega
  unfold setItem
  try with_reducible refine wpAny_holding ?_
  first | refine wpAny_bind (wpAny_pure ?_) | skip
  refine wpAny_bind (wpAny_sequenceKey hl.typeIs (by decide) ?_)
  refine wpAny_bind (wpAny_callSpecial?_slot (name := Str.ofString "__setitem__") hl.typeIs slot_list_setitem
    (wpAny_call_entry slot_list_setitem hl.typeIs entry_list_setitem ?_ (args_list_setitem _ _ _)))
  show wpAny _ _ (Builtin.List.listSubscript? (.ref sl) >>= _) _ _ s
  refine wpAny_bind ?_
  unfold Builtin.List.listSubscript?
  refine wpAny_bind (wpAny_specialOf hTs slice_no_index ?_)
  simp only [Option.isNone_none, if_true]
  refine wpAny_pure ?_
  show wpAny _ _ (typeOf (.ref sl) >>= _) _ _ s
  refine wpAny_bind (wpAny_typeOf hTs ?_)
  first
    | rw [if_neg (by decide)]
    | refine PySem.W.KFB.if_not (by decide) ?_
  rw [listSliceParts_eq]
  refine wpAny_bind (wpAny_bind (wpAny_field hos hds (x := .none) rfl (wpAny_bind (wpAny_listPart .none ?_))))
  rw [if_neg hstep]
  refine wpAny_bind (wpAny_field hos hds (x := vl) rfl (wpAny_bind (wpAny_listPart pl ?_)))
  refine wpAny_bind (wpAny_field hos hds (x := vu) rfl (wpAny_bind (wpAny_listPart pu (wpAny_pure ?_))))
  first
    | simp only [hsame, Bool.false_eq_true, if_false]
    | refine PySem.W.KFB.if_not hsame ?_
    | (dsimp only
       rw [if_neg (by rw [hsame]; exact Bool.false_ne_true)])
  refine wpAny_bind (m := Builtin.List.listAllItems (.ref b) "must assign iterable to extended slice") ?_
  unfold Builtin.List.listAllItems
  refine wpAny_bind (wpAny_typeOf hb.typeIs ?_)
  first
    | refine PySem.W.KFB.if_so (by decide) ?_
    | rw [if_pos (by decide)]
    | simp only [beq_self_eq_true, Bool.true_or, if_true]
  unfold Builtin.List.listItems
  refine wpAny_bind (wpAny_seqItems e2 rfl (wpAny_pure ?_))
  refine wpAny_bind (wpAny_bind (wpAny_seqItems e rfl (wpAny_pure ?_)))
  refine wpAny_bind (wpAny_of_eq ((sliceIndices_raw (some (a : Int)) (some (c : Int)) none items.size (by simp)).trans (congrArg (pure : Int × Int × Int → Sem (Int × Int × Int)) (bounds_run hac hc))) ?_)
  show wpAny _ _ (if ((1 : Int) == 1) = true then _ else _) _ _ s
  rw [if_pos (by decide)]
  refine wpAny_bind (wpAny_rule ?_)
  first
    | simp only [notLongL hsz, Bool.false_eq_true, if_false]
    | refine PySem.W.KFB.if_not (notLongL hsz) ?_
  first | refine wpAny_bind (wpAny_pure ?_) | skip
  show wpAny _ _ (updateSeq l (fun xs => xs.extract 0 ((a : Int)).toNat ++ new ++ xs.extract (max (a : Int) (c : Int)).toNat xs.size) >>= _) _ _ s
  rw [hmax, Int.toNat_natCast]
  refine wpAny_bind (wpAny_updateSeq (hz := Nat.le_trans (Nat.le_add_right _ _) hsz) (_hz' := hz') e rfl ?_)
  refine wpAny_bind (wpAny_letGo ?_)
  first
    | exact wpAny_bind (wpAny_pure (wpAny_pure ⟨.none, rfl, wpAny_pure h⟩))
    | exact wpAny_pure ⟨.none, rfl, wpAny_pure h⟩
end

section
variable {X : Cx}
/-- xs[a:c] = ys of another list, at the value level: sl is the slice object that was just made -/
theorem set_slice {pins : List (Addr × Obj)} {s : Shared} {σ : St} {H : Hp} {l b sl : Addr} {xs ys : List V} {a c : Int} {vl vu : Value} {Q : Unit → Shared → Prop} (I : Inv X pins σ H s)
    (hH : H l = some (.lst xs)) (hB : H b = some (.lst ys)) (hne : l ≠ b) (hs : s.heap.IsSliceOf sl vl vu .none) (ra : RelV (.int a) vl) (rc : RelV (.int c) vu) (h0 : 0 ≤ a) (hac : a ≤ c) (hc : c ≤ xs.length)
    (hz : xs.length + ys.length ≤ sizeLine) (h : ∀ s', Inv X pins σ (upd H l (.lst (xs.take a.toNat ++ ys ++ xs.drop c.toNat))) s' → Q () s') :
    wpAny (model X.prog X.w) X.A (setItem (.ref l) (.ref sl) (.ref b)) Q X.xe s := by
  obtain ⟨ta, rfl⟩ := ra
  obtain ⟨tc, rfl⟩ := rc
  obtain ⟨z, its, n, r, hl, e⟩ := I.lstM hH
  obtain ⟨z2, its2, n2, r2, hl2, e2⟩ := I.lstM hB
  obtain ⟨a', rfl⟩ := Int.eq_ofNat_of_zero_le h0
  obtain ⟨c', rfl⟩ := Int.eq_ofNat_of_zero_le (Int.le_trans h0 hac)
  simp only [Int.toNat_natCast] at h
  refine setItem_slice (a := a') (c := c') e e2 hne hs (.int _ _) (.int _ _) (by omega) (by rw [List.size_toArray]; omega) (by rw [List.size_toArray, List.size_toArray]; omega) (h _ ?_)
  refine I.lset (its' := its.take a' ++ its2 ++ its.drop c') (t' := s.toks) hH e ?_ (Vals.append (Vals.append (r.take _) r2) (r.drop _)) ?_
  · exact splice_eq its its2 a' c'
  · rw [List.length_append, List.length_append, List.length_take, List.length_drop]
    omega
end
end L2


namespace L2
open PySem PySem.Spec PyProof.Rows

/-! ### lists of pairs as tables -/
section
variable {κ : Type} [DecidableEq κ]
def valV (kvs : List (κ × V)) (k : κ) : Option V := (kvs.find? fun kv => decide (kv.1 = k)).map (·.2)
/-- in its place, or at the end -/
def putK (kvs : List (κ × V)) (k : κ) (v : V) : List (κ × V) :=
  if (kvs.any fun kv => decide (kv.1 = k)) = true then kvs.map (fun kv => if kv.1 = k then (kv.1, v) else kv) else kvs ++ [(k, v)]
def dropK (kvs : List (κ × V)) (k : κ) : List (κ × V) := kvs.filter fun kv => decide (kv.1 ≠ k)

theorem valV_nil {k : κ} : valV ([] : List (κ × V)) k = none := rfl
theorem valV_pos {p : κ × V} {r : List (κ × V)} {k : κ} (e : p.1 = k) : valV (p :: r) k = some p.2 := by simp [valV, List.find?_cons, e]
theorem valV_neg {p : κ × V} {r : List (κ × V)} {k : κ} (e : ¬ p.1 = k) : valV (p :: r) k = valV r k := by simp [valV, List.find?_cons, e]
theorem valV_any (k : κ) : ∀ kvs : List (κ × V), (kvs.any fun kv => decide (kv.1 = k)) = (valV kvs k).isSome
  | [] => rfl
  | p :: r => by
    rw [List.any_cons]
    by_cases e : p.1 = k
    · simp only [valV_pos e, decide_eq_true e, Bool.true_or, Option.isSome_some]
    · rw [valV_neg e, decide_eq_false e, Bool.false_or]; exact valV_any k r
theorem valV_map (k j : κ) (y : V) : ∀ kvs : List (κ × V), valV (kvs.map fun kv => if kv.1 = k then (kv.1, y) else kv) j = (valV kvs j).map fun x => if j = k then y else x
  | [] => rfl
  | p :: r => by
    have ih := valV_map k j y r
    rw [List.map_cons]
    by_cases h : p.1 = k
    · rw [if_pos h]
      by_cases e : p.1 = j
      · rw [valV_pos (p := (p.1, y)) e, valV_pos e, Option.map_some, if_pos (e.symm.trans h)]
      · rw [valV_neg (p := (p.1, y)) e, valV_neg e, ih]
    · rw [if_neg h]
      by_cases e : p.1 = j
      · rw [valV_pos (p := p) e, valV_pos e, Option.map_some, if_neg (fun z => h (e.trans z))]
      · rw [valV_neg (p := p) e, valV_neg e, ih]
theorem valV_snoc (k j : κ) (y : V) : ∀ kvs : List (κ × V), valV kvs k = none → valV (kvs ++ [(k, y)]) j = if j = k then some y else valV kvs j
  | [], _ => by
    by_cases e : k = j
    · rw [if_pos e.symm]; exact valV_pos (p := (k, y)) e
    · rw [if_neg (fun z => e z.symm)]; exact valV_neg (p := (k, y)) e
  | p :: r, hn => by
    rw [List.cons_append]
    have hk : ¬ p.1 = k := fun z => by rw [valV_pos z] at hn; cases hn
    rw [valV_neg hk] at hn
    have ih := valV_snoc k j y r hn
    by_cases e : p.1 = j
    · rw [valV_pos e, valV_pos e, if_neg (fun z => hk (e.trans z))]
    · rw [valV_neg e, valV_neg e, ih]
theorem valV_put (kvs : List (κ × V)) (k j : κ) (y : V) : valV (putK kvs k y) j = if j = k then some y else valV kvs j := by
  unfold putK
  by_cases a : (kvs.any fun kv => decide (kv.1 = k)) = true
  · rw [if_pos a, valV_map]
    rw [valV_any] at a
    by_cases e : j = k
    · obtain ⟨x, hx⟩ := Option.isSome_iff_exists.mp a
      rw [if_pos e, e, hx, Option.map_some, if_pos rfl]
    · rw [if_neg e]
      cases valV kvs j with
      | none => rfl
      | some x => rw [Option.map_some, if_neg e]
  · rw [if_neg a]
    refine valV_snoc k j y kvs ?_
    rw [valV_any] at a
    cases q : valV kvs k with
    | none => rfl
    | some x => rw [q] at a; exact (a rfl).elim
theorem length_putK (kvs : List (κ × V)) (k : κ) (v : V) : (putK kvs k v).length ≤ kvs.length + 1 := by
  unfold putK
  split
  · rw [List.length_map]; omega
  · rw [List.length_append, List.length_cons, List.length_nil]; omega
theorem putK_new {kvs : List (κ × V)} {k : κ} (v : V) (h : valV kvs k = none) : putK kvs k v = kvs ++ [(k, v)] := by
  unfold putK
  rw [valV_any, h]
  exact if_neg (by decide)

theorem RelO.isSome_eq {o : Option V} {u : Option Value} (r : RelO o u) : o.isSome = u.isSome := by
  cases o with
  | none => cases u with
    | none => rfl
    | some _ => exact (show False from r).elim
  | some _ => cases u with
    | none => exact (show False from r).elim
    | some _ => rfl
theorem RelO.getD {o : Option V} {u : Option Value} {d : V} {d' : Value} (r : RelO o u) (rd : RelV d d') : RelV (o.getD d) (u.getD d') := by
  cases o with
  | none => cases u with
    | none => exact rd
    | some _ => exact (show False from r).elim
  | some _ => cases u with
    | none => exact (show False from r).elim
    | some _ => exact r

/-- raw tables of the same keys -/
theorem KV.val {kvs : List (κ × V)} {vs : List (κ × Value)} (r : KV kvs vs) (k : κ) : RelO (valV kvs k) (valueAt vs k) := by
  unfold KV at r
  induction r with
  | nil => exact True.intro
  | @cons p q ps qs h t ih =>
    obtain ⟨h1, h2⟩ := h
    by_cases e : p.1 = k
    · have e' : q.1 = k := h1.symm.trans e
      have b : valueAt (q :: qs) k = some q.2 := by simp [valueAt, List.find?_cons, e']
      rw [valV_pos e, b]; exact h2
    · have e' : ¬ q.1 = k := fun z => e (h1.trans z)
      have b : valueAt (q :: qs) k = valueAt qs k := by simp [valueAt, List.find?_cons, e']
      rw [valV_neg e, b]; exact ih
theorem KV.any {kvs : List (κ × V)} {vs : List (κ × Value)} (r : KV kvs vs) (k : κ) : (kvs.any fun kv => decide (kv.1 = k)) = vs.any fun kv => decide (kv.1 = k) := by
  unfold KV at r
  induction r with
  | nil => rfl
  | cons h t ih => rw [List.any_cons, List.any_cons, ih, h.1]
theorem KV.repl {kvs : List (κ × V)} {vs : List (κ × Value)} (r : KV kvs vs) (k : κ) {y : V} {u : Value} (ry : RelV y u) :
    KV (kvs.map fun kv => if kv.1 = k then (kv.1, y) else kv) (vs.map fun kv => if kv.1 = k then (kv.1, u) else kv) := by
  unfold KV at r ⊢
  induction r with
  | nil => exact .nil
  | @cons p q ps qs h t ih =>
    rw [List.map_cons, List.map_cons]
    refine .cons ?_ ih
    obtain ⟨h1, h2⟩ := h
    by_cases e : p.1 = k
    · rw [if_pos e, if_pos (h1.symm.trans e)]; exact ⟨h1, ry⟩
    · rw [if_neg e, if_neg (fun z => e (h1.trans z))]; exact ⟨h1, h2⟩
theorem KV.put {kvs : List (κ × V)} {vs : List (κ × Value)} (r : KV kvs vs) (k : κ) {y : V} {u : Value} (ry : RelV y u) : KV (putK kvs k y) (stored vs k u) := by
  unfold putK stored
  rw [r.any k]
  by_cases e : (vs.any fun kv => decide (kv.1 = k)) = true
  · rw [if_pos e, if_pos e]; exact r.repl k ry
  · rw [if_neg e, if_neg e]; exact Paired.snoc r ⟨rfl, ry⟩
theorem KV.drop {kvs : List (κ × V)} {vs : List (κ × Value)} (r : KV kvs vs) (k : κ) : KV (dropK kvs k) (without vs k) := by
  unfold KV at r ⊢
  unfold dropK without
  induction r with
  | nil => exact .nil
  | @cons p q ps qs h t ih =>
    obtain ⟨h1, h2⟩ := h
    rw [List.filter_cons, List.filter_cons]
    by_cases e : p.1 = k
    · have a : ¬ decide (p.1 ≠ k) = true := by simp [e]
      have b : ¬ decide (q.1 ≠ k) = true := by simp [h1.symm.trans e]
      rw [if_neg a, if_neg b]; exact ih
    · have e' : ¬ q.1 = k := fun z => e (h1.trans z)
      have a : decide (p.1 ≠ k) = true := by simp [e]
      have b : decide (q.1 ≠ k) = true := by simp [e']
      rw [if_pos a, if_pos b]; exact .cons ⟨h1, h2⟩ ih
theorem KV.keys {kvs : List (κ × V)} {vs : List (κ × Value)} (r : KV kvs vs) : kvs.map (·.1) = vs.map (·.1) := by
  unfold KV at r
  induction r with
  | nil => rfl
  | cons h t ih => rw [List.map_cons, List.map_cons, ih, h.1]
theorem KV.length {kvs : List (κ × V)} {vs : List (κ × Value)} (r : KV kvs vs) : kvs.length = vs.length := Paired.length r
theorem dropK_le (kvs : List (κ × V)) (k : κ) : (dropK kvs k).length ≤ kvs.length := List.length_filter_le _ _
end


/-! ### a tracked dict, its keys ints and texts or tuples of these -/
theorem kV_is {P : Program} {w : World} {k : Key} {u : Value} (r : RelV (kV k) u) : (mixKind P w).is k u = true := by
  cases k with
  | inl i => obtain ⟨t, e⟩ := (show ∃ t, u = Value.int i t from r); subst e; exact mixKind_int P w i t
  | inr x => obtain ⟨t, e⟩ := (show ∃ t, u = Value.str x t from r); subst e; exact mixKind_str P w x t
theorem kV_inj {a b : Key} (e : kV a = kV b) : a = b := by
  cases a with
  | inl i => cases b with
    | inl j => have e' : V.int i = V.int j := e; injection e' with e'; rw [e']
    | inr y => exact nomatch (show V.int i = V.str y from e)
  | inr x => cases b with
    | inl j => exact nomatch (show V.str x = V.int j from e)
    | inr y => have e' : V.str x = V.str y := e; injection e' with e'; rw [e']
theorem kVs_inj : ∀ {a b : List Key}, a.map kV = b.map kV → a = b
  | [], [], _ => rfl
  | [], _ :: _, e => by simp at e
  | _ :: _, [], e => by simp at e
  | x :: xs, y :: ys, e => by
    rw [List.map_cons, List.map_cons] at e
    injection e with e1 e2
    rw [kV_inj e1, kVs_inj e2]
theorem items_are {P : Program} {w : World} : ∀ {ks : List Key} {us : List Value}, Vals (ks.map kV) us → ItemsAre (mixKind P w) ks us
  | [], _, r => by rw [List.map_nil] at r; cases r; exact .nil
  | k :: ks, _, r => by
    rw [List.map_cons] at r
    cases r with
    | cons h t => exact .cons (kV_is h) (items_are t)

/-- raw entries of a dict with tuple keys -/
abbrev KT (H : Hp) : List (List Key × V) → List (List Key × Addr × Value) → Prop := Paired fun p q => p.1 = q.1 ∧ H q.2.1 = some (.tup (p.1.map kV)) ∧ RelV p.2 q.2.2
theorem KT.val {H : Hp} {kvs : List (List Key × V)} {xs : List (List Key × Addr × Value)} (r : KT H kvs xs) (k : List Key) : RelO (valV kvs k) ((atKey xs k).map (·.2)) := by
  induction r with
  | nil => exact True.intro
  | @cons p q ps qs h t ih =>
    obtain ⟨h1, _, h2⟩ := h
    by_cases e : p.1 = k
    · have e' : q.1 = k := h1.symm.trans e
      have b : atKey (q :: qs) k = some q.2 := by simp [atKey, List.find?_cons, e']
      rw [valV_pos e, b]; exact h2
    · have e' : ¬ q.1 = k := fun z => e (h1.trans z)
      have b : atKey (q :: qs) k = atKey qs k := by simp [atKey, List.find?_cons, e']
      rw [valV_neg e, b]; exact ih
theorem KT.repl {H : Hp} {kvs : List (List Key × V)} {xs : List (List Key × Addr × Value)} (r : KT H kvs xs) (k : List Key) {y : V} {u : Value} (ry : RelV y u) :
    KT H (kvs.map fun kv => if kv.1 = k then (kv.1, y) else kv) (xs.map (putAt k u)) := by
  induction r with
  | nil => exact .nil
  | @cons p q ps qs h t ih =>
    rw [List.map_cons, List.map_cons]
    refine .cons ?_ ih
    obtain ⟨h1, h2, h3⟩ := h
    unfold putAt
    by_cases e : p.1 = k
    · rw [if_pos e, if_pos (h1.symm.trans e)]; exact ⟨h1, h2, ry⟩
    · rw [if_neg e, if_neg (fun z => e (h1.trans z))]; exact ⟨h1, h2, h3⟩
theorem KT.put {H : Hp} {kvs : List (List Key × V)} {xs : List (List Key × Addr × Value)} (r : KT H kvs xs) (k : List Key) {b : Addr} {y : V} {u : Value} (hb : H b = some (.tup (k.map kV))) (ry : RelV y u) :
    KT H (putK kvs k y) (storedH xs k b u) := by
  have e : (kvs.any fun kv => decide (kv.1 = k)) = (atKey xs k).isSome := by
    rw [valV_any, (r.val k).isSome_eq, Option.isSome_map]
  unfold putK storedH
  rw [e]
  by_cases q : (atKey xs k).isSome = true
  · rw [if_pos q, if_pos q]; exact r.repl k ry
  · rw [if_neg q, if_neg q]; exact Paired.snoc r ⟨rfl, hb, ry⟩
theorem KT.keeps {H H' : Hp} {kvs : List (List Key × V)} {xs : List (List Key × Addr × Value)} (r : KT H kvs xs) (ht : ∀ b ys, H b = some (.tup ys) → H' b = some (.tup ys)) : KT H' kvs xs :=
  Paired.mapP r fun _ _ z => ⟨z.1, ht _ _ z.2.1, z.2.2⟩

section
variable {P : Program} {w : World} {H : Hp} {h : Heap} {a : Addr}
theorem rd_of {u : HO} (ok : HOk P w H h) (e : Rd H a u) : ObjOk P w H h a u := e.ok ok
theorem dk_rd {kvs : List (Key × V)} (ok : HOk P w H h) (e : Rd H a (.dK kvs)) : kvs.length ≤ sizeLine ∧ (a == sysModules) = false ∧ ∃ vs, KV kvs vs ∧ h.DictOf (mixKind P w) a vs :=
  show ObjOk P w H h a (.dK kvs) from rd_of ok e
theorem dk_of {kvs : List (Key × V)} (ok : HOk P w H h) (e : H a = some (.dK kvs)) : kvs.length ≤ sizeLine ∧ (a == sysModules) = false ∧ ∃ vs, KV kvs vs ∧ h.DictOf (mixKind P w) a vs := dk_rd ok (.inl e)
/-- a tracked tuple of ints and texts is a key -/
theorem key_of {ks : List Key} (ok : HOk P w H h) (e : H a = some (.tup (ks.map kV))) : (tupleKind (mixKind P w)).is h ks a := by
  obtain ⟨_, its, r, o, h1, h2, n, h3⟩ := (show ObjOk P w H h a (.tup (ks.map kV)) from ok a _ e)
  exact ⟨o, its.toArray, n, h1, h2, h3, by simpa using items_are r⟩
theorem dt_rd {kvs : List (List Key × V)} (ok : HOk P w H h) (e : Rd H a (.dT kvs)) : kvs.length ≤ sizeLine ∧ (a == sysModules) = false ∧
    ∃ xs, KT H kvs xs ∧ h.DictOfH (tupleKind (mixKind P w)) a xs := by
  obtain ⟨z, y, xs, r, o, es, ep, h1, h2, h3, h4, h5⟩ := (show ObjOk P w H h a (.dT kvs) from rd_of ok e)
  refine ⟨z, y, xs, r, o, es, ep, h1, h2, h3, h4, fun x hx => ?_, h5⟩
  have all : ∀ {l : List (List Key × V)} {m : List (List Key × Addr × Value)}, KT H l m → ∀ x ∈ m, (tupleKind (mixKind P w)).is h x.1 x.2.1 := by
    intro l m q
    induction q with
    | nil => intro x hx; exact nomatch hx
    | @cons p q ps qs hq t ih =>
      intro x hx
      rcases List.mem_cons.mp hx with e | hx
      · subst e
        exact key_of ok (by rw [← hq.1]; exact hq.2.1)
      · exact ih x hx
  exact all r x hx
theorem dt_of {kvs : List (List Key × V)} (ok : HOk P w H h) (e : H a = some (.dT kvs)) : kvs.length ≤ sizeLine ∧ (a == sysModules) = false ∧
    ∃ xs, KT H kvs xs ∧ h.DictOfH (tupleKind (mixKind P w)) a xs := dt_rd ok (.inl e)
end

/-- what the dict at a holds at the key y -/
def DGet (H : Hp) (a : Addr) (y : V) (r : Option V) : Prop :=
  (∃ kvs k, Rd H a (.dK kvs) ∧ y = kV k ∧ r = valV kvs k) ∨ ∃ kvs k b, Rd H a (.dT kvs) ∧ y = .ref b ∧ H b = some (.tup (k.map kV)) ∧ r = valV kvs k
/-- the heap behind a[y] = v -/
def DPut (H : Hp) (a : Addr) (y v : V) (H' : Hp) : Prop :=
  (∃ kvs k, H a = some (.dK kvs) ∧ y = kV k ∧ kvs.length < sizeLine ∧ H' = upd H a (.dK (putK kvs k v))) ∨
  ∃ kvs k b, H a = some (.dT kvs) ∧ y = .ref b ∧ H b = some (.tup (k.map kV)) ∧ kvs.length < sizeLine ∧ H' = upd H a (.dT (putK kvs k v))
theorem DGet.k {H : Hp} {a : Addr} {kvs : List (Key × V)} {k : Key} (e : H a = some (.dK kvs)) : DGet H a (kV k) (valV kvs k) := .inl ⟨kvs, k, .inl e, rfl, rfl⟩
theorem DGet.t {H : Hp} {a b : Addr} {kvs : List (List Key × V)} {k : List Key} (e : H a = some (.dT kvs)) (eb : H b = some (.tup (k.map kV))) : DGet H a (.ref b) (valV kvs k) := .inr ⟨kvs, k, b, .inl e, rfl, eb, rfl⟩
theorem DPut.k {H : Hp} {a : Addr} {kvs : List (Key × V)} {k : Key} {v : V} (e : H a = some (.dK kvs)) (hl : kvs.length < sizeLine) : DPut H a (kV k) v (upd H a (.dK (putK kvs k v))) := .inl ⟨kvs, k, e, rfl, hl, rfl⟩
theorem DPut.t {H : Hp} {a b : Addr} {kvs : List (List Key × V)} {k : List Key} {v : V} (e : H a = some (.dT kvs)) (eb : H b = some (.tup (k.map kV))) (hl : kvs.length < sizeLine) :
    DPut H a (.ref b) v (upd H a (.dT (putK kvs k v))) := .inr ⟨kvs, k, b, e, rfl, eb, hl, rfl⟩


section
variable {X : Cx} {pins : List (Addr × Obj)} {σ : St} {H : Hp} {s : Shared} {a : Addr} {y v : V} {u r : Value} {o : Option V} {A : Around} {E : Value → Shared → Prop}

theorem Inv.big (I : Inv X pins σ H s) : sysModules < s.heap.objs.size := by
  have h : mainGlobals < s.heap.objs.size := (I.mod.glob.keeps I.bk).lt
  exact Nat.lt_trans (by decide) h

/-- d[y], there -/
theorem d_getItem {Q : Value → Shared → Prop} (hu : A.units + 1 < cLine) (I : Inv X pins σ H s) (g : DGet H a y (some v)) (ry : RelV y u) (h : ∀ w' s', Inv X pins σ H s' → RelV v w' → Q w' s') :
    wpAny (model X.prog X.w) A (getItem (.ref a) u) Q E s := by
  rcases g with ⟨kvs, k, e, ey, l⟩ | ⟨kvs, k, b, e, ey, eb, l⟩
  · subst ey
    obtain ⟨z, hd, vs, rel, dd⟩ := dk_rd I.hok e
    obtain ⟨w', hw, rw'⟩ := RelO.some_of (v := v) (o := valueAt vs k) (by rw [l]; exact rel.val k)
    exact wpAny_getItem_of (kV_is ry) dd.mapOf hw (h w' _ (I.tok _) rw')
  · subst ey
    cases (show u = Value.ref b from ry)
    obtain ⟨z, hd, xs, rel, dd⟩ := dt_rd I.hok e
    obtain ⟨w', hw, rw'⟩ := RelO.some_of (v := v) (o := (atKey xs k).map (·.2)) (by rw [l]; exact rel.val k)
    obtain ⟨p, hp, hp2⟩ := Option.map_eq_some_iff.mp hw
    refine wpAny_getItem_heap (tupleKind_room_in1 hu) (key_of I.hok eb) dd hp ?_
    rw [hp2]
    exact h w' _ (I.tok _) rw'
/-- y in d -/
theorem d_in {Q : Value → Shared → Prop} (hu : A.units + 1 < cLine) (I : Inv X pins σ H s) (g : DGet H a y o) (ry : RelV y u) (h : ∀ s', Inv X pins σ H s' → Q (.bool o.isSome) s') :
    wpAny (model X.prog X.w) A (compareOp .In u (.ref a)) Q E s := by
  rcases g with ⟨kvs, k, e, ey, l⟩ | ⟨kvs, k, b, e, ey, eb, l⟩
  · subst ey
    obtain ⟨z, hd, vs, rel, dd⟩ := dk_rd I.hok e
    refine wpAny_in_of (kV_is ry) hd dd.mapOf ?_
    rw [← (rel.val k).isSome_eq, ← l]
    exact h _ (I.tok _)
  · subst ey
    cases (show u = Value.ref b from ry)
    obtain ⟨z, hd, xs, rel, dd⟩ := dt_rd I.hok e
    refine wpAny_in_heap (tupleKind_room_in1 hu) (key_of I.hok eb) hd dd ?_
    have q := (rel.val k).isSome_eq
    rw [Option.isSome_map] at q
    rw [← q, ← l]
    exact h _ (I.tok _)
theorem d_notIn {Q : Value → Shared → Prop} (hu : A.units + 1 < cLine) (I : Inv X pins σ H s) (g : DGet H a y o) (ry : RelV y u) (h : ∀ s', Inv X pins σ H s' → Q (.bool (!o.isSome)) s') :
    wpAny (model X.prog X.w) A (compareOp .NotIn u (.ref a)) Q E s := by
  rcases g with ⟨kvs, k, e, ey, l⟩ | ⟨kvs, k, b, e, ey, eb, l⟩
  · subst ey
    obtain ⟨z, hd, vs, rel, dd⟩ := dk_rd I.hok e
    refine wpAny_notIn_of (kV_is ry) hd dd.mapOf ?_
    rw [← (rel.val k).isSome_eq, ← l]
    exact h _ (I.tok _)
  · subst ey
    cases (show u = Value.ref b from ry)
    obtain ⟨z, hd, xs, rel, dd⟩ := dt_rd I.hok e
    refine wpAny_notIn_heap (tupleKind_room_in1 hu) (key_of I.hok eb) hd dd ?_
    have q := (rel.val k).isSome_eq
    rw [Option.isSome_map] at q
    rw [← q, ← l]
    exact h _ (I.tok _)
/-- a dict's object is replaced -/
theorem d_write {h' : Heap} {t' : Nat} {ob : HO} (I : Inv X pins σ H s) (mu : Mut (H a)) (hs : Heap.SameBut a s.heap h') (he : ∃ q, h'.get? a = some q) (new : ObjOk X.prog X.w (upd H a ob) h' a ob) :
    Inv X pins σ (upd H a ob) { s with heap := h', toks := t' } :=
  I.write (x := a) (e := a) mu (.inl rfl) (fun b q hb z => (hs.2 b hb).trans z) he new
theorem dk_new {P : Program} {w : World} {H' : Hp} {h' : Heap} {kvs : List (Key × V)} {vs : List (Key × Value)} (z : kvs.length ≤ sizeLine) (hd : (a == sysModules) = false) (rel : KV kvs vs) (dd : h'.DictOf (mixKind P w) a vs) :
    ObjOk P w H' h' a (.dK kvs) := ⟨z, hd, vs, rel, dd⟩
/-- d[y] = v -/
theorem d_setItem {H' : Hp} {Q : Unit → Shared → Prop} (hu : A.units + 1 < cLine) (I : Inv X pins σ H s) (g : DPut H a y v H') (ry : RelV y u) (rv : RelV v r) (h : ∀ s', Inv X pins σ H' s' → Q () s') :
    wpAny (model X.prog X.w) A (setItem (.ref a) u r) Q E s := by
  rcases g with ⟨kvs, k, e, ey, l, eH⟩ | ⟨kvs, k, b, e, ey, eb, l, eH⟩
  · subst ey eH
    obtain ⟨z, hd, vs, rel, dd⟩ := dk_of I.hok e
    have hz : vs.length ≤ sizeLine := by rw [← rel.length]; exact z
    have hl : (putK kvs k v).length ≤ sizeLine := by have := length_putK kvs k v; omega
    refine wpAny_setItem_pairs (hsz := hz) (kV_is ry) dd fun h' dd' hs => h _ ?_
    have he : ∃ q, h'.get? a = some q := let ⟨q, _, _, hq, _⟩ := dd'; ⟨q, hq⟩
    exact d_write I (by rw [e]; exact True.intro) hs he (dk_new hl hd (rel.put k rv) dd')
  · subst ey eH
    cases (show u = Value.ref b from ry)
    obtain ⟨z, hd, xs, rel, dd⟩ := dt_of I.hok e
    have hz : xs.length ≤ sizeLine := by rw [← Paired.length rel]; exact z
    have hl : (putK kvs k v).length ≤ sizeLine := by have := length_putK kvs k v; omega
    refine wpAny_setItem_heap (hsz := hz) (tupleKind_room_in1 hu) (key_of I.hok eb) dd fun h' dd' hs => h _ ?_
    obtain ⟨q, es, ep, hq, h2, h3, h4, _, h5⟩ := dd'
    refine d_write I (by rw [e]; exact True.intro) hs ⟨q, hq⟩ ⟨hl, hd, _, (rel.put k eb rv).keeps fun c ys ec => ?_, q, es, ep, hq, h2, h3, h4, h5⟩
    rw [upd_ne (ne_of ec e (fun z => nomatch z))]
    exact ec
end

section
variable {X : Cx} {pins : List (Addr × Obj)} {σ : St} {H : Hp} {s : Shared} {a : Addr} {kvs : List (Key × V)} {k : Key} {u : Value} {A : Around} {E : Value → Shared → Prop}
/-- del d[k] -/
theorem d_delItem {Q : Unit → Shared → Prop} (I : Inv X pins σ H s) (e : H a = some (.dK kvs)) (ry : RelV (kV k) u) (l : (valV kvs k).isSome = true) (h : ∀ s', Inv X pins σ (upd H a (.dK (dropK kvs k))) s' → Q () s') :
    wpAny (model X.prog X.w) A (delItem (.ref a) u) Q E s := by
  obtain ⟨z, hd, vs, rel, dd⟩ := dk_of I.hok e
  refine wpAny_delItem_slot dd.typeIs (by decide) PySem.F.slot_dict_delitem
    (call_meetsIn PySem.F.slot_dict_delitem dd.typeIs PySem.F.entry_dict_delitem (PySem.F.args_dict_delitem_2 _ _) (meets_dict_delitem_pairs (mixKind X.prog X.w) a (kV_is ry)) ⟨vs, dd, by rw [← rel.length]; exact z, by rw [← (rel.val k).isSome_eq]; exact l, fun h' dd' hs => h _ ?_⟩)
  have he : ∃ q, h'.get? a = some q := let ⟨q, _, _, hq, _⟩ := dd'; ⟨q, hq⟩
  exact d_write I (by rw [e]; exact True.intro) hs he (dk_new (Nat.le_trans (dropK_le kvs k) z) hd (rel.drop k) dd')
/-- d.pop(k[, x]), there -/
theorem d_pop {v : V} {more : List Value} {Q : Value → Shared → Prop} (I : Inv X pins σ H s) (e : H a = some (.dK kvs)) (ry : RelV (kV k) u) (l : valV kvs k = some v) (hm : more = [] ∨ ∃ x, more = [x])
    (h : ∀ w' s', Inv X pins σ (upd H a (.dK (dropK kvs k))) s' → RelV v w' → Q w' s') : wpAny (model X.prog X.w) A (call (.builtin "dict.pop") (.ref a :: u :: more)) Q E s := by
  obtain ⟨z, hd, vs, rel, dd⟩ := dk_of I.hok e
  obtain ⟨w', hw, rw'⟩ := RelO.some_of (v := v) (o := valueAt vs k) (by rw [← l]; exact rel.val k)
  have hp : (keyPart u).isSome = true := by
    cases k with
    | inl i => obtain ⟨t, q⟩ := (show ∃ t, u = Value.int i t from ry); subst q; rfl
    | inr x => obtain ⟨t, q⟩ := (show ∃ t, u = Value.str x t from ry); subst q; rfl
  have ha : argsOk "dict.pop" ⟨.ref a :: u :: more, []⟩ := by
    rcases hm with q | ⟨x, q⟩
    · subst q; exact PySem.F.args_dict_pop_2 _ _
    · subst q; exact PySem.F.args_dict_pop_3 _ _ _
  refine call_meetsIn PySem.F.slot_dict_pop dd.typeIs PySem.F.entry_dict_pop ha (meets_dict_pop_there (mixKind X.prog X.w) a (kV_is ry) more hm hp)
    ⟨vs, w', dd, by rw [← rel.length]; exact z, hw, fun h' dd' hs => h w' _ ?_ rw'⟩
  have he : ∃ q, h'.get? a = some q := let ⟨q, _, _, hq, _⟩ := dd'; ⟨q, hq⟩
  exact d_write I (by rw [e]; exact True.intro) hs he (dk_new (Nat.le_trans (dropK_le kvs k) z) hd (rel.drop k) dd')
/-- d.pop(k, x), not there -/
theorem d_popD {r : Value} {Q : Value → Shared → Prop} (I : Inv X pins σ H s) (e : H a = some (.dK kvs)) (ry : RelV (kV k) u) (l : valV kvs k = none) (h : ∀ s', Inv X pins σ H s' → Q r s') :
    wpAny (model X.prog X.w) A (call (.builtin "dict.pop") [.ref a, u, r]) Q E s := by
  obtain ⟨z, hd, vs, rel, dd⟩ := dk_of I.hok e
  have hn : valueAt vs k = none := RelO.none_of (by rw [← l]; exact rel.val k)
  have hp : (keyPart u).isSome = true := by
    cases k with
    | inl i => obtain ⟨t, q⟩ := (show ∃ t, u = Value.int i t from ry); subst q; rfl
    | inr x => obtain ⟨t, q⟩ := (show ∃ t, u = Value.str x t from ry); subst q; rfl
  exact call_meetsIn PySem.F.slot_dict_pop dd.typeIs PySem.F.entry_dict_pop (PySem.F.args_dict_pop_3 _ _ _) (meets_dict_pop_default (mixKind X.prog X.w) a (kV_is ry) hd hp r) ⟨vs, dd, hn, h _ (I.tok _)⟩
/-- d.clear() -/
theorem d_clear {Q : Value → Shared → Prop} (I : Inv X pins σ H s) (e : H a = some (.dK kvs)) (h : ∀ s', Inv X pins σ (upd H a (.dK [])) s' → Q .none s') : wpAny (model X.prog X.w) A (call (.builtin "dict.clear") [.ref a]) Q E s := by
  obtain ⟨z, hd, vs, rel, dd⟩ := dk_of I.hok e
  refine call_meetsIn PySem.F.slot_dict_clear dd.typeIs PySem.F.entry_dict_clear (PySem.F.args_dict_clear_1 _) (meets_dict_clear (mixKind X.prog X.w) a) ⟨vs, dd, by rw [← rel.length]; exact z, fun h' dd' hs => h _ ?_⟩
  have he : ∃ q, h'.get? a = some q := let ⟨q, _, _, hq, _⟩ := dd'; ⟨q, hq⟩
  exact d_write (t' := s.toks) I (by rw [e]; exact True.intro) hs he (dk_new (Nat.zero_le _) hd .nil dd')
/-- len(d) -/
theorem d_len {Q : Value → Shared → Prop} (I : Inv X pins σ H s) (e : Rd H a (.dK kvs)) (h : ∀ t s', Inv X pins σ H s' → Q (.int kvs.length t) s') : wpAny (model X.prog X.w) A (call (.builtin "len") [.ref a]) Q E s := by
  obtain ⟨z, hd, vs, rel, dd⟩ := dk_rd I.hok e
  refine call_len_dict hd dd (by rw [← rel.length]; rw [sizeLine_eq] at z; omega) ?_
  rw [← rel.length]
  exact h _ _ (I.tok _)
/-- if d -/
theorem d_truth {Q : Bool → Shared → Prop} (I : Inv X pins σ H s) (e : Rd H a (.dK kvs)) (h : ∀ s', Inv X pins σ H s' → Q (!kvs.isEmpty) s') : wpAny (model X.prog X.w) A (truthy (.ref a)) Q E s := by
  obtain ⟨z, hd, vs, rel, dd⟩ := dk_rd I.hok e
  refine wpAny_truthy_dict hd dd (by rw [← rel.length]; rw [sizeLine_eq] at z; omega) ?_
  have q : kvs.isEmpty = vs.isEmpty := by cases rel <;> rfl
  rw [← q]
  exact h _ (I.tok _)
end


/-! ### readings and rules -/
/-- the element of a subscription, not a slice -/
def NoSl (i : Expr) : Prop := ∀ ov iv, subscripted i false ov iv = operate [ov, iv] (getItem ov iv)
theorem subD_of {prog : Program} {w : World} {A : Around} {E : Value → Shared → Prop} {s : Shared} {env : Env} {value slice : Expr} {pos : Pos} {T id : String} {Q : Value → Shared → Prop}
    (hl : typeLookup (.type T) "__getitem__" = pure (some (.builtin id))) (hs : NoSl slice)
    (h : wpAny (model prog w) A (eval value env) (fun o s₁ => wpAny (model prog w) A (eval slice env) (fun i s₂ => s₂.TypeIs o T ∧ wpAny (model prog w) A (getItem o i) Q E s₂) E s₁) E s) :
    wpAny (model prog w) A (eval (.Subscript value slice pos) env) Q E s := by
  refine Subscript_ (wpAny_mono h (fun o s₁ h₁ => wpAny_mono h₁ (fun i s₂ h₂ => ?_) fun _ _ x => x) fun _ _ x => x)
  obtain ⟨hT, h₂⟩ := h₂
  unfold subscriptTail
  refine wpAny_bind ?_
  rw [getitemInPython_of_ne hT.not_modules]
  refine wpAny_bind (wpAny_specialOf hT hl ?_)
  have fin : wpAny (model prog w) A (subscripted slice false o i) (fun r s₃ => wpAny (model prog w) A (letTemporaryGo value o r >>= fun _ => pure r) Q E s₃) E s₂ := by
    rw [hs o i]
    exact wpAny_operating (wpAny_mono h₂ (fun r s₃ h₃ => wpAny_bind (wpAny_letTemporaryGo (wpAny_pure h₃))) fun _ _ x => x)
  first
    | exact wpAny_pure (wpAny_bind fin)
    | exact wpAny_bind (wpAny_pure (wpAny_bind fin))
    | exact wpAny_bind fin

theorem dict_typeIs {X : Cx} {pins : List (Addr × Obj)} {σ : St} {H : Hp} {s : Shared} {a : Addr} {y : V} {o : Option V} (I : Inv X pins σ H s) (g : DGet H a y o) : s.TypeIs (.ref a) "dict" := by
  rcases g with ⟨kvs, k, e, _, _⟩ | ⟨kvs, k, b, e, _, _, _⟩
  · obtain ⟨_, _, vs, _, dd⟩ := dk_rd I.hok e
    exact dd.typeIs
  · obtain ⟨_, _, xs, _, dd⟩ := dt_rd I.hok e
    exact dd.typeIs
theorem dict_noDict {X : Cx} {pins : List (Addr × Obj)} {σ : St} {H : Hp} {s : Shared} {a : Addr} {y : V} {o : Option V} (I : Inv X pins σ H s) (g : DGet H a y o) :
    ∀ b, Value.ref a = .ref b → ∃ ob, s.heap.get? b = some ob ∧ ob.dict = none := fun b q => by
  cases q
  rcases g with ⟨kvs, k, e, _, _⟩ | ⟨kvs, k, b, e, _, _, _⟩
  · obtain ⟨_, _, vs, _, ob, _, _, h1, h2, _⟩ := dk_rd I.hok e
    exact ⟨ob, h1, h2.2.1⟩
  · obtain ⟨_, _, xs, _, ob, _, _, h1, h2, _⟩ := dt_rd I.hok e
    exact ⟨ob, h1, h2.2.1⟩

/-- d[y] -/
def tDGet (td ty : TE) : TE := fun σ H Q => td σ H fun x H1 => ty σ H1 fun y H2 => ∃ a v, x = .ref a ∧ DGet H2 a y (some v) ∧ Q v H2
/-- y in d, y not in d -/
def tDIn (ty td : TE) : TE := fun σ H Q => ty σ H fun y H1 => td σ H1 fun x H2 => ∃ a o, x = .ref a ∧ DGet H2 a y o ∧ Q (.bl o.isSome) H2
def tDNotIn (ty td : TE) : TE := fun σ H Q => ty σ H fun y H1 => td σ H1 fun x H2 => ∃ a o, x = .ref a ∧ DGet H2 a y o ∧ Q (.bl (!o.isSome)) H2
/-- d[y] = v -/
def sDPut (td ty tv : TE) : TS := fun D σ H => tv σ H fun v H1 => td σ H1 fun x H2 => ty σ H2 fun y H3 => ∃ a H4, x = .ref a ∧ DPut H3 a y v H4 ∧ D.nx σ H4
/-- d[y] op= v -/
def sDAug (td ty tv : TE) (rd : V → V → Hp → VK → Prop) : TS := fun D σ H => td σ H fun x H1 => ty σ H1 fun y H2 => ∃ a v, x = .ref a ∧ DGet H2 a y (some v) ∧
  tv σ H2 fun y2 H3 => rd v y2 H3 fun z H4 => ∃ H5, DPut H4 a y z H5 ∧ D.nx σ H5
/-- del d[y] -/
def sDDel (td ty : TE) : TS := fun D σ H => td σ H fun x H1 => ty σ H1 fun y H2 => ∃ a kvs k, x = .ref a ∧ H2 a = some (.dK kvs) ∧ y = kV k ∧ (valV kvs k).isSome = true ∧ D.nx σ (upd H2 a (.dK (dropK kvs k)))

section
variable {X : Cx} {o i e value : Expr} {pos pos' tpos : Pos} {td ty tv : TE}
theorem pe_dget (hu : X.A.units + 1 < cLine) (ho : PE X o td) (hi : PE X i ty) (hs : NoSl i) : PE X (.Subscript o i pos) (tDGet td ty) := by
  unfold PE at *
  exact by
    intro pins s σ H Q I h
    refine subD_of PySem.F.slot_dict_getitem.lookup hs (thn (ho pins s σ H _ I h) fun u s1 ⟨x, H1, I1, rx, q1⟩ => thn (hi pins s1 σ H1 _ I1 q1) fun iv s2 ⟨y, H2, I2, ry, a, v, ex, g, q2⟩ => ?_)
    subst ex
    obtain rfl : u = Value.ref a := rx
    exact ⟨dict_typeIs I2 g, d_getItem hu I2 g ry fun w' s3 I3 rw' => ⟨v, H2, I3, rw', q2⟩⟩

theorem pc_din (hu : X.A.units + 1 < cLine) (hi : PE X i ty) (ho : PE X o td) : PC X .In i o (tDIn ty td) := by
  unfold PE at *; unfold PC at *
  exact by
    intro pins s σ H Q I h
    refine thn (hi pins s σ H _ I h) fun iv s1 ⟨y, H1, I1, ry, q1⟩ => thn (ho pins s1 σ H1 _ I1 q1) fun u s2 ⟨x, H2, I2, rx, a, ov, ex, g, q2⟩ => ?_
    subst ex
    obtain rfl : u = Value.ref a := rx
    exact d_in hu I2 g ry fun s3 I3 => ⟨.bl ov.isSome, H2, I3, rfl, q2⟩

theorem pc_dnotin (hu : X.A.units + 1 < cLine) (hi : PE X i ty) (ho : PE X o td) : PC X .NotIn i o (tDNotIn ty td) := by
  unfold PE at *; unfold PC at *
  exact by
    intro pins s σ H Q I h
    refine thn (hi pins s σ H _ I h) fun iv s1 ⟨y, H1, I1, ry, q1⟩ => thn (ho pins s1 σ H1 _ I1 q1) fun u s2 ⟨x, H2, I2, rx, a, ov, ex, g, q2⟩ => ?_
    subst ex
    obtain rfl : u = Value.ref a := rx
    exact d_notIn hu I2 g ry fun s3 I3 => ⟨.bl (!ov.isSome), H2, I3, rfl, q2⟩

theorem ps_dput (hu : X.A.units + 1 < cLine) (ho : PE X o td) (hi : PE X i ty) (hv : PE X value tv) (hs : swapsWith value (some (.Subscript o i pos')) pos.line X.env = pure false) :
    PS X (.Assign [.Subscript o i pos'] value pos) (sDPut td ty tv) := by
  unfold PE at *; unfold PS at *
  exact by
    intro pins s σ H D I h
    refine wpAny_Assign_Subscript (thn (hv pins s σ H _ I h) fun r s1 ⟨v, H1, I1, rv, q1⟩ => thn (ho pins s1 σ H1 _ I1 q1) fun u s2 ⟨x, H2, I2, rx, q2⟩ => thn (hi pins s2 σ H2 _ I2 q2) fun iv s3 ⟨y, H3, I3, ry, a, H4, ex, g, q3⟩ => ?_) hs
    subst ex
    obtain rfl : u = Value.ref a := rx
    exact d_setItem hu I3 g ry rv fun s4 I4 => ⟨σ, H4, I4, q3⟩

theorem ps_daug {op : Operator} {rd : V → V → Hp → VK → Prop} (hu : X.A.units + 1 < cLine) (ho : PE X o td) (hi : PE X i ty) (hv : PE X value tv) (hop : InOp X op rd)
    (ha : ∀ ov iv new, augStore i ov iv new = (do holding [new, ov, iv] (setItem ov iv new); release [new, ov, iv] []; pure .next)) : PS X (.AugAssign (.Subscript o i tpos) op value pos) (sDAug td ty tv rd) := by
  unfold PE at *; unfold PS at *
  exact by
    intro pins s σ H D I h
    refine wpAny_AugAssign_SubscriptAny (thn (ho pins s σ H _ I h) fun u s1 ⟨x, H1, I1, rx, q1⟩ => thn (hi pins s1 σ H1 _ I1 q1) fun iv s2 ⟨y, H2, I2, ry, a, v, ex, g, q2⟩ => ?_) ha
    subst ex
    obtain rfl : u = Value.ref a := rx
    refine d_getItem hu I2 g ry fun w' s3 I3 rw' => thn (hv pins s3 σ H2 _ I3 q2) fun w2 s4 ⟨y2, H3, I4, ry2, q3⟩ => thn (hop pins s4 σ H3 v y2 w' w2 _ I4 rw' ry2 q3) fun w3 s5 ⟨z, H4, I5, rz, H5, g5, q4⟩ => ?_
    exact d_setItem hu I5 g5 ry rz fun s6 I6 => ⟨σ, H5, I6, q4⟩

theorem ps_ddel (ho : PE X o td) (hi : PE X i ty) : PS X (.Delete [.Subscript o i tpos] pos) (sDDel td ty) := by
  unfold PE at *; unfold PS at *
  exact by
    intro pins s σ H D I h
    refine wpAny_Delete (wpAny_deleteEach_cons (wpAny_delete_Subscript (thn (ho pins s σ H _ I h) fun u s1 ⟨x, H1, I1, rx, q1⟩ => thn (hi pins s1 σ H1 _ I1 q1) fun iv s2 ⟨y, H2, I2, ry, a, kvs, k, ex, e, ey, l, q2⟩ => ?_)))
    subst ex ey
    obtain rfl : u = Value.ref a := rx
    exact d_delItem I2 e ry l fun s3 I3 => wpAny_deleteEach_nil ⟨σ, _, I3, q2⟩

end


/-! ### displays -/
theorem dk_empty {P : Program} {w : World} {H : Hp} (h : Heap) (hb : sysModules < h.objs.size) : ObjOk P w H (h.push { cls := .type "dict", data := .dict #[] }) h.objs.size (.dK []) :=
  ⟨Nat.zero_le _, beq_eq_false_iff_ne.mpr (Ne.symm (Nat.ne_of_lt hb)), [], .nil, Heap.DictOf.new h⟩
theorem dt_empty {P : Program} {w : World} {H : Hp} (h : Heap) (hb : sysModules < h.objs.size) : ObjOk P w H (h.push { cls := .type "dict", data := .dict #[] }) h.objs.size (.dT []) :=
  ⟨Nat.zero_le _, beq_eq_false_iff_ne.mpr (Ne.symm (Nat.ne_of_lt hb)), [], .nil, _, #[], 0, Heap.get?_push_size _ rfl, ⟨rfl, rfl, rfl⟩, rfl, rfl, List.nodup_nil⟩
/-- {}, to be a dict of the kind that is wanted -/
def tDNewK : TE := fun _ H Q => ∀ p, H p = none → Q (.ref p) (upd H p (.dK []))
def tDNewT : TE := fun _ H Q => ∀ p, H p = none → Q (.ref p) (upd H p (.dT []))
section
variable {X : Cx} {pos : Pos}
theorem pe_dnewK : PE X (.Dict [] [] pos) tDNewK := by
  unfold PE at *
  exact (fun pins s σ H Q I h =>
    wpAny_Dict_empty ⟨.ref s.heap.objs.size, _, I.laid (a := s.heap.objs.size) (o := .dK []) (t' := s.toks) (fun _ _ q => Heap.get?_push_of_some _ q) (Nat.le_refl _) (dk_empty s.heap I.big), rfl, h _ (I.hok.fresh (Nat.le_refl _))⟩)

theorem pe_dnewT : PE X (.Dict [] [] pos) tDNewT := by
  unfold PE at *
  exact (fun pins s σ H Q I h =>
    wpAny_Dict_empty ⟨.ref s.heap.objs.size, _, I.laid (a := s.heap.objs.size) (o := .dT []) (t' := s.toks) (fun _ _ q => Heap.get?_push_of_some _ q) (Nat.le_refl _) (dt_empty s.heap I.big), rfl, h _ (I.hok.fresh (Nat.le_refl _))⟩)

end

/-- the pairs of a display, from the left -/
def tPairs : List (TE × TE) → St → Hp → (List (V × V) → Hp → Prop) → Prop
  | [], _, H, Q => Q [] H
  | (tk, tv) :: r, σ, H, Q => tk σ H fun x H1 => tv σ H1 fun y H2 => tPairs r σ H2 fun ps H3 => Q ((x, y) :: ps) H3
abbrev VV : List (V × V) → List (Value × Value) → Prop := Paired fun p q => RelV p.1 q.1 ∧ RelV p.2 q.2
def PPs (X : Cx) (pos : Pos) (keys : List (Option Expr)) (values : List Expr) (trs : List (TE × TE)) : Prop :=
  ∀ (pins : List (Addr × Obj)) (s : Shared) (σ : St) (H : Hp) (Q : List (V × V) → Hp → Prop), Inv X pins σ H s → tPairs trs σ H Q →
    wpAny (model X.prog X.w) X.A (evalPairs (pairTrees keys values X.env pos)) (fun vs s' => ∃ ps H', Inv X pins σ H' s' ∧ VV ps vs ∧ Q ps H') X.xe s
theorem pps_nil {X : Cx} {pos : Pos} : PPs X pos [] [] [] := fun pins s σ H Q I h => pairTrees_nil_walk ⟨[], H, I, .nil, h⟩
theorem pps_cons {X : Cx} {pos : Pos} {k v : Expr} {ks : List (Option Expr)} {vs : List Expr} {tk tv : TE} {trs : List (TE × TE)} (hk : PE X k tk) (hv : PE X v tv) (hr : PPs X pos ks vs trs) :
    PPs X pos (some k :: ks) (v :: vs) ((tk, tv) :: trs) := by
  unfold PE at *
  exact (fun pins s σ H Q I h =>
    pairTrees_cons_walk (thn (hk pins s σ H _ I h) fun u s1 ⟨x, H1, I1, rx, q1⟩ => thn (hv pins s1 σ H1 _ I1 q1) fun w2 s2 ⟨y, H2, I2, ry, q2⟩ =>
      thn (hr pins s2 σ H2 _ I2 q2) fun ws s3 ⟨ps, H3, I3, rel, q3⟩ => ⟨(x, y) :: ps, H3, I3, .cons ⟨rx, ry⟩ rel, q3⟩))

def mergeK (kvs more : List (Key × V)) : List (Key × V) := more.foldl (fun acc kv => putK acc kv.1 kv.2) kvs
theorem KV.merge : ∀ {more : List (Key × V)} {rs : List (Key × Value)} {kvs : List (Key × V)} {vs : List (Key × Value)}, KV more rs → KV kvs vs → KV (mergeK kvs more) (merged vs rs) := by
  intro more rs kvs vs r
  unfold KV at r
  induction r generalizing kvs vs with
  | nil => intro q; exact q
  | @cons p q ps qs h t ih =>
    intro r0
    have e : KV (putK kvs p.1 p.2) (stored vs q.1 q.2) := by
      have := r0.put p.1 h.2
      rw [← h.1]; exact this
    exact ih e
theorem length_mergeK : ∀ (more kvs : List (Key × V)), (mergeK kvs more).length ≤ kvs.length + more.length
  | [], kvs => by show kvs.length ≤ kvs.length + 0; omega
  | p :: r, kvs => by
    have h1 := length_mergeK r (putK kvs p.1 p.2)
    have h2 := length_putK kvs p.1 p.2
    show (mergeK (putK kvs p.1 p.2) r).length ≤ _
    rw [List.length_cons]; omega
theorem carries_of {P : Program} {w : World} : ∀ {kvs : List (Key × V)} {ws : List (Value × Value)}, VV (kvs.map fun kv => (kV kv.1, kv.2)) ws → ∃ rs, Carries (mixKind P w) ws rs ∧ KV kvs rs
  | [], _, r => by rw [List.map_nil] at r; cases r; exact ⟨[], True.intro, .nil⟩
  | p :: kvs, _, r => by
    rw [List.map_cons] at r
    cases r with
    | @cons a b as bs h t =>
      obtain ⟨rs, c, q⟩ := carries_of (P := P) (w := w) t
      obtain ⟨b1, b2⟩ := b
      exact ⟨(p.1, b2) :: rs, ⟨kV_is h.1, rfl, c⟩, .cons ⟨rfl, h.2⟩ q⟩
/-- {k: v, ..} with keys ints and texts; the new dict stands empty while the pairs are made -/
def tDisp (trs : List (TE × TE)) : TE := fun σ H Q => ∀ p, H p = none → tPairs trs σ (upd H p (.dK [])) fun ps H2 => H2 p = some (.dK []) ∧ ∃ kvs : List (Key × V), ps = kvs.map (fun kv => (kV kv.1, kv.2)) ∧ kvs.length ≤ 15 ∧ Q (.ref p) (upd H2 p (.dK (mergeK [] kvs)))
theorem pe_disp {X : Cx} {pos : Pos} {keys : List (Option Expr)} {values : List Expr} {trs : List (TE × TE)} (h : PPs X pos keys values trs) (hall : keys.all (·.isSome) = true) (hl : keys.length = values.length) (h0 : keys ≠ [])
    (h15 : keys.length ≤ 15) : PE X (.Dict keys values pos) (tDisp trs) := by
  unfold PE at *
  exact by
    intro pins s σ H Q I q
    have hn := I.hok.fresh (Nat.le_refl s.heap.objs.size)
    have I1 := I.laid (a := s.heap.objs.size) (o := .dK []) (h' := s.heap.push { cls := .type "dict", data := .dict #[] }) (t' := s.toks) (fun _ _ q => Heap.get?_push_of_some _ q) (Nat.le_refl _) (dk_empty s.heap I.big)
    refine wpAny_Dict_walk (knd := mixKind X.prog X.w) hall hl h0 h15 (thn (h pins _ σ _ _ I1 (q _ hn)) fun ws s2 ⟨ps, H2, I2, rel, e, kvs, ep, lk, q2⟩ => ?_)
    subst ep
    obtain ⟨rs, c, rk⟩ := carries_of (P := X.prog) (w := X.w) rel
    obtain ⟨z, hd, vs0, r0, dd⟩ := dk_of I2.hok e
    cases r0
    refine ⟨rs, c, dd, fun h' dd' hs => ⟨.ref s.heap.objs.size, _, ?_, rfl, q2⟩⟩
    have hz : (mergeK [] kvs).length ≤ sizeLine := by
      have h1 := length_mergeK kvs []
      rw [List.length_nil] at h1
      rw [sizeLine_eq]; omega
    have he : ∃ q, h'.get? s.heap.objs.size = some q := let ⟨q, _, _, hq, _⟩ := dd'; ⟨q, hq⟩
    exact d_write I2 (by rw [e]; exact True.intro) hs he (dk_new hz hd (rk.merge .nil) dd')

/-! ### methods -/
/-- a method call o.m(e) of a built-in, with one argument: what must be seen of the text -/
structure M1 (X : Cx) (o : Expr) (m : Str) (apos : Pos) (e : Expr) (cpos : Pos) : Prop where
  base : attributeBase o m X.env (eval o X.env) = eval o X.env
  few : ((backTo cpos (starEach [e] X.env)).all (fun x => !x.1) && (backToKw cpos (keywordEach [] X.env)).all (fun x => x.1.isSome)
    && decide (([e] : List Expr).length + ([] : List Keyword).length + (if ([] : List Keyword).isEmpty then 0 else 1) < 30)) = true
  line : (apos.endLine == cpos.line) = true
  trees : backTo cpos (starEach [e] X.env) = [(false, eval e X.env)]
structure M2 (X : Cx) (o : Expr) (m : Str) (apos : Pos) (e f : Expr) (cpos : Pos) : Prop where
  base : attributeBase o m X.env (eval o X.env) = eval o X.env
  few : ((backTo cpos (starEach [e, f] X.env)).all (fun x => !x.1) && (backToKw cpos (keywordEach [] X.env)).all (fun x => x.1.isSome)
    && decide (([e, f] : List Expr).length + ([] : List Keyword).length + (if ([] : List Keyword).isEmpty then 0 else 1) < 30)) = true
  line : (apos.endLine == cpos.line) = true
  trees : backTo cpos (starEach [e, f] X.env) = [(false, eval e X.env), (false, eval f X.env)]

/-- a is a dict, whatever its keys -/
def IsD (H : Hp) (a : Addr) : Prop := (∃ kvs, Rd H a (.dK kvs)) ∨ ∃ kvs, Rd H a (.dT kvs)
theorem isD_at {X : Cx} {pins : List (Addr × Obj)} {σ : St} {H : Hp} {s : Shared} {a : Addr} (I : Inv X pins σ H s) (d : IsD H a) :
    s.TypeIs (.ref a) "dict" ∧ (∀ b, Value.ref a = .ref b → ∃ ob, s.heap.get? b = some ob ∧ ob.dict = none) ∧ (a == sysModules) = false := by
  rcases d with ⟨kvs, e⟩ | ⟨kvs, e⟩
  · obtain ⟨_, hd, vs, _, dd⟩ := dk_rd I.hok e
    refine ⟨dd.typeIs, fun b q => ?_, hd⟩
    cases q
    obtain ⟨ob, _, _, h1, h2, _⟩ := dd
    exact ⟨ob, h1, h2.2.1⟩
  · obtain ⟨_, hd, xs, _, dd⟩ := dt_rd I.hok e
    refine ⟨dd.typeIs, fun b q => ?_, hd⟩
    cases q
    obtain ⟨ob, _, _, h1, h2, _⟩ := dd
    exact ⟨ob, h1, h2.2.1⟩

section
variable {X : Cx} {pins : List (Addr × Obj)} {σ : St} {H : Hp} {s : Shared} {a : Addr} {y d : V} {u r : Value} {o : Option V} {A : Around} {E : Value → Shared → Prop}
/-- d.get(y) -/
theorem d_get1 {Q : Value → Shared → Prop} (hu : A.units + 1 < cLine) (I : Inv X pins σ H s) (g : DGet H a y o) (ry : RelV y u) (h : ∀ w' s', Inv X pins σ H s' → RelV (o.getD .non) w' → Q w' s') :
    wpAny (model X.prog X.w) A (call (.builtin "dict.get") [.ref a, u]) Q E s := by
  rcases g with ⟨kvs, k, e, ey, l⟩ | ⟨kvs, k, b, e, ey, eb, l⟩
  · subst ey
    obtain ⟨z, hd, vs, rel, dd⟩ := dk_rd I.hok e
    refine call_meetsIn PySem.F.slot_dict_get dd.typeIs PySem.F.entry_dict_get (PySem.F.args_dict_get_2 _ _) (meets_dict_get (mixKind X.prog X.w) a (kV_is ry) hd) ⟨_, dd.mapOf, h _ _ (I.tok _) ?_⟩
    rw [l]
    exact (rel.val k).getD rfl
  · subst ey
    cases (show u = Value.ref b from ry)
    obtain ⟨z, hd, xs, rel, dd⟩ := dt_rd I.hok e
    refine call_meetsIn PySem.F.slot_dict_get dd.typeIs PySem.F.entry_dict_get (PySem.F.args_dict_get_2 _ _) (meetsH_dict_get (tupleKind (mixKind X.prog X.w)) a b hd) ⟨tupleKind_room_in1 hu, k, xs, key_of I.hok eb, dd, h _ _ (I.tok _) ?_⟩
    rw [l]
    exact (rel.val k).getD rfl
/-- d.get(y, x) -/
theorem d_get2 {Q : Value → Shared → Prop} (hu : A.units + 1 < cLine) (I : Inv X pins σ H s) (g : DGet H a y o) (ry : RelV y u) (rd : RelV d r) (h : ∀ w' s', Inv X pins σ H s' → RelV (o.getD d) w' → Q w' s') :
    wpAny (model X.prog X.w) A (call (.builtin "dict.get") [.ref a, u, r]) Q E s := by
  rcases g with ⟨kvs, k, e, ey, l⟩ | ⟨kvs, k, b, e, ey, eb, l⟩
  · subst ey
    obtain ⟨z, hd, vs, rel, dd⟩ := dk_rd I.hok e
    refine call_meetsIn PySem.F.slot_dict_get dd.typeIs PySem.F.entry_dict_get (PySem.F.args_dict_get_3 _ _ _) (meets_dict_get_default (mixKind X.prog X.w) a (kV_is ry) hd r) ⟨_, dd.mapOf, h _ _ (I.tok _) ?_⟩
    rw [l]
    exact (rel.val k).getD rd
  · subst ey
    cases (show u = Value.ref b from ry)
    obtain ⟨z, hd, xs, rel, dd⟩ := dt_rd I.hok e
    refine call_meetsIn PySem.F.slot_dict_get dd.typeIs PySem.F.entry_dict_get (PySem.F.args_dict_get_3 _ _ _) (meetsH_dict_get_default (tupleKind (mixKind X.prog X.w)) a b hd r) ⟨tupleKind_room_in1 hu, k, xs, key_of I.hok eb, dd, h _ _ (I.tok _) ?_⟩
    rw [l]
    exact (rel.val k).getD rd
end

def tDGet1 (td ty : TE) : TE := fun σ H Q => td σ H fun x H1 => ∃ a, x = .ref a ∧ IsD H1 a ∧ ty σ H1 fun y H2 => ∃ o, DGet H2 a y o ∧ Q (o.getD .non) H2
def tDGet2 (td ty tx : TE) : TE := fun σ H Q => td σ H fun x H1 => ∃ a, x = .ref a ∧ IsD H1 a ∧ ty σ H1 fun y H2 => tx σ H2 fun z H3 => ∃ o, DGet H3 a y o ∧ Q (o.getD z) H3
/-- d.pop(k): there; d.pop(k, x): there or not -/
def tDPop1 (td ty : TE) : TE := fun σ H Q => td σ H fun x H1 => ∃ a, x = .ref a ∧ IsD H1 a ∧ ty σ H1 fun y H2 => ∃ kvs k v, H2 a = some (.dK kvs) ∧ y = kV k ∧ valV kvs k = some v ∧ Q v (upd H2 a (.dK (dropK kvs k)))
def tDPop2 (td ty tx : TE) : TE := fun σ H Q => td σ H fun x H1 => ∃ a, x = .ref a ∧ IsD H1 a ∧ ty σ H1 fun y H2 => tx σ H2 fun z H3 => ∃ kvs k, H3 a = some (.dK kvs) ∧ y = kV k ∧
  (∀ v, valV kvs k = some v → Q v (upd H3 a (.dK (dropK kvs k)))) ∧ (valV kvs k = none → Q z H3)
section
variable {X : Cx} {o e f : Expr} {apos cpos : Pos} {td ty tx : TE}
theorem pe_dget1 (hu : X.A.units + 1 < cLine) (ho : PE X o td) (he : PE X e ty) (m : M1 X o "get" apos e cpos) : PE X (.Call (.Attribute o "get" apos) [e] [] cpos) (tDGet1 td ty) := by
  unfold PE at *
  exact by
    intro pins s σ H Q I h
    refine wpAny_Call_method m.base m.few m.line PySem.F.plainAttrs_dict PySem.F.slot_dict_get PySem.F.type_dict_get (thn (ho pins s σ H _ I h) fun u s1 ⟨x, H1, I1, rx, a, ex, d, q1⟩ => ?_)
    subst ex
    obtain rfl : u = Value.ref a := rx
    obtain ⟨t1, t2, _⟩ := isD_at I1 d
    refine ⟨t1, t2, ?_⟩
    rw [m.trees]
    refine Calls.callWith_builtin rfl (Calls.evalArgs_plain (Calls.spliced_cons (thn (he pins s1 σ H1 _ I1 q1) fun iv s2 ⟨y, H2, I2, ry, ov, g, q2⟩ => Calls.spliced_nil ?_)))
    exact d_get1 hu I2 g ry fun w' s3 I3 rw' => ⟨_, H2, I3, rw', q2⟩

theorem pe_dget2 (hu : X.A.units + 1 < cLine) (ho : PE X o td) (he : PE X e ty) (hf : PE X f tx) (m : M2 X o "get" apos e f cpos) : PE X (.Call (.Attribute o "get" apos) [e, f] [] cpos) (tDGet2 td ty tx) := by
  unfold PE at *
  exact by
    intro pins s σ H Q I h
    refine wpAny_Call_method m.base m.few m.line PySem.F.plainAttrs_dict PySem.F.slot_dict_get PySem.F.type_dict_get (thn (ho pins s σ H _ I h) fun u s1 ⟨x, H1, I1, rx, a, ex, d, q1⟩ => ?_)
    subst ex
    obtain rfl : u = Value.ref a := rx
    obtain ⟨t1, t2, _⟩ := isD_at I1 d
    refine ⟨t1, t2, ?_⟩
    rw [m.trees]
    refine Calls.callWith_builtin rfl (Calls.evalArgs_plain (Calls.spliced_cons (thn (he pins s1 σ H1 _ I1 q1) fun iv s2 ⟨y, H2, I2, ry, q2⟩ =>
      Calls.spliced_cons (thn (hf pins s2 σ H2 _ I2 q2) fun fv s3 ⟨z, H3, I3, rz, ov, g, q3⟩ => Calls.spliced_nil ?_))))
    exact d_get2 hu I3 g ry rz fun w' s4 I4 rw' => ⟨_, H3, I4, rw', q3⟩

theorem pe_dpop1 (ho : PE X o td) (he : PE X e ty) (m : M1 X o "pop" apos e cpos) : PE X (.Call (.Attribute o "pop" apos) [e] [] cpos) (tDPop1 td ty) := by
  unfold PE at *
  exact by
    intro pins s σ H Q I h
    refine wpAny_Call_method m.base m.few m.line PySem.F.plainAttrs_dict PySem.F.slot_dict_pop PySem.F.type_dict_pop (thn (ho pins s σ H _ I h) fun u s1 ⟨x, H1, I1, rx, a, ex, d, q1⟩ => ?_)
    subst ex
    obtain rfl : u = Value.ref a := rx
    obtain ⟨t1, t2, _⟩ := isD_at I1 d
    refine ⟨t1, t2, ?_⟩
    rw [m.trees]
    refine Calls.callWith_builtin rfl (Calls.evalArgs_plain (Calls.spliced_cons (thn (he pins s1 σ H1 _ I1 q1) fun iv s2 ⟨y, H2, I2, ry, kvs, k, v, ea, ey, l, q2⟩ => Calls.spliced_nil ?_)))
    subst ey
    exact d_pop I2 ea ry l (.inl rfl) fun w' s3 I3 rw' => ⟨v, _, I3, rw', q2⟩

theorem pe_dpop2 (ho : PE X o td) (he : PE X e ty) (hf : PE X f tx) (m : M2 X o "pop" apos e f cpos) : PE X (.Call (.Attribute o "pop" apos) [e, f] [] cpos) (tDPop2 td ty tx) := by
  unfold PE at *
  exact by
    intro pins s σ H Q I h
    refine wpAny_Call_method m.base m.few m.line PySem.F.plainAttrs_dict PySem.F.slot_dict_pop PySem.F.type_dict_pop (thn (ho pins s σ H _ I h) fun u s1 ⟨x, H1, I1, rx, a, ex, d, q1⟩ => ?_)
    subst ex
    obtain rfl : u = Value.ref a := rx
    obtain ⟨t1, t2, _⟩ := isD_at I1 d
    refine ⟨t1, t2, ?_⟩
    rw [m.trees]
    refine Calls.callWith_builtin rfl (Calls.evalArgs_plain (Calls.spliced_cons (thn (he pins s1 σ H1 _ I1 q1) fun iv s2 ⟨y, H2, I2, ry, q2⟩ =>
      Calls.spliced_cons (thn (hf pins s2 σ H2 _ I2 q2) fun fv s3 ⟨z, H3, I3, rz, kvs, k, ea, ey, q3, q4⟩ => Calls.spliced_nil ?_))))
    subst ey
    cases l : valV kvs k with
    | some v => exact d_pop I3 ea ry l (.inr ⟨fv, rfl⟩) fun w' s4 I4 rw' => ⟨v, _, I4, rw', q3 v l⟩
    | none => exact d_popD I3 ea ry l fun s4 I4 => ⟨z, H3, I4, rz, q4 l⟩

end

/-! ### dict(d): a copy -/
section
variable {X : Cx} {pins : List (Addr × Obj)} {σ : St} {H : Hp} {s : Shared} {a : Addr} {kvs : List (Key × V)} {A : Around} {E : Value → Shared → Prop}
theorem d_copyOf {Q : Value → Shared → Prop} (I : Inv X pins σ H s) (e : Rd H a (.dK kvs)) (h : ∀ p s', H p = none → Inv X pins σ (upd H p (.dK kvs)) s' → Q (.ref p) s') : wpAny (model X.prog X.w) A (call (.type "dict") [.ref a]) Q E s := by
  obtain ⟨z, hd, vs, rel, dd⟩ := dk_rd I.hok e
  refine kt_call_dict hd dd (by rw [← rel.length]; exact z) fun h' dd' hs => ?_
  refine h _ _ (I.hok.fresh (Nat.le_refl _)) (I.laid (a := s.heap.objs.size) (o := .dK kvs) (t' := s.toks) (fun b q hq => ?_) (Nat.le_refl _) (dk_new z (beq_eq_false_iff_ne.mpr (Ne.symm (Nat.ne_of_lt I.big))) rel dd'))
  exact (hs.2 b (Nat.ne_of_lt (Heap.lt_size hq))).trans (Heap.get?_push_of_some _ hq)
end


section
variable {X : Cx} {pins : List (Addr × Obj)} {σ : St} {H : Hp} {s : Shared} {a : Addr} {y : V} {u : Value} {A : Around} {E : Value → Shared → Prop}
/-- d[y], not there: a KeyError -/
theorem d_missing {Q : Value → Shared → Prop} (hu : A.units + 1 < cLine) (hh : A.handled = none) (I : Inv X pins σ H s) (g : DGet H a y none) (ry : RelV y u)
    (h : ∀ h' e t', Heap.NewExc s.heap h' e "KeyError" → E (.ref e) { s with heap := h', toks := t' }) : wpAny (model X.prog X.w) A (getItem (.ref a) u) Q E s := by
  rcases g with ⟨kvs, k, e, ey, l⟩ | ⟨kvs, k, b, e, ey, eb, l⟩
  · subst ey
    obtain ⟨z, hd, vs, rel, dd⟩ := dk_rd I.hok e
    have hn : valueAt vs k = none := RelO.none_of (by rw [l]; exact rel.val k)
    exact wpAny_getItem_missing_of (kV_is ry) hd hh dd.mapOf hn fun h' ex ne => h h' ex _ ne
  · subst ey
    cases (show u = Value.ref b from ry)
    obtain ⟨z, hd, xs, rel, dd⟩ := dt_rd I.hok e
    have hn : (atKey xs k).map (·.2) = none := RelO.none_of (by rw [l]; exact rel.val k)
    exact wpAny_getItem_missing_heap (tupleKind_room_in1 hu) (key_of I.hok eb) hd hh dd (Option.map_eq_none_iff.mp hn) fun h' ex ne => h h' ex _ ne
end
end L2

namespace Att
open PySem PySem.W PySem.Calls PyProof.Rows

/-! ### the script -/
theorem ints_of_wellAll {P : Params} {h : Heap} : ∀ (ns : List Int) (vs : List Value), WellAll P h vs (ns.map WData.int) → IntsAre vs ns := by
  intro ns
  induction ns with
  | nil =>
    intro vs w
    rw [List.map_nil] at w
    cases w
    exact .nil
  | cons n ns ih =>
    intro vs w
    rw [List.map_cons] at w
    cases w with
    | cons a b =>
      cases a
      exact .cons _ _ (ih _ b)

theorem script_of {l : OpenLaw} {n : Nat} (hn : l.most = some n) {P : Params} {h : Heap} {args : List WData} {vals : List Value}
    (hpre : l.row.toRowW.claim.pre args = true) (hwl : WellAll P h vals args) :
    ∃ a vs ns, vals = [Value.ref a] ∧ args = [WData.list (ns.map WData.int)] ∧ h.get? a = some { cls := .type "list", data := .seq vs.toArray } ∧ IntsAre vs ns ∧ ns.length ≤ n := by
  have hsh : WShape.hasAll [] args [.list .int] = true := (pre_splitW hpre).1
  have hc : l.pre.holds [] { args := args } = true := (pre_splitW hpre).2
  obtain ⟨d, r, rfl, h1, h2⟩ := hasAllW_cons hsh
  obtain rfl := hasAllW_nil h2
  obtain ⟨xs, rfl, h3⟩ := hasW_list h1
  obtain ⟨ns, rfl⟩ := items_int h3
  have hlen : ns.length ≤ n := by
    unfold OpenLaw.pre at hc
    have h4 : (WTm.not (.lt (.lit (.int (n : Int))) (.len (.arg 0)))).holds [] { args := [.list (ns.map .int)] } = true := by
      have h4 := (holds_andW hc).1
      rw [hn] at h4
      exact h4
    have h5 := condW_of h4 (w_not (w_lt w_lit (w_len_list (w_arg rfl))))
    rw [List.length_map] at h5
    refine Nat.le_of_not_lt fun q => ?_
    have q' : (n : Int) < ((ns.length : Nat) : Int) := by omega
    first
      | (rw [decide_eq_true q'] at h5; exact absurd h5 (by decide))
      | (simp at h5; omega)
  cases hwl with
  | cons w1 w2 =>
    cases w2
    cases w1 with
    | list ho hall => exact ⟨_, _, ns, rfl, rfl, ho, ints_of_wellAll ns _ hall, hlen⟩

theorem post_true (l : OpenLaw) (args : List WData) : l.row.toRowW.claim.post args (.bool true) args = true :=
  postW_of (r := l.row.toRowW) (X := (true == true))
    (show WShape.has [] (.bool true) .bool = true by first | rfl | decide | simp [WShape.has, WShape.arms, WShape.armsAll])
    (show (WTm.eq .res (.lit (.bool true))).value [] { args := args, res := some (.bool true), after := args } = some (.bool (true == true)) from w_eq_bool (w_res rfl) w_lit) rfl

/-! ### the attachment: holds_open's last premise (the goal 'hc' behind k_head) from a wpAny of the law's body -/
theorem attach {l : OpenLaw} {n : Nat} {q : Program} {loose : List Str} {XP : (Str → Option Value) → Heap → Prop} {YP : World → Heap → Prop} {d : DefRec} {x : Str}
    (hn : l.most = some n) (hdf : d.params.defaults = [])
    (hbind : ∀ pm cd doc v : Value, bindArgs (docDef d.name d.params d.body d.scope pm cd doc) ⟨[v], []⟩ = pure [(x, v)])
    (hx : d.scope.names.lookup x = some .local ∨ d.scope.names.lookup x = some .cell)
    (hk : d.scope.kind = .function) (hco : d.scope.isCoroutine = false) (hgen : d.scope.isGenerator = false)
    (body : ∀ (w : World) (s₀ s₁ s : Shared) (mg mb : Str → Option Value) (fa : Addr) (o : Obj) (pm cd doc : Value) (a : Addr) (vs : List Value) (ns : List Int),
      Ground q loose [] XP w s₀ mg mb s₁.heap → YP w s₁.heap →
      s₁.heap.get? fa = some o → o.data = .func (docDef d.name d.params d.body d.scope pm cd doc) → s₁.heap.CodeRec cd d.name → mg d.name = some (.ref fa) →
      s₁.heap.get? a = some { cls := .type "list", data := .seq vs.toArray } → IntsAre vs ns → ns.length ≤ n →
      s.gens = #[] → s.os = s₁.os →
      Fr s₁.heap s₁.heap.objs.size s.heap (bindL (envOfC d.name d.scope s₁.heap.objs.size fa cd).kindOf [(x, .ref a)] fun _ => none) →
      Cl s₁.heap.objs.size (cellsFrom (s₁.heap.objs.size + 1) d.scope.names []) s.heap (bindC (envOfC d.name d.scope s₁.heap.objs.size fa cd).kindOf [(x, .ref a)] fun _ => none) →
      wpAny (model l.prog w) (callerA.deeper (envOfC d.name d.scope s₁.heap.objs.size fa cd)) (execs d.body (envOfC d.name d.scope s₁.heap.objs.size fa cd))
        (fun f s' => f = .ret (.bool true) ∧ OldK s₁.heap s'.heap ∧ s'.os = s₁.os ∧ AllBare s'.gens) (fun _ _ => False) s) :
    WalkO q loose XP YP l.row.toRowW d [] (fun f vs => PySem.call f vs) := by
  intro w s₀ s₁ mg mb G Y fa o pm cd doc dV kV ho hd hcd hD hmg hg args vals as hpre hlay hrd hwl hlo
  obtain rfl : dV = .none := Dflts.none hD hdf
  obtain rfl : kV = .none := Dflts.noKw hD
  obtain ⟨a, vs, ns, rfl, rfl, hobj, hints, hlen⟩ := script_of hn hpre hwl
  refine enter_call ?_
  refine call_cells_ret (o := o) (by rw [depth_caller]; decide) ho (fd_plain hd) G.T.nolimit hcd (hbind pm cd doc (.ref a)) (fun y hy => ?_) (fun h₁ tk F X => ?_) hco hgen hk
  · obtain rfl : y = (x, Value.ref a) := List.mem_singleton.mp hy
    rcases hx with e | e
    · exact .inl e
    · exact .inr ⟨e, cellsFrom_some _ _ _ (.inl e)⟩
  · refine wpAny_mono (body w s₀ s₁ { s₁ with heap := h₁, toks := tk } mg mb fa o pm cd doc a vs ns G Y ho (fd_plain hd) hcd hmg hobj hints hlen hg rfl F X) (fun f s' hq => ?_) (fun _ _ hq => hq)
    obtain ⟨rfl, h2, h3, h4⟩ := hq
    exact ⟨.inl ⟨.bool true, .bool true, [], rfl, fun _ => rfl, .bool true, post_true l _, fun _ => ⟨List.Pairwise.nil, fun _ hm => (nomatch hm)⟩⟩, h2, h3, h4⟩

/-- the same from a codeAny of the CALL (for a layer whose function contracts speak of calls) -/
theorem attach_call {l : OpenLaw} {n : Nat} {q : Program} {loose : List Str} {XP : (Str → Option Value) → Heap → Prop} {YP : World → Heap → Prop} {d : DefRec}
    (hn : l.most = some n) (hdf : d.params.defaults = [])
    (call : ∀ (w : World) (s₀ s₁ : Shared) (mg mb : Str → Option Value) (fa : Addr) (o : Obj) (pm cd doc : Value) (a : Addr) (vs : List Value) (ns : List Int),
      Ground q loose [] XP w s₀ mg mb s₁.heap → YP w s₁.heap →
      s₁.heap.get? fa = some o → o.data = .func (docDef d.name d.params d.body d.scope pm cd doc) → s₁.heap.CodeRec cd d.name → mg d.name = some (.ref fa) →
      s₁.heap.get? a = some { cls := .type "list", data := .seq vs.toArray } → IntsAre vs ns → ns.length ≤ n → s₁.gens = #[] →
      codeAny (model l.prog w) callerA (.call (.ref fa) ⟨[.ref a], []⟩) (fun r s' => r = .ok (.ret (.bool true)) ∧ OldK s₁.heap s'.heap ∧ s'.os = s₁.os ∧ AllBare s'.gens) s₁) :
    WalkO q loose XP YP l.row.toRowW d [] (fun f vs => PySem.call f vs) := by
  intro w s₀ s₁ mg mb G Y fa o pm cd doc dV kV ho hd hcd hD hmg hg args vals as hpre hlay hrd hwl hlo
  obtain rfl : dV = .none := Dflts.none hD hdf
  obtain rfl : kV = .none := Dflts.noKw hD
  obtain ⟨a, vs, ns, rfl, rfl, hobj, hints, hlen⟩ := script_of hn hpre hwl
  refine enter_call (codeAny_mono (call w s₀ s₁ mg mb fa o pm cd doc a vs ns G Y ho (fd_plain hd) hcd hmg hobj hints hlen hg) fun r s' hq => ?_)
  obtain ⟨rfl, h2, h3, h4⟩ := hq
  exact ⟨.inl ⟨.bool true, .bool true, [], rfl, fun _ => rfl, .bool true, post_true l _, fun _ => ⟨List.Pairwise.nil, fun _ hm => (nomatch hm)⟩⟩, h2, h3, h4⟩

/-- the same where the top left finished generators (o_head chose holds_openN): nothing may have changed at all and no generator may be left -/
theorem attachN {l : OpenLaw} {n : Nat} {q : Program} {loose : List Str} {XP : (Str → Option Value) → Heap → Prop} {YP : World → Heap → Prop} {d : DefRec} {x : Str}
    (hn : l.most = some n) (hdf : d.params.defaults = [])
    (hbind : ∀ pm cd doc v : Value, bindArgs (docDef d.name d.params d.body d.scope pm cd doc) ⟨[v], []⟩ = pure [(x, v)])
    (hx : d.scope.names.lookup x = some .local ∨ d.scope.names.lookup x = some .cell)
    (hk : d.scope.kind = .function) (hco : d.scope.isCoroutine = false) (hgen : d.scope.isGenerator = false)
    (body : ∀ (w : World) (s₀ s₁ s : Shared) (mg mb : Str → Option Value) (fa : Addr) (o : Obj) (pm cd doc : Value) (a : Addr) (vs : List Value) (ns : List Int),
      Ground q loose [] XP w s₀ mg mb s₁.heap → YP w s₁.heap →
      s₁.heap.get? fa = some o → o.data = .func (docDef d.name d.params d.body d.scope pm cd doc) → s₁.heap.CodeRec cd d.name → mg d.name = some (.ref fa) →
      s₁.heap.get? a = some { cls := .type "list", data := .seq vs.toArray } → IntsAre vs ns → ns.length ≤ n →
      s.gens = #[] → s.os = s₁.os →
      Fr s₁.heap s₁.heap.objs.size s.heap (bindL (envOfC d.name d.scope s₁.heap.objs.size fa cd).kindOf [(x, .ref a)] fun _ => none) →
      Cl s₁.heap.objs.size (cellsFrom (s₁.heap.objs.size + 1) d.scope.names []) s.heap (bindC (envOfC d.name d.scope s₁.heap.objs.size fa cd).kindOf [(x, .ref a)] fun _ => none) →
      wpAny (model l.prog w) (callerA.deeper (envOfC d.name d.scope s₁.heap.objs.size fa cd)) (execs d.body (envOfC d.name d.scope s₁.heap.objs.size fa cd))
        (fun f s' => f = .ret (.bool true) ∧ (∀ b o, s₁.heap.get? b = some o → s'.heap.get? b = some o) ∧ s'.os = s₁.os ∧ s'.gens = #[]) (fun _ _ => False) s) :
    WalkN q loose XP YP l.row.toRowW d [] (fun f vs => PySem.call f vs) := by
  intro w s₀ s₁ mg mb G Y fa o pm cd doc dV kV ho hd hcd hD hmg hg args vals as hpre hlay hrd hwl hlo
  obtain rfl : dV = .none := Dflts.none hD hdf
  obtain rfl : kV = .none := Dflts.noKw hD
  obtain ⟨a, vs, ns, rfl, rfl, hobj, hints, hlen⟩ := script_of hn hpre hwl
  refine enter_callW ?_
  refine call_cells_ret (o := o) (by rw [depth_caller]; decide) ho (fd_plain hd) G.T.nolimit hcd (hbind pm cd doc (.ref a)) (fun y hy => ?_) (fun h₁ tk F X => ?_) hco hgen hk
  · obtain rfl : y = (x, Value.ref a) := List.mem_singleton.mp hy
    rcases hx with e | e
    · exact .inl e
    · exact .inr ⟨e, cellsFrom_some _ _ _ (.inl e)⟩
  · refine wpAny_mono (body w s₀ s₁ { s₁ with heap := h₁, toks := tk } mg mb fa o pm cd doc a vs ns G Y ho (fd_plain hd) hcd hmg hobj hints hlen hg rfl F X) (fun f s' hq => ?_) (fun _ _ hq => hq)
    obtain ⟨rfl, h2, h3, h4⟩ := hq
    exact ⟨.inl ⟨.bool true, .bool true, [], rfl, fun _ => rfl, .bool true, post_true l _, fun _ => ⟨List.Pairwise.nil, fun _ hm => (nomatch hm)⟩⟩, h2, h3, h4⟩

/-! ### rules over ANY heap (no ledger) from facts about the written part K: the library's own take a ledger (News) for what they write -/
section
variable {prog : Program} {w : World} {A : Around} {E : Value → Shared → Prop} {s : Shared} {K : Frag}

/-- a def of the module, or a method (qual 'C.m'), entered: the frame is the next address; cells behind it -/
theorem call_fn {R : Result → Shared → Prop} {name qual : Str} {params : Arguments} {body : List Stmt} {scope : Scope} {dV kV doc pm cdv ct oc : Value} {an od : Option Addr} {osl : Array (Option Value)} {f : Addr} {args : Args} {binds : List (Str × Value)}
    (X : K.In s.heap) (hlim : s.heap.NoLimit) (ho : K.lookup f = some ⟨oc, od, .func (fnOf name qual params body scope dV kV doc pm an cdv ct), osl⟩) (hcd : codeIn K cdv qual = true) (hroom : A.depth < recursionLimit)
    (hbind : BindsTo s (fnOf name qual params body scope dV kV doc pm an cdv ct) args binds)
    (hkind : (binds.all fun y => scope.names.lookup y.1 == some .local || scope.names.lookup y.1 == some .cell) = true)
    (h : ∀ s₁, InCallC s s.heap.objs.size (bindL (envOfC qual scope s.heap.objs.size f cdv).kindOf binds fun _ => none) (cellsFrom (s.heap.objs.size + 1) scope.names [])
        (bindC (envOfC qual scope s.heap.objs.size f cdv).kindOf binds fun _ => none) s₁ →
      wpAny (model prog w) (A.deeper (envOfC qual scope s.heap.objs.size f cdv)) (execs body (envOfC qual scope s.heap.objs.size f cdv))
        (fun fl s' => R (.ok (.ret (match fl with | .ret v => v | _ => .none))) s')
        (fun e s' => wpAny (model prog w) (A.deeper (envOfC qual scope s.heap.objs.size f cdv)) (leaving (envOfC qual scope s.heap.objs.size f cdv) e) (fun _ s'' => R (.error e) s'') (fun e' s'' => R (.error e') s'') s') s₁)
    (hco : scope.isCoroutine = false) (hgen : scope.isGenerator = false) (hk : scope.kind = .function) : codeAny (model prog w) A (.call (.ref f) args) R s := by
  refine codeAny_call_function hroom (X _ _ ho) rfl hco hgen rfl (codeRec_of X hcd) (hbind _ _ _ _ ?_)
  refine wpAny_newFunctionEnv_cells hk (kindsX hkind _) fun env he s₁ x => ?_
  subst he
  exact ⟨hlim.keeps x.toInCall.keep, codeAny_func (h s₁ x)⟩

/-- C(..): dict at size, instance at size + 1, then __init__ -/
theorem make_obj {R : Result → Shared → Prop} {C fI : Addr} {rest : List Value} {kw : List (Str × Value)}
    (X : K.In s.heap) (hm : makesIn K C = true) (hi : findIn K (.ref C) "__init__" = some (some (.ref fI))) (hf : isFn K (.ref fI) = true)
    (h : codeAny (model prog w) (A.under (.builtin "type.__call__" ⟨.ref C :: rest, kw⟩)) (.call (.ref fI) ⟨.ref (s.heap.objs.size + 1) :: rest, kw⟩) (InitBack (s.heap.objs.size + 1) R)
      { s with heap := (s.heap.push emptyDict).push (instObj C s.heap.objs.size) }) : codeAny (model prog w) A (.call (.ref C) ⟨rest, kw⟩) R s := by
  obtain ⟨hh, g, d, t, os⟩ := s
  exact make_core (makes_of X hm) (looks_findIn X hi) (fun self => bind_fn X self (beq_iff_eq.mp hf)) (.inl rfl) h

/-- x.name where the instance's dict holds the name and the class does not -/
theorem get_field {x C : Addr} {ox : Obj} {es : List DictEntry} {n : Nat} {name : Str} {expr : Bool} {v : Value} {Q : Value → Shared → Prop}
    (X : K.In s.heap) (I : PySem.W.InstAt s.heap x ox C (some (dictOf es n))) (hg : plainGet K C name = true) (hh : hasDictIn K C = true) (ha : findIn K (.ref C) name = some none)
    (hl : getL name es = some (some v)) (hv : handedIn v = true) (h : Q v { s with toks := s.toks + 1 }) : wpAny (model prog w) A (getAttr (.ref x) name expr) Q E s :=
  get_value X I (plainGet_of hg).1 (findObj_own hh ha rfl hl) hv h

/-- x.m(..): the method found in the class -/
theorem get_method {x C f : Addr} {ox : Obj} {es : List DictEntry} {n : Nat} {name : Str} {pl : Sem Bool} {Q : Value × List Value → Shared → Prop}
    (X : K.In s.heap) (I : PySem.W.InstAt s.heap x ox C (some (dictOf es n))) (hg : plainGet K C name = true) (hf : findIn K (.ref C) name = some (some (.ref f))) (ht : isFn K (.ref f) = true)
    (hl : getL name es = some none) (h : Q (.ref f, [.ref x]) s) : wpAny (model prog w) A (getMethod (.ref x) name pl) Q E s :=
  method_fn X I (plainGet_of hg).1 (plainGet_of hg).2 hf (beq_iff_eq.mp ht) (by show (lookIn name (dictOf es n)).map _ = _; rw [lookIn_dict, hl]; rfl) h

/-! the whole heap as the ledger: makes every rule that writes through a ledger a rule over any heap -/
def noObjs (h : Heap) : Heap := { h with objs := #[] }
theorem noObjs_get (h : Heap) (b : Addr) : (noObjs h).get? b = none := by
  cases e : (noObjs h).get? b with
  | none => rfl
  | some o => exact absurd (Heap.lt_size e) (Nat.not_lt_zero _)
def ledger (h : Heap) (L d : Addr) : List (Addr × Obj) := (List.range h.objs.size).filterMap fun a => if a = L ∨ a = d then none else (h.get? a).map fun o => (a, o)
theorem mem_ledger {h : Heap} {L d a : Addr} {o : Obj} : (a, o) ∈ ledger h L d ↔ a ≠ L ∧ a ≠ d ∧ h.get? a = some o := by
  unfold ledger
  rw [List.mem_filterMap]
  constructor
  · rintro ⟨b, _, e⟩
    split at e
    · cases e
    · rename_i hb
      obtain ⟨o', ho, e'⟩ := Option.map_eq_some_iff.mp e
      cases e'
      exact ⟨fun q => hb (.inl q), fun q => hb (.inr q), ho⟩
  · rintro ⟨n1, n2, ho⟩
    refine ⟨a, List.mem_range.mpr (Heap.lt_size ho), ?_⟩
    rw [if_neg (show ¬ (a = L ∨ a = d) from fun q => q.elim n1 n2), ho] <;> rfl
theorem news_ledger {h : Heap} {L d : Addr} {od : Obj} (hne : d ≠ L) (ho : h.get? d = some od) : News (noObjs h) L h ([] ++ (d, od) :: ledger h L d) := by
  rintro ⟨a, o⟩ hp
  rcases List.mem_cons.mp hp with e | hp
  · cases e
    exact ⟨ho, hne, noObjs_get _ _⟩
  · obtain ⟨n1, n2, e⟩ := mem_ledger.mp hp
    exact ⟨e, n1, noObjs_get _ _⟩
theorem fr_all {h : Heap} {L : Addr} {m : Str → Option Value} (n : h.Ns L m) : Fr (noObjs h) L h m :=
  ⟨n, fun b o e => (by rw [noObjs_get] at e; cases e), Nat.zero_le _⟩
/-- Upd of the head entry (for append_K, setItem_K ..) -/
theorem upd_ledger {h : Heap} {L d : Addr} {o o' : Obj} : Upd d o o' ((d, o) :: ledger h L d) ((d, o') :: ledger h L d) :=
  .head fun ⟨_, _⟩ hp => (mem_ledger.mp hp).2.1

/-- x.name = v over any heap: L is any namespace of the heap (the frame's, say): its map stays, its object is not told; all else but the dict stays -/
theorem set_field {x C dx L : Addr} {ox : Obj} {m : Str → Option Value} {es es' : List DictEntry} {n n' : Nat} {name : Str} {v : Value} {Q : Unit → Shared → Prop}
    (X : K.In s.heap) (I : PySem.W.InstAt s.heap x ox C (some (dictOf es n))) (hd : ox.dict = some dx) (hL : s.heap.Ns L m) (hne : dx ≠ L)
    (hs : findIn K (.ref C) "__setattr__" = some (some (.builtin "object.__setattr__"))) (hp : plainOver K C = true) (ht : takerIn K C name = some none) (hh : hasDictIn K C = true) (hl : (getL name es).isSome = true)
    (e : (putL name (PyData.keyHash w.params name) (.str name (s.toks + 1)) v es, putN name es n) = (es', n')) (hz : es'.length ≤ 1000)
    (h : ∀ h' : Heap, h'.Ns L m → h'.get? dx = some (dictOf es' n') → (∀ b o, b ≠ dx → b ≠ L → s.heap.get? b = some o → h'.get? b = some o) → Q () { s with heap := h', toks := s.toks + 2 }) :
    wpAny (model prog w) A (setAttr (.ref x) name v) Q E s := by
  obtain ⟨e1, e2⟩ := Prod.mk.inj e
  have hdx : s.heap.get? dx = some (dictOf es n) := by
    have := I.dict
    rw [hd] at this
    exact this
  refine set_plain X I hs (osa_dict (s := { s with toks := s.toks + 1 }) (h₀ := noObjs s.heap) (L := L) (m := m) (od := dictOf es n) (od' := dictOf es' n') (es := es') (n := n') (pre := []) (post := ledger s.heap L dx)
    (fr_all hL) (news_ledger hne hdx) X I hd hp ht hh hl (fun _ q => nomatch q) (fun ⟨_, _⟩ q => (mem_ledger.mp q).2.1) (by rw [putName_dict, e1, e2]) rfl hz fun h' F' N' => ?_)
  exact h h' F'.ns (N'.get (List.Mem.head _)) fun b o n1 n2 ho => N'.get (List.Mem.tail _ (mem_ledger.mpr ⟨n2, n1, ho⟩))
end
end Att

namespace L2
open PySem PySem.Spec PyProof.Rows

theorem vals_ints : ∀ {vs : List Value} {ns : List Int}, IntsAre vs ns → Vals (ns.map V.int) vs
  | _, _, .nil => .nil
  | _, _, .cons n t h => .cons ⟨t, rfl⟩ (vals_ints h)

/-- nothing is tracked but the script, known to the object (or it is an object of the module) -/
def Only (H : Hp) : Prop := ∀ b, H b = none ∨ ∃ o xs, H b = some (.frz o (.lst xs))

/-- THE HEAD: the law's promise, at the heap behind the top. F, the promise of the law's def, may use that base is part of the heap (so K.In base, base.Ns mainGlobals mg stand in Mod) -/
theorem law_call {P : Program} {w : World} {K : PySem.W.Frag} {mg mb : Str → Option Value} {CX : CXT} {k : Nat} {fa a : Addr} {fd : FuncData} {x : Str} {sp : Sp} {s₁ : Shared} {vs : List Value} {ns : List Int}
    (KX : K.In s₁.heap) (hns : s₁.heap.Ns mainGlobals mg) (hb : s₁.heap.Ns builtinsNs mb) (hbb : ∀ x : Str, x ≠ "__name__" → mb x = bootBuiltins x) (hlim : s₁.heap.NoLimit) (hg : s₁.gens = #[])
    (ha : s₁.heap.get? a = some { cls := .type "list", data := .seq vs.toArray }) (hi : IntsAre vs ns) (hl : ns.length ≤ sizeLine) (hr : Room k callerA)
    (F : ∀ base : Heap, K.In base → base.Ns mainGlobals mg → FnOk P w K mg base CX k fa fd [x] sp) (hbind : ∀ (s : Shared) (u : Value), BindsTo s fd ⟨[u], []⟩ [(x, u)])
    (hsp : ∀ H : Hp, Only H → SqL K H a (ns.map V.int) → sp [.ref a] H (fun v _ => v = .bl true) fun _ _ _ => False)
    (hCX : ∀ H e s', CX [] H s₁ (fun _ _ _ => False) e s' → False) :
    codeAny (model P w) callerA (.call (.ref fa) ⟨[.ref a], []⟩) (fun r s' => r = .ok (.ret (.bool true)) ∧ OldK s₁.heap s'.heap ∧ s'.os = s₁.os ∧ AllBare s'.gens) s₁ := by
  have rv := vals_ints hi
  have lenV := hi.length
  -- from an abstract heap in which nothing but the script may be tracked
  have core : ∀ H : Hp, Only H → SqL K H a (ns.map V.int) → HOk P w H s₁.heap → (∀ b, H b ≠ none → b = a) → (H a ≠ none → K.lookup a = none) →
      codeAny (model P w) callerA (.call (.ref fa) ⟨[.ref a], []⟩) (fun r s' => r = .ok (.ret (.bool true)) ∧ OldK s₁.heap s'.heap ∧ s'.os = s₁.os ∧ AllBare s'.gens) s₁ := by
    intro H hO hS hok hA hK
    have base_of : ∀ {b : Addr} {o : Obj}, s₁.heap.get? b = some o → H b = none → (hidT s₁.heap H).get? b = some o := fun e n => hidT_get e n
    have noA : ∀ {b : Addr} {o : Obj} {es : Array DictEntry} {ep : Nat}, s₁.heap.get? b = some o → o.data = .dict es ep → H b = none := fun {b o es ep} e d => by
      cases q : H b with
      | none => rfl
      | some u =>
        have e' : b = a := hA b (by rw [q]; simp)
        subst e'
        rw [ha] at e; cases e
        have d' : Data.seq vs.toArray _ = Data.dict es ep := d
        cases d'
    have nsK : ∀ {b : Addr} {m : Str → Option Value}, s₁.heap.Ns b m → (hidT s₁.heap H).Ns b m := fun {b m} ⟨o, es, ep, e, d, r⟩ => ⟨o, es, ep, base_of e (noA e d), d, r⟩
    have hKb : K.In (hidT s₁.heap H) := fun b o e => base_of (KX b o e) (by
      cases q : H b with
      | none => rfl
      | some u =>
        have e' : b = a := hA b (by rw [q]; simp)
        subst e'
        rw [hK (by rw [q]; simp)] at e; cases e)
    have hM : Mod K mg (hidT s₁.heap H) := ⟨hKb, nsK hns, ⟨mb, nsK hb, hbb⟩, let ⟨mc, h1, h2⟩ := hlim; ⟨mc, nsK h1, h2⟩⟩
    have e0 : Env0 P w K mg (hidT s₁.heap H) callerA [] s₁ H := ⟨rfl, hM, fun b o e => of_hidT e, Nat.le_of_eq (hidT_size _ _), trivial, fun b hb => absurd (show b ∈ ([] : List Addr) from hb) (by simp), hok, .of_eq hg⟩
    refine codeAny_mono ((F _ hKb (nsK hns)).run callerA [] s₁ H ⟨[.ref a], []⟩ [.ref a] [.ref a] _ _ hr e0 (hbind s₁ (.ref a)) (.cons rfl .nil) (hsp H hO hS)) fun r s' h => ?_
    cases r with
    | error e => exact (hCX H e s' h).elim
    | ok fl =>
      cases fl with
      | next => exact False.elim h
      | brk => exact False.elim h
      | cont => exact False.elim h
      | ret u =>
        obtain ⟨v, H', os, bare, un, hok', r', q⟩ := h
        have q' : v = .bl true := q
        subst q'
        obtain rfl : u = Value.bool true := r'
        refine ⟨rfl, OldK.of_keep fun b o e => ?_, os, bare⟩
        cases q : H b with
        | none => exact un.keep b o e q (by intro z; exact absurd (show b ∈ ([] : List Addr) from z) (by simp)) (by simp)
        | some u =>
          rcases hO b with z | ⟨ob, xs, z⟩
          · rw [q] at z; cases z
          · have z2 := un.frzs b ob _ z
            obtain ⟨e1, _⟩ := hok b _ z
            obtain ⟨e2, _⟩ := hok' b _ z2
            rw [e] at e1; cases e1
            exact e2
  cases hk : K.lookup a with
  | some o =>
    -- the script is one of the module's own objects
    have e := KX a o hk
    rw [ha] at e
    cases e
    refine core (fun _ => none) (fun _ => .inl rfl) (.inr ⟨_, vs.toArray, _, hk, rfl, rfl, rfl, by rw [List.size_toArray, lenV]; exact hl, by simpa using rv⟩) (fun b u z => by have z' : (none : Option HO) = some u := z; cases z') (fun b z => absurd rfl z) fun z => absurd rfl z
  | none =>
    refine core (fun b => if b = a then some (.frz { cls := .type "list", data := .seq vs.toArray } (.lst (ns.map V.int))) else none) (fun b => ?_) (.inl (.inr ⟨{ cls := .type "list", data := .seq vs.toArray }, if_pos rfl⟩)) (fun b u z => ?_) (fun b z => ?_) fun _ => hk
    · by_cases hb : b = a
      · exact .inr ⟨_, _, if_pos hb⟩
      · exact .inl (if_neg hb)
    · by_cases hb : b = a
      · have z' := (if_pos hb).symm.trans z
        cases z'
        subst hb
        exact ⟨ha, by rw [List.length_map]; exact hl, vs, _, rv, ha⟩
      · have z' := (if_neg hb).symm.trans z
        cases z'
    · by_cases hb : b = a
      · exact hb
      · exact absurd (if_neg hb) z
end L2

namespace L2
open PySem PySem.Spec PyProof.Rows

abbrev KOf {K : PySem.W.Frag} {h : Heap} (_ : K.In h) : PySem.W.Frag := K

/-- the goal that k_head leaves (case hc), from the law's promise. F gives the function object fd (K's own) once, then the promise over every base -/
theorem walk_of {l : PySem.W.OpenLaw} {n k : Nat} {q : Program} {loose : List Str} {XP : (Str → Option Value) → Heap → Prop} {YP : World → Heap → Prop} {d : DefRec} {K : Params → PySem.W.Frag} {CX : World → CXT} {sp : World → Sp} {x : Str}
    (hn : l.most = some n) (hn2 : n ≤ sizeLine) (hdf : d.params.defaults = []) (hr : Room k callerA)
    (hY : ∀ (w : World) (h : Heap), YP w h → (K w.params).In h)
    (F : ∀ (w : World) (mg : Str → Option Value) (fa : Addr) (h : Heap), (K w.params).In h → h.Ns mainGlobals mg → mg d.name = some (.ref fa) →
      ∃ fd : FuncData, (∀ (s : Shared) (u : Value), BindsTo s fd ⟨[u], []⟩ [(x, u)]) ∧
        ∀ base : Heap, (K w.params).In base → base.Ns mainGlobals mg → FnOk l.prog w (K w.params) mg base (CX w) k fa fd [x] (sp w))
    (hsp : ∀ (w : World) (H : Hp) (a : Addr) (ns : List Int), ns.length ≤ n → Only H → SqL (K w.params) H a (ns.map V.int) → sp w [.ref a] H (fun v _ => v = .bl true) fun _ _ _ => False)
    (hCX : ∀ (w : World) (H : Hp) (s : Shared) (e : Value) (s' : Shared), CX w [] H s (fun _ _ _ => False) e s' → False) :
    PySem.W.WalkO q loose XP YP l.row.toRowW d [] (fun f vs => PySem.call f vs) := by
  refine Att.attach_call hn hdf fun w s₀ s₁ mg mb fa o pm cd doc a vs ns G Y ho hd hcd hmg hobj hints hlen hg => ?_
  have KX := hY w _ Y
  obtain ⟨fd, hb, hF⟩ := F w mg fa _ KX G.T.g hmg
  exact law_call KX G.T.g G.T.b G.T.builtins G.T.nolimit hg hobj hints (Nat.le_trans hlen hn2) hr hF hb (fun H hO hS => hsp w H a ns hlen hO hS) fun H e s' => hCX w H s₁ e s'
/-- the same where the promise hangs on the written part alone: (sp := My.sp_law), no hole under a binder -/
theorem walk_ofK {l : PySem.W.OpenLaw} {n k : Nat} {q : Program} {loose : List Str} {XP : (Str → Option Value) → Heap → Prop} {YP : World → Heap → Prop} {d : DefRec} {K : Params → PySem.W.Frag} {CX : CXT} {sp : PySem.W.Frag → Sp} {x : Str}
    (hn : l.most = some n) (hn2 : n ≤ sizeLine) (hdf : d.params.defaults = []) (hr : Room k callerA)
    (hY : ∀ (w : World) (h : Heap), YP w h → (K w.params).In h)
    (F : ∀ (w : World) (mg : Str → Option Value) (fa : Addr) (h : Heap), (K w.params).In h → h.Ns mainGlobals mg → mg d.name = some (.ref fa) →
      ∃ fd : FuncData, (∀ (s : Shared) (u : Value), BindsTo s fd ⟨[u], []⟩ [(x, u)]) ∧
        ∀ base : Heap, (K w.params).In base → base.Ns mainGlobals mg → FnOk l.prog w (K w.params) mg base CX k fa fd [x] (sp (K w.params)))
    (hsp : ∀ (K : PySem.W.Frag) (H : Hp) (a : Addr) (ns : List Int), ns.length ≤ n → Only H → SqL K H a (ns.map V.int) → sp K [.ref a] H (fun v _ => v = .bl true) fun _ _ _ => False)
    (hCX : ∀ (H : Hp) (s : Shared) (e : Value) (s' : Shared), CX [] H s (fun _ _ _ => False) e s' → False) :
    PySem.W.WalkO q loose XP YP l.row.toRowW d [] (fun f vs => PySem.call f vs) :=
  walk_of (K := K) (CX := fun _ => CX) (sp := fun w => sp (K w.params)) hn hn2 hdf hr hY F (fun w H a ns h1 h2 h3 => hsp (K w.params) H a ns h1 h2 h3) fun _ H s e s' => hCX H s e s'
end L2

/- THE LAST THEOREM (shape; LID, My.* are yours):
   My.Adr: a structure of the addresses that your layer names (classes, functions); My.Txt K t: a structure (Prop) of the equations over K;
   My.txt_mk : {K} {implicit addresses ..} (e1 : nsIn K mainGlobals "law" = some (some (.ref f))) (e2 : K.lookup f = some ⟨oc, od, .func (fnOf "law" "law" params body scope dV kV doc pm an cdv ct), sl⟩) (e3 : codeIn K cdv "law" = true) .. : ∃ t, My.Txt K t

set_option maxRecDepth 100000 in
set_option maxHeartbeats 0 in
theorem PySem.Challenge.cw_LID_holds : PySem.Challenge.rw_LID.Holds := by
  w_on; o_law; k_head; (case hw => w_witness2)
  k_fill
  refine L2.walk_of (l := PySem.Challenge.rw_LID) (n := 63) (k := 40) (x := "script") (CX := fun w => ..) (sp := fun _ => My.sp_law) rfl (by decide) rfl ⟨rfl, by decide, by decide⟩ (fun w h Y => PySem.W.kIn_of Y) ?F ?S ?C
  case F =>
    intro w mg fa h KX G hmg
    have T : ∃ t, My.Txt (L2.KOf KX) t := by
      dsimp only [L2.KOf]                          -- K must stand as «<heap const> w.params» for k_is
      refine' My.txt_mk ?e1 ?e2 ?e3 ..
      (case e1 => PySem.W.k_is)                    -- in the order: a name -> its address -> its object -> its parts
      (case e2 => PySem.W.k_is)
      ..
    obtain ⟨t, T⟩ := T
    have e0 := hmg.symm.trans (PySem.W.mg_of KX G T.law)
    cases e0                                       -- fa is the law's own address
    exact ⟨_, fun s u => .of_eq rfl, fun base kb nb => My.law_fn T kb nb⟩     -- if «.of_eq rfl» comes too early: refine' ⟨_, ?b, fun base kb nb => My.law_fn T kb nb⟩; exact fun s u => .of_eq rfl
  case S => exact fun w H a ns hl hO hS => ..
  case C => exact ..
(the tactic k_is has no namespace: write k_is) -/

/-! SHORT WORDS over the layer: a def of the text, its body, what a loop and a test want. -/
namespace L2
open PySem PySem.Spec PyProof.Rows

/-! ### the text by places -/
/-- the j-th statement of a class's body -/
def inClass (s : Stmt) (j : Nat) : Stmt := match s with
  | .ClassDef _ _ _ body _ _ _ _ _ _ _ => body.getD j (.Pass ⟨0, 0, 0, 0⟩)
  | _ => .Pass ⟨0, 0, 0, 0⟩
def defArgs (s : Stmt) : Arguments := match s with
  | .FunctionDef _ a _ _ _ _ _ _ _ _ => a
  | _ => { posonlyargs := [], args := [], vararg := none, kwonlyargs := [], kw_defaults := [], kwarg := none, defaults := [] }
def defBody (s : Stmt) : List Stmt := match s with
  | .FunctionDef _ _ b _ _ _ _ _ _ _ => b
  | _ => []
def defScope (s : Stmt) : Scope := match s with
  | .FunctionDef _ _ _ _ _ _ sc _ _ _ => sc
  | _ => { kind := .function, names := [], isGenerator := false, isCoroutine := false }

/-! ### no exception leaves a def -/
abbrev CX0 : CXT := fun _ _ _ _ _ _ => False
abbrev E0 : XK := fun _ _ _ => False
theorem pass0 {X : Cx} : Passes CX0 X E0 := fun _ _ _ _ _ _ _ h => h.elim

/-! ### a def (or method) of the text as it stands behind the top -/
structure Fun (K : PySem.W.Frag) (x qual : Str) (st : Stmt) (f : Addr) (fd : FuncData) : Prop where
  ex : ∃ (oc : Value) (od : Option Addr) (kV doc pm : Value) (an : Option Addr) (cdv ct : Value) (osl : Array (Option Value)),
    fd = PySem.W.fnOf x qual (defArgs st) (defBody st) (defScope st) .none kV doc pm an cdv ct ∧ K.lookup f = some ⟨oc, od, .func fd, osl⟩ ∧ PySem.W.codeIn K cdv qual = true
  kp : PySem.W.keepIn K (.ref f) = true
section
variable {P : Program} {w : World} {K : PySem.W.Frag} {mg : Str → Option Value} {base : Heap}
/-- THE RULE for a def: its body as a term of rules, and the reading of that term -/
theorem Fun.ok {x qual : Str} {st : Stmt} {f : Addr} {fd : FuncData} {N ps : List Str} {k : Nat} {sp : Sp} (F : Fun K x qual st f fd) (S : FnScope N ps (defScope st)) (len : ∀ vs H Q E, sp vs H Q E → vs.length = ps.length)
    (hbody : ∀ (cdv : Value) (A : Around) (outer : List Env) (s : Shared) (H : Hp) (vs : List V) (Q : VK) (E : XK), Room k (A.deeper (envOfC qual (defScope st) s.heap.objs.size f cdv)) → sp vs H Q E →
      ∃ t, PSs (cxOf CX0 P w K mg base N qual (defScope st) f cdv A outer s H E).nox (defBody st) t ∧ t { nx := fun _ H' => Q .non H', rt := Q } (start N vs) H) : FnOk P w K mg base CX0 (k + 1) f fd ps sp := by
  obtain ⟨oc, od, kV, doc, pm, an, cdv, ct, osl, rfl, lk, hcd⟩ := F.ex
  refine fn_of lk hcd S len fun A outer s H vs Q E hr hsp => ?_
  obtain ⟨t, h, q⟩ := hbody cdv A outer s H vs Q E hr hsp
  exact ⟨t, h.nox, q⟩
/-- how its arguments bind (no defaults): h is «fun _ _ _ _ _ _ us hl => match us, hl with | [_, _], _ => rfl», one _ a parameter -/
theorem Fun.binds {x qual : Str} {st : Stmt} {f : Addr} {fd : FuncData} {ps : List Str} (F : Fun K x qual st f fd)
    (h : ∀ (kV doc pm : Value) (an : Option Addr) (cdv ct : Value) (us : List Value), us.length = ps.length → bindArgs (PySem.W.fnOf x qual (defArgs st) (defBody st) (defScope st) .none kV doc pm an cdv ct) ⟨us, []⟩ = pure (ps.zip us)) : Binds K fd ps [] := by
  obtain ⟨oc, od, kV, doc, pm, an, cdv, ct, osl, rfl, lk, hcd⟩ := F.ex
  exact .all (h kV doc pm an cdv ct)
theorem fun_mk {x qual : Str} {st : Stmt} {f : Addr} {oc : Value} {od an : Option Addr} {osl : Array (Option Value)} {kV doc pm cdv ct : Value} (l : K.lookup f = some ⟨oc, od, .func (PySem.W.fnOf x qual (defArgs st) (defBody st) (defScope st) .none kV doc pm an cdv ct), osl⟩)
    (c : PySem.W.codeIn K cdv qual = true) (k : PySem.W.keepIn K (.ref f) = true) : Fun K x qual st f (PySem.W.fnOf x qual (defArgs st) (defBody st) (defScope st) .none kV doc pm an cdv ct) := ⟨⟨oc, od, kV, doc, pm, an, cdv, ct, osl, rfl, l, c⟩, k⟩
end
theorem hu_of {A : Around} {k : Nat} (hr : Room k A) : A.units + 1 < cLine := Nat.lt_of_le_of_lt (Nat.add_le_add_left (by decide : 1 ≤ 64) _) hr.units
theorem small1000 {n : Nat} (h : n ≤ 1000) : n < sizeLine := Nat.lt_of_le_of_lt h (by decide)

/-! ### expressions in short: the name that stands in the i-th slot -/
section
variable {X : Cx}
theorem pv (i : Nat) {x : Str} {pos : Pos} (hN : X.N[i]? = some x := by rfl) (hv : Vis X.env.scope x := by first | exact Or.inl rfl | exact Or.inr (Or.inl rfl) | exact Or.inr (Or.inr rfl)) (hd : (x == ("__debug__" : Str)) = false := by decide)
    (hcd : (x == ("__classdict__" : Str)) = false := by decide) : PE X (.Name x pos) (tVar i) := by
  first
  | exact (pe_var hN hv hd hcd)
  | (unfold PE at *; exact (pe_var hN hv hd hcd))

/-- len of a dict -/
theorem call_lenD : CallR X (.builtin "len") (fun xs H Q => ∃ a kvs, xs = [V.ref a] ∧ H a = some (.dK kvs) ∧ Q (.int kvs.length) H) := by
  unfold CallR at *
  exact by
    intro pins s σ H xs us Q I r h
    obtain ⟨a, kvs, rfl, ha, q⟩ := h
    obtain ⟨u, rfl, ru⟩ := vals1 r
    cases ru
    exact d_len I (.inl ha) fun t s' I' => ⟨.int kvs.length, H, I', ⟨t, rfl⟩, q⟩

end

/-! ### tests -/
theorem iteF {A B : Prop} (h : B) : if false = true then A else B := by
  rw [if_neg Bool.false_ne_true]
  exact h
theorem iteT {A B : Prop} (h : A) : if true = true then A else B := by
  rw [if_pos rfl]
  exact h
theorem ite2 {c A B : Prop} [Decidable c] (h1 : c → A) (h2 : ¬ c → B) : if c then A else B := by
  by_cases h : c
  · rw [if_pos h]
    exact h1 h
  · rw [if_neg h]
    exact h2 h
theorem iteNS {c A B : Prop} [Decidable c] (hc : c) (h : B) : if (!decide c) = true then A else B := by
  rw [decide_eq_true hc]
  exact iteF h

/-! ### heaps -/
/-- all that was tracked is as it was -/
def Same (H H' : Hp) : Prop := ∀ b o, H b = some o → H' b = some o
theorem Same.refl (H : Hp) : Same H H := fun _ _ h => h
theorem Same.trans {H H1 H2 : Hp} (a : Same H H1) (b : Same H1 H2) : Same H H2 := fun c o h => b c o (a c o h)
theorem Same.free {H H' : Hp} (e : Same H H') {l : Addr} (h : H' l = Option.none) : H l = Option.none := by
  cases q : H l with
  | none => rfl
  | some o =>
    rw [e l o q] at h
    cases h
theorem Same.seq {K : PySem.W.Frag} {H H' : Hp} {a : Addr} {xs : List V} (e : Same H H') (h : SqL K H a xs) : SqL K H' a xs := by
  rcases h with (h | ⟨o, h⟩) | h
  · exact .inl (.inl (e _ _ h))
  · exact .inl (.inr ⟨o, e _ _ h⟩)
  · exact .inr h

/-! ### a dict's pairs: keys that differ -/
section
variable {κ : Type} [DecidableEq κ]
theorem valV_not {kvs : List (κ × V)} {k : κ} (h : valV kvs k = none) : ¬ k ∈ kvs.map (·.1) := by
  intro m
  obtain ⟨p, hp, e⟩ := List.mem_map.mp m
  have q : (kvs.any fun kv => decide (kv.1 = k)) = true := List.any_eq_true.mpr ⟨p, hp, decide_eq_true e⟩
  rw [valV_any, h] at q
  exact absurd q (by simp)
theorem valV_in {kvs : List (κ × V)} {k : κ} {v : V} (h : valV kvs k = some v) : k ∈ kvs.map (·.1) := by
  have q : (kvs.any fun kv => decide (kv.1 = k)) = true := by
    rw [valV_any, h]
    all_goals rfl
  obtain ⟨p, hp, e⟩ := List.any_eq_true.mp q
  exact List.mem_map.mpr ⟨p, hp, of_decide_eq_true e⟩
theorem nd_snoc : ∀ {l : List κ} {k : κ}, l.Nodup → ¬ k ∈ l → (l ++ [k]).Nodup
  | [], k, _, _ => by simp
  | a :: r, k, h, hk => by
    obtain ⟨h1, h2⟩ := List.nodup_cons.mp h
    show (a :: (r ++ [k])).Nodup
    refine List.nodup_cons.mpr ⟨fun m => ?_, nd_snoc h2 fun m => hk (List.mem_cons.mpr (Or.inr m))⟩
    rcases List.mem_append.mp m with q | q
    · exact h1 q
    · exact hk (List.mem_cons.mpr (Or.inl (List.mem_singleton.mp q).symm))
theorem nd_putK {kvs : List (κ × V)} {k : κ} (v : V) (hn : (kvs.map (·.1)).Nodup) (h : valV kvs k = none) : ((putK kvs k v).map (·.1)).Nodup := by
  rw [putK_new v h, List.map_append]
  exact nd_snoc hn (valV_not h)
theorem dropK_pos {p : κ × V} {r : List (κ × V)} {k : κ} (e : p.1 = k) : dropK (p :: r) k = dropK r k := by
  unfold dropK
  rw [List.filter_cons, if_neg (by simp [e])]
theorem dropK_neg {p : κ × V} {r : List (κ × V)} {k : κ} (e : ¬ p.1 = k) : dropK (p :: r) k = p :: dropK r k := by
  unfold dropK
  rw [List.filter_cons, if_pos (by simp [e])]
theorem dropK_no : ∀ {kvs : List (κ × V)} {k : κ}, ¬ k ∈ kvs.map (·.1) → dropK kvs k = kvs
  | [], _, _ => rfl
  | p :: r, k, h => by
    have h' : ¬ k ∈ r.map (·.1) := fun m => by
      obtain ⟨q, hq, e⟩ := List.mem_map.mp m
      exact h (List.mem_map.mpr ⟨q, List.mem_cons.mpr (Or.inr hq), e⟩)
    rw [dropK_neg fun e => h (List.mem_map.mpr ⟨p, List.mem_cons.mpr (Or.inl rfl), e⟩), dropK_no h']
theorem dropK_mem {kvs : List (κ × V)} {k : κ} {p : κ × V} (h : p ∈ dropK kvs k) : p ∈ kvs := (List.mem_filter.mp h).1
theorem nd_dropK : ∀ {kvs : List (κ × V)} {k : κ}, (kvs.map (·.1)).Nodup → ((dropK kvs k).map (·.1)).Nodup
  | [], _, _ => List.nodup_nil
  | p :: r, k, h => by
    have h : (p.1 :: r.map (·.1)).Nodup := h
    obtain ⟨h1, h2⟩ := List.nodup_cons.mp h
    by_cases e : p.1 = k
    · rw [dropK_pos e]
      exact nd_dropK h2
    · rw [dropK_neg e]
      show (p.1 :: (dropK r k).map (·.1)).Nodup
      refine List.nodup_cons.mpr ⟨fun m => h1 ?_, nd_dropK h2⟩
      obtain ⟨q, hq, eq⟩ := List.mem_map.mp m
      exact List.mem_map.mpr ⟨q, dropK_mem hq, eq⟩
theorem dropK_len : ∀ {kvs : List (κ × V)} {k : κ}, (kvs.map (·.1)).Nodup → k ∈ kvs.map (·.1) → (dropK kvs k).length + 1 = kvs.length
  | [], _, _, m => by simp at m
  | p :: r, k, h, m => by
    have h : (p.1 :: r.map (·.1)).Nodup := h
    have m : k = p.1 ∨ k ∈ r.map (·.1) := List.mem_cons.mp m
    obtain ⟨h1, h2⟩ := List.nodup_cons.mp h
    by_cases e : p.1 = k
    · subst e
      rw [dropK_pos rfl, dropK_no h1]
      all_goals rfl
    · have m' : k ∈ r.map (·.1) := m.resolve_left fun z => e z.symm
      have q := dropK_len h2 m'
      rw [dropK_neg e, List.length_cons, List.length_cons]
      omega
end
end L2


set_option maxHeartbeats 4000000
namespace L2
open PySem PySem.Spec PyProof.Rows

/-! ### small rules of my own: isinstance, is True, len of any -/
section
variable {X : Cx} {a b c : Expr} {ta tb tc : TE} {pos : Pos}
/-- a class as a value -/
inductive ClsV : V → Value → Prop where
  | ty (n : String) : ClsV (.ty n) (.type n)
  | own (C : Addr) : ClsV (.ref C) (.ref C)
def rIsi (K : PySem.W.Frag) : List V → Hp → VK → Prop := fun xs H Q => ∃ x c cv t b, xs = [x, c] ∧ ClsV c cv ∧ TyOf K H x t ∧ PySem.W.kitOne K t cv = some b ∧ Q (.bl b) H
theorem call_isi : CallR X (.builtin "isinstance") (rIsi X.K) := by
  unfold CallR at *
  exact by
    intro pins s σ H xs us Q I rv h
    obtain ⟨x, c, cv, t, b, rfl, hc, ty, e, q⟩ := h
    obtain ⟨u, cu, rfl, ru, rc⟩ := rv.two
    have ec : cu = cv := by cases hc <;> exact rc
    subst ec
    exact isinst_ok I ru ty e fun tk => ⟨.bl b, H, I.tok tk, rfl, q⟩

theorem RelV.bool_iff {x : V} {v : Value} {k : Bool} (r : RelV x v) : (v == Value.bool k) = decide (x = .bl k) := by
  cases x with
  | bl j => cases r; cases j <;> cases k <;> rfl
  | non => cases r; rfl
  | int _ => obtain ⟨t, rfl⟩ := r; rfl
  | str _ => obtain ⟨t, rfl⟩ := r; rfl
  | byt _ => obtain ⟨t, rfl⟩ := r; rfl
  | flt _ => obtain ⟨t, rfl⟩ := r; rfl
  | ref _ => cases r; rfl
  | ty _ => cases r; rfl
theorem isSame_bool {M : Model} {A : Around} {E : Value → Shared → Prop} {s : Shared} {x : V} {v : Value} {k : Bool} {Q : Bool → Shared → Prop} (r : RelV x v) (h : Q (v == Value.bool k) s) : wpAny M A (isSame v (.bool k)) Q E s := by
  unfold isSame
  cases x <;> first
    | (cases r; exact wpAny_pure h)
    | (obtain ⟨t, rfl⟩ := r; exact wpAny_pure h)
def rIsB : R2 := fun x y H Q => ∃ k, y = .bl k ∧ Q (.bl (decide (x = .bl k))) H
def rIsnB : R2 := fun x y H Q => ∃ k, y = .bl k ∧ Q (.bl (!decide (x = .bl k))) H
theorem op_isB : OpR X (compareOp .Is) rIsB := by
  unfold OpR at *
  exact by
    intro pins s σ H x y v u Q I rx ry h
    obtain ⟨k, rfl, q⟩ := h
    cases ry
    show wpAny _ _ (do return Value.bool (← isSame v (.bool k))) _ _ _
    exact wpAny_bind (isSame_bool rx (wpAny_pure (fin_bl I q (by rw [rx.bool_iff]))))

theorem op_isnotB : OpR X (compareOp .IsNot) rIsnB := by
  unfold OpR at *
  exact by
    intro pins s σ H x y v u Q I rx ry h
    obtain ⟨k, rfl, q⟩ := h
    cases ry
    show wpAny _ _ (do return Value.bool (!(← isSame v (.bool k)))) _ _ _
    exact wpAny_bind (isSame_bool rx (wpAny_pure (fin_bl I q (by rw [rx.bool_iff]))))

end
end L2

namespace L2
open PySem PySem.Spec PyProof.Rows

/-! ### list comprehensions (own work over the hand layer) -/
/- what a block's context hangs on: the closure's cells, the state and abstract heap ahead of the block, the iterator's records -/
set_option genInjectivity false in
set_option genSizeOfSpec false in
set_option genSizeOf false in
structure Bk where
  cl : List (Str × Addr)
  s2 : Shared
  H2 : Hp
  fp : List Addr
def cxComp (X : Cx) (scope : Scope) (N' : List Str) (B : Bk) : Cx :=
  { X with N := N', s₀ := B.s2, H₀ := B.H2, env := compEnvC scope B.cl B.s2.heap.objs.size X.env, outer := X.stack, stack := X.stack, ex := B.fp, fn := fun _ => false, pn := [], xe := fun _ _ => False }
/-- the block's names: its own (none), and those it captures (some j: the slot j of the def) -/
def capS (js : List (Option Nat)) (σ : St) : St := js.map fun o => o.bind fun j => (σ[j]?).join
structure Cap (X : Cx) (scope : Scope) (N' : List Str) (js : List (Option Nat)) : Prop where
  len : js.length = N'.length
  ok : ∀ (i j : Nat) (x : Str), js[i]? = some (some j) → N'[i]? = some x → X.N[j]? = some x ∧ scope.names.lookup x = some .free ∧ (X.env.kindOf x = some .cell ∨ X.env.kindOf x = some .free)

theorem closure_go {env : Env} : ∀ (names : List (Str × NameKind)) (cs : List (Str × Addr)), (∀ x ∈ names, x.2 = .free → ∃ c, env.cells.lookup x.1 = some c) → (∀ x c, cs.lookup x = some c → env.cells.lookup x = some c) →
    ∃ cl, (forIn names cs (fun (x : Str × NameKind) (r : List (Str × Addr)) => match x with
      | (name, kind) => if (kind == NameKind.free) = true then (do let y ← cellOf env name; pure (ForInStep.yield ((name, y) :: r))) else pure (ForInStep.yield r)) : Sem (List (Str × Addr))) = pure cl ∧
      (∀ x c, cl.lookup x = some c → env.cells.lookup x = some c) ∧ (∀ x c, cs.lookup x = some c → ∃ c', cl.lookup x = some c') ∧ ∀ x, (x, NameKind.free) ∈ names → ∃ c, cl.lookup x = some c := by
  intro names
  induction names with
  | nil => intro cs _ h2; exact ⟨cs, rfl, h2, fun x c e => ⟨c, e⟩, fun x hx => absurd hx (by simp)⟩
  | cons y r ih =>
    intro cs h1 h2
    obtain ⟨n, k⟩ := y
    have h1r : ∀ x ∈ r, x.2 = .free → ∃ c, env.cells.lookup x.1 = some c := fun x hx => h1 x (List.mem_cons_of_mem _ hx)
    by_cases hk : k = .free
    · subst hk
      obtain ⟨c, hc⟩ := h1 (n, .free) List.mem_cons_self rfl
      have h2' : ∀ x d, List.lookup x ((n, c) :: cs) = some d → env.cells.lookup x = some d := fun x d e => by
        by_cases hx : x = n
        · subst hx
          simp only [List.lookup_cons, beq_self_eq_true] at e
          rw [hc]; exact e
        · have hb : (x == n) = false := by simpa using hx
          simp only [List.lookup_cons, hb] at e
          exact h2 x d e
      obtain ⟨cl, e1, e2, e3, e4⟩ := ih ((n, c) :: cs) h1r h2'
      refine ⟨cl, ?_, e2, fun x d e => ?_, fun x hx => ?_⟩
      · rw [List.forIn_cons]
        have q : cellOf env n = pure c := by unfold cellOf; rw [hc]
        show ((if (NameKind.free == NameKind.free) = true then (do let y ← cellOf env n; pure (ForInStep.yield ((n, y) :: cs))) else pure (ForInStep.yield cs)) >>= _) = _
        rw [if_pos (by decide), q]
        exact e1
      · by_cases hx : x = n
        · exact e3 x c (by subst hx; simp [List.lookup_cons])
        · exact e3 x d (by have hb : (x == n) = false := by simpa using hx
                           simp only [List.lookup_cons, hb]; exact e)
      · rcases List.mem_cons.mp hx with z | z
        · injection z with z1 _
          exact e3 x c (by subst z1; simp [List.lookup_cons])
        · exact e4 x z
    · obtain ⟨cl, e1, e2, e3, e4⟩ := ih cs h1r h2
      refine ⟨cl, ?_, e2, e3, fun x hx => ?_⟩
      · rw [List.forIn_cons]
        have hb : (k == NameKind.free) = false := by simpa using hk
        show ((if (k == NameKind.free) = true then _ else pure (ForInStep.yield cs)) >>= _) = _
        rw [if_neg (by rw [hb]; decide)]
        exact e1
      · rcases List.mem_cons.mp hx with z | z
        · injection z with _ z2
          exact absurd z2.symm hk
        · exact e4 x z
theorem closure_of {scope : Scope} {env : Env} (h : ∀ x ∈ scope.names, x.2 = .free → ∃ c, env.cells.lookup x.1 = some c) :
    ∃ cl, closureFor scope env = pure cl ∧ (∀ x c, cl.lookup x = some c → env.cells.lookup x = some c) ∧ ∀ x, (x, NameKind.free) ∈ scope.names → ∃ c, cl.lookup x = some c := by
  obtain ⟨cl, e1, e2, _, e4⟩ := closure_go (env := env) scope.names [] h (fun x c e => by simp at e)
  refine ⟨cl, ?_, e2, e4⟩
  have q : closureFor scope env = (forIn scope.names [] (fun (x : Str × NameKind) (r : List (Str × Addr)) => match x with
      | (name, kind) => if (kind == NameKind.free) = true then (do let y ← cellOf env name; pure (ForInStep.yield ((name, y) :: r))) else pure (ForInStep.yield r)) : Sem (List (Str × Addr))) >>= fun r => pure r := rfl
  rw [q, e1]
  rfl

theorem relabel_free {env : Env} : ∀ {names : List (Str × NameKind)} {x : Str}, names.lookup x = some .free →
    (names.map fun (n, k) => if (k == NameKind.free && env.scope.kind == .function && env.kindOf n == some .cell) then (n, NameKind.cell) else (n, k)).lookup x = some .cell ∨
    (names.map fun (n, k) => if (k == NameKind.free && env.scope.kind == .function && env.kindOf n == some .cell) then (n, NameKind.cell) else (n, k)).lookup x = some .free
  | [], _, h => by simp at h
  | (n, k) :: r, x, h => by
    have ih := @relabel_free env r x
    simp only [List.map_cons]
    cases hx : x == n with
    | true =>
      simp only [List.lookup_cons, hx] at h
      cases h
      by_cases hc : (NameKind.free == NameKind.free && env.scope.kind == .function && env.kindOf n == some .cell) = true
      · rw [if_pos hc]; left; simp only [List.lookup_cons, hx]
      · rw [if_neg hc]; right; simp only [List.lookup_cons, hx]
    | false =>
      simp only [List.lookup_cons, hx] at h
      by_cases hc : (k == NameKind.free && env.scope.kind == .function && env.kindOf n == some .cell) = true
      · rw [if_pos hc]; simp only [List.lookup_cons, hx]; exact ih h
      · rw [if_neg hc]; simp only [List.lookup_cons, hx]; exact ih h
theorem relabel_inv {env : Env} : ∀ {names : List (Str × NameKind)} {x : Str},
    ((names.map fun (n, k) => if (k == NameKind.free && env.scope.kind == .function && env.kindOf n == some .cell) then (n, NameKind.cell) else (n, k)).lookup x = some .cell ∨
    (names.map fun (n, k) => if (k == NameKind.free && env.scope.kind == .function && env.kindOf n == some .cell) then (n, NameKind.cell) else (n, k)).lookup x = some .free) →
    names.lookup x = some .cell ∨ names.lookup x = some .free
  | [], _, h => by simp at h
  | (n, k) :: r, x, h => by
    have ih := @relabel_inv env r x
    simp only [List.map_cons] at h
    cases hx : x == n with
    | true =>
      simp only [List.lookup_cons, hx]
      by_cases hc : (k == NameKind.free && env.scope.kind == .function && env.kindOf n == some .cell) = true
      · right
        have : k = .free := by
          simp only [Bool.and_eq_true] at hc
          simpa using hc.1.1
        rw [this]
      · rw [if_neg hc] at h
        simp only [List.lookup_cons, hx] at h
        exact h
    | false =>
      simp only [List.lookup_cons, hx]
      apply ih
      by_cases hc : (k == NameKind.free && env.scope.kind == .function && env.kindOf n == some .cell) = true
      · rw [if_pos hc] at h; simp only [List.lookup_cons, hx] at h; exact h
      · rw [if_neg hc] at h; simp only [List.lookup_cons, hx] at h; exact h

theorem comp_start {X : Cx} {pins : List (Addr × Obj)} {σ : St} {H2 : Hp} {s2 : Shared} {scope : Scope} {cl : List (Str × Addr)} {N' : List Str} {js : List (Option Nat)} {fp : List Addr} {h' : Heap} {t' : Nat} {m0 : Str → Option Value}
    (I : Inv X pins σ H2 s2) (hk : scope.kind = .function) (hcell : ∀ y ∈ scope.names, y.2 ≠ .cell)
    (hf : ∀ b ∈ fp, FpOk X pins H2 b) (ho : ∀ b ∈ fp, ∃ o, s2.heap.get? b = some o)
    (c1 : ∀ x c, cl.lookup x = some c → X.env.cells.lookup x = some c) (c2 : ∀ x, (x, NameKind.free) ∈ scope.names → ∃ c, cl.lookup x = some c)
    (cap : Cap X scope N' js) (ns : h'.Ns s2.heap.objs.size m0) (sb : ∀ b o, s2.heap.get? b = some o → h'.get? b = some o) :
    Inv (cxComp X scope N' ⟨cl, s2, H2, fp⟩) [] (capS js σ) H2 { s2 with heap := h', toks := t' } := by
  have isc : ∀ c v, s2.heap.IsCell c v → h'.IsCell c v := fun c v ⟨o, e, d⟩ => ⟨o, sb _ _ e, d⟩
  refine ⟨⟨I.ok.mod, hk, I.ok.glob, I.ok.blt, Nat.le_refl _, fun x y c h1 h2 => I.ok.inj x y c (c1 x c h1) (c1 y c h2), fun x hx => ?_, fun x c h => absurd h (by simp [cxComp]), I.ok.hd, I.ok.frames, .inl rfl, fun b hb => ⟨?_, fun x c e => ?_⟩, I.bs, Nat.le_trans I.ok.bsz I.sz,
    fun b o e hb => ?_, fun b hb hs => ?_, I.stack, I.stkFree⟩, rfl, I.bare, Un.kept sb, ⟨m0, ns, fun i x v e1 e2 e3 => ?_⟩, fun x c e => ?_, I.hok.fresh (Nat.le_refl _), fun x c e => I.freeC x c (c1 x c e), fun p hp => absurd hp (by simp [cxComp]), I.hok.kept sb, ?_⟩
  · have hx' := relabel_inv (env := X.env) (names := scope.names) (x := x) hx
    rcases hx' with z | z
    · exact absurd rfl (hcell _ (PySem.mem_of_lookup z))
    · exact c2 x (PySem.mem_of_lookup z)
  · obtain ⟨o, e⟩ := ho b hb
    exact Nat.ne_of_lt (Heap.lt_size e)
  · exact (hf b hb).2.2.2.2.1 x c (c1 x c e)
  · rcases (hf b hb).2.2.2.1 with z | z
    · exact I.ok.noex b o e z
    · exact absurd (Nat.lt_of_lt_of_le (Heap.lt_size e) (Nat.le_trans I.ok.bsz z)) (Nat.lt_irrefl _)
  · rcases List.mem_cons.mp (I.stkSub b hs) with z | z
    · exact (hf b hb).2.1 z
    · exact (hf b hb).2.2.1 z
  · have e2' : ((js.map fun o => o.bind fun j => (σ[j]?).join) : St)[i]? = some (some v) := e2
    rw [List.getElem?_map] at e2'
    cases q : js[i]? with
    | none => rw [q] at e2'; cases e2'
    | some o =>
      rw [q] at e2'
      cases o with
      | none => simp at e2'
      | some j =>
        have q2 : (σ[j]?).join = some v := by simpa using e2'
        have q3 : σ[j]? = some (some v) := by
          cases z : σ[j]? with
          | none => rw [z] at q2; cases q2
          | some w => rw [z] at q2; exact congrArg some q2
        obtain ⟨n1, n2, n3⟩ := cap.ok i j x q e1
        obtain ⟨m, hm, hl⟩ := I.loc
        obtain ⟨u, r, l⟩ := hl j x v n1 q3 (.inr n3)
        refine ⟨u, r, .inr ⟨relabel_free (env := X.env) n2, ?_⟩⟩
        obtain ⟨c, hc⟩ := c2 x (PySem.mem_of_lookup n2)
        refine ⟨c, hc, ?_⟩
        rcases l with ⟨l, _⟩ | ⟨_, c', e', z'⟩
        · rcases n3 with n3 | n3 <;> (rw [n3] at l; cases l)
        · have := c1 x c hc
          rw [e'] at this; cases this
          exact isc _ _ z'
  · obtain ⟨v, z⟩ := I.cell x c (c1 x c e)
    exact ⟨v, isc _ _ z⟩
  · show (js.map _).length = N'.length
    rw [List.length_map]; exact cap.len

/-- a comprehension's tests -/
@[irreducible] def PIfs (X : Cx) (ifs : List Expr) (t : TT) : Prop :=
  ∀ (pins : List (Addr × Obj)) (s : Shared) (σ : St) (H : Hp) (Q : Bool → Hp → Prop), Inv X pins σ H s → t σ H Q →
    wpAny (model X.prog X.w) X.A (forIn ifs true fun c r => if r = true then do let ok ← isTrue c X.env (eval c X.env); pure (ForInStep.yield ok) else pure (ForInStep.yield r)) (TP X pins σ Q) X.xe s
def tAll : TT := fun _ H Q => Q true H
theorem pifs_nil {X : Cx} : PIfs X [] tAll := by
  first
  | exact (fun _ _ _ H _ I h => wpAny_tests_nil ⟨H, I, h⟩)
  | (unfold PIfs at *; exact (fun _ _ _ H _ I h => wpAny_tests_nil ⟨H, I, h⟩))

theorem pifs_one {X : Cx} {c : Expr} {t : TT} (hc : PT X c t) : PIfs X [c] t := by
  first
  | exact (fun pins s σ H Q I h => wpAny_tests_one (hc pins s σ H Q I h))
  | (unfold PT at *; unfold PIfs at *; exact (fun pins s σ H Q I h => wpAny_tests_one (hc pins s σ H Q I h)))

section
variable {prog : Program} {w : World} {A : Around} {R : Result → Shared → Prop} {s : Shared}
theorem compLoop_go {elt target iter : Expr} {ifs : List Expr} {scope : Scope} {pos : Pos} {it acc : Value} {env : Env} (I : Nat → Shared → Prop)
    (turn : ∀ n s, I n s → wpAny (model prog w) A (pyNext it) (fun r s₁ => match r with
      | none => R (.ok .next) s₁
      | some v => wpAny (model prog w) A (letOwnedTupleGo target it v) (fun _ s₁ => wpAny (model prog w) A (assign target env v) (fun _ s₂ =>
          wpAny (model prog w) A (forIn ifs true fun c r => if r = true then do let ok ← isTrue c env (eval c env); pure (ForInStep.yield ok) else pure (ForInStep.yield r)) (fun ok s₃ =>
            if ok = true then wpAny (model prog w) A (eval elt env) (fun x s₄ =>
              wpAny (model prog w) A (call (.builtin "list.append") [acc, x]) (fun _ s₅ => ∃ m, m < n ∧ I m s₅) (fun _ _ => False) s₄) (fun _ _ => False) s₃
            else ∃ m, m < n ∧ I m s₃) (fun _ _ => False) s₂) (fun _ _ => False) s₁) (fun _ _ => False) s₁) (fun _ _ => False) s)
    (n : Nat) (h : I n s) :
    codeAny (model prog w) A (.compLoop (.ListComp elt [⟨target, iter, ifs, 0⟩] scope pos) 0 it acc env) R s := by
  refine codeAny_loop rfl I (fun n s hI => ?_) n h
  show wpAny _ A ((compTurn (.ListComp elt [⟨target, iter, ifs, 0⟩] scope pos) 0 it acc env).onRaise (fun x => do noteFrame x env; theTreesLotGoes x)) _ _ s
  refine wpAny_noted ?_
  rw [compTurn_list]
  refine wpAny_bind (wpAny_standAt (wpAny_bind (wpAny_mono (turn n s hI) (fun r s₁ h₁ => ?_) fun _ _ h' => h'.elim)))
  cases r with
  | none => exact wpAny_pure h₁
  | some v =>
    refine wpAny_bind (wpAny_mono h₁ (fun _ s₁ h₁ => ?_) fun _ _ h' => h'.elim)
    refine wpAny_bind (wpAny_mono h₁ (fun _ s₂ h₂ => wpAny_bind (wpAny_mono h₂ (fun ok s₃ h₃ => ?_) fun _ _ h' => h'.elim)) fun _ _ h' => h'.elim)
    cases ok with
    | false => exact wpAny_pure ⟨rfl, h₃⟩
    | true =>
      exact wpAny_bind (wpAny_bind (wpAny_mono h₃ (fun x s₄ h₄ => wpAny_bind (wpAny_mono h₄ (fun _ s₅ h₅ => wpAny_pure (wpAny_pure ⟨rfl, h₅⟩)) fun _ _ h' => h'.elim)) fun _ _ h' => h'.elim))
end

/-- the reading of a comprehension's loop: W by the turn, a measure, the block's names, the list so far, the heap -/
def tLoop (J : It) (l : Addr) (g : TG) (tc : TT) (te : TE) (σ : St) (H : Hp) (Q : VK) : Prop :=
  ∃ W : Nat → Nat → St → List V → Hp → Prop, (∃ m, W 0 m σ [] H) ∧ ∀ i m σ acc H, W i m σ acc H → H l = some (.lst acc) ∧ ((J.stop i H ∧ Q (.ref l) H) ∨
    (J.go i H ∧ acc.length < sizeLine ∧ ∀ x H', J.yld i H x H' → g x σ H' fun σ2 H2 => tc σ2 H2 fun b H3 => if b = true then
      te σ2 H3 fun v H4 => H4 l = some (.lst acc) ∧ ∃ m', m' < m ∧ W (i + 1) m' σ2 (acc ++ [v]) (upd H4 l (.lst (acc ++ [v])))
      else ∃ m', m' < m ∧ W (i + 1) m' σ2 acc H3))
def tComp (js : List (Option Nat)) (wi : TI) (g : Bk → TG) (tc : Bk → TT) (te : Bk → TE) : TE := fun σ H Q => wi σ H fun J H1 => ∀ l B, H1 l = none → tLoop J l (g B) (tc B) (te B) (capS js σ) (upd H1 l (.lst [])) Q

section
variable {X : Cx} {elt tg iter : Expr} {ifs : List Expr} {scope : Scope} {pos : Pos} {N' : List Str} {js : List (Option Nat)} {wi : TI} {g : Bk → TG} {tc : Bk → TT} {te : Bk → TE}
theorem comp_block {pins : List (Addr × Obj)} {σ : St} {H1 : Hp} {s1 : Shared} {it : Addr} {fp : List Addr} {tn : Nat → Heap → Prop} {J : It} {cl : List (Str × Addr)} {Q : VK} {RR : Value → Addr → Result → Shared → Prop}
    (hc : X.calm = true) (hk : scope.kind = .function) (hcell : ∀ y ∈ scope.names, y.2 ≠ .cell) (cap : Cap X scope N' js)
    (blk : ∀ B, PG (cxComp X scope N' B) tg (g B) ∧ PIfs (cxComp X scope N' B) ifs (tc B) ∧ PE (cxComp X scope N' B) elt (te B))
    (c1 : ∀ x c, cl.lookup x = some c → X.env.cells.lookup x = some c) (c2 : ∀ x, (x, NameKind.free) ∈ scope.names → ∃ c, cl.lookup x = some c)
    (I : Inv X pins σ H1 s1) (T : Turn X.prog X.w X.K tg J fp it tn) (st : tn 0 s1.heap) (hf : ∀ b ∈ fp, FpOk X pins H1 b)
    (h : ∀ l B, H1 l = none → tLoop J l (g B) (tc B) (te B) (capS js σ) (upd H1 l (.lst [])) Q)
    (hRR : ∀ l C H' s' (m' : Str → Option Value), Inv X pins σ H' s' → Q (.ref l) H' → s'.heap.Ns C m' → H' C = none → C ≠ X.env.locals → (∀ x c, X.env.cells.lookup x = some c → c ≠ C) → C ∉ X.fs → X.s₀.heap.objs.size ≤ C → (∀ p ∈ X.pn ++ pins, p.1 ≠ C) →
      RR (.ref l) C (.ok .next) s') :
    wpAny (model X.prog X.w) X.A (newList []) (fun acc s₃ => wpAny (model X.prog X.w) X.A (newFunctionEnv scope X.env.globals cl [] X.env.qual none .none (some X.env)) (fun cenv s₄ =>
      codeAny (model X.prog X.w) X.A (.compStart (.ListComp elt [⟨tg, iter, ifs, 0⟩] scope pos) 0 (.ref it) acc { cenv with scope := relabel scope X.env }) (RR acc cenv.locals) s₄) X.xe s₃) X.xe s1 := by
  unfold PE at *; unfold PG at *; unfold PIfs at *
  exact by
    refine wpAny_newObj_type ?_
    have I2 : Inv X pins σ (upd H1 s1.heap.objs.size (.lst [])) { s1 with heap := s1.heap.push { cls := .type "list", data := .seq ([] : List Value).toArray } } := I.lnew (t' := s1.toks) .nil (Nat.zero_le _)
    have hl : H1 s1.heap.objs.size = none := I.fresh
    generalize es2 : ({ s1 with heap := s1.heap.push { cls := .type "list", data := .seq ([] : List Value).toArray } } : Shared) = s2 at I2 ⊢
    generalize el : s1.heap.objs.size = l at *
    have ne_fp : ∀ b ∈ fp, b ≠ l := fun b hb => by
      obtain ⟨o, e, _⟩ := T.obj _ _ st b hb
      rw [← el]
      exact Nat.ne_of_lt (Heap.lt_size e)
    have hf2 : ∀ b ∈ fp, FpOk X pins (upd H1 l (.lst [])) b := fun b hb => ⟨by rw [upd_ne (ne_fp b hb)]; exact (hf b hb).1, (hf b hb).2⟩
    have kp : ∀ b o, s1.heap.get? b = some o → s2.heap.get? b = some o := fun b o e => by rw [← es2]; exact Heap.get?_push_of_some _ e
    have st2 : tn 0 s2.heap := T.keep _ _ _ st fun b _ o e => kp b o e
    refine wpAny_newFunctionEnv hcell (by intro y hy; simp at hy) (fun h' ns sb => ?_) hk
    have kp2 : ∀ b o, s2.heap.get? b = some o → h'.get? b = some o := fun b o e => (sb.2 b (Nat.ne_of_lt (Heap.lt_size e))).trans (Heap.get?_push_of_some _ e)
    have st3 : tn 0 h' := T.keep _ _ _ st2 fun b _ o e => kp2 b o e
    have I3 := comp_start (t' := s2.toks + ([] : List (Str × Value)).length) (m0 := fun x => ([] : List (Str × Value)).reverse.lookup x) I2 hk hcell hf2 (fun b hb => by obtain ⟨o, e, _⟩ := T.obj _ _ st2 b hb; exact ⟨o, e⟩) c1 c2 cap ns kp2
    obtain ⟨pg, pif, pel⟩ := blk ⟨cl, s2, upd H1 l (.lst []), fp⟩
    obtain ⟨W, ⟨m0, w0⟩, turn⟩ := h l ⟨cl, s2, upd H1 l (.lst []), fp⟩ hl
    have fpY : ∀ {H' : Hp}, (∀ b ∈ fp, H' b = none) → ∀ b ∈ fp, FpOk (cxComp X scope N' ⟨cl, s2, upd H1 l (.lst []), fp⟩) [] H' b := fun {H'} hn b hb =>
      ⟨hn b hb, (I3.ok.exf b hb).1, I3.ok.exfs b hb, .inl hb, (I3.ok.exf b hb).2, fun p hp => absurd hp (by simp [cxComp])⟩
    have loop : codeAny (model X.prog X.w) X.A (.compLoop (.ListComp elt [⟨tg, iter, ifs, 0⟩] scope pos) 0 (.ref it) (.ref l) (compEnvC scope cl s2.heap.objs.size X.env)) (RR (.ref l) s2.heap.objs.size) { s2 with heap := h', toks := s2.toks + ([] : List (Str × Value)).length } := by
      refine compLoop_go (fun n s' => ∃ i σ' acc H', Inv (cxComp X scope N' ⟨cl, s2, upd H1 l (.lst []), fp⟩) [] σ' H' s' ∧ tn i s'.heap ∧ (∀ b ∈ fp, H' b = none) ∧ W i n σ' acc H') ?_ m0 ⟨0, _, _, _, I3, st3, fun b hb => (hf2 b hb).1, w0⟩
      rintro n s3 ⟨i, σ3, acc, H3, J3, t3, f3, w3⟩
      obtain ⟨hacc, alt⟩ := turn i n σ3 acc H3 w3
      rcases alt with ⟨stop, q⟩ | ⟨go, hz, step⟩
      · refine thn (T.done (cxComp X scope N' ⟨cl, s2, upd H1 l (.lst []), fp⟩) rfl rfl rfl hc i [] s3 σ3 H3 (fun _ _ => False) J3 (fpY f3) t3 stop) fun r s4 ⟨hr, J4⟩ => ?_
        subst hr
        have IX : Inv X pins σ H3 s4 := I2.call' (ch := fp) J4.os J4.base J4.hok J4.bare fun b hb => ⟨(hf2 b hb).2.2.2.1, (hf2 b hb).2.1, (hf2 b hb).2.2.2.2.1, (hf2 b hb).2.2.2.2.2⟩
        obtain ⟨m', hn', _⟩ := J4.loc
        refine hRR l s2.heap.objs.size H3 s4 m' IX q hn' J4.free (Nat.ne_of_gt I2.lt) (fun x c e => ?_) (I2.nofs (Nat.le_refl _)) I2.sz fun p hp => Nat.ne_of_lt (Heap.lt_size (I2.pin p hp).1)
        obtain ⟨v, z⟩ := I2.cell x c e
        exact Nat.ne_of_lt z.lt
      · refine thn (T.item (cxComp X scope N' ⟨cl, s2, upd H1 l (.lst []), fp⟩) rfl rfl rfl hc i [] s3 σ3 H3 (fun _ _ => False) J3 (fpY f3) t3 go) fun r s4 ⟨u, hr, h4⟩ => ?_
        subst hr
        refine thn h4 fun _ s5 ⟨x, H5, J5, r5, y5, t5, f5⟩ => ?_
        have J5' := J5.pinned (fpY f5) (T.obj _ _ t5)
        refine thn (pg _ s5 σ3 H5 x u _ J5' r5 (step x H5 y5)) fun _ s6 ⟨σ6, H6, J6, q6⟩ => ?_
        refine thn (pif _ s6 σ6 H6 _ J6 q6) fun ok s7 ⟨H7, J7, q7⟩ => ?_
        have again : ∀ {σ8 : St} {H8 : Hp} {s8 : Shared} {acc8 : List V}, Inv (cxComp X scope N' ⟨cl, s2, upd H1 l (.lst []), fp⟩) ([] ++ pinsAt fp s5.heap) σ8 H8 s8 → (∃ m', m' < n ∧ W (i + 1) m' σ8 acc8 H8) →
            ∃ m, m < n ∧ ∃ i σ' acc H', Inv (cxComp X scope N' ⟨cl, s2, upd H1 l (.lst []), fp⟩) [] σ' H' s8 ∧ tn i s8.heap ∧ (∀ b ∈ fp, H' b = none) ∧ W i m σ' acc H' := fun {σ8 H8 s8 acc8} J8 hw => by
          obtain ⟨m', hm, w8⟩ := hw
          refine ⟨m', hm, i + 1, σ8, acc8, H8, J8.unpinned, T.keep _ _ _ t5 fun b hb o e => (J8.pin (b, o) (List.mem_append_right _ (List.mem_append_right _ (mem_pinsAt hb e)))).1, fun b hb => ?_, w8⟩
          obtain ⟨o, e, d⟩ := T.obj _ _ t5 b hb
          exact (J8.pin (b, o) (List.mem_append_right _ (List.mem_append_right _ (mem_pinsAt hb e)))).2.1
        cases ok with
        | false => exact again J7 q7
        | true =>
          refine thn (pel _ s7 σ6 H7 _ J7 q7) fun xv s8 ⟨v, H8, J8, r8, hl8, m', hm, w8⟩ => ?_
          have mtq := mt_append (X := cxComp X scope N' ⟨cl, s2, upd H1 l (.lst []), fp⟩)
          unfold MtM at mtq
          refine thn (mtq _ s8 σ6 H8 (.ref l) [v] (.ref l) [xv] (fun _ H9 => H9 = upd H8 l (.lst (acc ++ [v]))) J8 rfl (.cons r8 .nil) ⟨l, acc, v, rfl, rfl, hl8, hz, rfl⟩) fun _ s9 ⟨v9, H9, J9, _, e9⟩ => ?_
          subst e9
          exact again J9 ⟨m', hm, w8⟩
    exact codeAny_compStart_list loop (T.self X.A 0 _ _ _ st3 loop)

theorem pe_comp (hc : X.calm = true) (hk : scope.kind = .function) (hcell : ∀ y ∈ scope.names, y.2 ≠ .cell) (hnames : ∀ y ∈ scope.names, y.2 = .local → scope.names.lookup y.1 = some .local)
    (hfree : ∀ y ∈ scope.names, y.2 = .free → (X.env.kindOf y.1 = some .cell ∨ X.env.kindOf y.1 = some .free)) (cap : Cap X scope N' js) (hi : PI X tg iter wi)
    (blk : ∀ B, PG (cxComp X scope N' B) tg (g B) ∧ PIfs (cxComp X scope N' B) ifs (tc B) ∧ PE (cxComp X scope N' B) elt (te B))
    (hs : ∀ x, foldedSetIterable iter X.env x = pure x := by intro _; rfl) : PE X (.ListComp elt [⟨tg, iter, ifs, 0⟩] scope pos) (tComp js wi g tc te) := by
  unfold PE; unfold PI at hi
  exact by
    intro pins s σ H Q I h
    obtain ⟨cl, hcl, c1, c2⟩ := closure_of (scope := scope) (env := X.env) fun x hx hxf => I.ok.has x.1 (hfree x hx hxf)
    rw [eval_ListComp]
    refine wpAny_comprehension_free (use := none) rfl hs hcl hk hnames (thn (hi pins s σ H _ I h) fun v s1 h1 => thn h1 fun itv s2 h2 => ?_)
    obtain ⟨it, fp, tn, J, H2, e, I2, T, st2, f2, hloop⟩ := h2
    subst e
    refine comp_block (RR := fun acc C => compPost (model X.prog X.w) X.A X.xe none (EP X pins σ Q) acc C) hc hk hcell cap blk c1 c2 I2 T st2 f2 hloop ?_
    intro l C H' s' m' I' q ns fC hL hcl' hfs hs0 hpin
    exact ⟨m', ns, fun h'' sb => ⟨.ref l, H', I'.turned (t' := s'.toks) (fun b o hb e => (sb.2 b hb).trans e) fC hL (.inr hs0) hcl' hpin, rfl, q⟩⟩

/-- name = [..] on one line: stored ahead of the block's end -/
theorem ps_setComp {i : Nat} {y : Str} {py spos : Pos} (hN : X.N.Nodup) (hy : X.N[i]? = some y) (hyk : X.env.kindOf y = some .local) (hc : X.calm = true) (hk : scope.kind = .function) (hcell : ∀ y ∈ scope.names, y.2 ≠ .cell)
    (hnames : ∀ y ∈ scope.names, y.2 = .local → scope.names.lookup y.1 = some .local)
    (hfree : ∀ y ∈ scope.names, y.2 = .free → (X.env.kindOf y.1 = some .cell ∨ X.env.kindOf y.1 = some .free)) (cap : Cap X scope N' js) (hi : PI X tg iter wi)
    (blk : ∀ B, PG (cxComp X scope N' B) tg (g B) ∧ PIfs (cxComp X scope N' B) ifs (tc B) ∧ PE (cxComp X scope N' B) elt (te B))
    (hsw : swapsWith (.ListComp elt [⟨tg, iter, ifs, 0⟩] scope pos) (some (.Name y py)) spos.line X.env = pure true := by rfl)
    (hs : ∀ x, foldedSetIterable iter X.env x = pure x := by intro _; rfl) : PS X (.Assign [.Name y py] (.ListComp elt [⟨tg, iter, ifs, 0⟩] scope pos) spos) (tAsg (tComp js wi g tc te) (gName i)) := by
  unfold PS; unfold PI at hi
  exact by
    intro pins s σ H D I h
    obtain ⟨cl, hcl, c1, c2⟩ := closure_of (scope := scope) (env := X.env) fun x hx hxf => I.ok.has x.1 (hfree x hx hxf)
    rw [exec_Assign_Name_used _ _ _ _ hsw]
    refine wpAny_bind (wpAny_standAt (wpAny_bind ?_))
    show wpAny _ X.A (do let _ ← comprehension (.ListComp elt [⟨tg, iter, ifs, 0⟩] scope pos) scope X.env _ (newList []) false (eval iter X.env) (some (assign (.Name y py) X.env))) _ _ s
    refine wpAny_bind (wpAny_mono (wpAny_comprehension_free (use := some (assign (.Name y py) X.env)) (Q := fun _ s' => SP X pins D .next s') rfl hs hcl hk hnames
      (thn (hi pins s σ H _ I h) fun v s1 h1 => thn h1 fun itv s2 h2 => ?_)) (fun _ s' hq => wpAny_pure (wpAny_pure hq)) fun _ _ e => e)
    obtain ⟨it, fp, tn, J, H2, e, I2, T, st2, f2, hloop⟩ := h2
    subst e
    refine comp_block (RR := fun acc C => compPost (model X.prog X.w) X.A X.xe (some (assign (.Name y py) X.env)) (fun _ s' => SP X pins D .next s') acc C) hc hk hcell cap blk c1 c2 I2 T st2 f2 hloop ?_
    intro l C H' s' m' I' q ns fC hL hcl' hfs hs0 hpin
    show wpAny _ X.A (assign (.Name y py) X.env (.ref l)) _ _ _
    refine wpAny_assign_Name (store_ok2 (v := .ref l) I' hN hy (.inl hyk) rfl (fun s'' I'' sb => ?_) (.inr hyk))
    obtain ⟨a, sb, ha⟩ := sb
    have hCa : C ≠ a := by
      rcases ha with z | z
      · rw [z]; exact hL
      · exact fun z' => hcl' y a z z'.symm
    refine ⟨m', ns.sameBut sb hCa, fun h'' sb2 => ?_⟩
    exact ⟨σ.set i (some (.ref l)), H', I''.turned (t' := s''.toks) (fun b o hb e => (sb2.2 b hb).trans e) fC hL (.inr hs0) hcl' hpin, q⟩

end

/-! ### the forms one uses -/
/-- over a list, the variable in the block's first slot; p: the list so far and the heap at turn i -/
theorem loop_list {K : PySem.W.Frag} {a l : Addr} {xs : List V} {tc : TT} {te : TE} {o : Option V} {cp : St} {H : Hp} {Q : VK} (Pv : Nat → List V → Hp → Prop) (hsz : xs.length ≤ sizeLine) (h0 : Pv 0 [] H)
    (hl : ∀ i acc H, i ≤ xs.length → Pv i acc H → H l = some (.lst acc) ∧ SqL K H a xs ∧ acc.length ≤ i)
    (hs : ∀ i x acc H, xs[i]? = some x → Pv i acc H → tc (some x :: cp) H fun b H3 => if b = true then te (some x :: cp) H3 fun v H4 => H4 l = some (.lst acc) ∧ Pv (i + 1) (acc ++ [v]) (upd H4 l (.lst (acc ++ [v]))) else Pv (i + 1) acc H3)
    (hd : ∀ acc H, Pv xs.length acc H → Q (.ref l) H)
    (tcm : ∀ σ H R R', (∀ b H1, R b H1 → R' b H1) → tc σ H R → tc σ H R') (tem : ∀ σ H R R', (∀ v H1, R v H1 → R' v H1) → te σ H R → te σ H R') :
    tLoop (Itl K a) l (gName 0) tc te (o :: cp) H Q := by
  refine ⟨fun i m σ acc H => m = xs.length - i ∧ i ≤ xs.length ∧ (∃ o, σ = o :: cp) ∧ Pv i acc H, ⟨xs.length, by simp, Nat.zero_le _, ⟨o, rfl⟩, h0⟩, ?_⟩
  rintro i m σ acc H ⟨rfl, hi, ⟨o', rfl⟩, p⟩
  obtain ⟨q1, q2, q3⟩ := hl i acc H hi p
  refine ⟨q1, ?_⟩
  by_cases hlt : i < xs.length
  · refine .inr ⟨⟨xs, xs[i], q2, by simp [hlt]⟩, by omega, fun x H' y => ?_⟩
    obtain ⟨e, y⟩ := y
    subst e
    have hx := y xs q2
    show tc (some x :: cp) _ _
    refine tcm _ _ _ _ ?_ (hs i x acc _ hx p)
    intro b H3 hb
    cases b with
    | false => exact ⟨xs.length - (i + 1), by omega, rfl, hlt, ⟨_, rfl⟩, hb⟩
    | true => exact tem _ _ _ _ (fun v H4 ⟨z1, z2⟩ => ⟨z1, xs.length - (i + 1), by omega, rfl, hlt, ⟨_, rfl⟩, z2⟩) hb
  · have e : i = xs.length := by omega
    subst e
    exact .inl ⟨⟨xs, q2, Nat.le_refl _⟩, hd acc H p⟩
end L2

namespace L2
open PySem PySem.Spec PyProof.Rows

/-! ### exceptions (own work over the hand layer): a flight is told by the exception's own record and its newest trace -/
theorem ObjOk.there {P : Program} {w : World} {H : Hp} {h : Heap} {a : Addr} {o : HO} (x : ObjOk P w H h a o) : ∃ ob, h.get? a = some ob := by
  cases o with
  | lst xs => obtain ⟨_, _, _, _, e⟩ := x; exact ⟨_, e⟩
  | tup xs => obtain ⟨_, _, _, ob, e, _⟩ := x; exact ⟨_, e⟩
  | dK kvs => obtain ⟨_, _, _, _, o, _, _, e, _⟩ := x; exact ⟨_, e⟩
  | dT kvs => obtain ⟨_, _, _, _, o, _, _, e, _⟩ := x; exact ⟨_, e⟩
  | set S n => obtain ⟨o, _, _, _, e, _⟩ := x; exact ⟨_, e⟩
  | ins C dx fs => obtain ⟨_, _, _, e, _⟩ := x; exact ⟨_, e⟩
  | own y => obtain ⟨_, e⟩ := x; exact ⟨_, e⟩
  | xd fs => obtain ⟨_, ⟨_, _, _, e, _⟩, _⟩ := x; exact ⟨_, e⟩
  | rng lo hi => obtain ⟨_, _, _, e⟩ := x; exact ⟨_, e⟩
  | frz ob u => obtain ⟨e, _⟩ := x; exact ⟨_, e⟩
  | tbl ps => exact ⟨_, (show h.get? a = some _ from x)⟩
  | met f y => exact ⟨_, (show h.get? a = some _ from x)⟩
  | ext φ => obtain ⟨_, ⟨_, e⟩, _⟩ := x; exact ⟨_, e⟩
/-- tracked objects (and their dicts) stay: held still -/
theorem HOk.track {P : Program} {w : World} {H : Hp} {h h' : Heap} (x : HOk P w H h) (k : ∀ b u o, H b = some u → h.get? b = some o → h'.get? b = some o) : HOk P w H h' := fun a o e =>
  (x a o e).stay (fun b u hb q => by
    rcases hb with z | z
    · subst z; exact k _ _ _ e q
    · exact k _ _ _ z q) (fun _ q => q) fun _ _ q => q
theorem dict_mapF (o : Obj) (f : Array Value → Array Value) : (Obj.mapFields f o).dict = o.dict := by
  obtain ⟨c, d, dt, sl⟩ := o
  cases dt <;> rfl

/-- the exception at e: its class, its dict, its record (the trace in place 1 is t1) -/
def ExAt (h : Heap) (e : Addr) (C : Value) (dd : Option Addr) (t1 : Value) : Prop := ∃ oe vs, h.get? e = some oe ∧ oe.cls = C ∧ oe.dict = dd ∧ oe.data = .fields vs ∧ vs[1]? = some t1
/-- a trace's record, in flight at fl -/
def TrAt (h : Heap) (T : Addr) (fl : Value) : Prop := ∃ oT ts, h.get? T = some oT ∧ oT.data = .fields ts ∧ ts[3]? = some fl
/-- what changed: the exception, its old trace T0, the frames' slots -/
structure Moved (fs : List Addr) (e : Addr) (T0 : Option Addr) (h h' : Heap) : Prop where
  keep : ∀ b o, b ≠ e → some b ≠ T0 → b ∉ fs → h.get? b = some o → h'.get? b = some o
  slot : ∀ b o, b ∈ fs → h.get? b = some o → ∃ sl, h'.get? b = some { o with slots := sl }
  there : ∀ b o, h.get? b = some o → ∃ o', h'.get? b = some o'

section
variable {M : Model} {A : Around} {E : Value → Shared → Prop} {s : Shared}
theorem up_self {h : Heap} {a : Addr} {o : Obj} {vs : Array Value} {f : Array Value → Array Value} (e : h.get? a = some o) (hd : o.data = .fields vs) : (h.update a (Obj.mapFields f)).get? a = some (Obj.mapFields f o) :=
  Heap.get?_update_self _ e (Obj.isFreed_of_fields (Obj.data_mapFields hd _))
theorem note_new {base : Heap} {env : Env} {outer : List Env} {L e : Addr} {C : Value} {dd : Option Addr} {t1 head : Value} {hadNext : Bool} {Q : Unit → Shared → Prop}
    (hfr : A.frames = some (env :: outer)) (hl : s.heap.FunFrames base (env :: outer)) (hf : env.frame = some L) (X : ExAt s.heap e C dd t1)
    (h : ∀ h' T, ExAt h' e C dd (.ref T) → TrAt h' T (rawInt L) → s.heap.objs.size ≤ T → T ≠ e → Moved (frs (env :: outer)) e none s.heap h' → Q () { s with heap := h' }) :
    wpAny M A (do let a ← frameOf env; let pl ← entryPlaceOf L hadNext; let b ← EntryCells.newEntry head a .none (rawInt L) .none pl; setField (.ref e) 1 b) Q E s := by
  obtain ⟨oe, vs, he, hC, hdd, hd, h1⟩ := X
  have ne : e ∉ frs (env :: outer) := fun hm => by
    obtain ⟨_, o, ho, hnf⟩ := hl.mem hm
    rw [he] at ho; cases ho
    exact hnf vs hd
  refine wpAny_bind (wpAny_frameOf_fun hfr hl hf fun g so => ?_)
  refine wpAny_bind (wpAny_entryPlaceOf fun pl hpl => ?_)
  unfold EntryCells.newEntry newFields
  refine wpAny_bind (wpAny_newObj_type ?_ (hpl.sizeOk5 _ _ _ _ _))
  have hg : g.get? e = some oe := (so.2.1 e ne).trans he
  have hsz := (Array.getElem?_eq_some_iff.mp h1).1
  refine wpAny_setField (Heap.get?_push_of_some _ hg) hd hsz ?_
  have nT : g.objs.size ≠ e := Nat.ne_of_gt (Heap.lt_size hg)
  refine h _ g.objs.size ⟨_, _, up_self (Heap.get?_push_of_some _ hg) hd, (Obj.cls_mapFields _ _).trans hC, (dict_mapF _ _).trans hdd, Obj.data_mapFields hd _, by simp [hsz]⟩
    ⟨_, _, (Heap.get?_update_other _ _ (Ne.symm nT)).trans (Heap.get?_push_size g rfl), rfl, ?_⟩ (Nat.le_of_eq so.1.symm) nT ⟨fun b o h1 _ h3 q => ?_, fun b o hb q => ?_, fun b o q => ?_⟩
  · rcases hpl with rfl | ⟨_, _, _, _, _, _, _, rfl⟩ <;> simp
  · rw [Heap.get?_update_other _ _ (Ne.symm h1)]
    exact Heap.get?_push_of_some _ ((so.2.1 b h3).trans q)
  · obtain ⟨sl, z⟩ := so.2.2 b o q
    refine ⟨sl, ?_⟩
    rw [Heap.get?_update_other _ _ (fun k => ne (by rw [k]; exact hb))]
    exact Heap.get?_push_of_some _ z
  · by_cases k : b = e
    · rw [k]; exact ⟨_, up_self (Heap.get?_push_of_some _ hg) hd⟩
    · obtain ⟨sl, z⟩ := so.2.2 b o q
      exact ⟨_, by rw [Heap.get?_update_other _ _ (Ne.symm k)]; exact Heap.get?_push_of_some _ z⟩

/-- a flight is noted in a frame: T0 its trace so far (none: it was just raised) -/
theorem note_fly {base : Heap} {env : Env} {outer : List Env} {L e : Addr} {C : Value} {dd : Option Addr} {T0 : Option Addr} {Q : Unit → Shared → Prop}
    (hfr : A.frames = some (env :: outer)) (hl : s.heap.FunFrames base (env :: outer)) (hf : env.frame = some L) (X : ExAt s.heap e C dd (T0.elim .none Value.ref)) (hT : ∀ T, T0 = some T → TrAt s.heap T .none ∧ T ≠ e)
    (h : ∀ h' T, ExAt h' e C dd (.ref T) → TrAt h' T (rawInt L) → s.heap.objs.size ≤ T → T ≠ e → Moved (frs (env :: outer)) e T0 s.heap h' → Q () { s with heap := h' }) :
    wpAny M A (noteFrame (.ref e) env) Q E s := by
  obtain ⟨oe, vs, he, hC, hdd, hd, h1⟩ := id X
  unfold noteFrame
  simp only [hf]
  refine wpAny_bind (wpAny_field he hd h1 ?_)
  cases T0 with
  | none =>
    rw [if_neg (by decide)]
    exact note_new hfr hl hf X h
  | some T =>
    obtain ⟨⟨oT, ts, hT, hdT, h3⟩, hne⟩ := hT T rfl
    show wpAny M A (if (Value.ref T != Value.none) = true then _ else _) Q E s
    rw [if_pos (by simp)]
    refine wpAny_bind (wpAny_field hT hdT h3 ?_)
    rw [if_neg (by simp [rawInt])]
    refine wpAny_bind (wpAny_setField hT hdT (Array.getElem?_eq_some_iff.mp h3).1 ?_)
    have oth : ∀ b, b ≠ T → (s.heap.update T (Obj.mapFields (·.setIfInBounds 3 Value.none))).get? b = s.heap.get? b := fun b hb => Heap.get?_update_other _ _ (Ne.symm hb)
    have nfr : ∀ b o, b ∈ frs (env :: outer) → s.heap.get? b = some o → b ≠ T := fun b o hb q z => by
      obtain ⟨_, o', ho', hnf⟩ := hl.mem hb
      rw [z, hT] at ho'; cases ho'
      exact hnf _ hdT
    have hl2 : (s.heap.update T (Obj.mapFields (·.setIfInBounds 3 Value.none))).FunFrames base (env :: outer) := hl.of_keeps fun b o hb hnf => ⟨o, (oth b fun z => by rw [z, hT] at hb; cases hb; exact hnf _ hdT).trans hb, rfl⟩
    refine note_new (s := { s with heap := s.heap.update T (Obj.mapFields (·.setIfInBounds 3 Value.none)) }) hfr hl2 hf ⟨oe, vs, (oth e (Ne.symm hne)).trans he, hC, hdd, hd, h1⟩ fun h' T2 x1 x2 x3 x4 mv => ?_
    have goneT : s.heap.objs.size ≤ T2 := Nat.le_trans (Nat.le_of_eq (Heap.size_after_update ..).symm) x3
    refine h h' T2 x1 x2 goneT x4 ⟨fun b o k1 k2 k3 q => mv.keep b o k1 (by simp) k3 ((oth b fun z => k2 (by rw [z])).trans q), fun b o hb q => mv.slot b o hb ((oth b (nfr b o hb q)).trans q), fun b o q => ?_⟩
    by_cases k : b = T
    · exact mv.there b _ (by rw [k]; exact up_self hT hdT)
    · exact mv.there b o ((oth b k).trans q)

/-- .. and comes to rest -/
theorem rest_fly {e T : Addr} {C : Value} {dd : Option Addr} {fl : Value} {Q : Unit → Shared → Prop} (X : ExAt s.heap e C dd (.ref T)) (hT : TrAt s.heap T fl) (hne : T ≠ e)
    (h : ∀ h', ExAt h' e C dd (.ref T) → TrAt h' T .none → (∀ b o, b ≠ T → s.heap.get? b = some o → h'.get? b = some o) → (∀ b o, s.heap.get? b = some o → ∃ o', h'.get? b = some o') → Q () { s with heap := h' }) :
    wpAny M A (setFlight (.ref e) none) Q E s := by
  obtain ⟨oe, vs, he, hC, hdd, hd, h1⟩ := X
  obtain ⟨oT, ts, hT, hdT, h3⟩ := hT
  have hsz := (Array.getElem?_eq_some_iff.mp h3).1
  unfold setFlight
  refine wpAny_bind (wpAny_field he hd h1 ?_)
  rw [if_pos (by simp)]
  have oth : ∀ b, b ≠ T → (s.heap.update T (Obj.mapFields (·.setIfInBounds 3 ((none : Option Addr).elim Value.none fun f => rawInt f)))).get? b = s.heap.get? b := fun b hb => Heap.get?_update_other _ _ (Ne.symm hb)
  refine wpAny_setField hT hdT hsz (h _ ⟨oe, vs, (oth e (Ne.symm hne)).trans he, hC, hdd, hd, h1⟩ ⟨_, _, up_self hT hdT, Obj.data_mapFields hdT _, by simp [hsz]⟩ (fun b o k q => (oth b k).trans q) fun b o q => ?_)
  by_cases k : b = T
  · rw [k]; exact ⟨_, up_self hT hdT⟩
  · exact ⟨o, (oth b k).trans q⟩
end

/-- an exception that flies behind a call -/
def CXx (P : Program) (w : World) : CXT := fun outer H s E u s' => ∃ (e : Addr) (C : Value) (dd : Option Addr) (T : Addr) (H' : Hp), u = .ref e ∧ s'.os = s.os ∧ AllBare s'.gens ∧ Un (frs outer) [] H H' s.heap s'.heap ∧ HOk P w H' s'.heap ∧
  ExAt s'.heap e C dd (.ref T) ∧ TrAt s'.heap T .none ∧ T ≠ e ∧ H' e = none ∧ H' T = none ∧ s.heap.get? e = none ∧ s.heap.get? T = none ∧ E C dd H'
/-- an exception of a callee, by the names' values at the call -/
def PassesS (CX : CXT) (X : Cx) (Ez : St → XK) : Prop := ∀ (pins : List (Addr × Obj)) (σ : St) (H : Hp) (s : Shared) (e : Value) (s' : Shared), Inv X pins σ H s → CX X.stack H s (Ez σ) e s' → X.xe e s'

/-- a flight through one frame, as the frames below see it. l: the frames that ran; s: the entry; g: the state ahead of the step -/
theorem un_moved {l l' : List Env} {H H' : Hp} {h g h' : Heap} {e : Addr} {T0 : Option Addr} (u : Un (frs l') [] H H' h g) (mv : Moved (frs l) e T0 g h') (hsub : ∀ b ∈ frs l', b ∈ frs l) (hnew : ∀ b o, h.get? b = some o → b ∈ frs l → b ∈ frs l')
    (he : h.get? e = none) (hT : ∀ T, T0 = some T → h.get? T = none) : Un (frs l') [] H H' h h' := by
  have k1 : ∀ b o, h.get? b = some o → b ≠ e := fun b o q z => by rw [z, he] at q; cases q
  have k2 : ∀ b o, h.get? b = some o → some b ≠ T0 := fun b o q z => by rw [hT b z.symm] at q; cases q
  refine ⟨fun b o q n hb hx => ?_, fun b o q n hb hx => ?_, u.free, fun b o q hx => ?_, u.tups, u.frzs, u.tbls⟩
  · exact mv.keep b o (k1 b o q) (k2 b o q) (fun z => hb (hnew b o q z)) (u.keep b o q n hb hx)
  · obtain ⟨sl, q1⟩ := u.slot b o q n hb hx
    obtain ⟨sl2, q2⟩ := mv.slot b _ (hsub b hb) q1
    exact ⟨sl2, q2⟩
  · obtain ⟨o1, q1⟩ := u.there b o q hx
    exact mv.there b o1 q1

section
variable {P : Program} {w : World} {K : PySem.W.Frag} {mg : Str → Option Value} {base : Heap} {N : List Str} {qual : Str} {scope : Scope} {f : Addr} {cd : Value} {A : Around} {outer : List Env} {s₀ : Shared} {H₀ : Hp} {E : XK}
theorem frs_cons {env : Env} {outer : List Env} {L : Addr} (h : env.frame = some L) : frs (env :: outer) = L :: frs outer := by
  unfold frs
  rw [List.filterMap_cons, h]

/-- both steps of a flight out of a frame -/
theorem leave_fly {M : Model} {A : Around} {E : Value → Shared → Prop} {s : Shared} {base : Heap} {env : Env} {outer : List Env} {L e : Addr} {C : Value} {dd : Option Addr} {T0 : Option Addr} {Q : Unit → Shared → Prop}
    (hfr : A.frames = some (env :: outer)) (hl : s.heap.FunFrames base (env :: outer)) (hf : env.frame = some L) (X : ExAt s.heap e C dd (T0.elim .none Value.ref)) (hT : ∀ T, T0 = some T → TrAt s.heap T .none ∧ T ≠ e)
    (h : ∀ h' T, ExAt h' e C dd (.ref T) → TrAt h' T .none → s.heap.objs.size ≤ T → T ≠ e → Moved (frs (env :: outer)) e T0 s.heap h' → Q () { s with heap := h' }) :
    wpAny M A (noteFrame (.ref e) env) (fun _ s2 => wpAny M A (setFlight (.ref e) none) Q E s2) E s := by
  refine note_fly hfr hl hf X hT fun h1 T x1 x2 x3 x4 mv => ?_
  refine rest_fly (s := { s with heap := h1 }) x1 x2 x4 fun h2 y1 y2 k1 k2 => h h2 T y1 y2 x3 x4 ?_
  have nT : ∀ b o, s.heap.get? b = some o → b ≠ T := fun b o q z => absurd (Heap.lt_size q) (by rw [z]; exact Nat.not_lt.mpr x3)
  refine ⟨fun b o z1 z2 z3 q => k1 b o (nT b o q) (mv.keep b o z1 z2 z3 q), fun b o hb q => ?_, fun b o q => ?_⟩
  · obtain ⟨sl, q1⟩ := mv.slot b o hb q
    exact ⟨sl, k1 b _ (nT b o q) q1⟩
  · obtain ⟨o1, q1⟩ := mv.there b o q
    exact k2 b o1 q1

theorem funFrames_un {base h h' : Heap} : ∀ {l : List Env}, h.FunFrames base l → (∀ b o, b ∈ frs l → h.get? b = some o → ∃ sl, h'.get? b = some { o with slots := sl }) → h'.FunFrames base l
  | [], _, _ => trivial
  | env :: r, hl, k => by
    obtain ⟨hk, ⟨L, o, hf, hn, ho, hd⟩, hr⟩ := hl
    have e := frs_cons (outer := r) hf
    obtain ⟨sl, z⟩ := k L o (by rw [e]; exact List.mem_cons_self) ho
    exact ⟨hk, ⟨L, _, hf, hn, z, hd⟩, funFrames_un hr fun b o' hb q => k b o' (by rw [e]; exact List.mem_cons_of_mem _ hb) q⟩
/-- a call's change as the callers see it -/
theorem un_enter {fs : List Addr} {L : Addr} {H H1 H2 : Hp} {h h1 h2 : Heap} (a : Un fs [] H H1 h h1) (b : Un (L :: fs) [] H1 H2 h1 h2) (hL : h.get? L = none) : Un fs [] H H2 h h2 where
  keep := fun c o q n hc hx => b.keep c o (a.keep c o q n hc hx) (a.free c o q n hx) (fun z => (List.mem_cons.mp z).elim (fun y => by rw [y, hL] at q; cases q) hc) (by simp)
  slot := fun c o q n hc hx => by
    obtain ⟨sl, q1⟩ := a.slot c o q n hc hx
    obtain ⟨sl2, q2⟩ := b.slot c _ q1 (a.free c o q n hx) (List.mem_cons_of_mem _ hc) (by simp)
    exact ⟨sl2, q2⟩
  free := fun c o q n hx => by
    obtain ⟨o1, q1⟩ := a.there c o q hx
    exact b.free c o1 q1 (a.free c o q n hx) (by simp)
  there := fun c o q hx => by
    obtain ⟨o1, q1⟩ := a.there c o q hx
    exact b.there c o1 q1 (by simp)
  tups := fun c xs q => b.tups c xs (a.tups c xs q)
  frzs := fun c o xs q => b.frzs c o xs (a.frzs c o xs q)
  tbls := fun c ps q => by
    obtain ⟨m1, e1⟩ := a.tbls c ps q
    obtain ⟨m2, e2⟩ := b.tbls c _ e1
    exact ⟨m1 ++ m2, by rw [e2, Array.append_assoc]⟩

theorem pass_def : PassesS (CXx P w) (cxOf (CXx P w) P w K mg base N qual scope f cd A outer s₀ H₀ E) (fun _ => E) := by
  intro pins σ H s u s' I h
  obtain ⟨e, C, dd, T, H', rfl, os, bare, un, hok, x1, x2, x3, f1, f2, n1, n2, hE⟩ := h
  have fe : frs (envOfC qual scope s₀.heap.objs.size f cd :: outer) = s₀.heap.objs.size :: frs outer := frs_cons rfl
  have un' : Un (s₀.heap.objs.size :: frs outer) [] H H' s.heap s'.heap := by rw [← fe]; exact un
  have ib : Un (frs outer) [] H₀ H s₀.heap s.heap := I.base
  have nL : s₀.heap.get? s₀.heap.objs.size = none := Heap.get?_none_of_le (Nat.le_refl _)
  have um := un_enter ib un' nL
  have hfun : s'.heap.FunFrames base (envOfC qual scope s₀.heap.objs.size f cd :: outer) := funFrames_un I.stack fun b o hb q => un.slot b o q (I.stkFree b hb) hb (by simp)
  have ntr : ∀ b u, H' b = some u → b ∉ frs (envOfC qual scope s₀.heap.objs.size f cd :: outer) := fun b u q hb => by
    obtain ⟨_, o, ho, _⟩ := I.stack.mem hb
    have := un.free b o ho (I.stkFree b hb) (by simp)
    rw [q] at this; cases this
  show wpAny _ _ (leaving _ (.ref e)) _ _ s'
  unfold leaving
  refine wpAny_bind (leave_fly (T0 := some T) (L := s₀.heap.objs.size) I.ok.frames hfun rfl x1 (fun T' z => by cases z; exact ⟨x2, x3⟩) fun h' T2 y1 y2 y3 y4 mv => ?_)
  have none_of : ∀ b, s.heap.get? b = none → s₀.heap.get? b = none := fun b hb => by
    cases q : s₀.heap.get? b with
    | none => rfl
    | some o => obtain ⟨o1, q1⟩ := ib.there b o q (by simp); rw [hb] at q1; cases q1
  refine ⟨e, C, dd, T2, H', rfl, os.trans I.os, bare, un_moved (l := envOfC qual scope s₀.heap.objs.size f cd :: outer) um mv (fun b hb => by rw [fe]; exact List.mem_cons_of_mem _ hb) (fun b o q hb => ?_) (none_of e n1) (fun T' z => by cases z; exact none_of T n2),
    hok.track fun b u o q1 q2 => mv.keep b o (fun z => by rw [z, f1] at q1; cases q1) (fun z => by cases z; rw [f2] at q1; cases q1) (ntr b u q1) q2, y1, y2, y4, f1, ?_, none_of e n1, ?_, hE⟩
  · rw [fe] at hb
    rcases List.mem_cons.mp hb with z | z
    · rw [z, nL] at q; cases q
    · exact z
  · cases q : H' T2 with
    | none => rfl
    | some u => obtain ⟨ob, hob⟩ := (hok T2 u q).there; exact absurd (Heap.lt_size hob) (Nat.not_lt.mpr y3)
  · cases q : s₀.heap.get? T2 with
    | none => rfl
    | some o => obtain ⟨o1, q1⟩ := um.there T2 o q (by simp); exact absurd (Heap.lt_size q1) (Nat.not_lt.mpr y3)

/-- what a raise asks of its context: the exception's class, its dict -/
def Rz (X : Cx) (E : XK) : Prop := ∀ (pins : List (Addr × Obj)) (σ : St) (H : Hp) (s : Shared) (h' : Heap) (e : Addr) (C : Value) (vs : List Value), Inv X pins σ H s → Heap.MadeExcOf s.heap h' e C vs → E C none H → X.xe (.ref e) { s with heap := h' }
theorem rz_def : Rz (cxOf (CXx P w) P w K mg base N qual scope f cd A outer s₀ H₀ E) E := by
  intro pins σ H s h1 e C vs I mx hE
  obtain ⟨t, he, htn, ht⟩ := mx.there
  have fe : frs (envOfC qual scope s₀.heap.objs.size f cd :: outer) = s₀.heap.objs.size :: frs outer := frs_cons rfl
  have ib : Un (frs outer) [] H₀ H s₀.heap s.heap := I.base
  have nL : s₀.heap.get? s₀.heap.objs.size = none := Heap.get?_none_of_le (Nat.le_refl _)
  have um : Un (frs outer) [] H₀ H s₀.heap h1 := ib.trans (Un.kept mx.keeps)
  have hfun : h1.FunFrames base (envOfC qual scope s₀.heap.objs.size f cd :: outer) := funFrames_un I.stack fun b o hb q => ⟨o.slots, mx.keeps b o q⟩
  have ntr : ∀ b u, H b = some u → b ∉ frs (envOfC qual scope s₀.heap.objs.size f cd :: outer) := fun b u q hb => by
    have := I.stkFree b hb
    rw [q] at this; cases this
  have hok1 : HOk P w H h1 := I.hok.kept mx.keeps
  have fE : H e = none := by
    cases q : H e with
    | none => rfl
    | some u => obtain ⟨ob, hob⟩ := (I.hok e u q).there; rw [mx.new] at hob; cases hob
  have none_of : ∀ b, s.heap.get? b = none → s₀.heap.get? b = none := fun b hb => by
    cases q : s₀.heap.get? b with
    | none => rfl
    | some o => obtain ⟨o1, q1⟩ := ib.there b o q (by simp); rw [hb] at q1; cases q1
  show wpAny _ _ (leaving _ (.ref e)) _ _ { s with heap := h1 }
  unfold leaving
  refine wpAny_bind (leave_fly (s := { s with heap := h1 }) (T0 := none) (L := s₀.heap.objs.size) (C := C) (dd := none) I.ok.frames hfun rfl ⟨_, _, he, rfl, rfl, rfl, rfl⟩ (fun T' z => by cases z) fun h' T2 y1 y2 y3 y4 mv => ?_)
  refine ⟨e, C, none, T2, H, rfl, I.os, I.bare, un_moved (l := envOfC qual scope s₀.heap.objs.size f cd :: outer) um mv (fun b hb => by rw [fe]; exact List.mem_cons_of_mem _ hb) (fun b o q hb => ?_) (none_of e mx.new) (fun T' z => by cases z),
    hok1.track fun b u o q1 q2 => mv.keep b o (fun z => by rw [z, fE] at q1; cases q1) (by simp) (ntr b u q1) q2, y1, y2, y4, fE, ?_, none_of e mx.new, ?_, hE⟩
  · rw [fe] at hb
    rcases List.mem_cons.mp hb with z | z
    · rw [z, nL] at q; cases q
    · exact z
  · cases q : H T2 with
    | none => rfl
    | some u => obtain ⟨ob, hob⟩ := (hok1 T2 u q).there; exact absurd (Heap.lt_size hob) (Nat.not_lt.mpr y3)
  · cases q : s₀.heap.get? T2 with
    | none => rfl
    | some o => obtain ⟨o1, q1⟩ := um.there T2 o q (by simp); exact absurd (Heap.lt_size q1) (Nat.not_lt.mpr y3)
end

/-! ### calls whose exceptions are looked at -/
def tCallS (sp : Sp) (dvs : List V) (Ez : St → XK) (t : TA) : TE := fun σ H Q => t σ H fun vs H1 => sp (vs ++ dvs) H1 Q (Ez σ)
section
variable {X : Cx} {CX : CXT} {k : Nat} {f C : Addr} {fd : FuncData} {ps : List Str} {sp : Sp} {dvs : List V} {ds : List Value} {Ez : St → XK} {x m : Str} {p pos apos : Pos} {e o : Expr} {es : List Expr} {ta : TE} {t : TA}
theorem run_fnS {pins : List (Addr × Obj)} {σ : St} {H : Hp} {s : Shared} {Q : VK} {us : List Value} {vs : List V} (F : FnOk X.prog X.w X.K X.mg X.base CX k f fd ps sp) (hr : Room k X.A) (hb : Binds X.K fd ps ds) (hd : Vals dvs ds) (hx : PassesS CX X Ez)
    (I : Inv X pins σ H s) (r : Vals vs us) (h : sp (vs ++ dvs) H Q (Ez σ)) : wpAny (model X.prog X.w) X.A (call (.ref f) us) (EP X pins σ Q) X.xe s := by
  have r2 : Vals (vs ++ dvs) (us ++ ds) := r.append hd
  have hl : (us ++ ds).length = ps.length := by rw [← r2.length]; exact F.len _ _ _ _ h
  refine wpAny_call (codeAny_mono (F.run X.A X.stack s H ⟨us, []⟩ (us ++ ds) (vs ++ dvs) Q (Ez σ) hr I.env0 (hb s us I.kIn hl) r2 h) fun r s' hq => ?_)
  cases r with
  | error e => exact hx pins σ H s e s' I hq
  | ok fl =>
    cases fl with
    | ret u => exact I.after hq
    | next => exact False.elim hq
    | brk => exact False.elim hq
    | cont => exact False.elim hq
theorem pe_callS (F : FnOk X.prog X.w X.K X.mg X.base CX k f fd ps sp) (hr : Room k X.A) (hg : Gl X x) (hm : X.mg x = some (.ref f)) (hk : PySem.W.keepIn X.K (.ref f) = true) (hb : Binds X.K fd ps ds) (hd : Vals dvs ds) (hx : PassesS CX X Ez)
    (ha : PA X (e :: es) t) (hdb : (x == ("__debug__" : Str)) = false := by decide) (he : starEach (e :: es) X.env = (false, eval e X.env) :: starEach es X.env := by rfl) (hpl : (backTo pos (starEach es X.env)).any (·.1) = false := by rfl) :
    PE X (.Call (.Name x p) (e :: es) [] pos) (tCallS sp dvs Ez t) := by
  unfold PE at *; unfold PA at *
  exact by
    intro pins s σ H Q I h
    refine wpAny_Call_Name_kw (ld_glob I hg hm ?_ hdb)
    refine PySem.W.callWith_K (h₀ := X.base) I.ok.mod.kin hk (thn (ha pos pins s σ H _ I h) fun us s1 ⟨vs, H1, I1, r, q⟩ => ⟨I1.kIn, ?_⟩) he hpl
    exact run_fnS F hr hb hd hx I1 r q

end
end L2

namespace L2
open PySem PySem.Spec PyProof.Rows

/-! ### raise C(..): an own error class over ValueError, without an __init__ -/
def vmro : List Value := [.type "ValueError", .type "Exception", .type "BaseException", .type "object"]
def NsK (K : PySem.W.Frag) (N : Addr) (es : Array DictEntry) : Prop := ∃ c d ep sl, K.lookup N = some ⟨c, d, .dict es ep, sl⟩ ∧ StrKeys es
theorem NsK.ns {K : PySem.W.Frag} {N : Addr} {es : Array DictEntry} {h : Heap} (x : NsK K N es) (X : K.In h) : h.Ns N (nsFind es) := by
  obtain ⟨c, d, ep, sl, lk, sk⟩ := x
  exact ⟨_, es, ep, X _ _ lk, rfl, sk, fun _ => rfl⟩
inductive TailK (K : PySem.W.Frag) : List Value → Prop
  | base : TailK K vmro
  | own {A : Addr} {c0 : Value} {dd : Option Addr} {cd : ClassData} {sl : Array (Option Value)} {tl : List Value} {es : Array DictEntry} :
      K.lookup A = some { cls := c0, dict := dd, data := .cls cd, slots := sl } → NsK K cd.ns es → nsFind es "__init__" = none → TailK K tl → TailK K (.ref A :: tl)
theorem TailK.own' {K : PySem.W.Frag} {h : Heap} {bm : List Value} (t : TailK K bm) (X : K.In h) : OwnTail h vmro bm := by
  induction t with
  | base => exact .base
  | own l n i _ ih => exact .own (X _ _ l) (n.ns X) i ih
structure XCls (K : PySem.W.Frag) (C : Addr) : Prop where
  ex : ∃ nm q N bs bm hdct sn sub ab col dd k0 k1 k2 k3 k5 es, K.lookup C = some (excClassObj nm q C N bs bm hdct sn sub ab col dd k0 k1 k2 k3 k5 "ValueError.__new__") ∧ NsK K N es ∧ nsFind es "__init__" = none ∧ TailK K bm
def tRaise (t : TA) (C : Value) (E : XK) : TS := fun _ σ H => t σ H fun vs H1 => vs.length ≤ sizeLine ∧ E C none H1
theorem ps_raise {X : Cx} {C : Addr} {x : Str} {np cpos pos : Pos} {e₀ : Expr} {rest : List Expr} {t : TA} {E : XK} (xc : XCls X.K C) (hc : X.calm = true) (hg : Gl X x) (hm : X.mg x = some (.ref C)) (hz : Rz X E) (ha : PA X (e₀ :: rest) t)
    (hdb : (x == ("__debug__" : Str)) = false := by decide) (he : starEach (e₀ :: rest) X.env = (false, eval e₀ X.env) :: starEach rest X.env := by rfl) (hpl : (backTo cpos (starEach rest X.env)).any (·.1) = false := by rfl) :
    PS X (.Raise (some (.Call (.Name x np) (e₀ :: rest) [] cpos)) none pos) (tRaise t (.ref C) E) := by
  unfold PA at *; unfold PS at *
  exact by
    intro pins s σ H D I h
    obtain ⟨nm, q, N, bs, bm, hdct, sn, sub, ab, col, dd, k0, k1, k2, k3, k5, es, lk, nk, ni, tl⟩ := xc.ex
    refine wpAny_Raise_call_subT (C := C) (nm := nm) (q := q) (N := N) (bs := bs) (bm := bm) (hdct := hdct) (sn := sn) (sub := sub) (ab := ab) (col := col) (dd := dd) (k0 := k0) (k1 := k1) (k2 := k2) (k3 := k3) (k5 := k5)
      F.excBase_ValueError (mN := nsFind es) ((tl.own' I.kIn).hasType F.excBase_ValueError.hasBase) (I.ok.hd hc) ?_ ni (ld_glob I hg hm ⟨rfl, ?_⟩ hdb)
    · rw [he]
      show (false || (backTo cpos (starEach rest X.env)).any (·.1)) = false
      rw [hpl]; rfl
    · have hA := ha cpos pins s σ H _ I h
      rw [he] at hA ⊢
      refine Calls.evalArgs_plain (wpAny_mono hA (fun us s2 ⟨vs, H1, I1, r, z, hE⟩ => ?_) fun _ _ y => y)
      exact ⟨rfl, by rw [← r.length]; exact z, I1.kIn _ _ lk, nk.ns I1.kIn, tl.own' I1.kIn, fun h' e mx => hz pins σ H1 s2 h' e (.ref C) us I1 mx hE⟩

/-! ### a def whose exceptions are looked at -/
theorem Fun.okx {P : Program} {w : World} {K : PySem.W.Frag} {mg : Str → Option Value} {base : Heap} {x qual : Str} {st : Stmt} {f : Addr} {fd : FuncData} {N ps : List Str} {k : Nat} {sp : Sp} (F : Fun K x qual st f fd) (S : FnScope N ps (defScope st)) (len : ∀ vs H Q E, sp vs H Q E → vs.length = ps.length)
    (hbody : ∀ (cdv : Value) (A : Around) (outer : List Env) (s : Shared) (H : Hp) (vs : List V) (Q : VK) (E : XK), Room k (A.deeper (envOfC qual (defScope st) s.heap.objs.size f cdv)) → sp vs H Q E →
      ∃ t, PSs (cxOf (CXx P w) P w K mg base N qual (defScope st) f cdv A outer s H E) (defBody st) t ∧ t { nx := fun _ H' => Q .non H', rt := Q } (start N vs) H) : FnOk P w K mg base (CXx P w) (k + 1) f fd ps sp := by
  obtain ⟨oc, od, kV, doc, pm, an, cdv, ct, osl, rfl, lk, hcd⟩ := F.ex
  exact fn_of lk hcd S len fun A outer s H vs Q E hr hsp => hbody cdv A outer s H vs Q E hr hsp

/-! ### try: .. except C as n: .. -/
section
variable {X : Cx} {pins pins' : List (Addr × Obj)} {σ : St} {H : Hp} {s : Shared} {W : Value → Shared → Prop}
def Cx.tr (X : Cx) (pins : List (Addr × Obj)) (W : Value → Shared → Prop) : Cx := { X with xe := W, pn := X.pn ++ pins }
theorem Cx.Ok.tr (ok : X.Ok) : (X.tr pins W).Ok := ⟨ok.mod, ok.kind, ok.glob, ok.blt, ok.above, ok.inj, ok.has, ok.cab, ok.hd, ok.frames, ok.stk, ok.exf, ok.bs, ok.bsz, ok.noex, ok.exfs, ok.funs, ok.frf⟩
theorem Cx.Ok.untr (ok : (X.tr pins W).Ok) : X.Ok := ⟨ok.mod, ok.kind, ok.glob, ok.blt, ok.above, ok.inj, ok.has, ok.cab, ok.hd, ok.frames, ok.stk, ok.exf, ok.bs, ok.bsz, ok.noex, ok.exfs, ok.funs, ok.frf⟩
theorem Inv.tr (I : Inv X pins σ H s) : Inv (X.tr pins W) [] σ H s := ⟨I.ok.tr, I.os, I.bare, I.base, I.loc, I.cell, I.free, I.freeC, fun p hp => I.pin p (by simpa [Cx.tr] using hp), I.hok, I.len⟩
theorem Inv.untr (I : Inv (X.tr pins W) pins' σ H s) : Inv X pins σ H s := ⟨I.ok.untr, I.os, I.bare, I.base, I.loc, I.cell, I.free, I.freeC, fun p hp => I.pin p (List.mem_append_left _ hp), I.hok, I.len⟩
theorem SP.untr {D : Ends} {f : Flow} (h : SP (X.tr pins W) pins' D f s) : SP X pins D f s := by
  cases f with
  | next => obtain ⟨a, b, I, q⟩ := h; exact ⟨a, b, I.untr, q⟩
  | brk => obtain ⟨a, b, I, q⟩ := h; exact ⟨a, b, I.untr, q⟩
  | cont => obtain ⟨a, b, I, q⟩ := h; exact ⟨a, b, I.untr, q⟩
  | ret u => obtain ⟨v, a, b, I, r, q⟩ := h; exact ⟨v, a, b, I.untr, r, q⟩
/-- within an except's suite: nothing may be raised there, and no def is called -/
def Cx.sui (X : Cx) (e : Addr) : Cx := { X with A := X.A.mark (some (.ref e)), calm := false, xe := fun _ _ => False }
theorem Cx.Ok.sui (ok : X.Ok) (e : Addr) : (X.sui e).Ok := ⟨ok.mod, ok.kind, ok.glob, ok.blt, ok.above, ok.inj, ok.has, ok.cab, fun z => Bool.noConfusion z, ok.frames, ok.stk, ok.exf, ok.bs, ok.bsz, ok.noex, ok.exfs, ok.funs, ok.frf⟩
theorem Inv.sui (I : Inv X pins σ H s) (e : Addr) : Inv (X.sui e) pins σ H s := ⟨I.ok.sui e, I.os, I.bare, I.base, I.loc, I.cell, I.free, I.freeC, I.pin, I.hok, I.len⟩
theorem Inv.unsui {e : Addr} (ok : X.Ok) (I : Inv (X.sui e) pins σ H s) : Inv X pins σ H s := ⟨ok, I.os, I.bare, I.base, I.loc, I.cell, I.free, I.freeC, I.pin, I.hok, I.len⟩

/-- an untracked object of our own becomes tracked -/
theorem Inv.adopt {e : Addr} {o : HO} (I : Inv X pins σ H s) (hn : H e = none) (h0 : X.s₀.heap.get? e = none) (hL : e ≠ X.env.locals) (hc : ∀ x c, X.env.cells.lookup x = some c → c ≠ e) (hp : ∀ p ∈ X.pn ++ pins, p.1 ≠ e)
    (new : ObjOk X.prog X.w (upd H e o) s.heap e o) : Inv X pins σ (upd H e o) s := by
  have ne : ∀ b u, H b = some u → b ≠ e := fun b u q z => by rw [z, hn] at q; cases q
  refine ⟨I.ok, I.os, I.bare, ⟨I.base.keep, I.base.slot, fun b ob q n hx => ?_, I.base.there, fun b xs q => ?_, fun b ob u q => ?_, fun b ps q => ?_⟩, I.loc, I.cell, ?_, fun x c q => ?_, fun p hq => ?_, fun b u q => ?_, I.len⟩
  · rw [upd_ne (fun z => by rw [z, h0] at q; cases q)]
    exact I.base.free b ob q n hx
  · have q1 := I.base.tups b xs q
    rw [upd_ne (ne b _ q1)]; exact q1
  · have q1 := I.base.frzs b ob u q
    rw [upd_ne (ne b _ q1)]; exact q1
  · obtain ⟨m, q1⟩ := I.base.tbls b ps q
    exact ⟨m, by rw [upd_ne (ne b _ q1)]; exact q1⟩
  · rw [upd_ne (Ne.symm hL)]; exact I.free
  · rw [upd_ne (hc x c q)]; exact I.freeC x c q
  · obtain ⟨a1, a2, a3, a4, a5⟩ := I.pin p hq
    exact ⟨a1, by rw [upd_ne (hp p hq)]; exact a2, a3, a4, a5⟩
  · by_cases hb : b = e
    · subst hb; rw [upd_same] at q; cases q; exact new
    · rw [upd_ne hb] at q
      exact (I.hok b u q).stay (fun _ _ _ z => z) (fun c z => by rw [upd_ne (ne c _ z)]; exact z) fun c xs z => by rw [upd_ne (ne c _ z)]; exact z

/-- the name n is let go -/
theorem goes_ok {M : Model} {A : Around} {E : Value → Shared → Prop} {i : Nat} {n : Str} {pos : Pos} {Q : Unit → Shared → Prop} (I : Inv X pins σ H s) (hN : X.N.Nodup) (hi : X.N[i]? = some n) (hk : X.env.kindOf n = some .local)
    (h : ∀ s', Inv X pins (σ.set i none) H s' → Q () s') : wpAny M A (do bindName X.env n .none; unbindBehindTheSuite X.env n pos) Q E s := by
  obtain ⟨m, hn, hl⟩ := id I.loc
  have hcls : (X.env.scope.kind == .class || (X.env.scope.kind == .module && X.env.locals != X.env.globals)) = false := by rw [I.ok.kind]; rfl
  refine wpAny_nameGoes_keeps hk hn hcls fun h' v hn' hs => h _ ?_
  obtain ⟨oL, _, _, hoL, _⟩ := id hn
  have kb : ∀ b o, b ≠ X.env.locals → s.heap.get? b = some o → h'.get? b = some o := fun b o hb e => (hs.2 b hb).trans e
  have nL : ∀ b o, X.s₀.heap.get? b = some o → b ≠ X.env.locals := fun b o e => Nat.ne_of_lt (Nat.lt_of_lt_of_le (Heap.lt_size e) I.ok.above)
  refine ⟨I.ok, I.os, I.bare, ⟨fun b o e n hb hx => kb b o (nL b o e) (I.base.keep b o e n hb hx), fun b o e n hb hx => ?_, I.base.free, fun b o e hx => ?_, I.base.tups, I.base.frzs, I.base.tbls⟩, ⟨_, hn', fun j y v' e1 e2 e3 => ?_⟩, fun y c e => ?_, I.free, I.freeC, fun p hp => ?_,
    I.hok.track fun b u o q1 q2 => kb b o (fun z => by rw [z, I.free] at q1; cases q1) q2, by simpa using I.len⟩
  · obtain ⟨sl, e1⟩ := I.base.slot b o e n hb hx
    exact ⟨sl, kb b _ (nL b o e) e1⟩
  · obtain ⟨o', e1⟩ := I.base.there b o e hx
    exact ⟨o', kb b o' (nL b o e) e1⟩
  · by_cases hj : j = i
    · subst hj
      have hj' : j < σ.length := by rw [I.len]; exact (List.getElem?_eq_some_iff.mp e1).1
      rw [List.getElem?_set_self hj'] at e2
      cases e2
    · rw [List.getElem?_set_ne (Ne.symm hj)] at e2
      obtain ⟨u', r', q⟩ := hl j y v' e1 e2 e3
      refine ⟨u', r', ?_⟩
      rcases q with ⟨k, e⟩ | ⟨k, c, e, z⟩
      · refine .inl ⟨k, ?_⟩
        have : y ≠ n := fun e => hj (nodup_ix hN e1 (e ▸ hi))
        simp [this, e]
      · exact .inr ⟨k, c, e, z.sameBut hs (I.cne y c e)⟩
  · obtain ⟨w', z⟩ := I.cell y c e
    exact ⟨w', z.sameBut hs (I.cne y c e)⟩
  · obtain ⟨e, n', ne, nf, d⟩ := I.pin p hp
    exact ⟨kb _ _ ne e, n', ne, nf, d⟩
end

/-- a caught exception: its class, its dict -/
def exO (C : Value) (dd : Option Addr) (e : Addr) : HO := .ext fun h => ∃ oe vs, h.get? e = some oe ∧ oe.cls = C ∧ oe.dict = dd ∧ oe.data = .fields vs
theorem exO_ok {P : Program} {w : World} {H : Hp} {h : Heap} {e : Addr} {C t1 : Value} {dd : Option Addr} (x : ExAt h e C dd t1) : ObjOk P w H h e (exO C dd e) := by
  obtain ⟨oe, vs, he, hC, hdd, hd, _⟩ := x
  exact ⟨⟨oe, vs, he, hC, hdd, hd⟩, ⟨oe, he⟩, fun h1 h2 ⟨o, v, q, r⟩ k => ⟨o, v, k o q, r⟩⟩

def tTry (K : PySem.W.Frag) (Cv : Value) (i : Nat) (tb : (St → XK) → List (Addr × Obj) → (Value → Shared → Prop) → TS) (th : Addr → TS) : TS := fun D σ H => ∃ Ez : St → XK, (∀ pins W, tb Ez pins W D σ H) ∧
  ∀ σ1 C dd H1, Ez σ1 C dd H1 → PySem.W.exmOne K C Cv = some true ∧ ∀ e, H1 e = none →
    th e { nx := fun σ2 H2 => D.nx (σ2.set i none) H2, rt := D.rt, bk := fun σ2 H2 => D.bk (σ2.set i none) H2, ct := fun σ2 H2 => D.ct (σ2.set i none) H2 } (σ1.set i (some (.ref e))) (upd H1 e (exO C dd e))
section
variable {X : Cx}
theorem ps_try {body suite : List Stmt} {b₀ : Stmt} {tx n : Str} {i : Nat} {np hpos pos : Pos} {Cv : Value} {tb : (St → XK) → List (Addr × Obj) → (Value → Shared → Prop) → TS} {th : Addr → TS}
    (hst : X.stack = X.env :: X.outer) (hfr : X.env.frame = some X.env.locals) (hex : X.ex = []) (hN : X.N.Nodup) (hi : X.N[i]? = some n) (hk : X.env.kindOf n = some .local) (hg : Gl X tx) (hm : X.mg tx = some Cv)
    (hb : ∀ Ez pins W, PassesS (CXx X.prog X.w) (X.tr pins W) Ez → PSs (X.tr pins W) body (tb Ez pins W)) (hs : ∀ e, PSs (X.sui e) (b₀ :: suite) (th e)) (hdb : (tx == ("__debug__" : Str)) = false := by decide) :
    PS X (.Try body [.ExceptHandler (some (.Name tx np)) (some n) (b₀ :: suite) hpos] [] [] pos) (tTry X.K Cv i tb th) := by
  unfold PS at *; unfold PSs at *
  exact by
    intro pins s σ H D I h
    obtain ⟨Ez, hb1, hh⟩ := h
    let W : Value → Shared → Prop := fun u s' => ∃ σ1 H1 s1, Inv X pins σ1 H1 s1 ∧ CXx X.prog X.w X.stack H1 s1 (Ez σ1) u s'
    have hp : PassesS (CXx X.prog X.w) (X.tr pins W) Ez := fun pins' σ1 H1 s1 u s' I1 hx => ⟨σ1, H1, s1, I1.untr, hx⟩
    refine wpAny_Try_except (wpAny_mono ((hb Ez pins W hp) [] s σ H D I.tr (hb1 pins W)) (fun f s1 q => ?_) (fun u s' q => ?_))
    · have q' := q.untr
      cases f with
      | next => exact wpAny_execs_nil q'
      | brk => exact q'
      | cont => exact q'
      | ret v => exact q'
    · obtain ⟨σ1, H1, s1, I1, e, C, dd, T, H', rfl, os, bare, un, hok, x1, x2, x3, f1, f2, n1, n2, hE⟩ := q
      have hfun : s'.heap.FunFrames X.base (X.env :: X.outer) := by
        rw [← hst]
        exact funFrames_un I1.stack fun b o hb q => un.slot b o q (I1.stkFree b hb) hb (by simp)
      refine leave_fly (T0 := some T) (L := X.env.locals) (by rw [← hst]; exact I1.ok.frames) hfun hfr x1 (fun T' z => by cases z; exact ⟨x2, x3⟩) fun h' T2 y1 y2 y3 y4 mv => ?_
      rw [← hst] at mv
      have ntr : ∀ b u, H' b = some u → b ∉ frs X.stack := fun b u q hb => by
        obtain ⟨_, o, ho, _⟩ := I1.stack.mem hb
        have := un.free b o ho (I1.stkFree b hb) (by simp)
        rw [q] at this; cases this
      have hU : Un (frs X.stack) [] H1 H' s1.heap h' := un_moved (l := X.stack) un mv (fun _ z => z) (fun _ _ _ z => z) n1 fun T' z => by cases z; exact n2
      have hO : HOk X.prog X.w H' h' := hok.track fun b u o q1 q2 => mv.keep b o (fun z => by rw [z, f1] at q1; cases q1) (fun z => by cases z; rw [f2] at q1; cases q1) (ntr b u q1) q2
      have I2 : Inv X pins σ1 H' { s' with heap := h' } := I1.call' (s' := { s' with heap := h' }) (ch := []) os hU hO bare fun _ z => absurd z (by simp)
      -- the exception becomes an object of ours
      have he0 : X.s₀.heap.get? e = none := by
        cases q : X.s₀.heap.get? e with
        | none => rfl
        | some o =>
          obtain ⟨o1, q1⟩ := I1.base.there e o q (by rw [hex]; simp)
          rw [n1] at q1; cases q1
      have live : ∀ b o, s1.heap.get? b = some o → b ≠ e := fun b o q z => by rw [z, n1] at q; cases q
      have heL : e ≠ X.env.locals := by
        obtain ⟨m, ⟨o, _, _, ho, _⟩, _⟩ := I1.loc
        exact Ne.symm (live _ _ ho)
      have heC : ∀ x c, X.env.cells.lookup x = some c → c ≠ e := fun x c q => by
        obtain ⟨v, o, ho, _⟩ := I1.cell x c q
        exact live _ _ ho
      have heP : ∀ p ∈ X.pn ++ pins, p.1 ≠ e := fun p hp => live _ _ (I1.pin p hp).1
      have I3 : Inv X pins σ1 (upd H' e (exO C dd e)) { s' with heap := h' } := I2.adopt f1 he0 heL heC heP (exO_ok y1)
      -- the trace's record is nobody's
      have szT : ∀ b o, s'.heap.get? b = some o → b ≠ T2 := fun b o q => Nat.ne_of_lt (Nat.lt_of_lt_of_le (Heap.lt_size q) y3)
      have liveT : ∀ b o, s1.heap.get? b = some o → b ≠ T2 := fun b o q => by
        obtain ⟨o', q'⟩ := un.there b o q (by simp)
        exact szT b o' q'
      have hTL : T2 ≠ X.env.locals := by
        obtain ⟨m, ⟨o, _, _, ho, _⟩, _⟩ := I1.loc
        exact Ne.symm (liveT _ _ ho)
      have hT0 : X.s₀.heap.objs.size ≤ T2 := by
        obtain ⟨m, ⟨o, _, _, ho, _⟩, _⟩ := I1.loc
        obtain ⟨o', q'⟩ := un.there _ o ho (by simp)
        exact Nat.le_trans I1.ok.above (Nat.le_trans (Nat.le_of_lt (Heap.lt_size q')) y3)
      have hTC : ∀ x c, X.env.cells.lookup x = some c → c ≠ T2 := fun x c q => by
        obtain ⟨v, o, ho, _⟩ := I1.cell x c q
        exact liveT _ _ ho
      have hTP : ∀ p ∈ X.pn ++ pins, p.1 ≠ T2 := fun p hp => liveT _ _ (I1.pin p hp).1
      have hTn : upd H' e (exO C dd e) T2 = none := by
        rw [upd_ne y4]
        cases q : H' T2 with
        | none => rfl
        | some u => obtain ⟨ob, hob⟩ := (hok T2 u q).there; exact absurd rfl (szT T2 ob hob)
      obtain ⟨hmt, hsu⟩ := hh σ1 C dd H' hE
      obtain ⟨oe, vs, hoe, hcls, _⟩ := id y1
      have LT : PySem.W.Looks (model X.prog X.w) h' (typeOf (.ref e)) C := by
        subst hcls
        exact (PySem.W.Looks.ld hoe).andThen .now
      have ok : X.Ok := I.ok
      refine wpAny_handleBy_cons (codeAny_handlers_test (ld_glob (X := X.sui e) (I3.sui e) hg hm ?_ hdb)) (by intro q; cases q)
      refine PySem.W.Looks.here (PySem.W.exm_one I3.kIn LT hmt) ?_
      show codeAny _ _ (.handlers (.ref e) [.ExceptHandler none (some n) (b₀ :: suite) hpos] X.env) _ _
      refine codeAny_handlers_suite_as ?_
      refine rest_fly y1 y2 y4 fun h2 z1 z2 k1 k2 => ?_
      have I4 : Inv X pins σ1 (upd H' e (exO C dd e)) { s' with heap := h2 } := I3.turned (t' := s'.toks) (fun b o hb q => k1 b o hb q) hTn hTL (.inr hT0) hTC hTP
      refine store_ok (X := X.sui e) (v := .ref e) (I4.sui e) hN hi (.inl hk) rfl (fun s5 I5 => ?_) (.inr hk)
      refine wpAny_mono ((hs e) pins s5 _ _ _ I5 (hsu e f1)) (fun f s6 q => ?_) fun _ _ z => z.elim
      show wpAny _ _ (do bindName X.env n .none; unbindBehindTheSuite X.env n hpos) _ _ s6
      cases f with
      | next => obtain ⟨σ6, H6, I6, q6⟩ := q; exact goes_ok (I6.unsui ok) hN hi hk fun s7 I7 => ⟨_, _, I7, q6⟩
      | brk => obtain ⟨σ6, H6, I6, q6⟩ := q; exact goes_ok (I6.unsui ok) hN hi hk fun s7 I7 => ⟨_, _, I7, q6⟩
      | cont => obtain ⟨σ6, H6, I6, q6⟩ := q; exact goes_ok (I6.unsui ok) hN hi hk fun s7 I7 => ⟨_, _, I7, q6⟩
      | ret v => obtain ⟨x6, σ6, H6, I6, r6, q6⟩ := q; exact goes_ok (I6.unsui ok) hN hi hk fun s7 I7 => ⟨_, _, _, I7, r6, q6⟩

end
end L2

namespace L2
open PySem PySem.Spec PyProof.Rows PySem.W

/-! ### isinstance of a caught exception -/
section
variable {prog : Program} {w : World} {A : Around} {E : Value → Shared → Prop} {s : Shared} {K : Frag} {e C : Addr} {oe : Obj}
theorem findX {a g : Value} {name : Str} (hc : (clsIn K C).isSome = true) (ha : findIn K (.ref C) name = some (some a)) (hg : specialIn K a "__get__" = some (some g)) (ht : takesIn K a = some true) : findObj K C none name = some (.bind g a) := by
  obtain ⟨cd, hc⟩ := Option.isSome_iff_exists.mp hc
  unfold findObj
  rw [hc, Option.bind_some, ha, Option.bind_some]
  simp [hg, ht]
/-- what of the text an own error class must have to be asked -/
structure XAsk (K : Frag) (C : Addr) : Prop where
  cs : (clsIn K C).isSome = true
  ga : findIn K (.ref C) "__getattribute__" = some (some (.builtin "BaseException.__getattribute__"))
  gt : findIn K (.ref C) "__getattr__" = some none
  ca : findIn K (.ref C) "__class__" = some (some (.builtin "object.__class__"))
  gg : specialIn K (.builtin "object.__class__") "__get__" = some (some (.builtin "getset_descriptor.__get__"))
  tk : takesIn K (.builtin "object.__class__") = some true
  mo : mroIn K C (.type "object") = some true
  sb : subIn K (.ref C) (.type "BaseException") = some true
theorem xcheck {nameV : Value} {Q : Unit → Shared → Prop} (U : XAsk K C) (X : K.In s.heap) (I : InstAt s.heap e oe C none) (hq : Q () s) :
    wpAny (model prog w) A (checkBuiltinCall "BaseException.__getattribute__" ⟨[.ref e, nameV], []⟩) Q E s := by
  have hk : builtinKind "BaseException.__getattribute__" = some .slot := by decide +kernel
  have hsplit : splitId "BaseException.__getattribute__" = some ("BaseException", "__getattribute__") := by decide +kernel
  have L0 := I.type (M := model prog w)
  have L1 := looks_subIn (M := model prog w) X U.sb
  have LI : Looks (model prog w) s.heap (isInstance (.ref e) (.type "BaseException")) true := L0.andThen L1
  have ha := F.args_bexc_ga (.ref e) nameV
  simp only [checkBuiltinCall, hk, hsplit]
  refine wpAny_bind (LI.at ?_)
  rw [if_neg (by decide)]
  exact wpAny_of_eq ha hq
theorem xentry {tk : Tok} {Q : Fin → Shared → Prop} (U : XAsk K C) (X : K.In s.heap) (I : InstAt s.heap e oe C none) (hq : Q (.done (.ret (.ref C))) s) :
    wpAny (model prog w) A (Builtin.«object.__getattribute__» ⟨[.ref e, .str "__class__" tk], []⟩) Q E s := by
  obtain ⟨hh, g, d, t, os⟩ := s
  have L0 := I.type (M := model prog w)
  have L3 := looks_find (M := model prog w) X I (findX U.cs U.ca U.gg U.tk)
  unfold Builtin.«object.__getattribute__»
  refine wpAny_bind (wpAny_of_eq (show slotArgs "__getattribute__" 1 ⟨[.ref e, .str "__class__" tk], []⟩ = pure (.ref e, [.str "__class__" tk]) from rfl) ?_)
  refine wpAny_bind (wpAny_of_eq (show Builtin.ObjectAttr.attrName (.str "__class__" tk) = pure ("__class__" : Str) from rfl) ?_)
  refine wpAny_bind (L0.at (wpAny_bind (L3.at ?_)))
  show wpAny _ _ (Builtin.ObjectAttr.bindTo (.builtin "getset_descriptor.__get__") (.builtin "object.__class__") (.ref e) (.ref C)) _ _ _
  show wpAny _ _ (holding [.builtin "object.__class__"] (call (.builtin "getset_descriptor.__get__") [.builtin "object.__class__", .ref e, .ref C]) >>= ret) _ _ _
  exact wpAny_bind (wpAny_holding (wpAny_call (class_get X I U.mo (wpAny_pure hq))))
theorem xclass {Q : Option Value → Shared → Prop} (U : XAsk K C) (X : K.In s.heap) (I : InstAt s.heap e oe C none) (h : Q (some (.ref C)) { s with toks := s.toks + 1 }) : wpAny (model prog w) A (getAttr? (.ref e) "__class__") Q E s := by
  obtain ⟨hh, g, d, t, os⟩ := s
  have L0 := I.type (M := model prog w)
  have L1 := looks_findIn (M := model prog w) X U.ga
  have L2 := looks_findIn (M := model prog w) X U.gt
  have L3 := looks_find (M := model prog w) X I (findX U.cs U.ca U.gg U.tk)
  unfold getAttr? getAttrBy? getAttrBy
  refine wpAny_bind (wpAny_mkText (wpAny_bind (wpAny_attempt (wpAny_holding (wpAny_bind (L0.at (wpAny_bind (L1.at ?_))))))))
  show wpAny _ _ (getAttrByItsOwn (.ref e) _ (.ref C) (.builtin "BaseException.__getattribute__") false false) _ _ _
  unfold getAttrByItsOwn
  refine wpAny_bind ?_
  show wpAny _ _ (typeLookup (.ref C) "__getattr__") _ _ _
  refine L2.at ?_
  refine wpAny_bind (wpAny_attempt (wpAny_holding ?_))
  show wpAny _ _ (boundAndCalled (.builtin "BaseException.__getattribute__") (.ref e) _) _ _ _
  unfold boundAndCalled
  refine wpAny_bind (wpAny_of_eq (F.attr_ValueError.ga.bind (.ref e)) ?_)
  refine wpAny_call (codeAny_call_builtin F.attr_ValueError.ga.plain F.entry_bexc_ga (xcheck U X I (xentry U X I ?_)))
  exact wpAny_pure (wpAny_pure h)
theorem kitx_exc (U : XAsk K C) : KitX K (.ref e) (.ref C) (fun h => ∃ oe, InstAt h e oe C none) where
  ty := fun M h _ ⟨_, I⟩ => I.type
  it := fun _ _ X _ => by
    obtain ⟨cd, hc⟩ := Option.isSome_iff_exists.mp U.cs
    unfold clsIn at hc
    split at hc
    · rename_i c' d' cd' sl' ho
      intro A' Q' E' s' k q
      unfold isType loadHead
      exact wpAny_bind (wpAny_loadPart (k _ _ (X _ _ ho)) (wpAny_pure q))
    · cases hc
  ne := fun h tp dd its n sl X htp => by
    obtain ⟨cd, hc⟩ := Option.isSome_iff_exists.mp U.cs
    refine Bool.eq_false_iff.mpr fun q => ?_
    have z : C = tp := Value.ref.inj (beq_iff_eq.mp q)
    subst z
    unfold clsIn at hc
    split at hc
    · rename_i c' d' cd' sl' ho
      have z := (X _ _ ho).symm.trans htp
      cases z
    · cases hc
  ca := fun X ⟨_, I⟩ k => xclass U X I k
end
theorem exO_inst {P : Program} {w : World} {H : Hp} {h : Heap} {e C : Addr} (ok : HOk P w H h) (q : H e = some (exO (.ref C) none e)) : ∃ oe, InstAt h e oe C none := by
  obtain ⟨⟨oe, vs, he, hC, hdd, hd⟩, _⟩ := ok e _ q
  refine ⟨oe, he, hC, ?_, ?_⟩
  · obtain ⟨a, b, c, d⟩ := oe
    have hd' : c = .fields vs := hd
    subst hd'
    rfl
  · rw [hdd]
    trivial
section
variable {X : Cx}
def rIsiX (K : Frag) : List V → Hp → VK → Prop := fun xs H Q => ∃ e c cv C b, xs = [.ref e, c] ∧ ClsV c cv ∧ H e = some (exO (.ref C) none e) ∧ XAsk K C ∧ kitOne K (.ref C) cv = some b ∧ Q (.bl b) H
theorem call_isiX : CallR X (.builtin "isinstance") (rIsiX X.K) := by
  unfold CallR at *
  exact by
    intro pins s σ H xs us Q I rv h
    obtain ⟨e, c, cv, C, b, rfl, hc, he, U, k, q⟩ := h
    obtain ⟨u, cu, rfl, ru, rc⟩ := rv.two
    have ec : cu = cv := by cases hc <;> exact rc
    subst ec
    cases (show u = Value.ref e from ru)
    exact kia_one (kitx_exc U) I.kIn (exO_inst I.hok he) k (fun z => nomatch z) fun tk => ⟨.bl b, H, I.tok tk, rfl, q⟩

def rIsiA (K : Frag) : List V → Hp → VK → Prop := fun xs H Q => rIsi K xs H Q ∨ rIsiX K xs H Q
theorem call_isiA : CallR X (.builtin "isinstance") (rIsiA X.K) := by
  first
  | exact (call_isi.or call_isiX)
  | (unfold CallR at *; exact (call_isi.or call_isiX))

end
end L2

namespace L2
open PySem PySem.Spec PyProof.Rows

/-! ### names of Python's own; small facts -/
theorem bt_len : bootBuiltins "len" = some (.builtin "len") := by decide +kernel
theorem bt_isinstance : bootBuiltins "isinstance" = some (.builtin "isinstance") := by decide +kernel
theorem bt_int : bootBuiltins "int" = some (.type "int") := by decide +kernel
theorem bt_bool : bootBuiltins "bool" = some (.type "bool") := by decide +kernel
theorem bt_str : bootBuiltins "str" = some (.type "str") := by decide +kernel
theorem bt_list : bootBuiltins "list" = some (.type "list") := by decide +kernel
theorem bt_tuple : bootBuiltins "tuple" = some (.type "tuple") := by decide +kernel
theorem bt_dict : bootBuiltins "dict" = some (.type "dict") := by decide +kernel
theorem bt_ValueError : bootBuiltins "ValueError" = some (.type "ValueError") := by decide +kernel
theorem bt_all : bootBuiltins "all" = some (.builtin "all") := by decide +kernel
theorem bt_any : bootBuiltins "any" = some (.builtin "any") := by decide +kernel
theorem bt_min : bootBuiltins "min" = some (.builtin "min") := by decide +kernel
theorem bt_max : bootBuiltins "max" = some (.builtin "max") := by decide +kernel
theorem rel_int {n : Int} {t : Tok} : RelV (.int n) (.int n t) := ⟨_, rfl⟩
theorem rel_str {n : Str} {t : Tok} : RelV (.str n) (.str n t) := ⟨_, rfl⟩
theorem Same.new {H : Hp} {p : Addr} {o : HO} (h : H p = none) : Same H (upd H p o) := fun b u q => by
  rw [upd_ne (ne_of_none q h)]
  exact q
theorem Same.newer {H H' : Hp} {p : Addr} {o : HO} (e : Same H H') (h : H' p = none) : Same H (upd H' p o) := e.trans (Same.new h)
theorem Same.seqT {K : PySem.W.Frag} {H H' : Hp} {a : Addr} {xs : List V} (e : Same H H') (h : SqT K H a xs) : SqT K H' a xs := by
  rcases h with (h | ⟨o, h⟩) | h
  · exact .inl (.inl (e _ _ h))
  · exact .inl (.inr ⟨o, e _ _ h⟩)
  · exact .inr h
theorem atI_in {α : Type} {xs : List α} {i : Int} (h0 : 0 ≤ i) (h1 : i < xs.length) : ∃ v, atI xs i = some v ∧ v ∈ xs := by
  have e : ((i.toNat : Nat) : Int) = i := Int.toNat_of_nonneg h0
  have hl : i.toNat < xs.length := by omega
  refine ⟨xs[i.toNat], ?_, List.getElem_mem hl⟩
  have q := atI_nat (xs := xs) (List.getElem?_eq_getElem hl)
  rw [e] at q
  exact q
theorem atI_toNat {α : Type} {xs : List α} {i : Int} {v : α} (h0 : 0 ≤ i) (h : xs[i.toNat]? = some v) : atI xs i = some v := by
  have q := atI_nat (xs := xs) h
  rw [Int.toNat_of_nonneg h0] at q
  exact q
theorem TyOf.same {K : PySem.W.Frag} {H H' : Hp} {x : V} {t : Value} (e : Same H H') (h : TyOf K H x t) : TyOf K H' x t := by
  cases h with
  | non => exact .non
  | bl b => exact .bl b
  | int i => exact .int i
  | str x => exact .str x
  | flt x => exact .flt x
  | lst q => exact .lst (e _ _ q)
  | frz q => exact .frz (e _ _ q)
  | tup q => exact .tup (e _ _ q)
  | dK q => exact .dK (e _ _ q)
  | dT q => exact .dT (e _ _ q)
  | ins q a b c d f => exact .ins (e _ _ q) a b c d f
/-- a thing of one of Python's own kinds -/
def Own (K : PySem.W.Frag) (H : Hp) (x : V) : Prop := ∃ n, TyOf K H x (.type n)
theorem Own.same {K : PySem.W.Frag} {H H' : Hp} {x : V} (e : Same H H') (h : Own K H x) : Own K H' x := let ⟨n, t⟩ := h; ⟨n, t.same e⟩
theorem Own.non {K : PySem.W.Frag} {H : Hp} : Own K H .non := ⟨_, .non⟩
theorem Own.bl {K : PySem.W.Frag} {H : Hp} {b : Bool} : Own K H (.bl b) := ⟨_, .bl b⟩
theorem Own.int {K : PySem.W.Frag} {H : Hp} {i : Int} : Own K H (.int i) := ⟨_, .int i⟩
theorem Own.str {K : PySem.W.Frag} {H : Hp} {x : Str} : Own K H (.str x) := ⟨_, .str x⟩
theorem Own.lst {K : PySem.W.Frag} {H : Hp} {a : Addr} {xs : List V} (h : H a = some (.lst xs)) : Own K H (.ref a) := ⟨_, .lst h⟩
theorem Own.tup {K : PySem.W.Frag} {H : Hp} {a : Addr} {xs : List V} (h : H a = some (.tup xs)) : Own K H (.ref a) := ⟨_, .tup h⟩
theorem Own.dK {K : PySem.W.Frag} {H : Hp} {a : Addr} {xs : List (Key × V)} (h : H a = some (.dK xs)) : Own K H (.ref a) := ⟨_, .dK h⟩
/-- isinstance(x, int), (x, bool), (x, str) .. of such things -/
def isInt : V → Bool
  | .int _ => true
  | .bl _ => true
  | _ => false
def isBool : V → Bool
  | .bl _ => true
  | _ => false
def isStr : V → Bool
  | .str _ => true
  | _ => false
theorem kit_int {K : PySem.W.Frag} {H : Hp} {x : V} {n : String} (ty : TyOf K H x (.type n)) : PySem.W.kitOne K (.type n) (.type "int") = some (isInt x) := by
  cases ty <;> rfl
theorem kit_bool {K : PySem.W.Frag} {H : Hp} {x : V} {n : String} (ty : TyOf K H x (.type n)) : PySem.W.kitOne K (.type n) (.type "bool") = some (isBool x) := by
  cases ty <;> rfl
theorem kit_str {K : PySem.W.Frag} {H : Hp} {x : V} {n : String} (ty : TyOf K H x (.type n)) : PySem.W.kitOne K (.type n) (.type "str") = some (isStr x) := by
  cases ty <;> rfl
theorem rIsiA.own {K : PySem.W.Frag} {H : Hp} {x : V} {c : String} {Q : VK} {b : Bool} (h : Own K H x) (k : ∀ n, TyOf K H x (.type n) → PySem.W.kitOne K (.type n) (.type c) = some b) (q : Q (.bl b) H) : rIsiA K [x, .ty c] H Q := by
  obtain ⟨n, t⟩ := h
  exact .inl ⟨x, .ty c, _, _, _, rfl, .ty c, t, k n t, q⟩
theorem rIsiA.int {K : PySem.W.Frag} {H : Hp} {x : V} {Q : VK} (h : Own K H x) (q : Q (.bl (isInt x)) H) : rIsiA K [x, .ty "int"] H Q := rIsiA.own h (fun _ => kit_int) q
theorem rIsiA.bool {K : PySem.W.Frag} {H : Hp} {x : V} {Q : VK} (h : Own K H x) (q : Q (.bl (isBool x)) H) : rIsiA K [x, .ty "bool"] H Q := rIsiA.own h (fun _ => kit_bool) q
theorem rIsiA.str {K : PySem.W.Frag} {H : Hp} {x : V} {Q : VK} (h : Own K H x) (q : Q (.bl (isStr x)) H) : rIsiA K [x, .ty "str"] H Q := rIsiA.own h (fun _ => kit_str) q
theorem iteB {b : Bool} {A B : Prop} (h1 : b = true → A) (h2 : b = false → B) : if b = true then A else B := by
  cases b
  · exact iteF (h2 rfl)
  · exact iteT (h1 rfl)
theorem le_ble {a b : Nat} (h : Nat.ble a b = true) : a ≤ b := Nat.le_of_ble_eq_true h
end L2

namespace L2
open PySem PySem.Spec PyProof.Rows

/-! ### more iterators: a text's signs, enumerate of a list; comprehensions without a word on monotony; all, any -/
section
variable {X : Cx} {pins : List (Addr × Obj)} {σ : St} {H H' : Hp} {s : Shared} {h' : Heap}
/-- untracked records of ours have turned -/
theorem Inv.turns {t' : Nat} {wr : List Addr} (I : Inv X pins σ H s) (k : ∀ b o, b ∉ wr → s.heap.get? b = some o → h'.get? b = some o) (hw : ∀ b ∈ wr, FpOk X pins H b) : Inv X pins σ H { s with heap := h', toks := t' } := by
  have nit : ∀ b u, H b = some u → b ∉ wr := fun b u e z => by rw [(hw b z).1] at e; cases e
  refine I.step (g' := s.gens) (d' := s.drawn) (ch := wr) (fun b hb => ?_) (fun b o _ _ hc e _ => k b o hc e) (fun b o _ _ hc e _ => ⟨o.slots, k b o hc e⟩) (fun _ _ _ _ n => n)
    (fun b o hc e => ⟨o, k b o hc e⟩) (fun _ _ e => e) (fun _ _ _ e => e) (fun b ps e => ⟨#[], by rw [e]; simp⟩) (fun m hm => ?_) (fun b u e => ?_) I.bare
  · obtain ⟨_, f1, _, f3, f4, f5⟩ := hw b hb
    exact ⟨f3, f1, f4, f5⟩
  · obtain ⟨o, es, ep, ho, r⟩ := hm
    exact ⟨o, es, ep, k _ o (fun z => (hw _ z).2.1 rfl) ho, r⟩
  · refine (I.hok b u e).stay (fun c v hc q => k c v ?_ q) (fun _ q => q) fun _ _ q => q
    rcases hc with z | z
    · rw [z]; exact nit b u e
    · exact nit c _ z
end

/-- the signs of a text -/
def Its (x : Str) : It := ⟨fun i _ => i < x.cps.size, fun i H v H' => H' = H ∧ ∃ c, x.cps[i]? = some c ∧ v = .str ⟨#[c]⟩, fun i _ => i = x.cps.size⟩
theorem turn_str {P : Program} {w : World} {K : PySem.W.Frag} {tg : Expr} (x : Str) (t : Tok) (it : Addr) (kind : String) (hk : kind = "str_ascii_iterator" ∨ kind = "str_iterator") :
    Turn P w K tg (Its x) [it] it (fun i h => h.IsStrIter it kind x t i) where
  mem := by simp
  obj := fun i h st b hb => by
    have e : b = it := by simpa using hb
    subst e
    obtain ⟨o, e, c, d⟩ := st
    exact ⟨o, e, fun v z => by rw [d] at z; cases z⟩
  keep := fun i h h' st k => by
    obtain ⟨o, e, r⟩ := st
    exact ⟨o, k it (by simp) o e, r⟩
  item := by
    intro X hP hw hK hc i pins s σ H E I hf st hg
    subst hP hw hK
    have W : Walks X.prog X.w X.A it [it] [it] x.cps.size (SignAt x) (fun i h => h.IsStrIter it kind x t i) := by
      rcases hk with rfl | rfl
      · exact Walks.strAscii (I.ok.hd hc) it x t
      · exact Walks.strWide (I.ok.hd hc) it x t
    refine W.item i s _ _ hg st fun v h' tk hv st' hk' => ?_
    obtain ⟨c, u, hc', rfl⟩ := hv
    have I1 : Inv X pins σ H { s with heap := h', toks := tk } := I.turns (t' := tk) hk' hf
    obtain ⟨o, e, hcl, d⟩ := id st'
    refine ⟨_, rfl, go_of (s := { s with heap := h', toks := tk }) e hcl d ?_ ⟨.str ⟨#[c]⟩, H, I1, ⟨u, rfl⟩, ⟨rfl, c, hc', rfl⟩, st', fun b hb => (hf b hb).1⟩⟩
    rcases hk with rfl | rfl <;> decide
  done := by
    intro X hP hw hK hc i pins s σ H E I hf st hg
    subst hP hw hK
    have W : Walks X.prog X.w X.A it [it] [it] x.cps.size (SignAt x) (fun i h => h.IsStrIter it kind x t i) := by
      rcases hk with rfl | rfl
      · exact Walks.strAscii (I.ok.hd hc) it x t
      · exact Walks.strWide (I.ok.hd hc) it x t
    have e : i = x.cps.size := hg
    subst e
    exact W.done s _ _ st fun h' tk hk' => ⟨rfl, I.turns (t' := tk) hk' hf⟩
  self := fun A i s Q E st h => by
    rcases hk with rfl | rfl
    · exact wpAny_pyIter_striter_ascii st h
    · exact wpAny_pyIter_striter_wide st h
def iStr (tl : TE) : TI := fun σ H R => tl σ H fun x H1 => ∃ z, x = .str z ∧ R (Its z) H1
theorem pi_str {X : Cx} {tg l : Expr} {tl : TE} (hl : PE X l tl) : PI X tg l (iStr tl) := by
  unfold PE at *; unfold PI at *
  exact by
    intro pins s σ H R I h
    refine thn (hl pins s σ H _ I h) fun v s1 ⟨x, H1, I1, r1, q1⟩ => ?_
    obtain ⟨z, rfl, q⟩ := q1
    obtain ⟨t, rfl⟩ := r1
    refine wpAny_pyIter_strU ?_
    refine ⟨s1.heap.objs.size, [s1.heap.objs.size], _, _, H1, rfl, I1.kept (t' := s1.toks) fun b o e => Heap.get?_push_of_some _ e, turn_str z t _ (strIterType z) (by unfold strIterType; split <;> simp), ⟨_, Heap.get?_push_size _ rfl, rfl, rfl⟩, fun b hb => ?_, q⟩
    have e : b = s1.heap.objs.size := by simpa using hb
    subst e
    exact I1.fpOk (Nat.le_refl _) (I1.hok.fresh (Nat.le_refl _))

/-- enumerate of the list at a -/
def Ite (K : PySem.W.Frag) (a : Addr) : It :=
  ⟨fun i H => ∃ xs x, SqL K H a xs ∧ xs[i]? = some x, fun i H v H' => ∃ T x, v = .ref T ∧ H T = none ∧ H' = upd H T (.tup [.int i, x]) ∧ ∀ xs, SqL K H a xs → xs[i]? = some x, fun i H => ∃ xs, SqL K H a xs ∧ xs.length = i⟩
theorem turn_enum {P : Program} {w : World} {K : PySem.W.Frag} {es : List Expr} {k : Nat} {pos : Pos} (a e it : Addr) (hei : e ≠ it) :
    Turn P w K (.Tuple es k pos) (Ite K a) [e, it] e (fun i h => (∃ old, IsEnum h e it i old) ∧ h.IsListIter it a i) where
  mem := by simp
  obj := fun i h st b hb => by
    obtain ⟨⟨old, he⟩, o, ho, hc, hd⟩ := st
    rcases List.mem_cons.mp hb with rfl | hb
    · exact ⟨_, he, fun v z => by cases z⟩
    · have e : b = it := by simpa using hb
      subst e
      exact ⟨o, ho, fun v z => by rw [hd] at z; cases z⟩
  keep := fun i h h' st k => by
    obtain ⟨⟨old, he⟩, hi⟩ := st
    exact ⟨⟨old, k e (by simp) _ he⟩, hi.at fun o x => k it (by simp) o x⟩
  item := by
    intro X hP hw hK hc i pins s σ H E I hf st hg
    subst hP hw hK
    obtain ⟨xs, x, hq, hx⟩ := hg
    obtain ⟨its, rv, p, hz⟩ := I.list hq
    obtain ⟨u, hu, ru⟩ := rv.get hx
    obtain ⟨he, hi⟩ := st
    have hlt : i < its.toArray.size := by
      obtain ⟨hl, _⟩ := List.getElem?_eq_some_iff.mp hu
      simpa using hl
    have na : ∀ b ∈ [e, it], a ≠ b := fun b hb z => by
      obtain ⟨o, ho, _⟩ := id p.isList
      subst z
      rcases List.mem_cons.mp hb with rfl | hb
      · obtain ⟨old, he⟩ := he
        have l1 := p.isList
        obtain ⟨o, ho, hc, n, hd⟩ := l1
        rw [he] at ho; cases ho; exact absurd (show Value.type "enumerate" = Value.type "list" from hc) (by decide)
      · have e' : a = it := by simpa using hb
        subst e'
        obtain ⟨o, ho, hc, n, hd⟩ := p.isList
        obtain ⟨o', ho', hc', hd'⟩ := hi
        rw [ho] at ho'; cases ho'
        rw [hc] at hc'; exact absurd hc' (by decide)
    have W := WalksT.enumerate (prog := X.prog) (w := X.w) (I.ok.hd hc) e it a hei (na e (by simp)) (na it (by simp)) its.toArray
    refine W.item i s _ _ hlt ⟨he, hi, p.isList⟩ fun T vals h1 tk hp hT hIs hm hk => ?_
    obtain ⟨t, y, hy, rfl⟩ := hp
    have ey : y = u := by
      have : its.toArray[i]? = some u := by simpa using hu
      rw [this] at hy
      exact (Option.some.inj hy).symm
    subst ey
    refine ⟨_, rfl, W.go es k pos i T _ _ _ hm fun h2 st2 hk2 => ?_⟩
    have hTn : H T = none := I.hok.fresh hT
    have hap := W.apart i T h1 hm
    have I1 : Inv X pins σ H { s with heap := h2, toks := tk } := I.turns (t' := tk) (fun b o hb e => hk2 b o hb (hk b o hb e)) hf
    have hT2 : h2.IsTuple T #[.int i t, y] := by
      obtain ⟨o, ho, r⟩ := hIs
      exact ⟨o, hk2 T o hap ho, r⟩
    have fT : ∀ b ∈ [e, it], upd H T (.tup [.int i, x]) b = none := fun b hb => by
      rw [upd_ne (fun z => hap (by rw [← z]; exact hb))]
      exact (hf b hb).1
    have hs0 : X.s₀.heap.objs.size ≤ T := Nat.le_trans I.sz hT
    have I2 : Inv X pins σ (upd H T (.tup [.int i, x])) { s with heap := h2, toks := tk } := by
      refine I1.adopt hTn (Heap.get?_none_of_le hs0) (Nat.ne_of_gt (Nat.lt_of_lt_of_le I.lt hT)) (fun z c e q => ?_) (fun p hp q => ?_) ⟨le_ble rfl, [.int i t, y], .cons ⟨t, rfl⟩ (.cons ru .nil), hT2⟩
      · obtain ⟨v, q1⟩ := I.cell z c e
        exact absurd (Nat.lt_of_lt_of_le q1.lt (by rw [q]; exact hT)) (Nat.lt_irrefl _)
      · exact absurd (Nat.lt_of_lt_of_le (Heap.lt_size (I.pin p hp).1) (by rw [q]; exact hT)) (Nat.lt_irrefl _)
    exact ⟨.ref T, _, I2, rfl, ⟨T, x, rfl, hTn, rfl, fun ys hy => by rw [I.list_inj hy hq]; exact hx⟩, ⟨st2.1, st2.2.1⟩, fT⟩
  done := by
    intro X hP hw hK hc i pins s σ H E I hf st hg
    subst hP hw hK
    obtain ⟨xs, hq, hx⟩ := hg
    obtain ⟨its, rv, p, hz⟩ := I.list hq
    obtain ⟨⟨old, he⟩, hi⟩ := st
    have D := Draws.list (prog := X.prog) (w := X.w) (A := X.A.in1) (I.ok.hd hc) it a (fun z => by
      subst z
      obtain ⟨o, ho, hc, n, hd⟩ := p.isList
      obtain ⟨o', ho', hc', hd'⟩ := hi
      rw [ho] at ho'; cases ho'
      rw [hc] at hc'; exact absurd hc' (by decide)) its.toArray
    have en : its.toArray.size = i := by rw [List.size_toArray, ← rv.length]; exact hx
    refine wpAny_pyNext_enum_endD D he (by rw [en]; exact ⟨hi, p.isList⟩) fun h' hx' => ⟨rfl, ?_⟩
    exact I.turns (t' := s.toks) (wr := [e, it]) (fun b o hb q => hx' b o (fun z => hb (by simp [z])) q) hf
  self := fun A i s Q E st h => by
    obtain ⟨⟨old, he⟩, _⟩ := st
    exact wpAny_pyIter_enum he h
theorem bt_enumerate : bootBuiltins "enumerate" = some (.type "enumerate") := by decide +kernel
def iEnum (K : PySem.W.Frag) (ta : TA) : TI := fun σ H R => ta σ H fun vs H1 => ∃ a, vs = [.ref a] ∧ (∃ xs, SqL K H1 a xs) ∧ R (Ite K a) H1
theorem pi_enum {X : Cx} {es : List Expr} {k : Nat} {tpos p pos : Pos} {a : Expr} {ta : TA} (hg : Gl X "enumerate") (hm : X.mg "enumerate" = none) (ha : PA X [a] ta)
    (he : starEach [a] X.env = [(false, eval a X.env)] := by rfl) : PI X (.Tuple es k tpos) (.Call (.Name "enumerate" p) [a] [] pos) (iEnum X.K ta) := by
  unfold PA at *; unfold PI at *
  exact by
    intro pins s σ H R I h
    refine wpAny_Call_Name_kw (ld_blt I hg hm bt_enumerate ?_ (by decide) (by decide))
    refine PyProof.Rows.callWith_type1 (thn (ha pos pins s σ H _ I h) fun us s1 ⟨vs, H1, I1, r, q⟩ => ?_) he (by rfl)
    obtain ⟨b, rfl, ⟨xs, hq⟩, q⟩ := q
    obtain ⟨u, rfl, ru⟩ := vals1 r
    cases ru
    obtain ⟨its, rv, pl, hz⟩ := I1.list hq
    refine call_enumerate_list pl.isList fun h' he hi hsz hk => ?_
    refine wpAny_pyIter_enum he ?_
    have I2 : Inv X pins σ H1 { s1 with heap := h' } := I1.kept (t' := s1.toks) hk
    refine ⟨s1.heap.objs.size + 1, [s1.heap.objs.size + 1, s1.heap.objs.size], _, _, H1, rfl, I2, turn_enum b _ _ (Nat.succ_ne_self _), ⟨⟨_, he⟩, hi⟩, fun c hc => ?_, q⟩
    have hle : s1.heap.objs.size ≤ c := by
      rcases List.mem_cons.mp hc with e | hc
      · rw [e]; exact Nat.le_succ _
      · have e : c = s1.heap.objs.size := by simpa using hc
        rw [e]; exact Nat.le_refl _
    exact I1.fpOk hle (I1.hok.fresh hle)

/-- the next turn, n - i turns ahead of the end -/
def Nx (n i : Nat) (P : Prop) : Prop := ∃ m', m' < n - i ∧ m' = n - (i + 1) ∧ i + 1 ≤ n ∧ P
theorem Nx.mk {n i : Nat} {P : Prop} (hi : i < n) (p : P) : Nx n i P := ⟨n - (i + 1), by omega, rfl, hi, p⟩
/-- a comprehension's loop of n turns -/
theorem loop_by {J : It} {l : Addr} {g : TG} {tc : TT} {te : TE} {σ : St} {H : Hp} {Q : VK} (n : Nat) (Pv : Nat → St → List V → Hp → Prop) (hsz : n ≤ sizeLine) (h0 : Pv 0 σ [] H)
    (hl : ∀ i σ acc H, i ≤ n → Pv i σ acc H → H l = some (.lst acc) ∧ acc.length ≤ i)
    (hgo : ∀ i σ acc H, i < n → Pv i σ acc H → J.go i H)
    (hs : ∀ i x σ acc H H', i < n → Pv i σ acc H → J.yld i H x H' → g x σ H' fun σ2 H2 => tc σ2 H2 fun b H3 => if b = true then
      te σ2 H3 fun v H4 => H4 l = some (.lst acc) ∧ Nx n i (Pv (i + 1) σ2 (acc ++ [v]) (upd H4 l (.lst (acc ++ [v])))) else Nx n i (Pv (i + 1) σ2 acc H3))
    (hd : ∀ σ acc H, Pv n σ acc H → J.stop n H ∧ Q (.ref l) H) : tLoop J l g tc te σ H Q := by
  refine ⟨fun i m σ acc H => m = n - i ∧ i ≤ n ∧ Pv i σ acc H, ⟨n, by simp, Nat.zero_le _, h0⟩, ?_⟩
  rintro i m σ acc H ⟨rfl, hi, p⟩
  obtain ⟨q1, q2⟩ := hl i σ acc H hi p
  refine ⟨q1, ?_⟩
  by_cases hlt : i < n
  · exact .inr ⟨hgo i σ acc H hlt p, by omega, fun x H' y => hs i x σ acc H H' hlt p y⟩
  · have e : i = n := by omega
    subst e
    exact .inl (hd σ acc H p)
/-- a for over a text's signs -/
theorem for_str {x : Str} {g : TG} {tb : TS} {D : Ends} {σ : St} {H : Hp} (Pv : Nat → St → Hp → Prop) (h0 : Pv 0 σ H)
    (hs : ∀ (i : Nat) c σ H, x.cps.toList[i]? = some c → Pv i σ H → g (.str ⟨#[c]⟩) σ H fun σ2 H2 => tb { D with nx := Pv (i + 1), ct := Pv (i + 1), bk := D.nx } σ2 H2) (hd : ∀ σ H, Pv x.cps.toList.length σ H → D.nx σ H) :
    ∃ W : Nat → Nat → St → Hp → Prop, (∃ m, W 0 m σ H) ∧ ∀ i m σ H, W i m σ H →
      ((Its x).stop i H ∧ D.nx σ H) ∨ ((Its x).go i H ∧ ∃ N : St → Hp → Prop, (∀ σ' H', N σ' H' → ∃ m', m' < m ∧ W (i + 1) m' σ' H') ∧ ∀ v H', (Its x).yld i H v H' → g v σ H' fun σ2 H2 => tb { D with nx := N, ct := N, bk := D.nx } σ2 H2) := by
  have en : x.cps.toList.length = x.cps.size := by simp
  refine ⟨fun i m σ H => m = x.cps.size - i ∧ i ≤ x.cps.size ∧ Pv i σ H, ⟨x.cps.size, by simp, Nat.zero_le _, h0⟩, ?_⟩
  rintro i m σ H ⟨rfl, hi, p⟩
  by_cases hlt : i < x.cps.size
  · refine .inr ⟨hlt, Pv (i + 1), fun σ' H' p' => ⟨x.cps.size - (i + 1), by omega, rfl, hlt, p'⟩, fun v H' y => ?_⟩
    obtain ⟨e, c, hc, rfl⟩ := y
    subst e
    exact hs i c σ _ (by simpa using hc) p
  · have e : i = x.cps.size := by omega
    subst e
    exact .inl ⟨rfl, hd σ H (by rw [en]; exact p)⟩
/-- a for over enumerate of a list -/
theorem for_enum {K : PySem.W.Frag} {a : Addr} {xs : List V} {g : TG} {tb : TS} {D : Ends} {σ : St} {H : Hp} (Pv : Nat → St → Hp → Prop) (h0 : Pv 0 σ H) (hl : ∀ i σ H, i ≤ xs.length → Pv i σ H → SqL K H a xs)
    (hs : ∀ (i : Nat) x σ H T, xs[i]? = some x → Pv i σ H → H T = none → g (.ref T) σ (upd H T (.tup [.int i, x])) fun σ2 H2 => tb { D with nx := Pv (i + 1), ct := Pv (i + 1), bk := D.nx } σ2 H2) (hd : ∀ σ H, Pv xs.length σ H → D.nx σ H) :
    ∃ W : Nat → Nat → St → Hp → Prop, (∃ m, W 0 m σ H) ∧ ∀ i m σ H, W i m σ H →
      ((Ite K a).stop i H ∧ D.nx σ H) ∨ ((Ite K a).go i H ∧ ∃ N : St → Hp → Prop, (∀ σ' H', N σ' H' → ∃ m', m' < m ∧ W (i + 1) m' σ' H') ∧ ∀ v H', (Ite K a).yld i H v H' → g v σ H' fun σ2 H2 => tb { D with nx := N, ct := N, bk := D.nx } σ2 H2) := by
  refine ⟨fun i m σ H => m = xs.length - i ∧ i ≤ xs.length ∧ Pv i σ H, ⟨xs.length, by simp, Nat.zero_le _, h0⟩, ?_⟩
  rintro i m σ H ⟨rfl, hi, p⟩
  have q := hl i σ H hi p
  by_cases hlt : i < xs.length
  · refine .inr ⟨⟨xs, xs[i], q, by simp [hlt]⟩, Pv (i + 1), fun σ' H' p' => ⟨xs.length - (i + 1), by omega, rfl, hlt, p'⟩, fun v H' y => ?_⟩
    obtain ⟨T, x, rfl, hT, rfl, hx⟩ := y
    exact hs i x σ H T (hx xs q) p hT
  · have e : i = xs.length := by omega
    subst e
    exact .inl ⟨⟨xs, q, rfl⟩, hd σ H p⟩
/-- all(..), any(..) of a list of truths -/
theorem boolsAre_of : ∀ {bs : List Bool} {us : List Value}, Vals (bs.map V.bl) us → LSm.BoolsAre us bs
  | [], _, .nil => .nil
  | b :: r, _, .cons h t => by
    cases h
    exact .cons b (boolsAre_of t)
theorem kept_it {s : Shared} {h' : Heap} {o : Obj} (hk : ∀ b x, b ∉ [s.heap.objs.size] → (s.heap.push o).get? b = some x → h'.get? b = some x) : ∀ b x, s.heap.get? b = some x → h'.get? b = some x :=
  fun b x e => hk b x (fun hm => by rw [List.mem_singleton.mp hm] at e; exact Nat.lt_irrefl _ (Heap.lt_size e)) (Heap.get?_push_of_some _ e)
theorem call_all {X : Cx} (hc : X.calm = true) : CallR X (.builtin "all") (fun xs H Q => ∃ (a : Addr) (bs : List Bool), xs = [.ref a] ∧ SqL X.K H a (bs.map V.bl) ∧ Q (.bl (bs.all id)) H) := by
  unfold CallR at *
  exact by
    intro pins s σ H xs us Q I r h
    obtain ⟨a, bs, rfl, hq, q⟩ := h
    obtain ⟨u, rfl, ru⟩ := vals1 r
    cases ru
    obtain ⟨its, rv, pl, hz⟩ := I.list hq
    have hb := boolsAre_of rv
    have hl := pl.isList
    have hlt : a < s.heap.objs.size := by obtain ⟨_, e, _⟩ := hl; exact Heap.lt_size e
    refine call_all_walk (wpAny_pyIter_list hl ?_)
    refine ⟨s.heap.objs.size, [s.heap.objs.size, a], [s.heap.objs.size], its.toArray.size, _, _, fun i => (bs[i]?).getD true, rfl, Walks.list (A := X.A.in1) (I.ok.hd hc) _ a (Nat.ne_of_lt hlt) its.toArray,
      ⟨⟨_, Heap.get?_push_size _ rfl, rfl, rfl⟩, hl.push _⟩, fun i v s' Q' E' hP hQ => ?_, fun h' tk hk => ?_⟩
    · obtain ⟨b, e, rfl⟩ := hb.get i v (by simpa using hP)
      simp only [e, Option.getD_some] at hQ
      exact wpAny_truthy_bool hQ
    · have e : ((List.range its.toArray.size).all fun i => (bs[i]?).getD true) = bs.all id := by
        rw [List.size_toArray, hb.length]; exact LSm.range_all bs
      rw [e]
      exact ⟨.bl (bs.all id), H, I.kept (t' := tk) (kept_it hk), rfl, q⟩

end L2

namespace L2
open PySem PySem.Spec PyProof.Rows

/-! ### texts: <=, slices -/
section
variable {X : Cx}
theorem op_le_str : OpR X (compareOp .LtE) (fun x y H Q => ∃ i j, x = .str i ∧ y = .str j ∧ Q (.bl (!decide (j.cps.toList < i.cps.toList))) H) := by
  unfold OpR at *
  exact by
    intro pins s σ H x y v u Q I rx ry h
    obtain ⟨i, j, rfl, rfl, q⟩ := h
    obtain ⟨t, rfl⟩ := rx
    obtain ⟨t', rfl⟩ := ry
    exact PySem.P.le_str (fin_bl I q (by simp))

/-- a text's part -/
def cutS (z : Str) (lo hi : Option Int) : Str := ⟨((z.cps.toList.drop (HT.sIx z.length 0 lo)).take (HT.sIx z.length z.length hi - HT.sIx z.length 0 lo)).toArray⟩
theorem clipN (n d : Nat) (o : Option Int) (hd : d ≤ n) : (match o with | none => (d : Int) | some i => let i := if i < 0 then i + (n : Int) else i; if (1 : Int) > 0 then max 0 (min i n) else max (-1) (min i (n - 1))) = ((HT.sIx n d o : Nat) : Int) := by
  cases o with
  | none => rfl
  | some i =>
    show (if (1 : Int) > 0 then max 0 (min (if i < 0 then i + (n : Int) else i) n) else _) = ((HT.sIx n d (some i) : Nat) : Int)
    rw [if_pos (by decide), ← HT.clip_eq i n d]
    split <;> omega
theorem sliceRange_nat (a b : Nat) : PySem.sliceRange (a : Int) (b : Int) 1 = (List.range (b - a)).map (fun k => a + k) := by
  have e : (if (1 : Int) > 0 then (if (a : Int) < (b : Int) then ((b : Int) - (a : Int) + 1 - 1) / 1 else 0) else (if (a : Int) > (b : Int) then ((a : Int) - (b : Int) - 1 - 1) / (-1) else 0)).toNat = b - a := by
    rw [if_pos (by decide)]
    split
    · omega
    · omega
  unfold PySem.sliceRange
  show (List.range (if (1 : Int) > 0 then (if (a : Int) < (b : Int) then ((b : Int) - (a : Int) + 1 - 1) / 1 else 0) else (if (a : Int) > (b : Int) then ((a : Int) - (b : Int) - 1 - 1) / (-1) else 0)).toNat).map (fun (k : Nat) => ((a : Int) + 1 * (k : Int)).toNat) = _
  rw [e]
  congr 1
  funext k
  omega
theorem strIx_eq (lo hi : Option Int) (n : Nat) : Builtin.Str.strSliceIndices lo hi 1 n = (List.range (HT.sIx n n hi - HT.sIx n 0 lo)).map (fun k => HT.sIx n 0 lo + k) := by
  rw [← sliceRange_nat]
  have c1 := clipN n 0 lo (Nat.zero_le _)
  have c2 := clipN n n hi (Nat.le_refl _)
  rw [← c1, ← c2]
  rfl
theorem pick_nat {α : Type} (l : List α) (i : Nat) : ∀ k : Nat, ((List.range k).map (fun m => i + m)).filterMap (fun j => l[j]?) = (l.drop i).take k
  | 0 => by simp
  | k + 1 => by
    rw [List.range_succ, List.map_append, List.filterMap_append, pick_nat l i k, List.take_succ, List.getElem?_drop]
    cases h : l[i + k]? with
    | none => simp [h]
    | some v => simp [h]
theorem slice_cut (z : Str) (lo hi : Option Int) : Txt.slice z lo hi = cutS z lo hi := by
  have a := HT.sIx_le z.length 0 (Nat.zero_le _) lo
  have b := HT.sIx_le z.length z.length (Nat.le_refl _) hi
  have hl : z.cps.toList.length = z.length := by simp [Str.length]
  unfold Txt.slice cutS
  rw [strIx_eq]
  have pk : ((List.range (HT.sIx z.length z.length hi - HT.sIx z.length 0 lo)).map (fun k => HT.sIx z.length 0 lo + k)).filterMap (z.cps[·]?) = (z.cps.toList.drop (HT.sIx z.length 0 lo)).take (HT.sIx z.length z.length hi - HT.sIx z.length 0 lo) := by
    rw [← pick_nat]
    congr 1
    funext j
    simp
  rw [pk]
  split
  · rename_i h
    simp only [List.length_map, List.length_range, beq_self_eq_true, Bool.true_and, beq_iff_eq] at h
    have h0 : HT.sIx z.length 0 lo = 0 := by omega
    have h1 : HT.sIx z.length z.length hi = z.length := by omega
    rw [h0, h1, Nat.sub_zero, List.drop_zero, List.take_of_length_le (by omega)]
  · rfl
def rSlS : V → Option Int → Option Int → Hp → VK → Prop := fun x lo hi H Q => ∃ z, x = .str z ∧ z.length ≤ sizeLine ∧ Q (.str (cutS z lo hi)) H
theorem sl_str : SlR X rSlS := by
  unfold SlR at *
  exact by
    intro pins s σ H x v vl vu lo hi sl Q I rx hs pl pu h
    obtain ⟨z, rfl, hz, q⟩ := h
    obtain ⟨t, rfl⟩ := rx
    have go : ∀ (l u : Option (Int × Tok)), l.map (·.1) = lo → u.map (·.1) = hi → s.heap.IsSlice sl l u none → wpAny (model X.prog X.w) X.A (getItem (.str z t) (.ref sl)) (EP X pins σ Q) X.xe s := fun l u e1 e2 hS => by
      refine wpAny_getItem_str_slice (st := none) hS rfl ?_
      unfold sliceMade slicePicked
      rw [e1, e2]
      show (if ((1 : Int) == 1 && (Builtin.Str.strSliceIndices lo hi 1 z.length).length == z.length) = true then Made.val (.str z t) else Made.str ⟨((Builtin.Str.strSliceIndices lo hi 1 z.length).filterMap (z.cps[·]?)).toArray⟩).post _ s
      refine post_val_or_str ⟨?_, fun t' k => ?_⟩
      · exact Nat.le_trans (Txt.slice_le z lo hi) hz
      · refine ⟨.str (cutS z lo hi), H, I.tok k, ⟨t', ?_⟩, q⟩
        rw [← slice_cut]
        rfl
    refine ⟨"str", _, F.slot_str_getitem.lookup, typeIs_str _ _ _, ?_⟩
    cases pl with
    | none =>
      cases pu with
      | none => exact go none none rfl rfl hs
      | int j uj => exact go none (some (j, uj)) rfl rfl hs
    | int i ui =>
      cases pu with
      | none => exact go (some (i, ui)) none rfl rfl hs
      | int j uj => exact go (some (i, ui)) (some (j, uj)) rfl rfl hs

end

/-! ### == of things that hold things: lists and tuples, by depth -/
/-- by lists and tuples whose items answer by R -/
inductive SeqEq (K : PySem.W.Frag) (H : Hp) (R : V → V → Bool → Prop) : V → V → Bool → Prop where
  | list {a b : Addr} {xs ys : List V} {e : Nat → Bool} (ha : SqL K H a xs) (hb : SqL K H b ys) (hl : xs.length = ys.length) (he : ∀ i x y, xs[i]? = some x → ys[i]? = some y → R x y (e i)) : SeqEq K H R (.ref a) (.ref b) ((List.range xs.length).all e)
  | listN {a b : Addr} {xs ys : List V} (ha : SqL K H a xs) (hb : SqL K H b ys) (hl : xs.length ≠ ys.length) : SeqEq K H R (.ref a) (.ref b) false
  | tup {a b : Addr} {xs ys : List V} {e : Nat → Bool} (ha : SqT K H a xs) (hb : SqT K H b ys) (he : ∀ i x y, xs[i]? = some x → ys[i]? = some y → R x y (e i)) : SeqEq K H R (.ref a) (.ref b) ((List.range (min xs.length ys.length)).all e && xs.length == ys.length)
/-- an item's answer: flat things, one object twice, lists and tuples within -/
def EqD (K : PySem.W.Frag) (H : Hp) : Nat → V → V → Bool → Prop
  | 0, x, y, b => (flatV x = true ∧ flatV y = true ∧ b = eqV x y) ∨ ∃ a, x = .ref a ∧ y = .ref a ∧ b = true
  | n + 1, x, y, b => ((flatV x = true ∧ flatV y = true ∧ b = eqV x y) ∨ ∃ a, x = .ref a ∧ y = .ref a ∧ b = true) ∨ SeqEq K H (EqD K H n) x y b
theorem eqV_self {x : V} (h : flatV x = true) : eqV x x = true := by
  cases x <;> simp_all [flatV, eqV]
section
variable {X : Cx} {pins : List (Addr × Obj)} {σ : St} {H : Hp} {s : Shared}
theorem all_range {n : Nat} {e : Nat → Bool} (h : ∀ i, i < n → e i = true) : (List.range n).all e = true := by
  rw [List.all_eq_true]
  exact fun i hi => h i (List.mem_range.mp hi)
theorem EqD.self (I : Inv X pins σ H s) : ∀ {n : Nat} {x : V} {b : Bool}, EqD X.K H n x x b → b = true := by
  intro n
  induction n with
  | zero =>
    intro x b h
    rcases h with ⟨h1, _, h2⟩ | ⟨_, _, _, h⟩
    · rw [h2]; exact eqV_self h1
    · exact h
  | succ n ih =>
    intro x b h
    rcases h with (⟨h1, _, h2⟩ | ⟨_, _, _, h⟩) | h
    · rw [h2]; exact eqV_self h1
    · exact h
    · cases h with
      | @list a _ xs ys e ha hb hl he =>
        have q := I.list_inj ha hb
        subst q
        exact all_range fun i hi => ih (he i xs[i] xs[i] (by simp [hi]) (by simp [hi]))
      | listN ha hb hl => exact absurd (congrArg List.length (I.list_inj ha hb)) hl
      | @tup a _ xs ys e ha hb he =>
        have q := I.tuple_inj ha hb
        subst q
        rw [Nat.min_self, all_range fun i hi => ih (he i xs[i] xs[i] (by simp [hi]) (by simp [hi]))]
        simp
theorem SeqEq.rc {A : Around} {R : V → V → Bool → Prop} {x y : V} {b : Bool} {u v : Value} (I : Inv X pins σ H s) (h : SeqEq X.K H R x y b) (rx : RelV x u) (ry : RelV y v) (hu : A.units < cLine)
    (hR : ∀ x y b u v, R x y b → RelV x u → RelV y v → SeqAt.EqAt A.in1 s u v b) : SeqAt.RcAt A s u v b := by
  cases h with
  | @list a c xs ys e ha hb hl he =>
    cases rx; cases ry
    obtain ⟨its, r1, p1, z1⟩ := I.list ha
    obtain ⟨jts, r2, p2, z2⟩ := I.list hb
    have l1 := r1.length
    have l2 := r2.length
    have q := SeqAt.RcAt.lists (A := A) (s := s) (e := e) p1.isList p2.isList (by simp only [List.size_toArray]; omega) hu fun j h1 h2 => ?_
    · rw [List.size_toArray, ← l1] at q
      exact q
    · simp only [List.size_toArray] at h1 h2
      have g1 : xs[j]? = some xs[j] := by simp
      have g2 : ys[j]? = some ys[j] := by simp
      obtain ⟨w1, k1, rr1⟩ := r1.get g1
      obtain ⟨w2, k2, rr2⟩ := r2.get g2
      have e1 : its.toArray[j] = w1 := by
        have := List.getElem?_eq_some_iff.mp k1
        obtain ⟨_, this⟩ := this
        simpa using this
      have e2 : jts.toArray[j] = w2 := by
        have := List.getElem?_eq_some_iff.mp k2
        obtain ⟨_, this⟩ := this
        simpa using this
      rw [e1, e2]
      exact hR _ _ _ _ _ (he j _ _ g1 g2) rr1 rr2
  | @listN a c xs ys ha hb hl =>
    cases rx; cases ry
    obtain ⟨its, r1, p1, z1⟩ := I.list ha
    obtain ⟨jts, r2, p2, z2⟩ := I.list hb
    have l1 := r1.length
    have l2 := r2.length
    exact SeqAt.RcAt.lists_lengths p1.isList p2.isList (by simp only [List.size_toArray, bne_iff_ne]; omega) hu
  | @tup a c xs ys e ha hb he =>
    cases rx; cases ry
    obtain ⟨its, r1, p1, z1⟩ := I.tuple ha
    obtain ⟨jts, r2, p2, z2⟩ := I.tuple hb
    have l1 := r1.length
    have l2 := r2.length
    have q := SeqAt.RcAt.tuples (A := A) (s := s) (e := e) p1 p2 hu fun j h1 h2 => ?_
    · rw [List.size_toArray, List.size_toArray, ← l1, ← l2] at q
      exact q
    · simp only [List.size_toArray] at h1 h2
      have g1 : xs[j]? = some xs[j] := by simp
      have g2 : ys[j]? = some ys[j] := by simp
      obtain ⟨w1, k1, rr1⟩ := r1.get g1
      obtain ⟨w2, k2, rr2⟩ := r2.get g2
      have e1 : its.toArray[j] = w1 := by
        have := List.getElem?_eq_some_iff.mp k1
        obtain ⟨_, this⟩ := this
        simpa using this
      have e2 : jts.toArray[j] = w2 := by
        have := List.getElem?_eq_some_iff.mp k2
        obtain ⟨_, this⟩ := this
        simpa using this
      rw [e1, e2]
      exact hR _ _ _ _ _ (he j _ _ g1 g2) rr1 rr2
theorem SeqEq.rcNe {A : Around} {R : V → V → Bool → Prop} {x y : V} {b : Bool} {u v : Value} (I : Inv X pins σ H s) (h : SeqEq X.K H R x y b) (rx : RelV x u) (ry : RelV y v) (hu : A.units < cLine)
    (hR : ∀ x y b u v, R x y b → RelV x u → RelV y v → SeqAt.EqAt A.in1 s u v b) : SeqAt.RcNeAt A s u v (!b) := by
  cases h with
  | @list a c xs ys e ha hb hl he =>
    cases rx; cases ry
    obtain ⟨its, r1, p1, z1⟩ := I.list ha
    obtain ⟨jts, r2, p2, z2⟩ := I.list hb
    have l1 := r1.length
    have l2 := r2.length
    have q := SeqAt.RcNeAt.lists (A := A) (s := s) (e := e) p1.isList p2.isList (by simp only [List.size_toArray]; omega) hu fun j h1 h2 => ?_
    · rw [List.size_toArray, ← l1] at q
      exact q
    · simp only [List.size_toArray] at h1 h2
      have g1 : xs[j]? = some xs[j] := by simp
      have g2 : ys[j]? = some ys[j] := by simp
      obtain ⟨w1, k1, rr1⟩ := r1.get g1
      obtain ⟨w2, k2, rr2⟩ := r2.get g2
      have e1 : its.toArray[j] = w1 := by
        have := List.getElem?_eq_some_iff.mp k1
        obtain ⟨_, this⟩ := this
        simpa using this
      have e2 : jts.toArray[j] = w2 := by
        have := List.getElem?_eq_some_iff.mp k2
        obtain ⟨_, this⟩ := this
        simpa using this
      rw [e1, e2]
      exact hR _ _ _ _ _ (he j _ _ g1 g2) rr1 rr2
  | @listN a c xs ys ha hb hl =>
    cases rx; cases ry
    obtain ⟨its, r1, p1, z1⟩ := I.list ha
    obtain ⟨jts, r2, p2, z2⟩ := I.list hb
    have l1 := r1.length
    have l2 := r2.length
    exact SeqAt.RcNeAt.lists_lengths p1.isList p2.isList (by simp only [List.size_toArray, bne_iff_ne]; omega) hu
  | @tup a c xs ys e ha hb he =>
    cases rx; cases ry
    obtain ⟨its, r1, p1, z1⟩ := I.tuple ha
    obtain ⟨jts, r2, p2, z2⟩ := I.tuple hb
    have l1 := r1.length
    have l2 := r2.length
    have q := SeqAt.RcNeAt.tuples (A := A) (s := s) (e := e) p1 p2 hu fun j h1 h2 => ?_
    · rw [List.size_toArray, List.size_toArray, ← l1, ← l2] at q
      exact q
    · simp only [List.size_toArray] at h1 h2
      have g1 : xs[j]? = some xs[j] := by simp
      have g2 : ys[j]? = some ys[j] := by simp
      obtain ⟨w1, k1, rr1⟩ := r1.get g1
      obtain ⟨w2, k2, rr2⟩ := r2.get g2
      have e1 : its.toArray[j] = w1 := by
        have := List.getElem?_eq_some_iff.mp k1
        obtain ⟨_, this⟩ := this
        simpa using this
      have e2 : jts.toArray[j] = w2 := by
        have := List.getElem?_eq_some_iff.mp k2
        obtain ⟨_, this⟩ := this
        simpa using this
      rw [e1, e2]
      exact hR _ _ _ _ _ (he j _ _ g1 g2) rr1 rr2
theorem EqD.at (I : Inv X pins σ H s) : ∀ (n : Nat) (A : Around) (x y : V) (b : Bool) (u v : Value), A.units + n < cLine → EqD X.K H n x y b → RelV x u → RelV y v → SeqAt.EqAt A s u v b := by
  intro n
  induction n with
  | zero =>
    intro A x y b u v hu h rx ry
    rcases h with ⟨h1, h2, rfl⟩ | ⟨a, rfl, rfl, rfl⟩
    · exact eqAt_V rx ry h1 h2
    · cases rx; cases ry
      exact SeqAt.EqAt.same _
  | succ n ih =>
    intro A x y b u v hu h rx ry
    rcases h with (⟨h1, h2, rfl⟩ | ⟨a, rfl, rfl, rfl⟩) | h
    · exact eqAt_V rx ry h1 h2
    · cases rx; cases ry
      exact SeqAt.EqAt.same _
    · have rc := SeqEq.rc (A := A) I h rx ry (by omega) fun x y b u v hd r1 r2 => ih A.in1 x y b u v (by show A.units + 1 + n < cLine; omega) hd r1 r2
      have refs : ∃ a c, x = .ref a ∧ y = .ref c := by cases h <;> exact ⟨_, _, rfl, rfl⟩
      obtain ⟨a, c, rfl, rfl⟩ := refs
      cases rx; cases ry
      by_cases hac : a = c
      · subst hac
        have hb : b = true := EqD.self (n := n + 1) I (.inr h)
        subst hb
        exact SeqAt.EqAt.same _
      · exact SeqAt.EqAt.of_refs hac rc
def rEqD (K : PySem.W.Frag) (neg : Bool) : R2 := fun x y H Q => ∃ n b, n ≤ 60 ∧ SeqEq K H (EqD K H n) x y b ∧ Q (.bl (if neg then !b else b)) H
theorem op_eqD (hu : X.A.units + 62 < cLine) : OpR X (compareOp .Eq) (rEqD X.K false) := by
  unfold OpR at *
  exact by
    intro pins s σ H x y v u Q I rx ry h
    obtain ⟨n, b, hn, he, q⟩ := h
    exact SeqEq.rc (A := X.A) I he rx ry (by omega) (fun x y b u v hd r1 r2 => EqD.at I n X.A.in1 x y b u v (by show X.A.units + 1 + n < cLine; omega) hd r1 r2) X.prog X.w _ _ (fin_bl I q rfl)

theorem op_neD (hu : X.A.units + 62 < cLine) : OpR X (compareOp .NotEq) (rEqD X.K true) := by
  unfold OpR at *
  exact by
    intro pins s σ H x y v u Q I rx ry h
    obtain ⟨n, b, hn, he, q⟩ := h
    exact SeqEq.rcNe (A := X.A) I he rx ry (by omega) (fun x y b u v hd r1 r2 => EqD.at I n X.A.in1 x y b u v (by show X.A.units + 1 + n < cLine; omega) hd r1 r2) X.prog X.w _ _ (fin_bl I q rfl)

/-- two lists, two tuples of flat things -/
def eqL : List V → List V → Bool
  | [], [] => true
  | x :: xs, y :: ys => eqV x y && eqL xs ys
  | _, _ => false
end
theorem eqL_range : ∀ {xs ys : List V}, xs.length = ys.length → (List.range xs.length).all (fun i => eqV (xs.getD i .non) (ys.getD i .non)) = eqL xs ys
  | [], [], _ => rfl
  | x :: xs, y :: ys, h => by
    have h' : xs.length = ys.length := by simpa using h
    rw [List.length_cons, List.range_succ_eq_map, List.all_cons, List.all_map, eqL, ← eqL_range h']
    rfl
  | [], _ :: _, h => by simp at h
  | _ :: _, [], h => by simp at h
theorem eqL_len : ∀ {xs ys : List V}, xs.length ≠ ys.length → eqL xs ys = false
  | [], [], h => absurd rfl h
  | x :: xs, y :: ys, h => by
    rw [eqL, eqL_len (xs := xs) (ys := ys) (by simpa using h), Bool.and_false]
  | [], _ :: _, _ => rfl
  | _ :: _, [], _ => rfl
theorem SeqEq.flatL {K : PySem.W.Frag} {H : Hp} {n : Nat} {a b : Addr} {xs ys : List V} (ha : SqL K H a xs) (hb : SqL K H b ys) (fx : xs.all flatV = true) (fy : ys.all flatV = true) : SeqEq K H (EqD K H n) (.ref a) (.ref b) (eqL xs ys) := by
  by_cases hl : xs.length = ys.length
  · rw [← eqL_range hl]
    refine .list ha hb hl fun i x y hx hy => ?_
    have q : (flatV x = true ∧ flatV y = true ∧ eqV (xs.getD i .non) (ys.getD i .non) = eqV x y) := by
      refine ⟨List.all_eq_true.mp fx x (List.mem_of_getElem? hx), List.all_eq_true.mp fy y (List.mem_of_getElem? hy), ?_⟩
      rw [List.getD_eq_getElem?_getD, List.getD_eq_getElem?_getD, hx, hy]
      rfl
    cases n with
    | zero => exact .inl q
    | succ n => exact .inl (.inl q)
  · rw [eqL_len hl]
    exact .listN ha hb hl
theorem SeqEq.flatT {K : PySem.W.Frag} {H : Hp} {n : Nat} {a b : Addr} {xs ys : List V} (ha : SqT K H a xs) (hb : SqT K H b ys) (hl : xs.length = ys.length) (fx : xs.all flatV = true) (fy : ys.all flatV = true) : SeqEq K H (EqD K H n) (.ref a) (.ref b) (eqL xs ys) := by
  have q := SeqEq.tup (K := K) (H := H) (R := EqD K H n) (e := fun i => eqV (xs.getD i .non) (ys.getD i .non)) ha hb fun i x y hx hy => ?_
  · rw [← hl, Nat.min_self, eqL_range hl] at q
    simpa using q
  · have q : (flatV x = true ∧ flatV y = true ∧ eqV (xs.getD i .non) (ys.getD i .non) = eqV x y) := by
      refine ⟨List.all_eq_true.mp fx x (List.mem_of_getElem? hx), List.all_eq_true.mp fy y (List.mem_of_getElem? hy), ?_⟩
      rw [List.getD_eq_getElem?_getD, List.getD_eq_getElem?_getD, hx, hy]
      rfl
    cases n with
    | zero => exact .inl q
    | succ n => exact .inl (.inl q)
end L2

namespace L2
open PySem PySem.Spec PyProof.Rows

/-! ### written tuples and dicts of the text's top -/
theorem sqT_of {K : PySem.W.Frag} {H : Hp} {a : Addr} {o : Obj} {xs : List V} {its : Array Value} {n : Nat} (hk : K.lookup a = some o) (hc : o.cls = .type "tuple") (ho : o.data = .seq its n) (hz : its.size ≤ sizeLine) (hv : Vals xs its.toList) : SqT K H a xs :=
  .inr ⟨o, its, n, hk, hc, ho, hz, hv⟩
def EntryIs (w : World) (p : Str × V) (e : DictEntry) : Prop := e.hash = PyData.keyHash w.params p.1 ∧ (∃ t, e.key = .str p.1 t) ∧ RelV p.2 e.val
/-- a dict of the top, by texts -/
structure KDict (w : World) (K : PySem.W.Frag) (a : Addr) (kvs : List (Str × V)) : Prop where
  ex : ∃ (es : List DictEntry) (ep : Nat), K.lookup a = some ⟨.type "dict", none, .dict es.toArray ep, #[]⟩ ∧ Paired (EntryIs w) kvs es
  nd : (kvs.map (·.1)).Nodup
theorem KDict.pairs {P : Program} {w : World} : ∀ {kvs : List (Str × V)} {es : List DictEntry}, Paired (EntryIs w) kvs es → ∃ vs : List (Key × Value), Pairs (mixKind P w) es vs ∧ KV (kvs.map fun p => ((Sum.inr p.1 : Key), p.2)) vs ∧ vs.map (·.1) = kvs.map fun p => (Sum.inr p.1 : Key)
  | _, _, .nil => ⟨[], .nil, .nil, rfl⟩
  | (x, v) :: r, e :: es, .cons ⟨h1, ⟨t, h2⟩, h3⟩ hr => by
    obtain ⟨vs, p1, p2, p3⟩ := KDict.pairs (P := P) hr
    refine ⟨((Sum.inr x : Key), e.val) :: vs, ?_, .cons ⟨rfl, h3⟩ p2, by rw [List.map_cons, p3]; rfl⟩
    refine .cons ?_ rfl p1
    show keyIs (.inr x) e.key = true
    rw [h2]
    exact keyIs_str x t
theorem KDict.keysOf {P : Program} {w : World} : ∀ {kvs : List (Str × V)} {es : List DictEntry}, Paired (EntryIs w) kvs es → ∀ e ∈ es, ∃ k, (mixKind P w).is k e.key = true ∧ e.hash = (mixKind P w).hash k
  | _, _, .nil, e, h => by simp at h
  | (x, v) :: r, e :: es, .cons ⟨h1, ⟨t, h2⟩, h3⟩ hr, e', h => by
    rcases List.mem_cons.mp h with q | q
    · subst q
      refine ⟨.inr x, ?_, h1⟩
      show keyIs (.inr x) e'.key = true
      rw [h2]
      exact keyIs_str x t
    · exact KDict.keysOf hr e' q
theorem KDict.dictOf {P : Program} {w : World} {K : PySem.W.Frag} {a : Addr} {kvs : List (Str × V)} {h : Heap} (D : KDict w K a kvs) (X : K.In h) : ∃ vs, KV (kvs.map fun p => ((Sum.inr p.1 : Key), p.2)) vs ∧ h.DictOf (mixKind P w) a vs := by
  obtain ⟨es, ep, hk, hp⟩ := D.ex
  obtain ⟨vs, p1, p2, p3⟩ := KDict.pairs (P := P) hp
  refine ⟨vs, p2, _, es.toArray, ep, X _ _ hk, ⟨rfl, rfl, rfl⟩, rfl, fun e he => KDict.keysOf hp e (by simpa using he), by simpa using p1, ?_⟩
  rw [p3]
  have nd := D.nd
  rw [List.nodup_iff_pairwise_ne, List.pairwise_map] at nd ⊢
  exact nd.imp fun h e => h (Sum.inr.inj e)
def rKGet (w : World) (K : PySem.W.Frag) : R2 := fun x y H Q => ∃ a kvs z v, x = .ref a ∧ y = .str z ∧ KDict w K a kvs ∧ kvs.lookup z = some v ∧ Q v H
theorem valV_str {kvs : List (Str × V)} {z : Str} : valV (kvs.map fun p => ((Sum.inr p.1 : Key), p.2)) (Sum.inr z) = kvs.lookup z := by
  unfold valV
  induction kvs with
  | nil => rfl
  | cons p r ih =>
    obtain ⟨k, v⟩ := p
    rw [List.map_cons, List.find?_cons, List.lookup_cons]
    by_cases e : k = z
    · subst e
      simp
    · have h1 : decide ((Sum.inr k : Key) = Sum.inr z) = false := by simpa using e
      have h2 : (z == k) = false := by simpa using fun q => e q.symm
      rw [h1, h2]
      exact ih
theorem ix_kdict {X : Cx} : IxR X (rKGet X.w X.K) := by
  unfold IxR at *
  exact by
    intro value slice pins s σ H x y v u Q I rx ry h hs
    obtain ⟨a, kvs, z, r, rfl, rfl, D, hl, q⟩ := h
    cases rx
    have ry' : RelV (kV (Sum.inr z)) u := ry
    obtain ⟨vs, rel, dd⟩ := D.dictOf (P := X.prog) I.kIn
    obtain ⟨w', hw, rw'⟩ := RelO.some_of (v := r) (o := valueAt vs (Sum.inr z)) (by
      have q := rel.val (Sum.inr z)
      rw [valV_str, hl] at q
      exact q)
    refine tail_any dd.mapOf.typeIs PySem.F.slot_dict_getitem.lookup ?_ hs
    exact wpAny_getItem_of (kV_is ry') dd.mapOf hw ⟨r, H, I.tok _, rw', q⟩

end L2

namespace L2
open PySem PySem.Spec PyProof.Rows

/-! ### exception classes of the text; a law whose defs raise -/
def strKeysB (es : Array DictEntry) : Bool := es.all fun e => match e.key with | .str _ _ => true | _ => false
theorem strKeys_of {es : Array DictEntry} (h : strKeysB es = true) : StrKeys es := by
  intro e he
  have q := Array.all_eq_true_iff_forall_mem.mp h e he
  split at q
  · rename_i n t hk
    exact ⟨n, t, hk⟩
  · cases q
/-- class C(B): pass, class B(ValueError): pass -/
theorem XCls.mk2 {K : PySem.W.Frag} {C N A : Addr} {nm q : Str} {bs : List Value} {hdct : Bool} {sn : List Str} {sub : List Value} {ab : Bool} {col : Option Bool} {dd : Option Addr} {k0 k1 k2 k3 k5 : Option Value} {es : Array DictEntry} {c d ep sl}
    {c0 : Value} {dd' : Option Addr} {cd : ClassData} {sl0 : Array (Option Value)} {es' : Array DictEntry} {c' d' ep' sl'}
    (l : K.lookup C = some (excClassObj nm q C N bs (.ref A :: vmro) hdct sn sub ab col dd k0 k1 k2 k3 k5 "ValueError.__new__")) (ln : K.lookup N = some ⟨c, d, .dict es ep, sl⟩) (sk : strKeysB es = true) (ni : nsFind es "__init__" = none)
    (la : K.lookup A = some { cls := c0, dict := dd', data := .cls cd, slots := sl0 }) (lna : K.lookup cd.ns = some ⟨c', d', .dict es' ep', sl'⟩) (ska : strKeysB es' = true) (nia : nsFind es' "__init__" = none) : XCls K C :=
  ⟨nm, q, N, bs, _, hdct, sn, sub, ab, col, dd, k0, k1, k2, k3, k5, es, l, ⟨c, d, ep, sl, ln, strKeys_of sk⟩, ni, .own la ⟨c', d', ep', sl', lna, strKeys_of ska⟩ nia .base⟩
theorem hu62 {A : Around} {k : Nat} (hr : Room k A) : A.units + 62 < cLine := by have := hr.un; omega
theorem cap_nil {X : Cx} {scope : Scope} {N' : List Str} {js : List (Option Nat)} (hl : js.length = N'.length) (h : js.all Option.isNone = true) : Cap X scope N' js :=
  ⟨hl, fun i j x h1 _ => by
    have q := List.all_eq_true.mp h _ (List.mem_of_getElem? h1)
    cases q⟩
theorem free_nil {X : Cx} {scope : Scope} (h : (scope.names.all fun y => match y.2 with | .free => false | _ => true) = true) : ∀ y ∈ scope.names, y.2 = .free → (X.env.kindOf y.1 = some .cell ∨ X.env.kindOf y.1 = some .free) := fun y hy e => by
  have q := List.all_eq_true.mp h y hy
  rw [e] at q
  cases q
theorem rIsiA.exc {K : PySem.W.Frag} {H : Hp} {e C c : Addr} {b : Bool} {Q : VK} (h : H e = some (exO (.ref C) none e)) (q : XAsk K C) (k : PySem.W.kitOne K (.ref C) (.ref c) = some b) (hQ : Q (.bl b) H) : rIsiA K [.ref e, .ref c] H Q :=
  .inr ⟨e, .ref c, .ref c, C, b, rfl, .own c, h, q, k, hQ⟩
theorem rIsiA.excT {K : PySem.W.Frag} {H : Hp} {e C : Addr} {c : String} {b : Bool} {Q : VK} (h : H e = some (exO (.ref C) none e)) (q : XAsk K C) (k : PySem.W.kitOne K (.ref C) (.type c) = some b) (hQ : Q (.bl b) H) : rIsiA K [.ref e, .ty c] H Q :=
  .inr ⟨e, .ty c, .type c, C, b, rfl, .ty c, h, q, k, hQ⟩
/-- what never flies may be handed on anywhere -/
theorem passE0 {P : Program} {w : World} {X : Cx} : PassesS (CXx P w) X (fun _ => E0) := by
  intro pins σ H s e s' I h
  obtain ⟨_, _, _, _, _, _, _, _, _, _, _, _, _, _, _, _, _, h⟩ := h
  exact h.elim
theorem walk_ofX {l : PySem.W.OpenLaw} {n k : Nat} {q : Program} {loose : List Str} {XP : (Str → Option Value) → Heap → Prop} {YP : World → Heap → Prop} {d : DefRec} {K : Params → PySem.W.Frag} {sp : PySem.W.Frag → Sp} {x : Str}
    (hn : l.most = some n) (hn2 : n ≤ sizeLine) (hdf : d.params.defaults = []) (hr : Room k callerA)
    (hY : ∀ (w : World) (h : Heap), YP w h → (K w.params).In h)
    (F : ∀ (w : World) (mg : Str → Option Value) (fa : Addr) (h : Heap), (K w.params).In h → h.Ns mainGlobals mg → mg d.name = some (.ref fa) →
      ∃ fd : FuncData, (∀ (s : Shared) (u : Value), BindsTo s fd ⟨[u], []⟩ [(x, u)]) ∧
        ∀ base : Heap, (K w.params).In base → base.Ns mainGlobals mg → FnOk l.prog w (K w.params) mg base (CXx l.prog w) k fa fd [x] (sp (K w.params)))
    (hsp : ∀ (K : PySem.W.Frag) (H : Hp) (a : Addr) (ns : List Int), ns.length ≤ n → Only H → SqL K H a (ns.map V.int) → sp K [.ref a] H (fun v _ => v = .bl true) fun _ _ _ => False) :
    PySem.W.WalkO q loose XP YP l.row.toRowW d [] (fun f vs => PySem.call f vs) :=
  walk_of (K := K) (CX := fun w => CXx l.prog w) (sp := fun w => sp (K w.params)) hn hn2 hdf hr hY F (fun w H a ns h1 h2 h3 => hsp (K w.params) H a ns h1 h2 h3) fun w H s e s' h => by
    obtain ⟨_, _, _, _, _, _, _, _, _, _, _, _, _, _, _, _, _, h⟩ := h
    exact h
end L2

namespace L2
open PySem PySem.Spec PyProof.Rows

/-! ### defs with defaults; C(..) with keywords whose __init__ may raise -/
structure FunD (K : PySem.W.Frag) (x qual : Str) (st : Stmt) (dV : Value) (f : Addr) (fd : FuncData) : Prop where
  ex : ∃ (oc : Value) (od : Option Addr) (kV doc pm : Value) (an : Option Addr) (cdv ct : Value) (osl : Array (Option Value)),
    fd = PySem.W.fnOf x qual (defArgs st) (defBody st) (defScope st) dV kV doc pm an cdv ct ∧ K.lookup f = some ⟨oc, od, .func fd, osl⟩ ∧ PySem.W.codeIn K cdv qual = true
  kp : PySem.W.keepIn K (.ref f) = true
theorem FunD.okx {P : Program} {w : World} {K : PySem.W.Frag} {mg : Str → Option Value} {base : Heap} {x qual : Str} {st : Stmt} {dV : Value} {f : Addr} {fd : FuncData} {N ps : List Str} {k : Nat} {sp : Sp} (F : FunD K x qual st dV f fd) (S : FnScope N ps (defScope st)) (len : ∀ vs H Q E, sp vs H Q E → vs.length = ps.length)
    (hbody : ∀ (cdv : Value) (A : Around) (outer : List Env) (s : Shared) (H : Hp) (vs : List V) (Q : VK) (E : XK), Room k (A.deeper (envOfC qual (defScope st) s.heap.objs.size f cdv)) → sp vs H Q E →
      ∃ t, PSs (cxOf (CXx P w) P w K mg base N qual (defScope st) f cdv A outer s H E) (defBody st) t ∧ t { nx := fun _ H' => Q .non H', rt := Q } (start N vs) H) : FnOk P w K mg base (CXx P w) (k + 1) f fd ps sp := by
  obtain ⟨oc, od, kV, doc, pm, an, cdv, ct, osl, rfl, lk, hcd⟩ := F.ex
  exact fn_of lk hcd S len fun A outer s H vs Q E hr hsp => hbody cdv A outer s H vs Q E hr hsp
theorem funD_mk {K : PySem.W.Frag} {x qual : Str} {st : Stmt} {dV : Value} {f : Addr} {oc : Value} {od an : Option Addr} {osl : Array (Option Value)} {kV doc pm cdv ct : Value} (l : K.lookup f = some ⟨oc, od, .func (PySem.W.fnOf x qual (defArgs st) (defBody st) (defScope st) dV kV doc pm an cdv ct), osl⟩)
    (hc : PySem.W.codeIn K cdv qual = true) (kp : PySem.W.keepIn K (.ref f) = true) : FunD K x qual st dV f (PySem.W.fnOf x qual (defArgs st) (defBody st) (defScope st) dV kV doc pm an cdv ct) := ⟨⟨oc, od, kV, doc, pm, an, cdv, ct, osl, rfl, l, hc⟩, kp⟩
/-- how C(..) binds: na written arguments, the keywords ks; g puts the values in the parameters' order -/
structure MkBinds (K : PySem.W.Frag) (fd : FuncData) (ps ks : List Str) (na : Nat) (g : List Value → List Value → List Value) (gV : List V → List V → List V) : Prop where
  to : ∀ (s : Shared) (x : Value) (us ws : List Value), K.In s.heap → us.length = na → ws.length = ks.length → BindsTo s fd ⟨x :: us, ks.zip ws⟩ (ps.zip (x :: g us ws)) ∧ (x :: g us ws).length = ps.length
  rel : ∀ {vs : List V} {us : List Value} {zs : List V} {ws : List Value}, Vals vs us → Vals zs ws → Vals (gV vs zs) (g us ws)
theorem MkBinds.ofD {K : PySem.W.Frag} {x qual : Str} {st : Stmt} {T f : Addr} {fd : FuncData} {ps ks : List Str} {na : Nat} {g : List Value → List Value → List Value} {gV : List V → List V → List V} {o : Obj} {items : Array Value} {n : Nat}
    (F : FunD K x qual st (.ref T) f fd) (hT : K.lookup T = some o) (hs : o.data = .seq items n) (hrel : ∀ {vs : List V} {us : List Value} {zs : List V} {ws : List Value}, Vals vs us → Vals zs ws → Vals (gV vs zs) (g us ws))
    (h : ∀ (kV doc pm : Value) (an : Option Addr) (cdv ct : Value) (y : Value) (us ws : List Value), us.length = na → ws.length = ks.length →
      (∃ k, bindArgs (PySem.W.fnOf x qual (defArgs st) (defBody st) (defScope st) (.ref T) kV doc pm an cdv ct) ⟨y :: us, ks.zip ws⟩ = seqItems? (.ref T) >>= k ∧ k (some items) = pure (ps.zip (y :: g us ws))) ∧ (y :: g us ws).length = ps.length) : MkBinds K fd ps ks na g gV := by
  obtain ⟨oc, od, kV, doc, pm, an, cdv, ct, osl, rfl, lk, hcd⟩ := F.ex
  refine ⟨fun s y us ws X h1 h2 => ?_, hrel⟩
  obtain ⟨⟨k, e1, e2⟩, e3⟩ := h kV doc pm an cdv ct y us ws h1 h2
  exact ⟨.of_defaults rfl (X _ _ hT) hs e1 e2, e3⟩
def tMakeS (C : Addr) (sp : Sp) (na nk : Nat) (gV : List V → List V → List V) (Ez : St → XK) (t tk : TA) : TE := fun σ H Q => t σ H fun vs H1 => tk σ H1 fun zs H2 => vs.length = na ∧ zs.length = nk ∧
  ∀ x dx, H2 x = none → H2 dx = none → dx ≠ x → sp (.ref x :: gV vs zs) (upd (upd H2 dx (.own x)) x (.ins C dx [])) (fun v H3 => v = .non ∧ Q (.ref x) H3) (Ez σ)
section
variable {X : Cx} {CX : CXT} {k : Nat} {f C : Addr} {fd : FuncData} {ps ks : List Str} {sp : Sp} {Ez : St → XK} {x : Str} {p pos : Pos} {e : Expr} {es : List Expr} {kws : List Keyword} {t tk : TA} {na : Nat} {g : List Value → List Value → List Value} {gV : List V → List V → List V}
theorem run_makeS {pins : List (Addr × Obj)} {σ : St} {H : Hp} {s : Shared} {Q : VK} {us ws : List Value} {vs zs : List V} (M : Mk X.K C f) (F : FnOk X.prog X.w X.K X.mg X.base CX k f fd ps sp) (hr : Room (k + 1) X.A) (hb : MkBinds X.K fd ps ks na g gV)
    (hx : PassesS CX X Ez) (I : Inv X pins σ H s) (r : Vals vs us) (rz : Vals zs ws) (hna : vs.length = na) (hnk : zs.length = ks.length)
    (h : ∀ x dx, H x = none → H dx = none → dx ≠ x → sp (.ref x :: gV vs zs) (upd (upd H dx (.own x)) x (.ins C dx [])) (fun v H2 => v = .non ∧ Q (.ref x) H2) (Ez σ)) :
    wpAny (model X.prog X.w) X.A (call (.ref C) us (ks.zip ws)) (EP X pins σ Q) X.xe s := by
  have hq := h (s.heap.objs.size + 1) s.heap.objs.size (I.hok.fresh (Nat.le_succ _)) (I.hok.fresh (Nat.le_refl _)) (Nat.ne_of_lt (Nat.lt_succ_self _))
  have I2 := Inv.made (C := C) I
  have r2 : Vals (V.ref (s.heap.objs.size + 1) :: gV vs zs) (Value.ref (s.heap.objs.size + 1) :: g us ws) := .cons rfl (hb.rel r rz)
  obtain ⟨hto, hl⟩ := hb.to { s with heap := (s.heap.push PySem.W.emptyDict).push (PySem.W.instObj C s.heap.objs.size) } (Value.ref (s.heap.objs.size + 1)) us ws I2.kIn (by rw [← r.length]; exact hna) (by rw [← rz.length]; exact hnk)
  refine wpAny_call (make_map (f := f) I.kIn M.makes M.init (beq_iff_eq.mp M.fn) (codeAny_mono (F.run _ X.stack _ _ ⟨Value.ref (s.heap.objs.size + 1) :: us, ks.zip ws⟩ (Value.ref (s.heap.objs.size + 1) :: g us ws) _ _ (Ez σ) (hr.make C us (ks.zip ws))
    (I2.env0.make C us (ks.zip ws)) hto r2 hq) fun r s' hq' => ?_))
  cases r with
  | error e => exact hx pins σ _ _ e s' I2 hq'
  | ok fl =>
    cases fl with
    | ret u =>
      obtain ⟨v, H', I3, rv, ev, q3⟩ := I2.after hq'
      subst ev
      exact ⟨rv, ⟨V.ref (s.heap.objs.size + 1), H', I3, rfl, q3⟩⟩
    | next => exact False.elim hq'
    | brk => exact False.elim hq'
    | cont => exact False.elim hq'
theorem pe_makeS (M : Mk X.K C f) (F : FnOk X.prog X.w X.K X.mg X.base CX k f fd ps sp) (hr : Room (k + 1) X.A) (hg : Gl X x) (hm : X.mg x = some (.ref C)) (hb : MkBinds X.K fd ps ks na g gV) (hx : PassesS CX X Ez)
    (ha : PA X (e :: es) t) (hkw : PK X kws tk) (hall : (backToKw pos (keywordEach kws X.env)).all (·.1.isSome) = true := by rfl) (hks : (backToKw pos (keywordEach kws X.env)).filterMap (·.1) = ks := by rfl)
    (hdb : (x == ("__debug__" : Str)) = false := by decide) (he : starEach (e :: es) X.env = (false, eval e X.env) :: starEach es X.env := by rfl)
    (hpl : ((backTo pos (starEach (e :: es) X.env)).any (·.1) || (backToKw pos (keywordEach kws X.env)).any (·.1.isNone)) = false := by rfl) :
    PE X (.Call (.Name x p) (e :: es) kws pos) (tMakeS C sp na ks.length gV Ez t tk) := by
  unfold PE at *; unfold PA at *; unfold PK at *
  exact by
    intro pins s σ H Q I h
    refine wpAny_Call_Name_kw (ld_glob I hg hm ?_ hdb)
    refine PySem.W.callWith_KW (h₀ := X.base) I.ok.mod.kin M.kp hall (thn (ha pos pins s σ H _ I h) fun us s1 ⟨vs, H1, I1, r, q⟩ => ?_) hpl he
    refine thn (hkw pos pins s1 σ H1 _ I1 q) fun ws s2 ⟨zs, H2, I2, rz, hna, hnk, q2⟩ => ⟨I2.kIn, ?_⟩
    rw [hks]
    exact run_makeS M F hr hb hx I2 r rz hna hnk q2

end
theorem free_of {X : Cx} {scope : Scope} (l : List Str) (h : (scope.names.all fun y => match y.2 with | .free => l.contains y.1 | _ => true) = true) (hl : ∀ x ∈ l, X.env.kindOf x = some .cell ∨ X.env.kindOf x = some .free) :
    ∀ y ∈ scope.names, y.2 = .free → (X.env.kindOf y.1 = some .cell ∨ X.env.kindOf y.1 = some .free) := fun y hy e => by
  have q := List.all_eq_true.mp h y hy
  rw [e] at q
  exact hl _ (List.contains_iff_mem.mp q)
/-- a statement, then what holds behind it, then the rest -/
def tCut (t u : TS) : TS := fun D σ H => ∃ Mid : St → Hp → Prop, t { D with nx := Mid } σ H ∧ ∀ σ' H', Mid σ' H' → u D σ' H'
theorem pss_cut {X : Cx} {st : Stmt} {rest : List Stmt} {t u : TS} (h1 : PS X st t) (h2 : PSs X rest u) : PSs X (st :: rest) (tCut t u) := by
  unfold PS at *; unfold PSs at *
  exact by
    intro pins s σ H D I h
    obtain ⟨Mid, h, hm⟩ := h
    refine wpAny_execs_cons (thn (h1 pins s σ H { D with nx := Mid } I h) fun f s1 q => ?_)
    cases f with
    | next =>
      obtain ⟨σ', H', I', q⟩ := q
      exact h2 pins s1 σ' H' D I' (hm σ' H' q)
    | ret v => exact q
    | brk => exact q
    | cont => exact q

theorem lenS {α : Type} {n : Nat} : ∀ {us : List α}, us.length = n + 1 → ∃ a r, us = a :: r ∧ r.length = n
  | a :: r, h => ⟨a, r, rfl, by simpa using h⟩
theorem len0 {α : Type} : ∀ {us : List α}, us.length = 0 → us = []
  | [], _ => rfl
theorem fm_nil {α : Type} {p : α → Prop} : ∀ x ∈ ([] : List α), p x := fun _ h => nomatch h
theorem fm_cons {α : Type} {p : α → Prop} {a : α} {l : List α} (h : p a) (r : ∀ x ∈ l, p x) : ∀ x ∈ a :: l, p x := fun x hx => by
  rcases List.mem_cons.mp hx with e | e
  · subst e; exact h
  · exact r x e
/-- a comprehension that captures names of the def -/
theorem cap_of {X : Cx} {scope : Scope} {N' : List Str} {js : List (Option Nat)} (hl : js.length = N'.length)
    (h : ∀ p ∈ js.zip N', ∀ j, p.1 = some j → X.N[j]? = some p.2 ∧ scope.names.lookup p.2 = some .free ∧ (X.env.kindOf p.2 = some .cell ∨ X.env.kindOf p.2 = some .free)) : Cap X scope N' js :=
  ⟨hl, fun i j x h1 h2 => h (some j, x) (List.mem_of_getElem? (i := i) (by rw [List.getElem?_zip_eq_some]; exact ⟨h1, h2⟩)) j rfl⟩
end L2

namespace L2
open PySem PySem.Spec PyProof.Rows

/-! ### int(text), text.find(text), digits -/
section
variable {X : Cx}
theorem call_int_text : CallR X (.type "int") (fun xs H Q => ∃ z n, xs = [.str z] ∧ PySem.intText? z = some n ∧ z.length ≤ 640 ∧ Q (.int n) H) := by
  unfold CallR at *
  exact by
    intro pins s σ H xs us Q I r h
    obtain ⟨z, n, rfl, hn, hz, q⟩ := h
    obtain ⟨u, rfl, t, rfl⟩ := vals1 r
    exact PySem.W.KIN.call_text hn hz ⟨.int n, H, I.tok _, ⟨_, rfl⟩, q⟩

theorem mt_find : MtR X "str.find" (fun x xs H Q => ∃ z y, x = .str z ∧ xs = [.str y] ∧ Q (.int (Txt.find z y)) H) := by
  unfold MtR at *
  exact by
    intro pins s σ H x xs v us Q I rx r h
    obtain ⟨z, y, rfl, rfl, q⟩ := h
    obtain ⟨t, rfl⟩ := rx
    obtain ⟨u, rfl, t', rfl⟩ := vals1 r
    exact SC.find ⟨.int _, H, I.tok _, ⟨_, rfl⟩, q⟩

end
theorem digits_mono : ∀ (m v : Nat), v ≤ m → (Nat.toDigits 10 v).length ≤ (Nat.toDigits 10 m).length := by
  intro m
  induction m using Nat.strongRecOn with
  | _ m ih =>
    intro v hv
    by_cases h : v < 10
    · rw [Nat.toDigits_of_lt_base h]
      exact toDigits_len_ge 10 m
    · have t : ∀ x : Nat, 10 ≤ x → (Nat.toDigits 10 x).length = (Nat.toDigits 10 (x / 10)).length + 1 := fun x hx => by
        have hm : x % 10 < 10 := Nat.mod_lt x (by decide)
        have t : Nat.toDigits 10 (x / 10) ++ Nat.toDigits 10 (x % 10) = Nat.toDigits 10 (10 * (x / 10) + x % 10) := Nat.toDigits_append_toDigits (by decide) (by omega) hm
        rw [Nat.div_add_mod] at t
        rw [← t, List.length_append, Nat.toDigits_of_lt_base hm]
        rfl
      rw [t v (by omega), t m (by omega)]
      have := ih (m / 10) (by omega) (v / 10) (by omega)
      omega
theorem num_len {m : Int} (h : 0 ≤ m) : (Str.ofString (toString m)).length = (Nat.toDigits 10 m.toNat).length := by
  obtain ⟨n, rfl⟩ := Int.eq_ofNat_of_zero_le h
  have e := congrArg List.length (PySem.W.KIN.signs_num n)
  rw [List.length_map] at e
  rw [Int.toNat_natCast, ← e]
  exact Array.length_toList.symm
/-- more figures than the most has: a greater number -/
theorem digits_more {cs : List Nat} {m : Nat} (hd : NumText.AllDigits cs) (hh : cs.length = 1 ∨ ∃ c r, cs = c :: r ∧ 49 ≤ c) (hl : (Nat.toDigits 10 m).length < cs.length) : m < NumText.digitsVal cs := by
  rcases Nat.lt_or_ge m (NumText.digitsVal cs) with h | h
  · exact h
  · exfalso
    have h1 := digits_mono _ _ h
    have hp : ∃ n, cs.length = n + 1 := by
      rcases hh with h | ⟨c, r, rfl, _⟩
      · exact ⟨0, h⟩
      · exact ⟨r.length, rfl⟩
    obtain ⟨n, hn⟩ := hp
    have e := congrArg List.length (NumText.toDigits_digitsVal n cs hn hd (hh.imp (fun z => by omega) id))
    rw [List.length_map] at e
    omega
end L2

namespace L2
open PySem PySem.Spec PyProof.Rows

/-! ### sorted of a list of ints -/
section
variable {X : Cx}
theorem ints_are : ∀ {ns : List Int} {us : List Value}, Vals (ns.map V.int) us → IntsAre us ns
  | [], _, .nil => .nil
  | _ :: _, _, .cons ⟨_, h⟩ r => by
    subst h
    exact .cons _ _ (ints_are r)
theorem ints_vals : ∀ {ns : List Int} {us : List Value}, IntsAre us ns → Vals (ns.map V.int) us
  | [], _, .nil => .nil
  | _ :: _, _, .cons _ _ r => .cons ⟨_, rfl⟩ (ints_vals r)
theorem call_sorted (hc : X.calm = true) : CallR X (.builtin "sorted") (fun xs H Q => ∃ (a : Addr) (ns : List Int), xs = [.ref a] ∧ SqL X.K H a (ns.map V.int) ∧ ns.length < 64 ∧
    ∀ (l : Addr) (ms : List Int), H l = none → ms.Perm ns → ms.Pairwise (· ≤ ·) → Q (.ref l) (upd H l (.lst (ms.map V.int)))) := by
  unfold CallR at *
  exact by
    intro pins s σ H xs us Q I r h
    obtain ⟨a, ns, rfl, hq, hl, q⟩ := h
    obtain ⟨u, rfl, rx⟩ := vals1 r
    cases rx
    obtain ⟨its, r', pl, hz⟩ := I.list hq
    have hlen := r'.length
    rw [List.length_map] at hlen
    refine sorted_ints pl.isList (ints_are r') (by omega) fun out ns' a1 a2 a3 => ?_
    obtain ⟨e, he⟩ := sortedAll_at s.heap its out
    have hn := a2.length_eq
    have h64 : 64 ≤ sizeLine := le_ble rfl
    exact ⟨.ref (s.heap.objs.size + 1), _, I.laid (t' := s.toks) (fun _ _ => sortedAll_old) (Nat.le_succ _) (show ObjOk X.prog X.w _ _ _ (.lst (ns'.map V.int)) from ⟨by rw [List.length_map]; omega, out.toList, e, ints_vals a1, he⟩), rfl, q _ _ (I.hok.fresh (Nat.le_succ _)) a2 a3⟩

end
/-- // by a large positive divisor -/
structure CDivB (i j : Int) : Prop where
  lo : 0 < j
  hi : j < 2 ^ 200
theorem op_fdivB {X : Cx} : OpR X (binaryOp .FloorDiv) (rI CDivB fun i j => .int (i / j)) := opI fun i j _ _ _ _ _ hc q => by
  have h1 : (0 : Int) < j := hc.lo
  have h2 : j < 2 ^ 200 := hc.hi
  refine floordiv_int (by omega) (by rw [Int.fdiv_eq_ediv_of_nonneg i (by omega)]; exact q) (.inl (PyProof.noPylong_of_log2 ?_))
  have h3 : j.natAbs < 2 ^ 200 := by omega
  have h4 := (Nat.log2_lt (n := j.natAbs) (k := 200) (by omega)).mpr h3
  omega
/-- a loop in a def whose exceptions are looked at -/
theorem own_def {P : Program} {w : World} {K : PySem.W.Frag} {mg : Str → Option Value} {base : Heap} {N : List Str} {qual : Str} {scope : Scope} {f : Addr} {cd : Value} {A : Around} {outer : List Env} {s₀ : Shared} {H₀ : Hp} {E : XK} {CX : CXT} :
    PassesOwn (model P w) (cxOf CX P w K mg base N qual scope f cd A outer s₀ H₀ E).A (cxOf CX P w K mg base N qual scope f cd A outer s₀ H₀ E).env (cxOf CX P w K mg base N qual scope f cd A outer s₀ H₀ E).xe := PassesOwn.leaving
theorem MtM.r {X : Cx} {id : String} {r : V → List V → Hp → VK → Prop} (h : MtM X id r) : MtR X id r := by
  first
  | exact (h)
  | (unfold MtR at *; unfold MtM at *; exact (h))

theorem bt_sorted : bootBuiltins "sorted" = some (.builtin "sorted") := by decide +kernel
end L2

namespace L2
open PySem PySem.Spec PyProof.Rows

/-- a comprehension's loop over a list -/
theorem loop_lst {K : PySem.W.Frag} {a l : Addr} {xs : List V} {g : TG} {tc : TT} {te : TE} {σ : St} {H : Hp} {Q : VK} (Pv : Nat → St → List V → Hp → Prop) (hsz : xs.length ≤ sizeLine) (h0 : Pv 0 σ [] H)
    (hl : ∀ i σ acc H, i ≤ xs.length → Pv i σ acc H → H l = some (.lst acc) ∧ SqL K H a xs ∧ acc.length ≤ i)
    (hs : ∀ i x σ acc H, xs[i]? = some x → Pv i σ acc H → g x σ H fun σ2 H2 => tc σ2 H2 fun b H3 => if b = true then
      te σ2 H3 fun v H4 => H4 l = some (.lst acc) ∧ Nx xs.length i (Pv (i + 1) σ2 (acc ++ [v]) (upd H4 l (.lst (acc ++ [v])))) else Nx xs.length i (Pv (i + 1) σ2 acc H3))
    (hd : ∀ σ acc H, Pv xs.length σ acc H → Q (.ref l) H) : tLoop (Itl K a) l g tc te σ H Q :=
  loop_by xs.length Pv hsz h0 (fun i σ acc H hi p => ⟨(hl i σ acc H hi p).1, (hl i σ acc H hi p).2.2⟩)
    (fun i σ acc H hi p => ⟨xs, xs[i], (hl i σ acc H (Nat.le_of_lt hi) p).2.1, List.getElem?_eq_getElem hi⟩)
    (fun i x σ acc H H' hi p y => by
      obtain ⟨e, y⟩ := y
      subst e
      exact hs i x σ acc _ (y xs (hl i σ acc _ (Nat.le_of_lt hi) p).2.1) p)
    (fun σ acc H p => ⟨⟨xs, (hl _ σ acc H (Nat.le_refl _) p).2.1, Nat.le_refl _⟩, hd σ acc H p⟩)

/-! ### lists within lists of ints, in the heap: read (AtR), owned (At: o tells each list's place), new (New) -/
def Tr : Nat → Type
  | 0 => Int
  | n + 1 => List (Tr n)
/-- as a list -/
abbrev ls {n : Nat} (ts : Tr (n + 1)) : List (Tr n) := ts
abbrev Ow := Addr → Option (List Nat)
def AtR (H : Hp) : (n : Nat) → V → Tr n → Prop
  | 0, v, i => v = .int i
  | n + 1, v, ts => ∃ a vs, v = .ref a ∧ H a = some (.lst vs) ∧ vs.length = (ls ts).length ∧ ∀ (j : Nat) w t, vs[j]? = some w → (ls ts)[j]? = some t → AtR H n w t
def At (o : Ow) (H : Hp) : (n : Nat) → List Nat → V → Tr n → Prop
  | 0, _, v, i => v = .int i
  | n + 1, p, v, ts => ∃ a vs, v = .ref a ∧ o a = some p ∧ H a = some (.lst vs) ∧ vs.length = (ls ts).length ∧ ∀ (j : Nat) w t, vs[j]? = some w → (ls ts)[j]? = some t → At o H n (j :: p) w t
theorem At.r {o : Ow} {H : Hp} : ∀ {n : Nat} {p : List Nat} {v : V} {t : Tr n}, At o H n p v t → AtR H n v t
  | 0, _, _, _, h => h
  | n + 1, _, _, _, ⟨a, vs, e, _, h, l, k⟩ => ⟨a, vs, e, h, l, fun j w t hw ht => (k j w t hw ht).r⟩
/-- whatever is a list stays -/
theorem AtR.keep {H H' : Hp} (s : ∀ a xs, H a = some (.lst xs) → H' a = some (.lst xs)) : ∀ {n : Nat} {v : V} {t : Tr n}, AtR H n v t → AtR H' n v t
  | 0, _, _, h => h
  | n + 1, _, _, ⟨a, vs, e, h, l, k⟩ => ⟨a, vs, e, s _ _ h, l, fun j w t hw ht => (k j w t hw ht).keep s⟩
theorem AtR.same {H H' : Hp} (s : Same H H') {n : Nat} {v : V} {t : Tr n} (h : AtR H n v t) : AtR H' n v t := h.keep fun a xs e => s a _ e
theorem At.frame {o o' : Ow} {H H' : Hp} : ∀ {n : Nat} {p : List Nat} {v : V} {t : Tr n}, At o H n p v t → (∀ a r xs, o a = some r → p <:+ r → H a = some (.lst xs) → H' a = some (.lst xs) ∧ o' a = some r) → At o' H' n p v t
  | 0, _, _, _, h, _ => h
  | n + 1, p, _, _, ⟨a, vs, e, ho, h, l, k⟩, f =>
    have q := f a p vs ho (List.suffix_refl p) h
    ⟨a, vs, e, q.2, q.1, l, fun j w t hw ht => (k j w t hw ht).frame fun b r xs hb hs hx => f b r xs hb ((List.suffix_cons j p).trans hs) hx⟩
/-- under another place -/
theorem At.under {o : Ow} {H : Hp} (q : List Nat) : ∀ {n : Nat} {p : List Nat} {v : V} {t : Tr n}, At o H n p v t → At (fun a => (o a).map (· ++ q)) H n (p ++ q) v t
  | 0, _, _, _, h => h
  | n + 1, p, _, _, ⟨a, vs, e, ho, h, l, k⟩ => ⟨a, vs, e, (by show (o a).map (· ++ q) = _; rw [ho]; rfl), h, l, fun j w t hw ht => (k j w t hw ht).under q⟩
theorem cons_not_suffix {j : Nat} {p : List Nat} : ¬ (j :: p) <:+ p := fun h => by
  have := h.length_le
  rw [List.length_cons] at this
  omega
theorem cons_ne_suffix {j i : Nat} {p r : List Nat} (h : (j :: p) <:+ r) (h' : (i :: p) <:+ r) : j = i := by
  have e1 : (j :: p) = r.drop (r.length - (j :: p).length) := List.suffix_iff_eq_drop.mp h
  have e2 : (i :: p) = r.drop (r.length - (i :: p).length) := List.suffix_iff_eq_drop.mp h'
  rw [List.length_cons] at e1 e2
  rw [← e2] at e1
  exact (List.cons.inj e1).1
/-- the list itself gets another item at its end -/
theorem At.app {o o' : Ow} {H H' : Hp} {n : Nat} {p : List Nat} {a : Addr} {ts : Tr (n + 1)} {vs : List V} {w : V} {t : Tr n} (h : At o H (n + 1) p (.ref a) ts) (hv : H a = some (.lst vs)) (hf : ∀ b r xs, o b = some r → b ≠ a → H b = some (.lst xs) → H' b = some (.lst xs))
    (ho : ∀ b r, o b = some r → o' b = some r) (e : H' a = some (.lst (vs ++ [w]))) (hw : At o' H' n ((ls ts).length :: p) w t) : At o' H' (n + 1) p (.ref a) (ls ts ++ [t] : List (Tr n)) := by
  obtain ⟨a', vs', ea, ho', h', l, k⟩ := h
  cases ea
  rw [hv] at h'
  cases h'
  refine ⟨a, _, rfl, ho _ _ ho', e, by show (vs ++ [w]).length = (ls ts ++ [t]).length; rw [List.length_append, List.length_append, l]; rfl, fun j x u hx hu => ?_⟩
  have hu : (ls ts ++ [t])[j]? = some u := hu
  rcases Nat.lt_trichotomy j vs.length with q | q | q
  · rw [List.getElem?_append_left q] at hx
    rw [List.getElem?_append_left (by omega)] at hu
    refine (k j x u hx hu).frame fun b r xs hb hs hx => ?_
    have hne : b ≠ a := fun z => by
      subst z
      rw [ho'] at hb
      cases hb
      exact cons_not_suffix hs
    exact ⟨hf b r xs hb hne hx, ho b r hb⟩
  · subst q
    rw [List.getElem?_append_right (Nat.le_refl _), Nat.sub_self] at hx
    rw [List.getElem?_append_right (by omega), show vs.length - (ls ts).length = 0 by omega] at hu
    cases hx
    cases hu
    rw [l]
    exact hw
  · rw [List.getElem?_append_right (by omega)] at hx
    have : [w].length ≤ j - vs.length := by rw [List.length_singleton]; omega
    rw [List.getElem?_eq_none this] at hx
    cases hx
/-- an item of it has changed, in its own place or by another one put there -/
theorem At.put {o o' : Ow} {H H' : Hp} {n : Nat} {p : List Nat} {a : Addr} {ts : Tr (n + 1)} {vs : List V} {i : Nat} {w : V} {t : Tr n} (h : At o H (n + 1) p (.ref a) ts) (hv : H a = some (.lst vs)) (hi : i < vs.length)
    (hf : ∀ b r xs, o b = some r → b ≠ a → ¬ (i :: p) <:+ r → H b = some (.lst xs) → H' b = some (.lst xs)) (ho : ∀ b r, o b = some r → ¬ (i :: p) <:+ r → o' b = some r)
    (e : H' a = some (.lst (vs.set i w))) (hw : At o' H' n (i :: p) w t) : At o' H' (n + 1) p (.ref a) ((ls ts).set i t : List (Tr n)) := by
  obtain ⟨a', vs', ea, ho', h', l, k⟩ := h
  cases ea
  rw [hv] at h'
  cases h'
  refine ⟨a, _, rfl, ho _ _ ho' cons_not_suffix, e, by show (vs.set i w).length = ((ls ts).set i t).length; rw [List.length_set, List.length_set, l], fun j x u hx hu => ?_⟩
  have hu : ((ls ts).set i t)[j]? = some u := hu
  by_cases q : i = j
  · subst q
    rw [List.getElem?_set_self (by omega)] at hx
    rw [List.getElem?_set_self (by omega)] at hu
    cases hx
    cases hu
    exact hw
  · rw [List.getElem?_set_ne q] at hx hu
    refine (k j x u hx hu).frame fun b r xs hb hs hx => ?_
    have hne : b ≠ a := fun z => by
      subst z
      rw [ho'] at hb
      cases hb
      exact cons_not_suffix hs
    have hni : ¬ (i :: p) <:+ r := fun z => q (cons_ne_suffix z hs)
    exact ⟨hf b r xs hb hne hni hx, ho b r hb hni⟩
theorem At.lst {o : Ow} {H : Hp} {n : Nat} {p : List Nat} {v : V} {ts : Tr (n + 1)} (h : At o H (n + 1) p v ts) : ∃ a vs, v = .ref a ∧ o a = some p ∧ H a = some (.lst vs) ∧ vs.length = (ls ts).length :=
  let ⟨a, vs, e, ho, h, l, _⟩ := h
  ⟨a, vs, e, ho, h, l⟩
theorem At.kid {o : Ow} {H : Hp} {n : Nat} {p : List Nat} {a : Addr} {ts : Tr (n + 1)} {vs : List V} {j : Nat} (h : At o H (n + 1) p (.ref a) ts) (hv : H a = some (.lst vs)) (hj : j < vs.length) : ∃ w t, vs[j]? = some w ∧ (ls ts)[j]? = some t ∧ At o H n (j :: p) w t := by
  obtain ⟨a', vs', ea, ho', h', l, k⟩ := h
  cases ea
  rw [hv] at h'
  cases h'
  have h1 : vs[j]? = some vs[j] := List.getElem?_eq_getElem hj
  have hj' : j < (ls ts).length := by omega
  have h2 : (ls ts)[j]? = some (ls ts)[j] := List.getElem?_eq_getElem hj'
  exact ⟨_, _, h1, h2, k j _ _ h1 h2⟩
theorem AtR.kid {H : Hp} {n : Nat} {a : Addr} {ts : Tr (n + 1)} {vs : List V} {j : Nat} (h : AtR H (n + 1) (.ref a) ts) (hv : H a = some (.lst vs)) (hj : j < vs.length) : ∃ w t, vs[j]? = some w ∧ (ls ts)[j]? = some t ∧ AtR H n w t := by
  obtain ⟨a', vs', ea, h', l, k⟩ := h
  cases ea
  rw [hv] at h'
  cases h'
  have h1 : vs[j]? = some vs[j] := List.getElem?_eq_getElem hj
  have hj' : j < (ls ts).length := by omega
  have h2 : (ls ts)[j]? = some (ls ts)[j] := List.getElem?_eq_getElem hj'
  exact ⟨_, _, h1, h2, k j _ _ h1 h2⟩
theorem AtR.lst {H : Hp} {n : Nat} {v : V} {ts : Tr (n + 1)} (h : AtR H (n + 1) v ts) : ∃ a vs, v = .ref a ∧ H a = some (.lst vs) ∧ vs.length = (ls ts).length :=
  let ⟨a, vs, e, h, l, _⟩ := h
  ⟨a, vs, e, h, l⟩
/-- made since H -/
def New (H H' : Hp) (n : Nat) (w : V) (t : Tr n) : Prop := ∃ o, At o H' n [] w t ∧ ∀ a r, o a = some r → H a = none ∧ H' a ≠ none
/-- the items of a list that grows at l -/
def NewL (H H' : Hp) (l : Addr) (n : Nat) (ws : List V) (ts : List (Tr n)) : Prop :=
  ws.length = ts.length ∧ ∃ o : Ow, (∀ (j : Nat) w t, ws[j]? = some w → ts[j]? = some t → At o H' n [j] w t) ∧ ∀ a r, o a = some r → H a = none ∧ H' a ≠ none ∧ a ≠ l ∧ r ≠ []
theorem New.r {H H' : Hp} {n : Nat} {w : V} {t : Tr n} (h : New H H' n w t) : AtR H' n w t := let ⟨_, h, _⟩ := h; h.r
theorem NewL.nil {H H' : Hp} {l : Addr} {n : Nat} : NewL H H' l n [] [] := ⟨rfl, fun _ => none, fun j w t h => (by rw [List.getElem?_nil] at h; cases h), fun a r h => nomatch h⟩
theorem NewL.frame {H H' H'' : Hp} {l : Addr} {n : Nat} {ws : List V} {ts : List (Tr n)} (h : NewL H H' l n ws ts) (f : ∀ a xs, a ≠ l → H a = none → H' a = some (.lst xs) → H'' a = some (.lst xs)) (g : ∀ a, H' a ≠ none → H'' a ≠ none) : NewL H H'' l n ws ts := by
  obtain ⟨e, o, k, d⟩ := h
  exact ⟨e, o, fun j w t hw ht => (k j w t hw ht).frame fun a r xs ho _ hx => ⟨f a xs (d a r ho).2.2.1 (d a r ho).1 hx, ho⟩, fun a r ho => ⟨(d a r ho).1, g a (d a r ho).2.1, (d a r ho).2.2⟩⟩
theorem New.frame {H H' H'' : Hp} {n : Nat} {w : V} {t : Tr n} (h : New H H' n w t) (f : ∀ a xs, H a = none → H' a = some (.lst xs) → H'' a = some (.lst xs)) (g : ∀ a, H' a ≠ none → H'' a ≠ none) : New H H'' n w t := by
  obtain ⟨o, k, d⟩ := h
  exact ⟨o, k.frame fun a r xs ho _ hx => ⟨f a xs (d a r ho).1 hx, ho⟩, fun a r ho => ⟨(d a r ho).1, g a (d a r ho).2⟩⟩
theorem New.same {H H' H'' : Hp} {n : Nat} {w : V} {t : Tr n} (h : New H H' n w t) (s : Same H' H'') : New H H'' n w t := h.frame (fun a xs _ e => s a _ e) fun a e => by
  cases q : H' a with
  | none => exact absurd q e
  | some u => rw [s a u q]; intro z; cases z
theorem New.older {H0 H H' : Hp} {n : Nat} {w : V} {t : Tr n} (h : New H H' n w t) (s : Same H0 H) : New H0 H' n w t := by
  obtain ⟨o, k, d⟩ := h
  exact ⟨o, k, fun a r ho => ⟨s.free (d a r ho).1, (d a r ho).2⟩⟩
theorem New.int {H H' : Hp} {i : Int} : New H H' 0 (.int i) i := ⟨fun _ => none, rfl, fun a r h => nomatch h⟩
/-- one item more: made since H' -/
theorem NewL.snoc {H H' H'' : Hp} {l : Addr} {n : Nat} {ws : List V} {ts : List (Tr n)} {w : V} {t : Tr n} (h : NewL H H' l n ws ts) (hl : H' l ≠ none) (fr : ∀ a, H' a = none → H a = none) (f : ∀ a xs, a ≠ l → H a = none → H' a = some (.lst xs) → H'' a = some (.lst xs)) (g : ∀ a, H' a ≠ none → H'' a ≠ none)
    (hn : New H' H'' n w t) : NewL H H'' l n (ws ++ [w]) (ts ++ [t]) := by
  obtain ⟨e, o, k, d⟩ := h
  obtain ⟨o2, k2, d2⟩ := hn
  have old : ∀ a r, o a = some r → o2 a = none := fun a r ho => by
    cases q : o2 a with
    | none => rfl
    | some r2 => exact absurd (d2 a r2 q).1 (d a r ho).2.1
  refine ⟨by rw [List.length_append, List.length_append, e]; rfl, fun a => match o2 a with | some r => some (r ++ [ws.length]) | none => o a, fun j x u hx hu => ?_, fun a r hr => ?_⟩
  · rcases Nat.lt_trichotomy j ws.length with q | q | q
    · rw [List.getElem?_append_left q] at hx
      rw [List.getElem?_append_left (by omega)] at hu
      refine (k j x u hx hu).frame fun a r xs ho _ hx => ⟨f a xs (d a r ho).2.2.1 (d a r ho).1 hx, ?_⟩
      show (match o2 a with | some r => some (r ++ [ws.length]) | none => o a) = some r
      rw [old a r ho]
      exact ho
    · subst q
      rw [List.getElem?_append_right (Nat.le_refl _), Nat.sub_self] at hx
      rw [List.getElem?_append_right (by omega), show ws.length - ts.length = 0 by omega] at hu
      cases hx
      cases hu
      refine (k2.under [ws.length]).frame fun a r xs ho _ hx => ⟨hx, ?_⟩
      show (match o2 a with | some r => some (r ++ [ws.length]) | none => o a) = some r
      cases q : o2 a with
      | none => rw [q] at ho; cases ho
      | some r2 => rw [q] at ho; exact ho
    · rw [List.getElem?_append_right (by omega)] at hx
      have : [w].length ≤ j - ws.length := by rw [List.length_singleton]; omega
      rw [List.getElem?_eq_none this] at hx
      cases hx
  · have hr : (match o2 a with | some r => some (r ++ [ws.length]) | none => o a) = some r := hr
    cases q : o2 a with
    | none =>
      rw [q] at hr
      exact ⟨(d a r hr).1, g a (d a r hr).2.1, (d a r hr).2.2⟩
    | some r2 =>
      rw [q] at hr
      cases hr
      refine ⟨fr a (d2 a r2 q).1, (d2 a r2 q).2, fun z => ?_, fun z => ?_⟩
      · subst z
        exact hl (d2 a r2 q).1
      · have := congrArg List.length z
        rw [List.length_append] at this
        simp at this
theorem NewL.done {H H' : Hp} {l : Addr} {n : Nat} {ws : List V} {ts : List (Tr n)} (h : NewL H H' l n ws ts) (hl : H l = none) (e : H' l = some (.lst ws)) : New H H' (n + 1) (.ref l) ts := by
  obtain ⟨el, o, k, d⟩ := h
  have nl : o l = none := by
    cases q : o l with
    | none => rfl
    | some r => exact absurd rfl (d l r q).2.2.1
  refine ⟨fun a => if a = l then some [] else o a, ⟨l, ws, rfl, if_pos rfl, e, el, fun j w t hw ht => (k j w t hw ht).frame fun a r xs ho _ hx => ⟨hx, ?_⟩⟩, fun a r hr => ?_⟩
  · show (if a = l then some [] else o a) = some r
    rw [if_neg (d a r ho).2.2.1]
    exact ho
  · have hr : (if a = l then some [] else o a) = some r := hr
    by_cases q : a = l
    · subst q
      exact ⟨hl, by rw [e]; intro z; cases z⟩
    · rw [if_neg q] at hr
      exact ⟨(d a r hr).1, (d a r hr).2.1⟩
/-- all ints in it -/
def flat : (n : Nat) → Tr n → List Int
  | 0, i => [i]
  | n + 1, ts => (ls ts).flatMap (flat n)
/-- no list in it is empty -/
def full : (n : Nat) → Tr n → Prop
  | 0, _ => True
  | n + 1, ts => ls ts ≠ [] ∧ ∀ t ∈ ls ts, full n t
/-- its last lists rise -/
def asc : (n : Nat) → Tr n → Prop
  | 0, _ => True
  | 1, f => List.Pairwise (α := Int) (· < ·) f
  | n + 2, ts => ∀ t ∈ ls ts, asc (n + 1) t
theorem flat_ints (f : Tr 1) : flat 1 f = (f : List Int) := by
  show List.flatMap (fun i => [i]) (f : List Int) = f
  exact List.flatMap_singleton' f
theorem flat_app (n : Nat) (ts us : List (Tr n)) : flat (n + 1) (ts ++ us : List (Tr n)) = flat (n + 1) ts ++ flat (n + 1) us := List.flatMap_append
theorem flat_set (n : Nat) : ∀ (ts : List (Tr n)) (i : Nat) (t t' : Tr n) (s : Int), ts[i]? = some t → (flat n t').Perm (flat n t ++ [s]) → (flat (n + 1) (ts.set i t' : List (Tr n))).Perm (flat (n + 1) ts ++ [s])
  | x :: r, 0, t, t', s, h, p => by
    cases h
    show (flat n t' ++ r.flatMap (flat n)).Perm ((flat n x ++ r.flatMap (flat n)) ++ [s])
    refine (p.append_right _).trans ?_
    rw [List.append_assoc, List.append_assoc]
    exact List.Perm.append_left _ List.perm_append_comm
  | x :: r, i + 1, t, t', s, h, p => by
    have := flat_set n r i t t' s h p
    show (flat n x ++ (r.set i t').flatMap (flat n)).Perm ((flat n x ++ r.flatMap (flat n)) ++ [s])
    rw [List.append_assoc]
    exact List.Perm.append_left _ this
theorem full_set {n : Nat} {ts : List (Tr n)} {i : Nat} {t : Tr n} (h : full (n + 1) ts) (ht : full n t) : full (n + 1) (ts.set i t : List (Tr n)) := by
  refine ⟨fun z => h.1 (List.length_eq_zero_iff.mp (by have := congrArg List.length z; rw [List.length_set] at this; exact this)), fun x hx => ?_⟩
  rcases List.mem_or_eq_of_mem_set hx with q | q
  · exact h.2 x q
  · rw [q]; exact ht
theorem full_app {n : Nat} {ts : List (Tr n)} {t : Tr n} (h : full (n + 1) ts) (ht : full n t) : full (n + 1) (ts ++ [t] : List (Tr n)) := by
  refine ⟨List.append_ne_nil_of_right_ne_nil _ (List.cons_ne_nil _ _), fun x hx => ?_⟩
  rcases List.mem_append.mp hx with q | q
  · exact h.2 x q
  · rw [List.mem_singleton.mp q]; exact ht
theorem asc_set {n : Nat} {ts : List (Tr (n + 1))} {i : Nat} {t : Tr (n + 1)} (h : asc (n + 2) ts) (ht : asc (n + 1) t) : asc (n + 2) (ts.set i t : List (Tr (n + 1))) := fun x hx => by
  rcases List.mem_or_eq_of_mem_set hx with q | q
  · exact h x q
  · rw [q]; exact ht
theorem asc_app {n : Nat} {ts : List (Tr (n + 1))} {t : Tr (n + 1)} (h : asc (n + 2) ts) (ht : asc (n + 1) t) : asc (n + 2) (ts ++ [t] : List (Tr (n + 1))) := fun x hx => by
  rcases List.mem_append.mp hx with q | q
  · exact h x q
  · rw [List.mem_singleton.mp q]; exact ht
theorem rIsiA.ty {K : PySem.W.Frag} {H : Hp} {x : V} {n c : String} {b : Bool} {Q : VK} (t : TyOf K H x (.type n)) (k : PySem.W.kitOne K (.type n) (.type c) = some b) (q : Q (.bl b) H) : rIsiA K [x, .ty c] H Q := .inl ⟨x, .ty c, _, _, _, rfl, .ty c, t, k, q⟩
theorem AtR.ints {H : Hp} {a : Addr} {ns : List Int} (h : AtR H 1 (.ref a) ns) : H a = some (.lst (ns.map V.int)) := by
  obtain ⟨a', vs, e, hv, l, k⟩ := h
  cases e
  have l : vs.length = ns.length := l
  have k : ∀ (j : Nat) w (t : Int), vs[j]? = some w → ns[j]? = some t → w = .int t := k
  have ev : vs = ns.map V.int := by
    refine List.ext_getElem? fun j => ?_
    rcases Nat.lt_or_ge j vs.length with q | q
    · have hj : j < ns.length := by omega
      have h1 : vs[j]? = some vs[j] := List.getElem?_eq_getElem q
      have h2 : ns[j]? = some ns[j] := List.getElem?_eq_getElem hj
      rw [h1, List.getElem?_map, h2, k j _ _ h1 h2]
      rfl
    · rw [List.getElem?_eq_none q, List.getElem?_eq_none (by rw [List.length_map]; omega)]
  rw [hv, ev]
theorem New.ints {H H' : Hp} {l : Addr} {ns : List Int} (hl : H l = none) (h : H' l = some (.lst (ns.map V.int))) : New H H' 1 (.ref l) ns :=
  ⟨fun a => if a = l then some [] else none, ⟨l, _, rfl, if_pos rfl, h, List.length_map .., fun j w t hw ht => by
    have ht : ns[j]? = some t := ht
    rw [List.getElem?_map, ht] at hw
    cases hw
    rfl⟩, fun a r hr => by
    have hr : (if a = l then some [] else none) = some r := hr
    by_cases q : a = l
    · subst q
      exact ⟨hl, by rw [h]; intro z; cases z⟩
    · rw [if_neg q] at hr
      cases hr⟩
theorem flat_split {n : Nat} {ts : List (Tr n)} {i : Nat} {t : Tr n} (h : ts[i]? = some t) : flat (n + 1) ts = flat (n + 1) (ts.take i : List (Tr n)) ++ (flat n t ++ flat (n + 1) (ts.drop (i + 1) : List (Tr n))) := by
  have e : ts = ts.take i ++ t :: ts.drop (i + 1) := by
    obtain ⟨hi, rfl⟩ := List.getElem?_eq_some_iff.mp h
    rw [List.getElem_cons_drop hi, List.take_append_drop]
  have e2 := congrArg (fun z : List (Tr n) => flat (n + 1) z) e
  refine Eq.trans e2 ?_
  show flat (n + 1) (ts.take i ++ t :: ts.drop (i + 1) : List (Tr n)) = _
  rw [flat_app]
  rfl
theorem flat_take {n : Nat} {ts : List (Tr n)} {i : Nat} {t : Tr n} (h : ts[i]? = some t) : flat (n + 1) (ts.take (i + 1) : List (Tr n)) = flat (n + 1) (ts.take i : List (Tr n)) ++ flat n t := by
  have e : ts.take (i + 1) = ts.take i ++ [t] := by rw [List.take_succ, h]; rfl
  rw [e, flat_app]
  show _ ++ (flat n t ++ []) = _
  rw [List.append_nil]
theorem flat_mem {n : Nat} {ts : List (Tr n)} {t : Tr n} {s : Int} (h : t ∈ ts) (hs : s ∈ flat n t) : s ∈ flat (n + 1) ts := List.mem_flatMap.mpr ⟨t, h, hs⟩
theorem flat_nd {n : Nat} {ts : List (Tr n)} {i : Nat} {t : Tr n} (h : ts[i]? = some t) (nd : (flat (n + 1) ts).Nodup) : (flat n t).Nodup ∧ ∀ s ∈ flat n t, s ∉ flat (n + 1) (ts.take i : List (Tr n)) := by
  rw [flat_split h, List.nodup_append, List.nodup_append] at nd
  exact ⟨nd.2.1.1, fun s hs z => nd.2.2 s z s (List.mem_append_left _ hs) rfl⟩
theorem flat_len {n : Nat} {ts : List (Tr n)} {i : Nat} {t : Tr n} (h : ts[i]? = some t) : (flat (n + 1) (ts.take i : List (Tr n))).length + (flat n t).length ≤ (flat (n + 1) ts).length := by
  rw [flat_split h, List.length_append, List.length_append]
  omega
/-- what is owned is there -/
def Dom (o : Ow) (H : Hp) : Prop := ∀ b r, o b = some r → H b ≠ none
/-- o, and what was made from H to H1 -/
structure Ext (o o' : Ow) (H H1 : Hp) : Prop where
  old : ∀ b, H b ≠ none → o' b = o b
  new : ∀ b r, o' b = some r → H b = none → H1 b ≠ none
def ovr (H : Hp) (o oN : Ow) (q : List Nat) : Ow := fun b => match H b with | none => (oN b).map (· ++ q) | some _ => o b
theorem New.put {o : Ow} {H H1 : Hp} {n : Nat} {w : V} {t : Tr n} (nw : New H H1 n w t) (q : List Nat) : ∃ o', Ext o o' H H1 ∧ ∀ H2, (∀ b xs, H b = none → H1 b = some (.lst xs) → H2 b = some (.lst xs)) → At o' H2 n q w t := by
  obtain ⟨oN, k, d⟩ := nw
  refine ⟨ovr H o oN q, ⟨fun b hb => ?_, fun b r hr hb => ?_⟩, fun H2 f => ?_⟩
  · unfold ovr
    cases e : H b with
    | none => exact absurd e hb
    | some u => rfl
  · unfold ovr at hr
    rw [hb] at hr
    cases e : oN b with
    | none =>
      have hr : (oN b).map (· ++ q) = some r := hr
      rw [e] at hr
      cases hr
    | some r' => exact (d b r' e).2
  · refine (k.under q).frame fun b r xs hr _ hx => ?_
    have hr : (oN b).map (· ++ q) = some r := hr
    cases e : oN b with
    | none => rw [e] at hr; cases hr
    | some r' =>
      refine ⟨f b xs (d b r' e).1 hx, ?_⟩
      unfold ovr
      rw [(d b r' e).1]
      exact hr
theorem Ext.dom {o o' : Ow} {H H1 : Hp} (x : Ext o o' H H1) (d : Dom o H) : ∀ b r, o b = some r → o' b = some r := fun b r h => by rw [x.old b (d b r h)]; exact h
theorem some_ne {α : Type} {o : Option α} {x : α} (h : o = some x) : o ≠ none := by rw [h]; intro z; cases z
/-- a.append(w), w new -/
theorem At.appN {o : Ow} {H H1 : Hp} {n : Nat} {p : List Nat} {a : Addr} {ts : Tr (n + 1)} {vs : List V} {w : V} {t : Tr n} (h : At o H (n + 1) p (.ref a) ts) (dm : Dom o H) (hv : H a = some (.lst vs)) (s : Same H H1) (nw : New H H1 n w t) :
    ∃ o', Ext o o' H H1 ∧ At o' (upd H1 a (.lst (vs ++ [w]))) (n + 1) p (.ref a) (ls ts ++ [t] : List (Tr n)) := by
  obtain ⟨o', x, k⟩ := nw.put (o := o) ((ls ts).length :: p)
  refine ⟨o', x, h.app hv (fun b r xs hb nb hx => by rw [upd_ne nb]; exact s b _ hx) (x.dom dm) upd_same (k _ fun b xs hb hx => ?_)⟩
  rw [upd_ne (fun z => by rw [z, hv] at hb; cases hb)]
  exact hx
/-- a[i] = w, w new -/
theorem At.setN {o : Ow} {H H1 : Hp} {n : Nat} {p : List Nat} {a : Addr} {ts : Tr (n + 1)} {vs : List V} {i : Nat} {w : V} {t : Tr n} (h : At o H (n + 1) p (.ref a) ts) (dm : Dom o H) (hv : H a = some (.lst vs)) (hi : i < vs.length) (s : Same H H1) (nw : New H H1 n w t) :
    ∃ o', Ext o o' H H1 ∧ At o' (upd H1 a (.lst (vs.set i w))) (n + 1) p (.ref a) ((ls ts).set i t : List (Tr n)) := by
  obtain ⟨o', x, k⟩ := nw.put (o := o) (i :: p)
  refine ⟨o', x, h.put hv hi (fun b r xs hb nb _ hx => by rw [upd_ne nb]; exact s b _ hx) (fun b r hb _ => x.dom dm b r hb) upd_same (k _ fun b xs hb hx => ?_)⟩
  rw [upd_ne (fun z => by rw [z, hv] at hb; cases hb)]
  exact hx
/-- the list above one that was changed at c -/
theorem At.up {o o' : Ow} {H H1 : Hp} {n : Nat} {p pc : List Nat} {a c : Addr} {ts : Tr (n + 1)} {vs ys : List V} {i : Nat} {w : V} {t : Tr n} (h : At o H (n + 1) p (.ref a) ts) (dm : Dom o H) (hv : H a = some (.lst vs)) (hw : vs[i]? = some w) (s : Same H H1) (x : Ext o o' H H1)
    (hc : o c = some pc) (hp : (i :: p) <:+ pc) (k : At o' (upd H1 c (.lst ys)) n (i :: p) w t) : At o' (upd H1 c (.lst ys)) (n + 1) p (.ref a) ((ls ts).set i t : List (Tr n)) := by
  have hi : i < vs.length := (List.getElem?_eq_some_iff.mp hw).1
  have oa : o a = some p := by
    obtain ⟨a', _, e, oa, _⟩ := h
    cases e
    exact oa
  have nac : a ≠ c := fun z => by
    rw [z, hc] at oa
    cases oa
    exact cons_not_suffix hp
  have es : vs.set i w = vs := by
    obtain ⟨hi, rfl⟩ := List.getElem?_eq_some_iff.mp hw
    exact List.set_getElem_self hi
  refine h.put hv hi (fun b r xs hb _ hs hx => ?_) (fun b r hb _ => x.dom dm b r hb) (by rw [upd_ne nac, es]; exact s a _ hv) k
  rw [upd_ne (fun z => by rw [z, hc] at hb; cases hb; exact hs hp)]
  exact s b _ hx
theorem Ext.after {o o' : Ow} {H H1 : Hp} {c : Addr} {u : HO} (x : Ext o o' H H1) (dm : Dom o H) (s : Same H H1) : Dom o' (upd H1 c u) := fun b r hr => by
  by_cases q : b = c
  · rw [q, upd_same]; intro z; cases z
  · rw [upd_ne q]
    cases e : H b with
    | none => exact x.new b r hr e
    | some v => rw [s b v e]; intro z; cases z
end L2

namespace L2
open PySem PySem.Spec PyProof.Rows

/-! ### zip of two lists; t + u where t may be empty -/
/-- zip of the lists at a and b -/
def Itz (K : PySem.W.Frag) (a b : Addr) : It :=
  ⟨fun i H => ∃ xs ys x y, SqL K H a xs ∧ SqL K H b ys ∧ xs[i]? = some x ∧ ys[i]? = some y,
   fun i H v H' => ∃ T x y, v = .ref T ∧ H T = none ∧ H' = upd H T (.tup [x, y]) ∧ (∀ xs, SqL K H a xs → xs[i]? = some x) ∧ ∀ ys, SqL K H b ys → ys[i]? = some y,
   fun i H => ∃ xs ys, SqL K H a xs ∧ SqL K H b ys ∧ min xs.length ys.length = i⟩
theorem turn_zip {P : Program} {w : World} {K : PySem.W.Frag} {es : List Expr} {k : Nat} {pos : Pos} (a b z TI TO i1 i2 : Addr) (D : ZipApart z TI TO i1 i2 a b) :
    Turn P w K (.Tuple es k pos) (Itz K a b) [z, TI, TO, i1, i2] z (fun i h => IsZip h z TI TO .none ∧ IsPair h TI (.ref i1) (.ref i2) ∧ (∃ x y, IsPair h TO x y) ∧ h.IsListIter i1 a i ∧ h.IsListIter i2 b i) where
  mem := by simp
  obj := fun i h st c hc => by
    obtain ⟨hz, hTI, ⟨x, y, hTO⟩, ⟨o1, ho1, hc1, hd1⟩, o2, ho2, hc2, hd2⟩ := st
    simp only [List.mem_cons, List.not_mem_nil, or_false] at hc
    rcases hc with rfl | rfl | rfl | rfl | rfl
    · exact ⟨_, hz, fun v z => by cases z⟩
    · exact ⟨_, hTI, fun v z => by cases z⟩
    · exact ⟨_, hTO, fun v z => by cases z⟩
    · exact ⟨o1, ho1, fun v z => by rw [hd1] at z; cases z⟩
    · exact ⟨o2, ho2, fun v z => by rw [hd2] at z; cases z⟩
  keep := fun i h h' st k => by
    obtain ⟨hz, hTI, ⟨x, y, hTO⟩, h1, h2⟩ := st
    exact ⟨k z (by simp) _ hz, k TI (by simp) _ hTI, ⟨x, y, k TO (by simp) _ hTO⟩, h1.at fun o e => k i1 (by simp) o e, h2.at fun o e => k i2 (by simp) o e⟩
  item := by
    intro X hP hw hK hc i pins s σ H E I hf st hg
    subst hP hw hK
    obtain ⟨xs, ys, x, y, hq1, hq2, hx, hy⟩ := hg
    obtain ⟨its1, rv1, p1, _⟩ := I.list hq1
    obtain ⟨its2, rv2, p2, _⟩ := I.list hq2
    obtain ⟨u1, hu1, ru1⟩ := rv1.get hx
    obtain ⟨u2, hu2, ru2⟩ := rv2.get hy
    obtain ⟨hz, hTI, hTO, h1, h2⟩ := st
    have hlt : i < min its1.toArray.size its2.toArray.size := by
      obtain ⟨l1, _⟩ := List.getElem?_eq_some_iff.mp hu1
      obtain ⟨l2, _⟩ := List.getElem?_eq_some_iff.mp hu2
      simp only [List.size_toArray]
      omega
    have W := WalksT.zip2 (prog := X.prog) (w := X.w) (I.ok.hd hc) z TI TO i1 i2 a b D its1.toArray its2.toArray
    refine W.item i s _ _ hlt ⟨hz, hTI, hTO, h1, h2, p1.isList, p2.isList⟩ fun T vals h1 tk hp hT hIs hm hk => ?_
    obtain ⟨v1, v2, e1, e2, rfl⟩ := hp
    have ey1 : v1 = u1 := by
      have : its1.toArray[i]? = some u1 := by simpa using hu1
      rw [this] at e1
      exact (Option.some.inj e1).symm
    have ey2 : v2 = u2 := by
      have : its2.toArray[i]? = some u2 := by simpa using hu2
      rw [this] at e2
      exact (Option.some.inj e2).symm
    subst ey1 ey2
    refine ⟨_, rfl, W.go es k pos i T _ _ _ hm fun h2 st2 hk2 => ?_⟩
    have hTn : H T = none := I.hok.fresh hT
    have hap := W.apart i T h1 hm
    have hwf : ∀ c ∈ [z, TO, i1, i2], FpOk X pins H c := fun c hc => hf c (by simp only [List.mem_cons, List.not_mem_nil, or_false] at hc ⊢; rcases hc with q | q | q | q <;> simp [q])
    have I1 : Inv X pins σ H { s with heap := h2, toks := tk } := I.turns (t' := tk) (fun c o hc e => hk2 c o hc (hk c o hc e)) hwf
    have hT2 : h2.IsTuple T #[v1, v2] := by
      obtain ⟨o, ho, r⟩ := hIs
      exact ⟨o, hk2 T o hap ho, r⟩
    have hs0 : X.s₀.heap.objs.size ≤ T := Nat.le_trans I.sz hT
    have nTI : T ≠ TI := fun q => by
      subst q
      exact absurd (Nat.lt_of_lt_of_le (Heap.lt_size hTI) hT) (Nat.lt_irrefl _)
    have fT : ∀ c ∈ [z, TI, TO, i1, i2], upd H T (.tup [x, y]) c = none := fun c hc => by
      rw [upd_ne (fun q => ?_)]
      · exact (hf c hc).1
      · simp only [List.mem_cons, List.not_mem_nil, or_false] at hc
        rcases hc with rfl | rfl | rfl | rfl | rfl
        · exact hap (by simp [← q])
        · exact nTI q.symm
        · exact hap (by simp [← q])
        · exact hap (by simp [← q])
        · exact hap (by simp [← q])
    have I2 : Inv X pins σ (upd H T (.tup [x, y])) { s with heap := h2, toks := tk } := by
      refine I1.adopt hTn (Heap.get?_none_of_le hs0) (Nat.ne_of_gt (Nat.lt_of_lt_of_le I.lt hT)) (fun z c e q => ?_) (fun p hp q => ?_) ⟨le_ble rfl, [v1, v2], .cons ru1 (.cons ru2 .nil), hT2⟩
      · obtain ⟨v, q1⟩ := I.cell z c e
        exact absurd (Nat.lt_of_lt_of_le q1.lt (by rw [q]; exact hT)) (Nat.lt_irrefl _)
      · exact absurd (Nat.lt_of_lt_of_le (Heap.lt_size (I.pin p hp).1) (by rw [q]; exact hT)) (Nat.lt_irrefl _)
    exact ⟨.ref T, _, I2, rfl, ⟨T, x, y, rfl, hTn, rfl, fun us hu => by rw [I.list_inj hu hq1]; exact hx, fun us hu => by rw [I.list_inj hu hq2]; exact hy⟩, ⟨st2.1, st2.2.1, st2.2.2.1, st2.2.2.2.1, st2.2.2.2.2.1⟩, fT⟩
  done := by
    intro X hP hw hK hc i pins s σ H E I hf st hg
    subst hP hw hK
    obtain ⟨xs, ys, hq1, hq2, hm⟩ := hg
    obtain ⟨its1, rv1, p1, _⟩ := I.list hq1
    obtain ⟨its2, rv2, p2, _⟩ := I.list hq2
    obtain ⟨hz, hTI, hTO, h1, h2⟩ := st
    have W := WalksT.zip2 (prog := X.prog) (w := X.w) (I.ok.hd hc) z TI TO i1 i2 a b D its1.toArray its2.toArray
    have en : min its1.toArray.size its2.toArray.size = i := by
      simp only [List.size_toArray]
      rw [← rv1.length, ← rv2.length]
      exact hm
    refine W.done s _ _ (by rw [en]; exact ⟨hz, hTI, hTO, h1, h2, p1.isList, p2.isList⟩) fun h' tk hk => ⟨rfl, ?_⟩
    exact I.turns (t' := tk) (wr := [z, TO, i1, i2]) hk fun c hc => hf c (by simp only [List.mem_cons, List.not_mem_nil, or_false] at hc ⊢; rcases hc with q | q | q | q <;> simp [q])
  self := fun A i s Q E st h => wpAny_pyIter_zip st.1 h
theorem bt_zip : bootBuiltins "zip" = some (.type "zip") := by decide +kernel
def iZip (K : PySem.W.Frag) (ta : TA) : TI := fun σ H R => ta σ H fun vs H1 => ∃ a b, vs = [.ref a, .ref b] ∧ (∃ xs, SqL K H1 a xs) ∧ (∃ ys, SqL K H1 b ys) ∧ R (Itz K a b) H1
theorem pi_zip {X : Cx} {es : List Expr} {k : Nat} {tpos p pos : Pos} {a b : Expr} {ta : TA} (hg : Gl X "zip") (hm : X.mg "zip" = none) (ha : PA X [a, b] ta)
    (hs : starEach [a, b] X.env = [(false, eval a X.env), (false, eval b X.env)] := by rfl) (hs2 : starEach [b] X.env = [(false, eval b X.env)] := by rfl) : PI X (.Tuple es k tpos) (.Call (.Name "zip" p) [a, b] [] pos) (iZip X.K ta) := by
  unfold PA at *; unfold PI at *
  exact by
    intro pins s σ H R I h
    refine wpAny_Call_Name_kw (ld_blt I hg hm bt_zip ?_ (by decide) (by decide))
    refine PyProof.Rows.callWith_type1 (thn (ha pos pins s σ H _ I h) fun us s1 ⟨vs, H1, I1, r, q⟩ => ?_) (by rw [hs, hs2]) (by rw [hs2]; rfl)
    obtain ⟨c, d, rfl, ⟨xs, hq1⟩, ⟨ys, hq2⟩, q⟩ := q
    obtain ⟨u1, u2, rfl, ru1, ru2⟩ : ∃ u1 u2, us = [u1, u2] ∧ RelV (.ref c) u1 ∧ RelV (.ref d) u2 := by
      cases r with
      | cons h1 r => cases r with
        | cons h2 r => cases r; exact ⟨_, _, rfl, h1, h2⟩
    cases ru1
    cases ru2
    obtain ⟨its1, rv1, p1, _⟩ := I1.list hq1
    obtain ⟨its2, rv2, p2, _⟩ := I1.list hq2
    refine call_zip_2 p1.isList p2.isList fun h' hz hTI hTO hi1 hi2 hsz hk => ?_
    refine wpAny_pyIter_zip hz ?_
    have l1 : c < s1.heap.objs.size := by obtain ⟨o, ho, _⟩ := p1.isList; exact Heap.lt_size ho
    have l2 : d < s1.heap.objs.size := by obtain ⟨o, ho, _⟩ := p2.isList; exact Heap.lt_size ho
    have I2 : Inv X pins σ H1 { s1 with heap := h' } := I1.kept (t' := s1.toks) hk
    refine ⟨_, [s1.heap.objs.size + 4, s1.heap.objs.size + 2, s1.heap.objs.size + 3, s1.heap.objs.size, s1.heap.objs.size + 1], _, _, H1, rfl, I2, turn_zip c d _ _ _ _ _ (zipApart_new l1 l2), ⟨hz, hTI, ⟨_, _, hTO⟩, hi1, hi2⟩, fun e he => ?_, q⟩
    have hle : s1.heap.objs.size ≤ e := by
      simp only [List.mem_cons, List.not_mem_nil, or_false] at he
      rcases he with rfl | rfl | rfl | rfl | rfl
      · exact Nat.le_add_right _ 4
      · exact Nat.le_add_right _ 2
      · exact Nat.le_add_right _ 3
      · exact Nat.le_refl _
      · exact Nat.le_add_right _ 1
    exact I1.fpOk hle (I1.hok.fresh hle)

/-- a for over zip of two lists -/
theorem for_zip {K : PySem.W.Frag} {a b : Addr} {xs ys : List V} {g : TG} {tb : TS} {D : Ends} {σ : St} {H : Hp} (Pv : Nat → St → Hp → Prop) (h0 : Pv 0 σ H) (hl : ∀ i σ H, i ≤ min xs.length ys.length → Pv i σ H → SqL K H a xs ∧ SqL K H b ys)
    (hs : ∀ (i : Nat) x y T σ H, xs[i]? = some x → ys[i]? = some y → Pv i σ H → H T = none → g (.ref T) σ (upd H T (.tup [x, y])) fun σ2 H2 => tb { D with nx := Pv (i + 1), ct := Pv (i + 1), bk := D.nx } σ2 H2) (hd : ∀ σ H, Pv (min xs.length ys.length) σ H → D.nx σ H) :
    ∃ W : Nat → Nat → St → Hp → Prop, (∃ m, W 0 m σ H) ∧ ∀ i m σ H, W i m σ H →
      ((Itz K a b).stop i H ∧ D.nx σ H) ∨ ((Itz K a b).go i H ∧ ∃ N : St → Hp → Prop, (∀ σ' H', N σ' H' → ∃ m', m' < m ∧ W (i + 1) m' σ' H') ∧ ∀ v H', (Itz K a b).yld i H v H' → g v σ H' fun σ2 H2 => tb { D with nx := N, ct := N, bk := D.nx } σ2 H2) := by
  refine ⟨fun i m σ H => m = min xs.length ys.length - i ∧ i ≤ min xs.length ys.length ∧ Pv i σ H, ⟨min xs.length ys.length, by simp, Nat.zero_le _, h0⟩, ?_⟩
  rintro i m σ H ⟨rfl, hi, p⟩
  obtain ⟨q1, q2⟩ := hl i σ H hi p
  by_cases hlt : i < min xs.length ys.length
  · have l1 : i < xs.length := by omega
    have l2 : i < ys.length := by omega
    refine .inr ⟨⟨xs, ys, xs[i], ys[i], q1, q2, List.getElem?_eq_getElem l1, List.getElem?_eq_getElem l2⟩, Pv (i + 1), fun σ' H' p' => ⟨min xs.length ys.length - (i + 1), by omega, rfl, hlt, p'⟩, fun v H' y => ?_⟩
    obtain ⟨T, x, y, rfl, hT, rfl, e1, e2⟩ := y
    exact hs i x y T σ H (e1 xs q1) (e2 ys q2) p hT
  · have e : i = min xs.length ys.length := by omega
    subst e
    exact .inl ⟨⟨xs, ys, q1, q2, rfl⟩, hd σ H p⟩
def rCatT1 (K : PySem.W.Frag) : R2 := fun x y H Q => ∃ a b xs ys, x = .ref a ∧ y = .ref b ∧ SqT K H a xs ∧ SqT K H b ys ∧ ys ≠ [] ∧ xs.length + ys.length ≤ sizeLine ∧
  (xs = [] → Q (.ref b) H) ∧ (xs ≠ [] → ∀ p, H p = none → Q (.ref p) (upd H p (.tup (xs ++ ys))))
theorem op_catT1 {X : Cx} : OpR X (binaryOp .Add) (rCatT1 X.K) := by
  unfold OpR at *
  exact by
    intro pins s σ H x y v u Q I rx ry h
    obtain ⟨a, b, xs, ys, rfl, rfl, ha, hb, hy, hz, q1, q2⟩ := h
    cases rx
    cases ry
    by_cases hx : xs = []
    · obtain ⟨its, r1, p1, _⟩ := I.tuple ha
      obtain ⟨its2, r2, p2, _⟩ := I.tuple hb
      have hv : its = [] := r1.nil_iff.mpr hx
      obtain ⟨⟨cls, dd, data, sl⟩, ho, hc, n, hd⟩ := id p1
      obtain ⟨⟨cls2, dd2, data2, sl2⟩, ho2, hc2, n2, hd2⟩ := id p2
      simp only at hc hd hc2 hd2
      subst hc hd hc2 hd2
      exact concat_meets ⟨_, ho, rfl⟩ ⟨_, ho2, rfl⟩ noFill_tuple_add seq_tuple_add PySem.F.slot_tuple_add PySem.F.entry_tuple_add (PySem.F.args_tuple_add_2 _ _)
        (tuple_addW0 a b its.toArray its2.toArray n n2 dd dd2 sl sl2 (by simp [hv])) ⟨ho, ho2, ⟨.ref b, H, I, rfl, q1 hx⟩⟩
    · have op := op_catT (X := X)
      unfold OpR at op
      exact op pins s σ H (.ref a) (.ref b) _ _ Q I rfl rfl ⟨a, b, xs, ys, rfl, rfl, ha, hb, hx, hz, fun e => absurd e hy, fun _ => q2 hx⟩

end L2
namespace L2
open PySem PySem.Spec PyProof.Rows
/-! ### list(d): the keys -/
theorem rel_key {k : Key} {v : Value} (h : keyIs k v = true) : RelV (kV k) v := by
  rcases keyIs_shape h with ⟨i, t, rfl, rfl⟩ | ⟨x, t, rfl, rfl⟩
  · exact ⟨t, rfl⟩
  · exact ⟨t, rfl⟩
theorem vals_get : ∀ {xs : List V} {us : List Value}, xs.length = us.length → (∀ (j : Nat) x u, xs[j]? = some x → us[j]? = some u → RelV x u) → Vals xs us
  | [], [], _, _ => .nil
  | [], _ :: _, h, _ => nomatch h
  | _ :: _, [], h, _ => nomatch h
  | x :: xs, u :: us, h, k => .cons (k 0 x u rfl rfl) (vals_get (Nat.succ.inj h) fun j x' u' h1 h2 => k (j + 1) x' u' h1 h2)
theorem paired_get {α β : Type} {F : α → β → Prop} : ∀ {l₁ : List α} {l₂ : List β} {i : Nat} {a : α}, Paired F l₁ l₂ → l₁[i]? = some a → ∃ b, l₂[i]? = some b ∧ F a b
  | _, _, 0, _, .cons h _, e => by cases e; exact ⟨_, rfl, h⟩
  | _, _, i + 1, _, .cons _ r, e => paired_get (i := i) r e
theorem call_list_dK {X : Cx} (hc : X.calm = true) : CallR X (.type "list") (fun xs H Q => ∃ (d : Addr) (kvs : List (Key × V)), xs = [.ref d] ∧ H d = some (.dK kvs) ∧ ∀ l : Addr, H l = none → Q (.ref l) (upd H l (.lst (kvs.map fun p => kV p.1)))) := by
  unfold CallR at *
  exact by
    intro pins s σ H xs us Q I r h
    obtain ⟨d, kvs, rfl, hd, q⟩ := h
    obtain ⟨u, rfl, rx⟩ := vals1 r
    cases rx
    obtain ⟨hz, lo, vs, kv, o, es, ep, ho, hx, hdat, hk, hp, hn⟩ := I.hok d _ hd
    have hl : kvs.length = vs.length := Paired.length kv
    refine PySem.W.kdl_call (PySem.W.kdl_dict (kvs := vs) (ep := ep) (knd := mixKind X.prog X.w) lo) (I.ok.hd hc) ⟨o, es, ho, hx, hdat, hk, hp, hn⟩ (by omega) fun h' tk acc' c' hk hS hacc => ?_
    refine ⟨.ref s.heap.objs.size, _, I.laid (t' := tk) hk (Nat.le_refl _) (show ObjOk X.prog X.w _ h' _ (.lst (kvs.map fun p => kV p.1)) from ⟨by rw [List.length_map]; exact hz, acc'.toList, c', ?_, hS⟩), rfl, q _ (I.hok.fresh (Nat.le_refl _))⟩
    refine vals_get (by rw [List.length_map]; exact hl.trans (hacc.1.symm.trans Array.length_toList.symm)) fun j x u hx hu => ?_
    obtain ⟨k, y, e1, e2⟩ := hacc.2 j u (by rw [← Array.getElem?_toList]; exact hu)
    rw [List.getElem?_map] at hx
    cases e3 : kvs[j]? with
    | none => rw [e3] at hx; cases hx
    | some p =>
      rw [e3] at hx
      cases hx
      obtain ⟨p', e4, e5, _⟩ := paired_get kv e3
      rw [e1] at e4
      cases e4
      show RelV (kV p.1) u
      rw [e5]
      exact rel_key e2

end L2

namespace L2
open PySem PySem.Spec PyProof.Rows

/-! ### sep.join(list of texts) -/
theorem vals_strs : ∀ {ys : List Str} {us : List Value}, Vals (ys.map V.str) us → StrsAre us ys
  | [], _, .nil => .nil
  | _ :: _, _, .cons ⟨_, h⟩ r => by
    subst h
    exact .cons _ _ (vals_strs r)
theorem mt_join {X : Cx} : MtR X "str.join" (fun x xs H Q => ∃ sep a ys, x = .str sep ∧ xs = [.ref a] ∧ SqL X.K H a (ys.map V.str) ∧ sep.length ≤ 16 ∧ (ys.map (·.length)).sum + ys.length ≤ 1048576 ∧ Q (.str (Txt.join sep ys)) H) := by
  unfold MtR at *
  exact by
    intro pins s σ H x xs v us Q I rx r h
    obtain ⟨sep, a, ys, rfl, rfl, hq, h1, h2, q⟩ := h
    obtain ⟨t, rfl⟩ := rx
    obtain ⟨u, rfl, ru⟩ := vals1 r
    cases ru
    obtain ⟨its, rv, pl, _⟩ := I.list hq
    exact join_listW pl.isList (vals_strs rv) h1 h2 fun t' k => ⟨.str _, H, I.tok _, ⟨_, rfl⟩, q⟩

/-! ### isinstance of own things, by an own class -/
structure IAsk (K : PySem.W.Frag) (C : Addr) : Prop where
  ha : PySem.W.findIn K (.ref C) "__class__" = some (some (.builtin "object.__class__"))
  hn : PySem.W.specialIn K (.builtin "object.__class__") "__get__" = some (some (.builtin "getset_descriptor.__get__"))
  htk : PySem.W.takesIn K (.builtin "object.__class__") = some true
  hm : PySem.W.mroIn K C (.type "object") = some true
theorem rIsiA.ins {K : PySem.W.Frag} {H : Hp} {a C D dx : Addr} {fs : List (Str × V)} {b : Bool} {Q : VK} (h : H a = some (.ins C dx fs)) (cl : Cls K C) (q : IAsk K C) (k : PySem.W.kitOne K (.ref C) (.ref D) = some b) (hQ : Q (.bl b) H) : rIsiA K [.ref a, .ref D] H Q :=
  .inl ⟨.ref a, .ref D, _, _, _, rfl, .own D, .ins h cl q.ha q.hn q.htk q.hm, k, hQ⟩
theorem rIsiA.tyC {K : PySem.W.Frag} {H : Hp} {x : V} {n : String} {D : Addr} {b : Bool} {Q : VK} (t : TyOf K H x (.type n)) (k : PySem.W.kitOne K (.type n) (.ref D) = some b) (q : Q (.bl b) H) : rIsiA K [x, .ref D] H Q := .inl ⟨x, .ref D, _, _, _, rfl, .own D, t, k, q⟩
end L2

set_option maxHeartbeats 200000
namespace My
open PySem L2
local macro_rules | `(tactic| walk_at "rd") => `(tactic| repeat (first
  | refine ⟨_, rfl, ?_⟩
  | refine ⟨_, _, rfl, rfl, ?_⟩
  | refine ⟨_, _, rfl, ?_⟩
  | refine ⟨(by show (0 : Int) < _; decide), ?_⟩
  | refine ⟨(⟨by decide, by decide⟩ : CDiv _ _), ?_⟩
  | refine ⟨(⟨by decide, by decide⟩ : CDivB _ _), ?_⟩
  | refine ⟨(⟨by decide, by decide, by decide⟩ : CPow _ _), ?_⟩
  | refine ⟨(.inr ⟨by decide, by decide⟩ : CMul _ _), ?_⟩
  | refine ⟨(.inl ⟨by decide, by decide⟩ : CMul _ _), ?_⟩
  | refine ⟨Own.int, ?_⟩
  | refine ⟨Own.bl, ?_⟩
  | refine ⟨Own.str, ?_⟩
  | refine ⟨Own.non, ?_⟩
  | refine ⟨rfl, ?_⟩))
def isI : V → Bool
  | .int _ => true
  | _ => false
def inR (m : Int) : V → Bool
  | .int i => decide (1 ≤ i) && decide (i ≤ m)
  | _ => false
def spW (K : PySem.W.Frag) : Sp := fun vs H Q _ => ∃ x, vs = [x] ∧ Own K H x ∧ Q (.bl (isI x)) H
def spR (K : PySem.W.Frag) (m : Int) : Sp := fun vs H Q _ => ∃ x, vs = [x] ∧ Own K H x ∧ Q (.bl (inR m x)) H
def ranks : List V := [.str "genus", .str "species", .str "form"]
def letter (c : Nat) : Bool := decide (97 ≤ c) && decide (c ≤ 122)
def isWord : V → Bool
  | .str z => (decide (1 ≤ (z.length : Int)) && decide ((z.length : Int) ≤ 12)) && z.cps.toList.all letter
  | _ => false
theorem isWord_str (z : Str) : isWord (.str z) = ((decide (1 ≤ (z.length : Int)) && decide ((z.length : Int) ≤ 12)) && z.cps.toList.all letter) := rfl
def isRank : V → Bool
  | .str z => inV (.str z) ranks
  | _ => false
def fits : V → Prop
  | .str z => z.length ≤ sizeLine
  | _ => True
def spWord (K : PySem.W.Frag) : Sp := fun vs H Q _ => ∃ x, vs = [x] ∧ Own K H x ∧ fits x ∧ ∀ H', Same H H' → Q (.bl (isWord x)) H'
def spRank (K : PySem.W.Frag) : Sp := fun vs H Q _ => ∃ x, vs = [x] ∧ Own K H x ∧ Q (.bl (isRank x)) H
theorem le_one (a c : Nat) : (!decide ((⟨#[c]⟩ : Str).cps.toList < (⟨#[a]⟩ : Str).cps.toList)) = decide (a ≤ c) := by
  have e : ((⟨#[c]⟩ : Str).cps.toList < (⟨#[a]⟩ : Str).cps.toList) ↔ c < a := by
    show [c] < [a] ↔ c < a
    rw [List.cons_lt_cons_iff]
    simp
  by_cases h : c < a
  · rw [decide_eq_true (e.mpr h), decide_eq_false (by omega)]; rfl
  · rw [decide_eq_false (fun z => h (e.mp z)), decide_eq_true (by omega)]; rfl
theorem le_a (c : Nat) : (!decide ((⟨#[c]⟩ : Str).cps.toList < (Str.ofString "a").cps.toList)) = decide (97 ≤ c) := le_one 97 c
theorem le_z (c : Nat) : (!decide ((Str.ofString "z").cps.toList < (⟨#[c]⟩ : Str).cps.toList)) = decide (c ≤ 122) := le_one c 122
theorem take_one {α : Type} {l : List α} {i : Nat} {x : α} (h : l[i]? = some x) : l.take (i + 1) = l.take i ++ [x] := by
  rw [List.take_succ, h]; rfl
theorem cutS_le (z : Str) (lo hi : Option Int) : (cutS z lo hi).length ≤ z.length := by
  show ((z.cps.toList.drop _).take _).toArray.size ≤ z.length
  rw [List.size_toArray, List.length_take, List.length_drop]
  have : z.cps.toList.length = z.length := by simp [Str.length]
  omega
def underFits (r u : V) : Bool := if r = .str "genus" then decide (u = .non) else inR 1000000000 u
def tieFits (r s b : V) : Bool := if b = .non then inR 1000000000 s else (!decide (r = .str "genus")) && (decide (s = .non) && inR 1000000000 b)
/-- the first rule that bars it, 0 where none does -/
def whyH (n d r w : V) : Nat := if inR 1000000000 n = false then 1 else if inR 1000000 d = false then 2 else if isRank r = false then 3 else if isWord w = false then 4 else 0
def why (n d r w u s b : V) : Nat := if whyH n d r w ≠ 0 then whyH n d r w else if underFits r u = false then 5 else if tieFits r s b = false then 5 else 0
set_option genInjectivity false in
set_option genSizeOfSpec false in
set_option genSizeOf false in
structure Ex where
  c1 : Addr
  c2 : Addr
  c3 : Addr
  c4 : Addr
  c5 : Addr
def Ex.at (x : Ex) : Nat → Addr
  | 1 => x.c1
  | 2 => x.c2
  | 3 => x.c3
  | 4 => x.c4
  | _ => x.c5
def spHead (K : PySem.W.Frag) (x : Ex) : Sp := fun vs H Q E => ∃ n d r w, vs = [n, d, r, w] ∧ Own K H n ∧ Own K H d ∧ Own K H r ∧ Own K H w ∧ fits w ∧
  ∀ H', Same H H' → (whyH n d r w = 0 → Q .non H') ∧ (whyH n d r w ≠ 0 → E (.ref (x.at (whyH n d r w))) none H')
def spUnder (K : PySem.W.Frag) : Sp := fun vs H Q _ => ∃ z u, vs = [.str z, u] ∧ Own K H u ∧ Q (.bl (underFits (.str z) u)) H
def spTie (K : PySem.W.Frag) : Sp := fun vs H Q _ => ∃ z s b, vs = [.str z, s, b] ∧ Own K H s ∧ Own K H b ∧ Q (.bl (tieFits (.str z) s b)) H
def fields (n d r w u s b k : V) : List (Str × V) := [("number", n), ("day", d), ("rank", r), ("word", w), ("under", u), ("sheet", s), ("base", b), ("described", k)]
def spInit (K : PySem.W.Frag) (C : Addr) (x : Ex) : Sp := fun vs H Q E => ∃ a dx n d r w u s b k, vs = [.ref a, n, d, r, w, u, s, b, k] ∧ H a = some (.ins C dx []) ∧ Own K H n ∧ Own K H d ∧ Own K H r ∧ Own K H w ∧ fits w ∧ Own K H u ∧ Own K H s ∧ Own K H b ∧
  ∀ H', Same H H' → (why n d r w u s b = 0 → Q .non (upd H' a (.ins C dx (fields n d r w u s b k)))) ∧ (why n d r w u s b ≠ 0 → E (.ref (x.at (why n d r w u s b))) none H')
theorem Same.upd {H H' : Hp} {p : Addr} {o : HO} (e : Same H H') (h : H p = none) : Same H (L2.upd H' p o) := fun b u q => by
  rw [upd_ne (ne_of_none q h)]
  exact e b u q
theorem Own.updL {K : PySem.W.Frag} {H : Hp} {p : Addr} {xs ys : List V} {x : V} (o : Own K H x) (h : H p = some (.lst xs)) : Own K (L2.upd H p (.lst ys)) x := by
  obtain ⟨n, t⟩ := o
  cases t with
  | non => exact Own.non
  | bl b => exact Own.bl
  | int i => exact Own.int
  | str z => exact Own.str
  | flt z => exact ⟨_, .flt z⟩
  | @lst a zs e =>
    by_cases q : a = p
    · subst q; exact Own.lst upd_same
    · exact Own.lst (by rw [upd_ne q]; exact e)
  | @frz a ob zs e =>
    have q : a ≠ p := fun z => by rw [z, h] at e; cases e
    exact ⟨_, .frz (by rw [upd_ne q]; exact e)⟩
  | @tup a zs e =>
    have q : a ≠ p := fun z => by rw [z, h] at e; cases e
    exact ⟨_, .tup (by rw [upd_ne q]; exact e)⟩
  | @dK a zs e =>
    have q : a ≠ p := fun z => by rw [z, h] at e; cases e
    exact ⟨_, .dK (by rw [upd_ne q]; exact e)⟩
  | @dT a zs e =>
    have q : a ≠ p := fun z => by rw [z, h] at e; cases e
    exact ⟨_, .dT (by rw [upd_ne q]; exact e)⟩
theorem under_g (u : V) : underFits (.str "genus") u = decide (u = .non) := by unfold underFits; rw [if_pos rfl]
theorem under_n {z : Str} (h : z ≠ "genus") (u : V) : underFits (.str z) u = inR 1000000000 u := by unfold underFits; rw [if_neg (fun q => h (V.str.inj q))]
theorem tie_n (r s : V) : tieFits r s .non = inR 1000000000 s := by unfold tieFits; rw [if_pos rfl]
theorem tie_b {b : V} (r s : V) (h : b ≠ .non) : tieFits r s b = ((!decide (r = .str "genus")) && (decide (s = .non) && inR 1000000000 b)) := by unfold tieFits; rw [if_neg h]
theorem tie_x {b : V} (r s : V) (h : b ≠ .non) (hb : inR 1000000000 b = false) : tieFits r s b = false := by rw [tie_b r s h, hb, Bool.and_false, Bool.and_false]
theorem tie_s {b : V} (r s : V) (h : b ≠ .non) (hs : s ≠ .non) : tieFits r s b = false := by rw [tie_b r s h, decide_eq_false hs, Bool.false_and, Bool.and_false]
theorem tie_g {b : V} (s : V) (h : b ≠ .non) : tieFits (.str "genus") s b = false := by rw [tie_b _ s h, decide_eq_true rfl]; rfl
theorem Same.made {H : Hp} {x dx : Addr} {o o' : HO} (h1 : H x = none) (h2 : H dx = none) (ne : dx ≠ x) : Same H (L2.upd (L2.upd H dx o) x o') := fun b u q => by
  rw [upd_ne (ne_of_none q h1), upd_ne (ne_of_none q h2)]
  exact q
/-- an entry's fields -/
structure En where
  n : Int
  d : Int
  r : Str
  w : Str
  u : Option Int
  s : Option Int
  b : Option Int
  k : Bool
def optV : Option Int → V
  | none => .non
  | some i => .int i
def fieldsE (e : En) : List (Str × V) := fields (.int e.n) (.int e.d) (.str e.r) (.str e.w) (optV e.u) (optV e.s) (optV e.b) (.bl e.k)
def EntAt (H : Hp) (C : Addr) (v : V) (e : En) : Prop := ∃ a dx, v = .ref a ∧ H a = some (.ins C dx (fieldsE e))
def okE (e : En) : Prop := why (.int e.n) (.int e.d) (.str e.r) (.str e.w) (optV e.u) (optV e.s) (optV e.b) = 0
def aheadE (x y : En) : Bool := HT.lexLt [x.d, x.n] [y.d, y.n]
theorem EntAt.same {H H' : Hp} {C : Addr} {v : V} {e : En} (h : EntAt H C v e) (s : Same H H') : EntAt H' C v e := let ⟨a, dx, e1, h1⟩ := h; ⟨a, dx, e1, s _ _ h1⟩
/-- a thing of a list: an entry, or something of another kind -/
inductive ItAt (K : PySem.W.Frag) (H : Hp) (C : Addr) : V → Option En → Prop where
  | ent {v : V} {e : En} (h : EntAt H C v e) : ItAt K H C v (some e)
  | oth {v : V} {n : String} (t : TyOf K H v (.type n)) (hn : PySem.W.kitOne K (.type n) (.ref C) = some false) : ItAt K H C v none
def spAhead (C : Addr) : Sp := fun vs H Q _ => ∃ x y e f, vs = [x, y] ∧ EntAt H C x e ∧ EntAt H C y f ∧ ∀ H', Same H H' → Q (.bl (aheadE e f)) H'
/-- whether a list of things is a book, from here on -/
def lastOk : Option En → En → Bool
  | none, _ => true
  | some l, e => aheadE l e
def bookOk : List Int → Option En → List (Option En) → Bool
  | _, _, [] => true
  | _, _, none :: _ => false
  | seen, last, some e :: r => !seen.contains e.n && (lastOk last e && bookOk (seen ++ [e.n]) (some e) r)
def ItsAt (K : PySem.W.Frag) (H : Hp) (C : Addr) (vs : List V) (is : List (Option En)) : Prop := vs.length = is.length ∧ ∀ (j : Nat) v i, vs[j]? = some v → is[j]? = some i → ItAt K H C v i
def spBook (K : PySem.W.Frag) (C X : Addr) : Sp := fun vs H Q E => ∃ x, vs = [x] ∧ ((∃ l ws is, x = .ref l ∧ H l = some (.lst ws) ∧ ItsAt K H C ws is ∧ ws.length ≤ 1000 ∧ (bookOk [] none is = true → ∀ q H', Same H H' → H q = none → H' q = some (.lst ws) → Q (.ref q) H') ∧ (bookOk [] none is = false → ∀ H', Same H H' → E (.ref X) none H')) ∨
  ∃ n, TyOf K H x (.type n) ∧ PySem.W.kitOne K (.type n) (.type "list") = some false ∧ ∀ H', Same H H' → E (.ref X) none H')
def txtU : Option Int → List Str
  | none => []
  | some u => [Str.ofString "under", Str.ofString (toString u)]
def txtT : Option Int → Option Int → Bool → List Str
  | _, some b, _ => [Str.ofString "of", Str.ofString (toString b)]
  | s, none, true => [Str.ofString "tied", Str.ofString (toString (s.getD 0))]
  | s, none, false => [Str.ofString "tied", Str.ofString (toString (s.getD 0)), Str.ofString "bare"]
def txtW (e : En) : List Str := [Str.ofString (toString e.d), Str.ofString (toString e.n), e.r, e.w] ++ txtU e.u ++ txtT e.s e.b e.k
def rowText (e : En) : Str := Txt.join (Str.ofString " ") (txtW e)
theorem log_ok {i : Int} (h0 : 0 ≤ i) (h1 : i ≤ 1000000000) : i.natAbs.log2 < 1920 := by
  rcases Nat.eq_zero_or_pos i.natAbs with e | e
  · rw [e]; decide
  · exact (Nat.log2_lt (by omega)).mpr (Nat.lt_of_le_of_lt (show i.natAbs ≤ 1000000000 by omega) (by decide +kernel))
theorem num_short {i : Int} (h0 : 0 ≤ i) (h1 : i ≤ 1000000000) : (Str.ofString (toString i)).length ≤ 10 := by
  rw [num_len h0]
  exact Nat.le_trans (digits_mono 1000000000 i.toNat (by omega)) (le_ble (by decide +kernel))
/-- what a good entry has -/
structure Fit (e : En) : Prop where
  n0 : 1 ≤ e.n
  n1 : e.n ≤ 1000000000
  d0 : 1 ≤ e.d
  d1 : e.d ≤ 1000000
  rl : e.r.length ≤ 7
  wl : e.w.length ≤ 12
  u : ∀ u, e.u = some u → 1 ≤ u ∧ u ≤ 1000000000
  b : ∀ b, e.b = some b → 1 ≤ b ∧ b ≤ 1000000000
  s : e.b = none → ∃ s, e.s = some s ∧ 1 ≤ s ∧ s ≤ 1000000000
theorem txt_len {e : En} (h : Fit e) : ((txtW e).map (·.length)).sum + (txtW e).length ≤ 100 := by
  obtain ⟨n, d, r, w, u, s, b, k⟩ := e
  have h1 := num_short (i := d) (by have := h.d0; exact Int.le_trans (by decide) this) (by have := h.d1; exact Int.le_trans this (by decide))
  have h2 := num_short (i := n) (by have := h.n0; exact Int.le_trans (by decide) this) h.n1
  have h3 := h.rl
  have h4 := h.wl
  have l1 : (Str.ofString "under").length = 5 := by decide +kernel
  have l2 : (Str.ofString "of").length = 2 := by decide +kernel
  have l3 : (Str.ofString "tied").length = 4 := by decide +kernel
  have l4 : (Str.ofString "bare").length = 4 := by decide +kernel
  have hu : ((txtU u).map (·.length)).sum + (txtU u).length ≤ 17 := by
    cases u with
    | none => exact Nat.zero_le _
    | some u =>
      have hh := h.u u rfl
      have := num_short (i := u) (by omega) hh.2
      show (Str.ofString "under").length + ((Str.ofString (toString u)).length + 0) + 2 ≤ 17
      omega
  have ht : ((txtT s b k).map (·.length)).sum + (txtT s b k).length ≤ 21 := by
    cases b with
    | some b =>
      have hh := h.b b rfl
      have := num_short (i := b) (by omega) hh.2
      show (Str.ofString "of").length + ((Str.ofString (toString b)).length + 0) + 2 ≤ 21
      omega
    | none =>
      obtain ⟨x, e, x0, x1⟩ := h.s rfl
      have e : s = some x := e
      subst e
      have := num_short (i := x) (by omega) x1
      cases k with
      | true =>
        show (Str.ofString "tied").length + ((Str.ofString (toString x)).length + 0) + 2 ≤ 21
        omega
      | false =>
        show (Str.ofString "tied").length + ((Str.ofString (toString x)).length + ((Str.ofString "bare").length + 0)) + 3 ≤ 21
        omega
  have h3 : r.length ≤ 7 := h3
  have h4 : w.length ≤ 12 := h4
  unfold txtW
  rw [List.map_append, List.map_append, List.sum_append, List.sum_append, List.length_append, List.length_append]
  show (Str.ofString (toString d)).length + ((Str.ofString (toString n)).length + (r.length + (w.length + 0))) + ((txtU u).map (·.length)).sum + ((txtT s b k).map (·.length)).sum + (4 + (txtU u).length + (txtT s b k).length) ≤ 100
  omega
def spRowOf (C : Addr) : Sp := fun vs H Q _ => ∃ v e, vs = [v] ∧ EntAt H C v e ∧ Fit e ∧ ∀ H', Same H H' → Q (.str (rowText e)) H'
theorem join_le (sep : Str) (ys : List Str) : (Txt.join sep ys).length ≤ (ys.map (·.length)).sum + ys.length * sep.length := by
  show (Builtin.Str.glued sep ys).length ≤ _
  rw [StrLaws.glued_eq_join]
  exact StrLaws.join_length_le sep ys
theorem row_len {e : En} (h : Fit e) : (rowText e).length ≤ 100 := by
  have h1 := txt_len h
  have h2 := join_le (Str.ofString " ") (txtW e)
  have h3 : (Str.ofString " ").length = 1 := by decide +kernel
  rw [h3, Nat.mul_one] at h2
  exact Nat.le_trans h2 h1
def EntsAt (H : Hp) (C : Addr) (ws : List V) (es : List En) : Prop := ws.length = es.length ∧ ∀ (j : Nat) v e, ws[j]? = some v → es[j]? = some e → EntAt H C v e
theorem EntsAt.same {H H' : Hp} {C : Addr} {ws : List V} {es : List En} (h : EntsAt H C ws es) (s : Same H H') : EntsAt H' C ws es := ⟨h.1, fun j v e a b => (h.2 j v e a b).same s⟩
theorem EntsAt.its {K : PySem.W.Frag} {H : Hp} {C : Addr} {ws : List V} {es : List En} (h : EntsAt H C ws es) : ItsAt K H C ws (es.map some) := by
  refine ⟨by rw [List.length_map]; exact h.1, fun j v i hv hi => ?_⟩
  rw [List.getElem?_map] at hi
  cases e : es[j]? with
  | none => rw [e] at hi; cases hi
  | some x => rw [e] at hi; cases hi; exact .ent (h.2 j v x hv e)
def BadB (K : PySem.W.Frag) (H : Hp) (C : Addr) (x : V) : Prop := (∃ l ws is, x = .ref l ∧ H l = some (.lst ws) ∧ ItsAt K H C ws is ∧ ws.length ≤ 1000 ∧ bookOk [] none is = false) ∨ ∃ n, TyOf K H x (.type n) ∧ PySem.W.kitOne K (.type n) (.type "list") = some false
def texts (es : List En) : Str := Txt.join (Str.ofString "\n") (es.map rowText)
def spWritten (K : PySem.W.Frag) (C X : Addr) : Sp := fun vs H Q E => ∃ x, vs = [x] ∧ ((∃ l ws es, x = .ref l ∧ H l = some (.lst ws) ∧ EntsAt H C ws es ∧ (∀ e ∈ es, Fit e) ∧ es.length ≤ 63 ∧ bookOk [] none (es.map some) = true ∧ ∀ H', Same H H' → Q (.str (texts es)) H') ∨
  (BadB K H C x ∧ ∀ H', Same H H' → E (.ref X) none H'))
theorem sum_le {α : Type} (f : α → Nat) (b : Nat) : ∀ xs : List α, (∀ x ∈ xs, f x ≤ b) → (xs.map f).sum ≤ xs.length * b
  | [], _ => Nat.zero_le _
  | x :: r, h => by
    have ih := sum_le f b r fun y hy => h y (List.mem_cons_of_mem _ hy)
    have h1 := h x (List.mem_cons_self ..)
    rw [List.map_cons, List.sum_cons, List.length_cons, Nat.add_mul]
    omega
theorem texts_ok {es : List En} (h : ∀ e ∈ es, Fit e) (hl : es.length ≤ 63) : ((es.map rowText).map (·.length)).sum + (es.map rowText).length ≤ 1048576 := by
  have := sum_le (fun z : Str => z.length) 100 (es.map rowText) fun z hz => by
    obtain ⟨e, he, rfl⟩ := List.mem_map.mp hz
    exact row_len (h e he)
  rw [List.length_map] at this ⊢
  have h2 : es.length * 100 ≤ 63 * 100 := Nat.mul_le_mul_right _ hl
  omega
theorem all_app (a b : Str) (f : Nat → Bool) : (a ++ b).cps.toList.all f = (a.cps.toList.all f && b.cps.toList.all f) := by
  rw [Str.cps_append, Array.toList_append, List.all_append]
theorem seqNil {K : PySem.W.Frag} {H : Hp} {n : Nat} {a b : Addr} {xs : List V} (ha : SqL K H a xs) (hb : SqL K H b []) : SeqEq K H (EqD K H n) (.ref a) (.ref b) xs.isEmpty := by
  cases xs with
  | nil => exact .list (e := fun _ => true) ha hb rfl fun i x y h => (by rw [List.getElem?_nil] at h; cases h)
  | cons x r => exact .listN ha hb (by intro z; cases z)
theorem inR_int (m i : Int) : inR m (.int i) = (decide (1 ≤ i) && decide (i ≤ m)) := rfl
theorem inR_of {m i : Int} (h1 : 1 ≤ i) (h2 : i ≤ m) : inR m (.int i) = true := by rw [inR_int, decide_eq_true h1, decide_eq_true h2]; rfl
def rowV (e : En) : List V := [.int e.d, .int e.n, .str e.r, .str e.w, optV e.u, optV e.s, optV e.b, .bl e.k]
def RowAt (H : Hp) (v : V) (e : En) : Prop := ∃ a, v = .ref a ∧ H a = some (.lst (rowV e))
def RowsE (H : Hp) (ws : List V) (es : List En) : Prop := ws.length = es.length ∧ ∀ (j : Nat) v e, ws[j]? = some v → es[j]? = some e → RowAt H v e
theorem RowAt.same {H H' : Hp} {v : V} {e : En} (h : RowAt H v e) (s : Same H H') : RowAt H' v e := let ⟨a, e1, h1⟩ := h; ⟨a, e1, s _ _ h1⟩
theorem RowsE.same {H H' : Hp} {ws : List V} {es : List En} (h : RowsE H ws es) (s : Same H H') : RowsE H' ws es := ⟨h.1, fun j v e a b => (h.2 j v e a b).same s⟩
def spCell (K : PySem.W.Frag) : Sp := fun vs H Q _ => ∃ (a : Addr) (k : Int) (ns : List Int), vs = [.ref a, .int k] ∧ 0 ≤ k ∧ SqL K H a (ns.map V.int) ∧ ∀ i, Q (.int i) H
def spMixB : Sp := fun vs H Q _ => ∃ n k, vs = [.int n, .int k] ∧ 0 ≤ k ∧ k < 100 ∧ ∀ r, 0 ≤ r → Q (.int r) H
def spMkW : Sp := fun vs H Q _ => ∃ m, vs = [.int m] ∧ 0 ≤ m ∧ ∀ z : Str, isWord (.str z) = true → Q (.str z) H
def dayOk : Option Int → Int → Prop
  | none, r => 1 ≤ r ∧ r ≤ 11000
  | some d, r => d ≤ r ∧ r ≤ d + 11000
/-- the last row, or the empty list -/
def LastAt (H : Hp) (v : V) (o : Option En) : Prop := match o with | none => ∃ a, v = .ref a ∧ H a = some (.lst []) | some e => RowAt H v e
def spDay : Sp := fun vs H Q _ => ∃ v m o, vs = [v, .int m] ∧ 0 ≤ m ∧ LastAt H v o ∧ ∀ r H', Same H H' → dayOk (o.map (·.d)) r → Q (.int r) H'
structure InvE (es : List En) (k : Int) : Prop where
  all : ∀ e ∈ es, Fit e ∧ okE e ∧ (e.n - 1) % 90 < k
  last : ∀ e, es.getLast? = some e → e.d ≤ 11001 * k
structure NextE (es : List En) (e : En) (k : Int) : Prop where
  fit : Fit e
  ok : okE e
  res : (e.n - 1) % 90 = k
  day : e.d ≤ 11001 * (k + 1)
  ord : ∀ l, es.getLast? = some l → aheadE l e = true
def spFields : Sp := fun vs H Q _ => ∃ l ws es m k, vs = [.ref l, .int m, .int k] ∧ H l = some (.lst ws) ∧ RowsE H ws es ∧ ws.length ≤ 63 ∧ 0 ≤ m ∧ 0 ≤ k ∧ k < 63 ∧ InvE es k ∧ ∀ v e H', Same H H' → RowAt H' v e → NextE es e k → Q v H'
theorem lex_lt {a b c d : Int} (h : a < c ∨ (a = c ∧ b < d)) : HT.lexLt [a, b] [c, d] = true := by
  rcases h with h | ⟨rfl, h⟩
  · rw [HT.lexLt_cons, if_neg (by omega), decide_eq_true h]
  · rw [HT.lexLt_cons, if_pos rfl, HT.lexLt_cons, if_neg (by omega), decide_eq_true h]
theorem RowsE.last {H : Hp} {ws : List V} {es : List En} (h : RowsE H ws es) : (es = [] ∧ ws = []) ∨ ∃ ys e us v, es = ys ++ [e] ∧ ws = us ++ [v] ∧ RowAt H v e := by
  rcases List.eq_nil_or_concat es with rfl | ⟨ys, e, rfl⟩
  · exact .inl ⟨rfl, List.length_eq_zero_iff.mp h.1⟩
  · rcases List.eq_nil_or_concat ws with rfl | ⟨us, v, rfl⟩
    · have := h.1
      simp at this
    · have hl := h.1
      rw [List.concat_eq_append, List.concat_eq_append, List.length_append, List.length_append] at hl
      have el : us.length = ys.length := by simpa using hl
      rw [List.concat_eq_append, List.concat_eq_append] at h ⊢
      exact .inr ⟨ys, e, us, v, rfl, rfl, h.2 us.length v e (by simp) (by rw [el]; simp)⟩
theorem atI_last {α : Type} (xs : List α) (v : α) : atI (xs ++ [v]) (-1) = some v := by
  have e : ixN (xs ++ [v]).length (-1) = some xs.length := by
    unfold ixN
    rw [List.length_append, List.length_singleton]
    simp
    omega
  unfold atI
  rw [e]
  simp
/-- the last of a list -/
def lastE (es : List En) (o : Option En) : Prop := (es = [] ∧ o = none) ∨ ∃ ys e, es = ys ++ [e] ∧ o = some e
theorem lastE.is {es : List En} {o : Option En} (h : lastE es o) : es.getLast? = o := by
  rcases h with ⟨rfl, rfl⟩ | ⟨ys, e, rfl, rfl⟩
  · rfl
  · simp
theorem rank_in {z : Str} (h : z = "genus" ∨ z = "species" ∨ z = "form") : isRank (.str z) = true ∧ z.length ≤ 7 := by
  rcases h with rfl | rfl | rfl <;> exact ⟨by decide +kernel, by decide +kernel⟩
theorem ok_of {n d : Int} {r w : Str} {u s b : Option Int} {k : Bool} (hn : inR 1000000000 (.int n) = true) (hd : inR 1000000 (.int d) = true) (hr : isRank (.str r) = true) (hw : isWord (.str w) = true) (hu : underFits (.str r) (optV u) = true) (ht : tieFits (.str r) (optV s) (optV b) = true) : okE ⟨n, d, r, w, u, s, b, k⟩ := by
  show why (.int n) (.int d) (.str r) (.str w) (optV u) (optV s) (optV b) = 0
  have e : whyH (.int n) (.int d) (.str r) (.str w) = 0 := by unfold whyH; rw [hn, hd, hr, hw]; rfl
  unfold why
  rw [e, hu, ht]
  rfl

def spTextOf : Sp := fun vs H Q _ => ∃ v e, vs = [v] ∧ RowAt H v e ∧ Fit e ∧ ∀ H', Same H H' → Q (.str (rowText e)) H'
def spEntryOf (C : Addr) : Sp := fun vs H Q _ => ∃ v e, vs = [v] ∧ RowAt H v e ∧ Fit e ∧ okE e ∧ ∀ x H', Same H H' → EntAt H' C x e → Q x H'
def spNoBook (K : PySem.W.Frag) (C : Addr) : Sp := fun vs H Q _ => ∃ l ws es z, vs = [.ref l, .int z] ∧ H l = some (.lst ws) ∧ EntsAt H C ws es ∧ ws.length ≤ 63 ∧ ∀ x H', Same H H' → BadB K H' C x → Q x H'
def spRefusedB (K : PySem.W.Frag) (C : Addr) : Sp := fun vs H Q _ => ∃ x, vs = [x] ∧ BadB K H C x ∧ ∀ H', Same H H' → Q (.bl true) H'
theorem book_seen (e : En) : ∀ (is : List (Option En)) (seen : List Int) (last : Option En), some e ∈ is → seen.contains e.n = true → bookOk seen last is = false
  | [], _, _, h, _ => nomatch h
  | none :: _, _, _, _, _ => rfl
  | some f :: r, seen, last, h, hc => by
    show (!seen.contains f.n && (lastOk last f && bookOk (seen ++ [f.n]) (some f) r)) = false
    rcases List.mem_cons.mp h with h | h
    · cases h
      rw [hc]; rfl
    · have : (seen ++ [f.n]).contains e.n = true := List.contains_iff_mem.mpr (List.mem_append_left _ (List.contains_iff_mem.mp hc))
      rw [book_seen e r _ _ h this, Bool.and_false, Bool.and_false]
theorem book_none : ∀ (is : List (Option En)) (seen : List Int) (last : Option En), none ∈ is → bookOk seen last is = false
  | [], _, _, h => nomatch h
  | none :: _, _, _, _ => rfl
  | some f :: r, seen, last, h => by
    show (!seen.contains f.n && (lastOk last f && bookOk (seen ++ [f.n]) (some f) r)) = false
    rcases List.mem_cons.mp h with h | h
    · cases h
    · rw [book_none r _ _ h, Bool.and_false, Bool.and_false]
theorem book_twice (e : En) (r : List (Option En)) (h : some e ∈ r) : bookOk [] none (some e :: r) = false := by
  show (!([] : List Int).contains e.n && (lastOk none e && bookOk ([] ++ [e.n]) (some e) r)) = false
  rw [book_seen e r _ _ h (List.contains_iff_mem.mpr (by simp)), Bool.and_false, Bool.and_false]
theorem ItAt.same {K : PySem.W.Frag} {H H' : Hp} {C : Addr} {v : V} {i : Option En} (h : ItAt K H C v i) (s : Same H H') : ItAt K H' C v i := by
  cases h with
  | ent h => exact .ent (h.same s)
  | oth t hn => exact .oth (t.same s) hn
theorem ItsAt.same {K : PySem.W.Frag} {H H' : Hp} {C : Addr} {ws : List V} {is : List (Option En)} (h : ItsAt K H C ws is) (s : Same H H') : ItsAt K H' C ws is := ⟨h.1, fun j v i a b => (h.2 j v i a b).same s⟩
theorem ItsAt.nil {K : PySem.W.Frag} {H : Hp} {C : Addr} : ItsAt K H C [] [] := ⟨rfl, fun _ _ _ h => nomatch h⟩
theorem ItsAt.cons {K : PySem.W.Frag} {H : Hp} {C : Addr} {v : V} {i : Option En} {ws : List V} {is : List (Option En)} (h : ItAt K H C v i) (t : ItsAt K H C ws is) : ItsAt K H C (v :: ws) (i :: is) := by
  refine ⟨congrArg Nat.succ t.1, fun j v' i' a b => ?_⟩
  cases j with
  | zero =>
    cases (Option.some.inj a : v = v')
    cases (Option.some.inj b : i = i')
    exact h
  | succ j => exact t.2 j v' i' a b
theorem ItsAt.app {K : PySem.W.Frag} {H : Hp} {C : Addr} : ∀ {ws ws' : List V} {is is' : List (Option En)}, ItsAt K H C ws is → ItsAt K H C ws' is' → ItsAt K H C (ws ++ ws') (is ++ is')
  | [], _, [], _, _, h' => h'
  | [], _, _ :: _, _, h, _ => nomatch h.1
  | _ :: _, _, [], _, h, _ => nomatch h.1
  | w :: ws, _, i :: is, _, h, h' => ItsAt.cons (h.2 0 w i rfl rfl) (ItsAt.app (ws := ws) (is := is) ⟨Nat.succ.inj h.1, fun j v i a b => h.2 (j + 1) v i a b⟩ h')
theorem EntsAt.uncons {H : Hp} {C : Addr} {ws : List V} {e : En} {es : List En} (h : EntsAt H C ws (e :: es)) : ∃ v us, ws = v :: us ∧ EntAt H C v e ∧ EntsAt H C us es := by
  cases ws with
  | nil => cases h.1
  | cons v us => exact ⟨v, us, rfl, h.2 0 v e rfl rfl, Nat.succ.inj h.1, fun j v i a b => h.2 (j + 1) v i a b⟩
theorem cut_one (v : V) (us : List V) : cutV (v :: us) none (some 1) = [v] := by
  unfold cutV
  have e : HT.sIx (v :: us).length (v :: us).length (some 1) = 1 := by
    unfold HT.sIx
    simp
    try omega
  rw [e]
  rfl
theorem cut_last (us : List V) (v : V) : cutV (us ++ [v]) (some (-1)) none = [v] := by
  unfold cutV
  have e : HT.sIx (us ++ [v]).length 0 (some (-1)) = us.length := by
    unfold HT.sIx
    rw [List.length_append, List.length_singleton]
    simp
    try omega
  rw [e]
  show List.take ((us ++ [v]).length - us.length) _ = _
  simp
theorem cut_tail (v : V) (us : List V) : cutV (v :: us) (some 1) none = us := by
  unfold cutV
  have e : HT.sIx (v :: us).length 0 (some 1) = 1 := by
    unfold HT.sIx
    simp
    try omega
  rw [e]
  show List.take ((v :: us).length - 1) us = us
  exact List.take_of_length_le (by simp)
theorem cut_init (us : List V) (v : V) : cutV (us ++ [v]) none (some (-1)) = us := by
  unfold cutV
  have e : HT.sIx (us ++ [v]).length (us ++ [v]).length (some (-1)) = us.length := by
    unfold HT.sIx
    rw [List.length_append, List.length_singleton]
    simp
    try omega
  rw [e]
  show List.take (us.length - 0) (us ++ [v]) = us
  simp
theorem EntsAt.last {H : Hp} {C : Addr} {ws : List V} {es : List En} (h : EntsAt H C ws es) : (es = [] ∧ ws = []) ∨ ∃ ys e us v, es = ys ++ [e] ∧ ws = us ++ [v] ∧ EntAt H C v e := by
  rcases List.eq_nil_or_concat es with rfl | ⟨ys, e, rfl⟩
  · exact .inl ⟨rfl, List.length_eq_zero_iff.mp h.1⟩
  · rcases List.eq_nil_or_concat ws with rfl | ⟨us, v, rfl⟩
    · have := h.1
      simp at this
    · have hl := h.1
      rw [List.concat_eq_append, List.concat_eq_append, List.length_append, List.length_append] at hl
      have el : us.length = ys.length := by simpa using hl
      rw [List.concat_eq_append, List.concat_eq_append] at h ⊢
      exact .inr ⟨ys, e, us, v, rfl, rfl, h.2 us.length v e (by simp) (by rw [el]; simp)⟩

theorem RowsE.push {H : Hp} {l : Addr} {ws : List V} {es : List En} {v : V} {e : En} (hl : H l = some (.lst ws)) (h : RowsE H ws es) (hv : RowAt H v e) : RowsE (upd H l (.lst (ws ++ [v]))) (ws ++ [v]) (es ++ [e]) := by
  have ne : ∀ (x : En) (a : Addr), H a = some (.lst (rowV x)) → a ≠ l := fun x a ha q => by
    rw [q, hl] at ha
    have ha : ws = rowV x := HO.lst.inj (Option.some.inj ha)
    cases es with
    | nil =>
      have := h.1
      rw [ha] at this
      cases this
    | cons y ys =>
      obtain ⟨b, e1, _⟩ := h.2 0 (.int x.d) y (by rw [ha]; rfl) rfl
      cases e1
  have up : ∀ {x : En} {u : V}, RowAt H u x → RowAt (upd H l (.lst (ws ++ [v]))) u x := fun ⟨a, e1, h1⟩ => ⟨a, e1, by rw [upd_ne (ne _ _ h1)]; exact h1⟩
  refine ⟨by rw [List.length_append, List.length_append, h.1]; rfl, fun j u x hu hx => ?_⟩
  by_cases hj : j < ws.length
  · rw [List.getElem?_append_left hj] at hu
    rw [List.getElem?_append_left (by rw [← h.1]; exact hj)] at hx
    exact up (h.2 j u x hu hx)
  · rw [List.getElem?_append_right (by omega)] at hu
    rw [List.getElem?_append_right (by rw [← h.1]; omega)] at hx
    obtain ⟨h1, e1⟩ := List.getElem?_eq_some_iff.mp hu
    have j0 : j - ws.length = 0 := by simpa using h1
    rw [j0] at hu
    rw [← h.1, j0] at hx
    cases Option.some.inj hu
    cases Option.some.inj hx
    exact up hv
theorem InvE.push {es : List En} {e : En} {k : Int} (h : InvE es k) (n : NextE es e k) : InvE (es ++ [e]) (k + 1) := by
  refine ⟨fun x hx => ?_, fun x hx => ?_⟩
  · rcases List.mem_append.mp hx with q | q
    · obtain ⟨a, b, c⟩ := h.all x q
      exact ⟨a, b, by omega⟩
    · cases List.mem_singleton.mp q
      exact ⟨n.fit, n.ok, by have := n.res; omega⟩
  · rw [List.getLast?_append] at hx
    cases (Option.some.inj hx : e = x)
    exact n.day
theorem book_app (e : En) : ∀ (es : List En) (seen : List Int) (last : Option En), bookOk seen last (es.map some) = true → seen.contains e.n = false → (∀ x ∈ es, x.n ≠ e.n) → (es = [] → lastOk last e = true) → (∀ l, es.getLast? = some l → aheadE l e = true) → bookOk seen last ((es ++ [e]).map some) = true
  | [], seen, last, _, h1, _, h3, _ => by
    show (!seen.contains e.n && (lastOk last e && true)) = true
    rw [h1, h3 rfl]
    rfl
  | x :: r, seen, last, h0, h1, h2, _, h4 => by
    have h0 : (!seen.contains x.n && (lastOk last x && bookOk (seen ++ [x.n]) (some x) (r.map some))) = true := h0
    rw [Bool.and_eq_true, Bool.and_eq_true] at h0
    show (!seen.contains x.n && (lastOk last x && bookOk (seen ++ [x.n]) (some x) ((r ++ [e]).map some))) = true
    rw [h0.1, h0.2.1, book_app e r _ _ h0.2.2 ?_ (fun y hy => h2 y (List.mem_cons_of_mem _ hy)) (fun q => ?_) (fun l hl => ?_)]
    · rfl
    · cases hc : (seen ++ [x.n]).contains e.n with
      | false => rfl
      | true =>
        rcases List.mem_append.mp (List.contains_iff_mem.mp hc) with q | q
        · rw [List.contains_iff_mem.mpr q] at h1; cases h1
        · exact absurd (List.mem_singleton.mp q).symm (h2 x List.mem_cons_self)
    · subst q
      exact h4 x rfl
    · apply h4
      rw [List.getLast?_cons, hl]
      rfl
theorem book_next {es : List En} {e : En} {k : Int} (h : InvE es k) (b : bookOk [] none (es.map some) = true) (n : NextE es e k) : bookOk [] none ((es ++ [e]).map some) = true :=
  book_app e es [] none b rfl (fun x hx q => by have h1 := (h.all x hx).2.2; have h2 := n.res; rw [q] at h1; omega) (fun _ => rfl) n.ord
theorem book_weak : ∀ (is : List (Option En)) (s1 s2 : List Int) (l1 l2 : Option En), (∀ n, s2.contains n = true → s1.contains n = true) → (l2 = none ∨ l2 = l1) → bookOk s1 l1 is = true → bookOk s2 l2 is = true
  | [], _, _, _, _, _, _, _ => rfl
  | none :: _, _, _, _, _, _, _, h => nomatch h
  | some e :: r, s1, s2, l1, l2, hs, hl, h => by
    have h : (!s1.contains e.n && (lastOk l1 e && bookOk (s1 ++ [e.n]) (some e) r)) = true := h
    rw [Bool.and_eq_true, Bool.and_eq_true] at h
    show (!s2.contains e.n && (lastOk l2 e && bookOk (s2 ++ [e.n]) (some e) r)) = true
    have c1 : s2.contains e.n = false := by
      cases q : s2.contains e.n with
      | false => rfl
      | true => rw [hs _ q] at h; exact absurd h.1 (by decide)
    have c2 : lastOk l2 e = true := by
      rcases hl with rfl | rfl
      · rfl
      · exact h.2.1
    rw [c1, c2, book_weak r (s1 ++ [e.n]) (s2 ++ [e.n]) (some e) (some e) ?_ (.inr rfl) h.2.2]
    · rfl
    · intro n hn
      rcases List.mem_append.mp (List.contains_iff_mem.mp hn) with q | q
      · exact List.contains_iff_mem.mpr (List.mem_append_left _ (List.contains_iff_mem.mp (hs _ (List.contains_iff_mem.mpr q))))
      · exact List.contains_iff_mem.mpr (List.mem_append_right _ q)
theorem book_tail {e : En} {r : List En} (h : bookOk [] none ((e :: r).map some) = true) : bookOk [] none (r.map some) = true := by
  have h : (!([] : List Int).contains e.n && (lastOk none e && bookOk ([] ++ [e.n]) (some e) (r.map some))) = true := h
  rw [Bool.and_eq_true, Bool.and_eq_true] at h
  exact book_weak _ _ _ _ _ (fun _ q => by cases q) (.inl rfl) h.2.2
theorem book_init : ∀ (is js : List (Option En)) (s : List Int) (l : Option En), bookOk s l (is ++ js) = true → bookOk s l is = true
  | [], _, _, _, _ => rfl
  | none :: _, _, _, _, h => nomatch h
  | some e :: r, js, s, l, h => by
    have h : (!s.contains e.n && (lastOk l e && bookOk (s ++ [e.n]) (some e) (r ++ js))) = true := h
    rw [Bool.and_eq_true, Bool.and_eq_true] at h
    show (!s.contains e.n && (lastOk l e && bookOk (s ++ [e.n]) (some e) r)) = true
    rw [h.1, h.2.1, book_init r js _ _ h.2.2]
    rfl
theorem EntsAt.push {H : Hp} {C l : Addr} {xs : List V} {ws : List V} {es : List En} {v : V} {e : En} (hl : H l = some (.lst xs)) (h : EntsAt H C ws es) (hv : EntAt H C v e) (zs : List V) : EntsAt (upd H l (.lst zs)) C (ws ++ [v]) (es ++ [e]) := by
  have up : ∀ {x : En} {u : V}, EntAt H C u x → EntAt (upd H l (.lst zs)) C u x := fun ⟨a, dx, e1, h1⟩ => ⟨a, dx, e1, by rw [upd_ne (ne_of h1 hl (by intro z; cases z))]; exact h1⟩
  refine ⟨by rw [List.length_append, List.length_append, h.1]; rfl, fun j u x hu hx => ?_⟩
  by_cases hj : j < ws.length
  · rw [List.getElem?_append_left hj] at hu
    rw [List.getElem?_append_left (by rw [← h.1]; exact hj)] at hx
    exact up (h.2 j u x hu hx)
  · rw [List.getElem?_append_right (by omega)] at hu
    rw [List.getElem?_append_right (by rw [← h.1]; omega)] at hx
    obtain ⟨h1, e1⟩ := List.getElem?_eq_some_iff.mp hu
    have j0 : j - ws.length = 0 := by simpa using h1
    rw [j0] at hu
    rw [← h.1, j0] at hx
    cases Option.some.inj hu
    cases Option.some.inj hx
    exact up hv
theorem EntsAt.init {H : Hp} {C : Addr} {ws : List V} {es : List En} {v : V} {e : En} (h : EntsAt H C (ws ++ [v]) (es ++ [e])) : EntsAt H C ws es := by
  have hl := h.1
  rw [List.length_append, List.length_append] at hl
  have el : ws.length = es.length := by simpa using hl
  refine ⟨el, fun j u x hu hx => h.2 j u x ?_ ?_⟩
  · rw [List.getElem?_append_left (List.getElem?_eq_some_iff.mp hu).1]; exact hu
  · rw [List.getElem?_append_left (List.getElem?_eq_some_iff.mp hx).1]; exact hx
theorem EntsAt.upd {H : Hp} {C l : Addr} {xs : List V} {ws : List V} {es : List En} (hl : H l = some (.lst xs)) (h : EntsAt H C ws es) (zs : List V) : EntsAt (L2.upd H l (.lst zs)) C ws es :=
  ⟨h.1, fun j v e a b => let ⟨x, dx, e1, h1⟩ := h.2 j v e a b; ⟨x, dx, e1, by rw [upd_ne (ne_of h1 hl (by intro z; cases z))]; exact h1⟩⟩

def spLaw (K : PySem.W.Frag) : Sp := fun vs H Q _ => ∃ (a : Addr) (ns : List Int), vs = [.ref a] ∧ SqL K H a (ns.map V.int) ∧ ns.length ≤ 63 ∧ ∀ H', Q (.bl true) H'

def top (i : Nat) : Stmt := PySem.Challenge.pw_rightname_k22_books_written.main.body.getD i (.Pass ⟨0, 0, 0, 0⟩)
abbrev s_is_whole : Stmt := top 14
abbrev s_is_day : Stmt := top 15
abbrev s_is_number : Stmt := top 16
abbrev s_is_word : Stmt := top 17
abbrev s_is_rank : Stmt := top 18
abbrev s_refuse_head : Stmt := top 21
abbrev s_under_fits : Stmt := top 22
abbrev s_tie_fits : Stmt := top 23
abbrev s_ahead : Stmt := top 24
abbrev s_book_list : Stmt := top 25
abbrev s_entry_row : Stmt := top 27
abbrev s_written : Stmt := top 28
abbrev s_Lcell_at : Stmt := top 30
abbrev s_Lmixed : Stmt := top 32
abbrev s_Lword : Stmt := top 33
abbrev s_Lday : Stmt := top 34
abbrev s_Lfields : Stmt := top 35
abbrev s_Ltext_of : Stmt := top 36
abbrev s_Lentry : Stmt := top 37
abbrev s_Lno_book : Stmt := top 38
abbrev s_Lrefused : Stmt := top 39
abbrev s_law : Stmt := top 40
abbrev s_Entry_init : Stmt := inClass (top 20) 0
theorem rb_Entry_8 {vs : List V} {us : List Value} {zs : List V} {ws : List Value} (r : Vals vs us) (rz : Vals zs ws) : Vals ((fun us ws => us ++ (match ws with | [] => [] | _ => []) : List V → List V → List V) vs zs) ((fun us ws => us ++ (match ws with | [] => [] | _ => []) : List Value → List Value → List Value) us ws) := by
  refine r.append ?_
  cases rz with
  | nil => exact .nil
  | cons _ _ => exact .nil
theorem mb_Entry_8 {K : PySem.W.Frag} {T f : Addr} {fd : FuncData} {o : Obj} {n : Nat} (F : FunD K "__init__" "Entry.__init__" s_Entry_init (.ref T) f fd) (hT : K.lookup T = some o) (hs : o.data = .seq #[.none, .none, .none, .bool true] n) : MkBinds K fd ["self", "number", "day", "rank", "word", "under", "sheet", "base", "described"] [] 8 (fun us ws => us ++ (match ws with | [] => [] | _ => [])) (fun us ws => us ++ (match ws with | [] => [] | _ => [])) :=
  .ofD F hT hs rb_Entry_8 fun _ _ _ _ _ _ y us ws h1 h2 => by
    obtain ⟨a0, us0, rfl, g0⟩ := lenS h1
    obtain ⟨a1, us1, rfl, g1⟩ := lenS g0
    obtain ⟨a2, us2, rfl, g2⟩ := lenS g1
    obtain ⟨a3, us3, rfl, g3⟩ := lenS g2
    obtain ⟨a4, us4, rfl, g4⟩ := lenS g3
    obtain ⟨a5, us5, rfl, g5⟩ := lenS g4
    obtain ⟨a6, us6, rfl, g6⟩ := lenS g5
    obtain ⟨a7, us7, rfl, g7⟩ := lenS g6
    obtain rfl := len0 g7
    obtain rfl := len0 h2
    exact ⟨⟨_, rfl, rfl⟩, rfl⟩
theorem rb_Entry_6 {vs : List V} {us : List Value} {zs : List V} {ws : List Value} (r : Vals vs us) (rz : Vals zs ws) : Vals ((fun us ws => us ++ (match ws with | [] => [.non, .bl true] | _ => []) : List V → List V → List V) vs zs) ((fun us ws => us ++ (match ws with | [] => [.none, .bool true] | _ => []) : List Value → List Value → List Value) us ws) := by
  refine r.append ?_
  cases rz with
  | nil => exact (.cons rfl (.cons rfl .nil))
  | cons _ _ => exact .nil
theorem mb_Entry_6 {K : PySem.W.Frag} {T f : Addr} {fd : FuncData} {o : Obj} {n : Nat} (F : FunD K "__init__" "Entry.__init__" s_Entry_init (.ref T) f fd) (hT : K.lookup T = some o) (hs : o.data = .seq #[.none, .none, .none, .bool true] n) : MkBinds K fd ["self", "number", "day", "rank", "word", "under", "sheet", "base", "described"] [] 6 (fun us ws => us ++ (match ws with | [] => [.none, .bool true] | _ => [])) (fun us ws => us ++ (match ws with | [] => [.non, .bl true] | _ => [])) :=
  .ofD F hT hs rb_Entry_6 fun _ _ _ _ _ _ y us ws h1 h2 => by
    obtain ⟨a0, us0, rfl, g0⟩ := lenS h1
    obtain ⟨a1, us1, rfl, g1⟩ := lenS g0
    obtain ⟨a2, us2, rfl, g2⟩ := lenS g1
    obtain ⟨a3, us3, rfl, g3⟩ := lenS g2
    obtain ⟨a4, us4, rfl, g4⟩ := lenS g3
    obtain ⟨a5, us5, rfl, g5⟩ := lenS g4
    obtain rfl := len0 g5
    obtain rfl := len0 h2
    exact ⟨⟨_, rfl, rfl⟩, rfl⟩
structure Fn (K : PySem.W.Frag) (mg : Str → Option Value) (x : Str) (st : Stmt) (ps : List Str) (f : Addr) (fd : FuncData) : Prop where
  fn : Fun K x x st f fd
  mgf : mg x = some (.ref f)
  bi : Binds K fd ps []
theorem Fn.kp {K : PySem.W.Frag} {mg : Str → Option Value} {x : Str} {st : Stmt} {ps : List Str} {f : Addr} {fd : FuncData} (F : Fn K mg x st ps f fd) : PySem.W.keepIn K (.ref f) = true := F.fn.kp
set_option genInjectivity false in
set_option genSizeOfSpec false in
set_option genSizeOf false in
structure Ad where
  a_is_whole : Addr
  d_is_whole : FuncData
  a_is_day : Addr
  d_is_day : FuncData
  a_is_number : Addr
  d_is_number : FuncData
  a_is_word : Addr
  d_is_word : FuncData
  a_is_rank : Addr
  d_is_rank : FuncData
  a_refuse_head : Addr
  d_refuse_head : FuncData
  a_under_fits : Addr
  d_under_fits : FuncData
  a_tie_fits : Addr
  d_tie_fits : FuncData
  a_ahead : Addr
  d_ahead : FuncData
  a_book_list : Addr
  d_book_list : FuncData
  a_entry_row : Addr
  d_entry_row : FuncData
  a_written : Addr
  d_written : FuncData
  a_Lcell_at : Addr
  d_Lcell_at : FuncData
  a_Lmixed : Addr
  d_Lmixed : FuncData
  a_Lword : Addr
  d_Lword : FuncData
  a_Lday : Addr
  d_Lday : FuncData
  a_Lfields : Addr
  d_Lfields : FuncData
  a_Ltext_of : Addr
  d_Ltext_of : FuncData
  a_Lentry : Addr
  d_Lentry : FuncData
  a_Lno_book : Addr
  d_Lno_book : FuncData
  a_Lrefused : Addr
  d_Lrefused : FuncData
  a_law : Addr
  d_law : FuncData
  c_Entry : Addr
  a_Entry_init : Addr
  t_Entry_init : Addr
  d_Entry_init : FuncData
  u_MOST_LETTERS : Value
  u_LAST_DAY : Value
  u_LAST_NUMBER : Value
  u_RANKS : Addr
  c_NoNumber : Addr
  c_NoDay : Addr
  c_NoRank : Addr
  c_NoWord : Addr
  c_NoBook : Addr
  c_NoEntry : Addr
  c_RightError : Addr
  c_NoText : Addr
structure Txt (w : World) (K : PySem.W.Frag) (mg : Str → Option Value) (c : Ad) : Prop where
  is_whole : Fn K mg "is_whole" s_is_whole ["thing"] c.a_is_whole c.d_is_whole
  is_day : Fn K mg "is_day" s_is_day ["thing"] c.a_is_day c.d_is_day
  is_number : Fn K mg "is_number" s_is_number ["thing"] c.a_is_number c.d_is_number
  is_word : Fn K mg "is_word" s_is_word ["thing"] c.a_is_word c.d_is_word
  is_rank : Fn K mg "is_rank" s_is_rank ["thing"] c.a_is_rank c.d_is_rank
  refuse_head : Fn K mg "refuse_head" s_refuse_head ["number", "day", "rank", "word"] c.a_refuse_head c.d_refuse_head
  under_fits : Fn K mg "under_fits" s_under_fits ["rank", "under"] c.a_under_fits c.d_under_fits
  tie_fits : Fn K mg "tie_fits" s_tie_fits ["rank", "sheet", "base"] c.a_tie_fits c.d_tie_fits
  ahead : Fn K mg "ahead" s_ahead ["one", "other"] c.a_ahead c.d_ahead
  book_list : Fn K mg "book_list" s_book_list ["entries"] c.a_book_list c.d_book_list
  entry_row : Fn K mg "entry_row" s_entry_row ["entry"] c.a_entry_row c.d_entry_row
  written : Fn K mg "written" s_written ["entries"] c.a_written c.d_written
  Lcell_at : Fn K mg "_law_cell_at" s_Lcell_at ["_law_script", "_law_k"] c.a_Lcell_at c.d_Lcell_at
  Lmixed : Fn K mg "_law_mixed" s_Lmixed ["_law_cell", "_law_k"] c.a_Lmixed c.d_Lmixed
  Lword : Fn K mg "_law_word" s_Lword ["_law_mixed_here"] c.a_Lword c.d_Lword
  Lday : Fn K mg "_law_day" s_Lday ["_law_last", "_law_mixed_here"] c.a_Lday c.d_Lday
  Lfields : Fn K mg "_law_fields" s_Lfields ["_law_rows", "_law_mixed_here", "_law_k"] c.a_Lfields c.d_Lfields
  Ltext_of : Fn K mg "_law_text_of" s_Ltext_of ["_law_row"] c.a_Ltext_of c.d_Ltext_of
  Lentry : Fn K mg "_law_entry" s_Lentry ["_law_row"] c.a_Lentry c.d_Lentry
  Lno_book : Fn K mg "_law_no_book" s_Lno_book ["_law_entries", "_law_cell"] c.a_Lno_book c.d_Lno_book
  Lrefused : Fn K mg "_law_refused" s_Lrefused ["_law_thing"] c.a_Lrefused c.d_Lrefused
  law : Fn K mg "law" s_law ["_law_script"] c.a_law c.d_law
  mg_Entry : mg "Entry" = some (.ref c.c_Entry)
  cl_Entry : Cls K c.c_Entry
  mk_Entry : Mk K c.c_Entry c.a_Entry_init
  Entry_init : FunD K "__init__" "Entry.__init__" s_Entry_init (.ref c.t_Entry_init) c.a_Entry_init c.d_Entry_init
  na_Entry_number : NoAttr K c.c_Entry "number"
  na_Entry_day : NoAttr K c.c_Entry "day"
  na_Entry_rank : NoAttr K c.c_Entry "rank"
  na_Entry_word : NoAttr K c.c_Entry "word"
  na_Entry_under : NoAttr K c.c_Entry "under"
  na_Entry_sheet : NoAttr K c.c_Entry "sheet"
  na_Entry_base : NoAttr K c.c_Entry "base"
  na_Entry_described : NoAttr K c.c_Entry "described"
  b_Entry_8 : MkBinds K c.d_Entry_init ["self", "number", "day", "rank", "word", "under", "sheet", "base", "described"] [] 8 (fun us ws => us ++ (match ws with | [] => [] | _ => [])) (fun us ws => us ++ (match ws with | [] => [] | _ => []))
  b_Entry_6 : MkBinds K c.d_Entry_init ["self", "number", "day", "rank", "word", "under", "sheet", "base", "described"] [] 6 (fun us ws => us ++ (match ws with | [] => [.none, .bool true] | _ => [])) (fun us ws => us ++ (match ws with | [] => [.non, .bl true] | _ => []))
  mg_MOST_LETTERS : mg "MOST_LETTERS" = some c.u_MOST_LETTERS
  rl_MOST_LETTERS : RelV (.int 12) c.u_MOST_LETTERS
  mg_LAST_DAY : mg "LAST_DAY" = some c.u_LAST_DAY
  rl_LAST_DAY : RelV (.int 1000000) c.u_LAST_DAY
  mg_LAST_NUMBER : mg "LAST_NUMBER" = some c.u_LAST_NUMBER
  rl_LAST_NUMBER : RelV (.int 1000000000) c.u_LAST_NUMBER
  mg_RANKS : mg "RANKS" = some (.ref c.u_RANKS)
  sq_RANKS : ∀ H, SqT K H c.u_RANKS [.str "genus", .str "species", .str "form"]
  mg_NoNumber : mg "NoNumber" = some (.ref c.c_NoNumber)
  mg_NoDay : mg "NoDay" = some (.ref c.c_NoDay)
  mg_NoRank : mg "NoRank" = some (.ref c.c_NoRank)
  mg_NoWord : mg "NoWord" = some (.ref c.c_NoWord)
  mg_NoBook : mg "NoBook" = some (.ref c.c_NoBook)
  mg_NoEntry : mg "NoEntry" = some (.ref c.c_NoEntry)
  mg_RightError : mg "RightError" = some (.ref c.c_RightError)
  mg_NoText : mg "NoText" = some (.ref c.c_NoText)
  x_NoNumber : XCls K c.c_NoNumber
  q_NoNumber : XAsk K c.c_NoNumber
  i_NoNumber_NoBook : PySem.W.kitOne K (.ref c.c_NoNumber) (.ref c.c_NoBook) = some false
  i_NoNumber_ValueError : PySem.W.kitOne K (.ref c.c_NoNumber) (.type "ValueError") = some true
  i_NoNumber_NoEntry : PySem.W.kitOne K (.ref c.c_NoNumber) (.ref c.c_NoEntry) = some false
  i_NoNumber_NoNumber : PySem.W.kitOne K (.ref c.c_NoNumber) (.ref c.c_NoNumber) = some true
  i_NoNumber_NoText : PySem.W.kitOne K (.ref c.c_NoNumber) (.ref c.c_NoText) = some false
  e_NoNumber_RightError : PySem.W.exmOne K (.ref c.c_NoNumber) (.ref c.c_RightError) = some true
  x_NoDay : XCls K c.c_NoDay
  q_NoDay : XAsk K c.c_NoDay
  i_NoDay_NoBook : PySem.W.kitOne K (.ref c.c_NoDay) (.ref c.c_NoBook) = some false
  i_NoDay_ValueError : PySem.W.kitOne K (.ref c.c_NoDay) (.type "ValueError") = some true
  i_NoDay_NoEntry : PySem.W.kitOne K (.ref c.c_NoDay) (.ref c.c_NoEntry) = some false
  i_NoDay_NoNumber : PySem.W.kitOne K (.ref c.c_NoDay) (.ref c.c_NoNumber) = some false
  i_NoDay_NoText : PySem.W.kitOne K (.ref c.c_NoDay) (.ref c.c_NoText) = some false
  e_NoDay_RightError : PySem.W.exmOne K (.ref c.c_NoDay) (.ref c.c_RightError) = some true
  x_NoRank : XCls K c.c_NoRank
  q_NoRank : XAsk K c.c_NoRank
  i_NoRank_NoBook : PySem.W.kitOne K (.ref c.c_NoRank) (.ref c.c_NoBook) = some false
  i_NoRank_ValueError : PySem.W.kitOne K (.ref c.c_NoRank) (.type "ValueError") = some true
  i_NoRank_NoEntry : PySem.W.kitOne K (.ref c.c_NoRank) (.ref c.c_NoEntry) = some false
  i_NoRank_NoNumber : PySem.W.kitOne K (.ref c.c_NoRank) (.ref c.c_NoNumber) = some false
  i_NoRank_NoText : PySem.W.kitOne K (.ref c.c_NoRank) (.ref c.c_NoText) = some false
  e_NoRank_RightError : PySem.W.exmOne K (.ref c.c_NoRank) (.ref c.c_RightError) = some true
  x_NoWord : XCls K c.c_NoWord
  q_NoWord : XAsk K c.c_NoWord
  i_NoWord_NoBook : PySem.W.kitOne K (.ref c.c_NoWord) (.ref c.c_NoBook) = some false
  i_NoWord_ValueError : PySem.W.kitOne K (.ref c.c_NoWord) (.type "ValueError") = some true
  i_NoWord_NoEntry : PySem.W.kitOne K (.ref c.c_NoWord) (.ref c.c_NoEntry) = some false
  i_NoWord_NoNumber : PySem.W.kitOne K (.ref c.c_NoWord) (.ref c.c_NoNumber) = some false
  i_NoWord_NoText : PySem.W.kitOne K (.ref c.c_NoWord) (.ref c.c_NoText) = some false
  e_NoWord_RightError : PySem.W.exmOne K (.ref c.c_NoWord) (.ref c.c_RightError) = some true
  x_NoBook : XCls K c.c_NoBook
  q_NoBook : XAsk K c.c_NoBook
  i_NoBook_NoBook : PySem.W.kitOne K (.ref c.c_NoBook) (.ref c.c_NoBook) = some true
  i_NoBook_ValueError : PySem.W.kitOne K (.ref c.c_NoBook) (.type "ValueError") = some true
  i_NoBook_NoEntry : PySem.W.kitOne K (.ref c.c_NoBook) (.ref c.c_NoEntry) = some false
  i_NoBook_NoNumber : PySem.W.kitOne K (.ref c.c_NoBook) (.ref c.c_NoNumber) = some false
  i_NoBook_NoText : PySem.W.kitOne K (.ref c.c_NoBook) (.ref c.c_NoText) = some false
  e_NoBook_RightError : PySem.W.exmOne K (.ref c.c_NoBook) (.ref c.c_RightError) = some true
  x_NoEntry : XCls K c.c_NoEntry
  q_NoEntry : XAsk K c.c_NoEntry
  i_NoEntry_NoBook : PySem.W.kitOne K (.ref c.c_NoEntry) (.ref c.c_NoBook) = some false
  i_NoEntry_ValueError : PySem.W.kitOne K (.ref c.c_NoEntry) (.type "ValueError") = some true
  i_NoEntry_NoEntry : PySem.W.kitOne K (.ref c.c_NoEntry) (.ref c.c_NoEntry) = some true
  i_NoEntry_NoNumber : PySem.W.kitOne K (.ref c.c_NoEntry) (.ref c.c_NoNumber) = some false
  i_NoEntry_NoText : PySem.W.kitOne K (.ref c.c_NoEntry) (.ref c.c_NoText) = some false
  e_NoEntry_RightError : PySem.W.exmOne K (.ref c.c_NoEntry) (.ref c.c_RightError) = some true
  w_Entry : IAsk K c.c_Entry
  ws_Entry : PySem.W.kitOne K (.ref c.c_Entry) (.ref c.c_Entry) = some true
  wn_Entry_NoneType : PySem.W.kitOne K (.type "NoneType") (.ref c.c_Entry) = some false
  wn_Entry_int : PySem.W.kitOne K (.type "int") (.ref c.c_Entry) = some false
  wn_Entry_str : PySem.W.kitOne K (.type "str") (.ref c.c_Entry) = some false
  wn_Entry_bool : PySem.W.kitOne K (.type "bool") (.ref c.c_Entry) = some false
  wn_Entry_list : PySem.W.kitOne K (.type "list") (.ref c.c_Entry) = some false
  wn_Entry_tuple : PySem.W.kitOne K (.type "tuple") (.ref c.c_Entry) = some false
  wn_Entry_dict : PySem.W.kitOne K (.type "dict") (.ref c.c_Entry) = some false
  no_len : mg "len" = none
  no_isinstance : mg "isinstance" = none
  no_str : mg "str" = none
  no_bool : mg "bool" = none
  no_all : mg "all" = none
  no_range : mg "range" = none
  no_int : mg "int" = none
  no_ValueError : mg "ValueError" = none
  no_list : mg "list" = none
  no_tuple : mg "tuple" = none
  no_enumerate : mg "enumerate" = none
  no_zip : mg "zip" = none
theorem sc_is_whole : FnScope ["thing"] ["thing"] (defScope s_is_whole) := ⟨rfl, rfl, rfl, by decide +kernel, rfl, by decide +kernel, by decide +kernel⟩
theorem sc_is_day : FnScope ["thing"] ["thing"] (defScope s_is_day) := ⟨rfl, rfl, rfl, by decide +kernel, rfl, by decide +kernel, by decide +kernel⟩
theorem sc_is_number : FnScope ["thing"] ["thing"] (defScope s_is_number) := ⟨rfl, rfl, rfl, by decide +kernel, rfl, by decide +kernel, by decide +kernel⟩
theorem sc_is_word : FnScope ["thing"] ["thing"] (defScope s_is_word) := ⟨rfl, rfl, rfl, by decide +kernel, rfl, by decide +kernel, by decide +kernel⟩
theorem sc_is_rank : FnScope ["thing"] ["thing"] (defScope s_is_rank) := ⟨rfl, rfl, rfl, by decide +kernel, rfl, by decide +kernel, by decide +kernel⟩
theorem sc_refuse_head : FnScope ["number", "day", "rank", "word"] ["number", "day", "rank", "word"] (defScope s_refuse_head) := ⟨rfl, rfl, rfl, by decide +kernel, rfl, by decide +kernel, by decide +kernel⟩
theorem sc_under_fits : FnScope ["rank", "under"] ["rank", "under"] (defScope s_under_fits) := ⟨rfl, rfl, rfl, by decide +kernel, rfl, by decide +kernel, by decide +kernel⟩
theorem sc_tie_fits : FnScope ["rank", "sheet", "base"] ["rank", "sheet", "base"] (defScope s_tie_fits) := ⟨rfl, rfl, rfl, by decide +kernel, rfl, by decide +kernel, by decide +kernel⟩
theorem sc_ahead : FnScope ["one", "other"] ["one", "other"] (defScope s_ahead) := ⟨rfl, rfl, rfl, by decide +kernel, rfl, by decide +kernel, by decide +kernel⟩
theorem sc_book_list : FnScope ["entries", "book", "seen", "last", "entry"] ["entries"] (defScope s_book_list) := ⟨rfl, rfl, rfl, by decide +kernel, rfl, by decide +kernel, by decide +kernel⟩
theorem sc_entry_row : FnScope ["entry", "words"] ["entry"] (defScope s_entry_row) := ⟨rfl, rfl, rfl, by decide +kernel, rfl, by decide +kernel, by decide +kernel⟩
theorem sc_written : FnScope ["entries"] ["entries"] (defScope s_written) := ⟨rfl, rfl, rfl, by decide +kernel, rfl, by decide +kernel, by decide +kernel⟩
theorem sc_Lcell_at : FnScope ["_law_script", "_law_k"] ["_law_script", "_law_k"] (defScope s_Lcell_at) := ⟨rfl, rfl, rfl, by decide +kernel, rfl, by decide +kernel, by decide +kernel⟩
theorem sc_Lmixed : FnScope ["_law_cell", "_law_k"] ["_law_cell", "_law_k"] (defScope s_Lmixed) := ⟨rfl, rfl, rfl, by decide +kernel, rfl, by decide +kernel, by decide +kernel⟩
theorem sc_Lword : FnScope ["_law_mixed_here", "_law_letters", "_law_word_here", "_law_k"] ["_law_mixed_here"] (defScope s_Lword) := ⟨rfl, rfl, rfl, by decide +kernel, rfl, by decide +kernel, by decide +kernel⟩
theorem sc_Lday : FnScope ["_law_last", "_law_mixed_here", "_law_before"] ["_law_last", "_law_mixed_here"] (defScope s_Lday) := ⟨rfl, rfl, rfl, by decide +kernel, rfl, by decide +kernel, by decide +kernel⟩
theorem sc_Lfields : FnScope ["_law_rows", "_law_mixed_here", "_law_k", "_law_last", "_law_day_here", "_law_number", "_law_rank", "_law_under", "_law_sheet", "_law_word_here"] ["_law_rows", "_law_mixed_here", "_law_k"] (defScope s_Lfields) := ⟨rfl, rfl, rfl, by decide +kernel, rfl, by decide +kernel, by decide +kernel⟩
theorem sc_Ltext_of : FnScope ["_law_row", "_law_words"] ["_law_row"] (defScope s_Ltext_of) := ⟨rfl, rfl, rfl, by decide +kernel, rfl, by decide +kernel, by decide +kernel⟩
theorem sc_Lentry : FnScope ["_law_row"] ["_law_row"] (defScope s_Lentry) := ⟨rfl, rfl, rfl, by decide +kernel, rfl, by decide +kernel, by decide +kernel⟩
theorem sc_Lno_book : FnScope ["_law_entries", "_law_cell"] ["_law_entries", "_law_cell"] (defScope s_Lno_book) := ⟨rfl, rfl, rfl, by decide +kernel, rfl, by decide +kernel, by decide +kernel⟩
theorem sc_Lrefused : FnScope ["_law_thing", "_law_caught", "e"] ["_law_thing"] (defScope s_Lrefused) := ⟨rfl, rfl, rfl, by decide +kernel, rfl, by decide +kernel, by decide +kernel⟩
theorem sc_law : FnScope ["_law_script", "_law_rows", "_law_k", "_law_cell", "_law_due", "_law_handed", "_law_found", "_law_entry_here", "_law_text", "_law_told"] ["_law_script"] (defScope s_law) := ⟨rfl, rfl, rfl, by decide +kernel, rfl, by decide +kernel, by decide +kernel⟩
theorem sc_Entry_init : FnScope ["self", "number", "day", "rank", "word", "under", "sheet", "base", "described"] ["self", "number", "day", "rank", "word", "under", "sheet", "base", "described"] (defScope s_Entry_init) := ⟨rfl, rfl, rfl, by decide +kernel, rfl, by decide +kernel, by decide +kernel⟩
section
variable {P : Program} {w : World} {K : PySem.W.Frag} {mg : Str → Option Value} {base : Heap} {c : Ad}

set_option maxHeartbeats 4000000 in
theorem ok_is_whole (T : Txt w K mg c) : FnOk P w K mg base CX0 1 c.a_is_whole c.d_is_whole ["thing"] (spW K) := by
  refine T.is_whole.fn.ok sc_is_whole (fun vs H Q E h => ?_) (fun cdv A outer s H vs Q E hr h => ?_)
  · obtain ⟨x, rfl, _⟩ := h
    rfl
  · obtain ⟨x, rfl, ow, k⟩ := h
    refine ⟨_, (pss_one (ps_ret (pe_and (pe_callB call_isiA rfl T.no_isinstance bt_isinstance (pa_cons (pv 0) (pa_cons (pe_bltn (v := .ty "int") rfl T.no_int bt_int rfl) pa_nil))) (pe_one (pe_not (pe_callB call_isiA rfl T.no_isinstance bt_isinstance (pa_cons (pv 0) (pa_cons (pe_bltn (v := .ty "bool") rfl T.no_bool bt_bool rfl) pa_nil)))))))), ?_⟩
    refine ⟨x, rfl, rIsiA.int ow ⟨_, rfl, ?_⟩⟩
    cases x with
    | int i => exact iteT ⟨_, rfl, rIsiA.bool ow ⟨_, rfl, k⟩⟩
    | bl b => exact iteT ⟨_, rfl, rIsiA.bool ow ⟨_, rfl, k⟩⟩
    | _ => exact iteF k

set_option maxHeartbeats 4000000 in
theorem ok_is_day (T : Txt w K mg c) : FnOk P w K mg base CX0 2 c.a_is_day c.d_is_day ["thing"] (spR K 1000000) := by
  refine T.is_day.fn.ok sc_is_day (fun vs H Q E h => ?_) (fun cdv A outer s H vs Q E hr h => ?_)
  · obtain ⟨x, rfl, _⟩ := h
    rfl
  · obtain ⟨x, rfl, ow, k⟩ := h
    refine ⟨_, (pss_one (ps_ret (pe_and (pe_call (ok_is_whole T) (hr.mono (by decide)) rfl T.is_whole.mgf T.is_whole.kp T.is_whole.bi .nil pass0 (pa_cons (pv 0) pa_nil)) (pe_one (pe_chain op_le op_le pe_int (pv 0) (pe_glob rfl T.mg_LAST_DAY T.rl_LAST_DAY)))))), ?_⟩
    refine ⟨x, rfl, x, rfl, ow, _, rfl, ?_⟩
    cases x with
    | int i =>
      refine iteT ⟨_, rfl, _, _, rfl, rfl, _, rfl, ?_⟩
      by_cases h1 : 1 ≤ i
      · rw [if_pos (decide_eq_true h1)]
        refine ⟨_, _, rfl, rfl, ?_⟩
        simpa [inR, h1] using k
      · rw [if_neg (by simp [h1])]
        simpa [inR, h1] using k
    | _ => exact iteF k

set_option maxHeartbeats 4000000 in
theorem ok_is_number (T : Txt w K mg c) : FnOk P w K mg base CX0 2 c.a_is_number c.d_is_number ["thing"] (spR K 1000000000) := by
  refine T.is_number.fn.ok sc_is_number (fun vs H Q E h => ?_) (fun cdv A outer s H vs Q E hr h => ?_)
  · obtain ⟨x, rfl, _⟩ := h
    rfl
  · obtain ⟨x, rfl, ow, k⟩ := h
    refine ⟨_, (pss_one (ps_ret (pe_and (pe_call (ok_is_whole T) (hr.mono (by decide)) rfl T.is_whole.mgf T.is_whole.kp T.is_whole.bi .nil pass0 (pa_cons (pv 0) pa_nil)) (pe_one (pe_chain op_le op_le pe_int (pv 0) (pe_glob rfl T.mg_LAST_NUMBER T.rl_LAST_NUMBER)))))), ?_⟩
    refine ⟨x, rfl, x, rfl, ow, _, rfl, ?_⟩
    cases x with
    | int i =>
      refine iteT ⟨_, rfl, _, _, rfl, rfl, _, rfl, ?_⟩
      by_cases h1 : 1 ≤ i
      · rw [if_pos (decide_eq_true h1)]
        refine ⟨_, _, rfl, rfl, ?_⟩
        simpa [inR, h1] using k
      · rw [if_neg (by simp [h1])]
        simpa [inR, h1] using k
    | _ => exact iteF k

set_option maxHeartbeats 4000000 in
theorem ok_is_word (T : Txt w K mg c) : FnOk P w K mg base CX0 1 c.a_is_word c.d_is_word ["thing"] (spWord K) := by
  refine T.is_word.fn.ok sc_is_word (fun vs H Q E h => ?_) (fun cdv A outer s H vs Q E hr h => ?_)
  · obtain ⟨x, rfl, _⟩ := h
    rfl
  · obtain ⟨x, rfl, ow, hz, k⟩ := h
    refine ⟨_, (pss_cons (ps_if (PW.pt (pw_or (pt_not (pt_val (pe_callB call_isiA rfl T.no_isinstance bt_isinstance (pa_cons (pv 0) (pa_cons (pe_bltn (v := .ty "str") rfl T.no_str bt_str rfl) pa_nil))))) (pw_or1 (pt_not (pt_chain op_le op_le pe_int (pe_callB call_len_str rfl T.no_len bt_len (pa_cons (pv 0) pa_nil)) (pe_glob rfl T.mg_MOST_LETTERS T.rl_MOST_LETTERS))))))
        (pss_one (ps_ret pe_bl))
        pss_nil)
      (pss_one (ps_ret (pe_callB (call_all rfl) rfl T.no_all bt_all (pa_cons (pe_comp (N' := ["sign"]) (js := [none]) rfl rfl (by decide +kernel) (by decide +kernel) (free_nil (by decide +kernel)) (cap_nil rfl rfl) (pi_str (pv 0)) (fun B => ⟨(pg_name (i := 0) (show List.Nodup (["sign"] : List Str) by decide +kernel) rfl (Or.inl rfl)), pifs_nil, (pe_chain op_le_str op_le_str pe_str (pv 0) pe_str)⟩)) pa_nil))))), ?_⟩
    refine ⟨x, rfl, rIsiA.str ow ⟨_, rfl, ?_⟩⟩
    cases x with
    | str z =>
      have hz : z.length ≤ sizeLine := hz
      refine iteF ?_
      walk_at "rd"
      refine ⟨hz, ?_⟩
      walk_at "rd"
      refine ite2 (fun h1 => ?_) (fun h1 => ?_)
      · walk_at "rd"
        by_cases h2 : ((z.length : Int) ≤ 12)
        · rw [decide_eq_true h2]
          refine iteF ⟨_, rfl, _, rfl, fun l B hl => ?_⟩
          have en : z.cps.toList.length = z.length := by simp [Str.length]
          refine loop_by z.cps.size (fun i σ acc H' => (∃ o, σ = [o]) ∧ acc = (z.cps.toList.take i).map (fun c => V.bl (letter c)) ∧ H' = upd H l (.lst acc)) hz ?_ ?_ ?_ ?_ ?_
          · exact ⟨⟨_, rfl⟩, rfl, rfl⟩
          · rintro i σ acc H' hi ⟨_, e, e'⟩
            refine ⟨by rw [e']; exact upd_same, ?_⟩
            rw [e, List.length_map, List.length_take]
            omega
          · intro i σ acc H' hi _
            exact hi
          · rintro i x σ acc H' H'' hi ⟨⟨o, rfl⟩, e, e'⟩ ⟨rfl, c, hc, rfl⟩
            have hc' : z.cps.toList[i]? = some c := by simpa using hc
            have fin : ∀ b, b = letter c → H'' l = some (.lst acc) ∧ Nx z.cps.size i ((∃ o, ([o].set 0 (some (V.str ⟨#[c]⟩)) : St) = [o]) ∧ acc ++ [V.bl b] = (z.cps.toList.take (i + 1)).map (fun c => V.bl (letter c)) ∧ upd H'' l (.lst (acc ++ [V.bl b])) = upd H l (.lst (acc ++ [V.bl b]))) := by
              intro b eb
              refine ⟨by rw [e']; exact upd_same, Nx.mk hi ⟨⟨_, rfl⟩, ?_, by rw [e', upd_upd]⟩⟩
              rw [take_one hc', List.map_append, ← e, eb]
              rfl
            walk_at "rd"
            rw [le_a]
            refine ite2 (fun g1 => ?_) (fun g1 => ?_)
            · walk_at "rd"
              refine fin _ ?_
              rw [le_z]
              unfold letter
              rw [g1]
              rfl
            · refine fin _ ?_
              unfold letter
              rw [eq_false_of_ne_true g1]
              rfl
          · rintro σ acc H' ⟨_, e, e'⟩
            refine ⟨rfl, l, z.cps.toList.map letter, rfl, SqL.of (by rw [e', upd_same, e, List.take_of_length_le (by simp)]; simp), ?_⟩
            have q := k H' (by rw [e']; exact Same.new hl)
            have ev : isWord (.str z) = (z.cps.toList.map letter).all id := by
              rw [isWord_str, h1, decide_eq_true h2, List.all_map]
              rfl
            rw [ev] at q
            exact q
        · rw [decide_eq_false h2]
          refine iteT ?_
          have ev : isWord (.str z) = false := by
            rw [isWord_str, decide_eq_false h2, Bool.and_false, Bool.false_and]
          have q := k H (Same.refl H)
          rw [ev] at q
          exact q
      · have ev : isWord (.str z) = false := by
          rw [isWord_str, eq_false_of_ne_true h1, Bool.false_and, Bool.false_and]
        have q := k H (Same.refl H)
        rw [ev] at q
        walk_at "rd"
        exact q
    | _ => exact iteT (k _ (Same.refl H))

set_option maxHeartbeats 4000000 in
theorem ok_is_rank (T : Txt w K mg c) : FnOk P w K mg base CX0 1 c.a_is_rank c.d_is_rank ["thing"] (spRank K) := by
  refine T.is_rank.fn.ok sc_is_rank (fun vs H Q E h => ?_) (fun cdv A outer s H vs Q E hr h => ?_)
  · obtain ⟨x, rfl, _⟩ := h
    rfl
  · obtain ⟨x, rfl, ow, k⟩ := h
    refine ⟨_, (pss_one (ps_ret (pe_and (pe_callB call_isiA rfl T.no_isinstance bt_isinstance (pa_cons (pv 0) (pa_cons (pe_bltn (v := .ty "str") rfl T.no_str bt_str rfl) pa_nil))) (pe_one (pe_cmpR op_in_seq (pv 0) (pe_glob (v := .ref c.u_RANKS) rfl T.mg_RANKS rfl) (by with_unfolding_all rfl)))))), ?_⟩
    refine ⟨x, rfl, rIsiA.str ow ⟨_, rfl, ?_⟩⟩
    cases x with
    | str z => exact iteT ⟨_, rfl, c.u_RANKS, ranks, rfl, .inr (T.sq_RANKS _), rfl, rfl, k⟩
    | _ => exact iteF k

set_option maxHeartbeats 4000000 in
theorem ok_refuse_head (T : Txt w K mg c) : FnOk P w K mg base (CXx P w) 3 c.a_refuse_head c.d_refuse_head ["number", "day", "rank", "word"] (spHead K ⟨c.c_NoNumber, c.c_NoDay, c.c_NoRank, c.c_NoWord, c.c_NoEntry⟩) := by
  refine T.refuse_head.fn.okx sc_refuse_head (fun vs H Q E h => ?_) (fun cdv A outer s H vs Q E hr h => ?_)
  · obtain ⟨n, d, r, w, rfl, _⟩ := h
    rfl
  · obtain ⟨n, d, r, w, rfl, on, od, or', ow, fw, k⟩ := h
    refine ⟨_, (pss_cons (ps_if (pt_not (pt_val (pe_call (ok_is_number T) (hr.mono (by decide)) rfl T.is_number.mgf T.is_number.kp T.is_number.bi .nil pass0 (pa_cons (pv 0) pa_nil))))
        (pss_one (ps_raise T.x_NoNumber rfl rfl T.mg_NoNumber rz_def (pa_cons pe_str pa_nil)))
        pss_nil)
      (pss_cons (ps_if (pt_not (pt_val (pe_call (ok_is_day T) (hr.mono (by decide)) rfl T.is_day.mgf T.is_day.kp T.is_day.bi .nil pass0 (pa_cons (pv 1) pa_nil))))
        (pss_one (ps_raise T.x_NoDay rfl rfl T.mg_NoDay rz_def (pa_cons pe_str pa_nil)))
        pss_nil)
      (pss_cons (ps_if (pt_not (pt_val (pe_call (ok_is_rank T) (hr.mono (by decide)) rfl T.is_rank.mgf T.is_rank.kp T.is_rank.bi .nil pass0 (pa_cons (pv 2) pa_nil))))
        (pss_one (ps_raise T.x_NoRank rfl rfl T.mg_NoRank rz_def (pa_cons pe_str pa_nil)))
        pss_nil)
      (pss_one (ps_if (pt_not (pt_val (pe_call (ok_is_word T) (hr.mono (by decide)) rfl T.is_word.mgf T.is_word.kp T.is_word.bi .nil pass0 (pa_cons (pv 3) pa_nil))))
        (pss_one (ps_raise T.x_NoWord rfl rfl T.mg_NoWord rz_def (pa_cons pe_str pa_nil)))
        pss_nil))))), ?_⟩
    walk_at "rd"
    refine ⟨on, ?_⟩
    walk_at "rd"
    refine iteB (fun h1 => ?_) (fun h1 => ?_)
    · have h1 : inR 1000000000 n = false := by simpa using h1
      have e : whyH n d r w = 1 := by unfold whyH; rw [if_pos h1]
      have q := (k H (Same.refl H)).2 (by rw [e]; decide)
      rw [e] at q
      exact ⟨le_ble rfl, q⟩
    have h1 : ¬ inR 1000000000 n = false := by simpa using h1
    walk_at "rd"
    refine ⟨od, ?_⟩
    walk_at "rd"
    refine iteB (fun h2 => ?_) (fun h2 => ?_)
    · have h2 : inR 1000000 d = false := by simpa using h2
      have e : whyH n d r w = 2 := by unfold whyH; rw [if_neg h1, if_pos h2]
      have q := (k H (Same.refl H)).2 (by rw [e]; decide)
      rw [e] at q
      exact ⟨le_ble rfl, q⟩
    have h2 : ¬ inR 1000000 d = false := by simpa using h2
    walk_at "rd"
    refine ⟨or', ?_⟩
    walk_at "rd"
    refine iteB (fun h3 => ?_) (fun h3 => ?_)
    · have h3 : isRank r = false := by simpa using h3
      have e : whyH n d r w = 3 := by unfold whyH; rw [if_neg h1, if_neg h2, if_pos h3]
      have q := (k H (Same.refl H)).2 (by rw [e]; decide)
      rw [e] at q
      exact ⟨le_ble rfl, q⟩
    have h3 : ¬ isRank r = false := by simpa using h3
    walk_at "rd"
    refine ⟨ow, fw, fun H' s1 => ?_⟩
    walk_at "rd"
    refine iteB (fun h4 => ?_) (fun h4 => ?_)
    · have h4 : isWord w = false := by simpa using h4
      have e : whyH n d r w = 4 := by unfold whyH; rw [if_neg h1, if_neg h2, if_neg h3, if_pos h4]
      have q := (k H' s1).2 (by rw [e]; decide)
      rw [e] at q
      exact ⟨le_ble rfl, q⟩
    have h4 : ¬ isWord w = false := by simpa using h4
    exact (k H' s1).1 (by unfold whyH; rw [if_neg h1, if_neg h2, if_neg h3, if_neg h4])

set_option maxHeartbeats 4000000 in
theorem ok_under_fits (T : Txt w K mg c) : FnOk P w K mg base CX0 3 c.a_under_fits c.d_under_fits ["rank", "under"] (spUnder K) := by
  refine T.under_fits.fn.ok sc_under_fits (fun vs H Q E h => ?_) (fun cdv A outer s H vs Q E hr h => ?_)
  · obtain ⟨z, u, rfl, _⟩ := h
    rfl
  · obtain ⟨z, u, rfl, ou, k⟩ := h
    refine ⟨_, (pss_cons (ps_if (pt_cmpR op_eq (pv 0) pe_str (nomark _))
        (pss_one (ps_ret (pe_cmp (pc_isN (pv 1)))))
        pss_nil)
      (pss_one (ps_ret (pe_call (ok_is_number T) (hr.mono (by decide)) rfl T.is_number.mgf T.is_number.kp T.is_number.bi .nil pass0 (pa_cons (pv 1) pa_nil))))), ?_⟩
    walk_at "rd"
    refine ite2 (fun h => ?_) (fun h => ?_)
    · have e : underFits (.str z) u = decide (u = .non) := by unfold underFits; rw [if_pos (of_decide_eq_true h)]
      rw [e] at k
      walk_at "rd"
      exact k
    · have e : underFits (.str z) u = inR 1000000000 u := by unfold underFits; rw [if_neg (fun q => h (decide_eq_true q))]
      rw [e] at k
      exact ⟨_, rfl, u, rfl, ou, k⟩

set_option maxHeartbeats 4000000 in
theorem ok_tie_fits (T : Txt w K mg c) : FnOk P w K mg base CX0 3 c.a_tie_fits c.d_tie_fits ["rank", "sheet", "base"] (spTie K) := by
  refine T.tie_fits.fn.ok sc_tie_fits (fun vs H Q E h => ?_) (fun cdv A outer s H vs Q E hr h => ?_)
  · obtain ⟨z, s', b, rfl, _⟩ := h
    rfl
  · obtain ⟨z, s', b, rfl, os, ob, k⟩ := h
    refine ⟨_, (pss_cons (ps_if (pt_cmp (pc_isN (pv 2)))
        (pss_one (ps_ret (pe_call (ok_is_number T) (hr.mono (by decide)) rfl T.is_number.mgf T.is_number.kp T.is_number.bi .nil pass0 (pa_cons (pv 1) pa_nil))))
        pss_nil)
      (pss_one (ps_ret (pe_and (pe_cmpR op_ne (pv 0) pe_str (nomark _)) (pe_and (pe_cmp (pc_isN (pv 1))) (pe_one (pe_call (ok_is_number T) (hr.mono (by decide)) rfl T.is_number.mgf T.is_number.kp T.is_number.bi .nil pass0 (pa_cons (pv 2) pa_nil)))))))), ?_⟩
    walk_at "rd"
    refine ite2 (fun h => ?_) (fun h => ?_)
    · have e : tieFits (.str z) s' b = inR 1000000000 s' := by unfold tieFits; rw [if_pos (of_decide_eq_true h)]
      rw [e] at k
      exact ⟨_, rfl, s', rfl, os, k⟩
    have hb : ¬ b = .non := fun q => h (decide_eq_true q)
    walk_at "rd"
    refine iteB (fun h1 => ?_) (fun h1 => ?_)
    · walk_at "rd"
      refine iteB (fun h2 => ?_) (fun h2 => ?_)
      · have e : tieFits (.str z) s' b = inR 1000000000 b := by
          unfold tieFits
          rw [if_neg hb, h1, h2]
          rfl
        rw [e] at k
        exact ⟨_, rfl, b, rfl, ob, k⟩
      · have e : tieFits (.str z) s' b = false := by
          unfold tieFits
          rw [if_neg hb, h2]
          simp
        rw [e] at k
        exact k
    · have e : tieFits (.str z) s' b = false := by
        unfold tieFits
        rw [if_neg hb, h1]
        rfl
      rw [e] at k
      exact k

set_option maxHeartbeats 4000000 in
theorem ok_Entry_init (T : Txt w K mg c) : FnOk P w K mg base (CXx P w) 4 c.a_Entry_init c.d_Entry_init ["self", "number", "day", "rank", "word", "under", "sheet", "base", "described"] (spInit K c.c_Entry ⟨c.c_NoNumber, c.c_NoDay, c.c_NoRank, c.c_NoWord, c.c_NoEntry⟩) := by
  refine T.Entry_init.okx sc_Entry_init (fun vs H Q E h => ?_) (fun cdv A outer s H vs Q E hr h => ?_)
  · obtain ⟨a, dx, n, d, r, w, u, s', b, kk, rfl, _⟩ := h
    rfl
  · obtain ⟨a, dx, n, d, r, w, u, s', b, kk, rfl, ha, on, od, or', ow, fw, ou, os, ob, k⟩ := h
    refine ⟨_, (pss_cons (ps_expr (pe_callS (ok_refuse_head T) (hr.mono (by decide)) rfl T.refuse_head.mgf T.refuse_head.kp T.refuse_head.bi .nil pass_def (pa_cons (pv 1) (pa_cons (pv 2) (pa_cons (pv 3) (pa_cons (pv 4) pa_nil))))))
      (pss_cons (ps_if (pt_not (pt_val (pe_call (ok_under_fits T) (hr.mono (by decide)) rfl T.under_fits.mgf T.under_fits.kp T.under_fits.bi .nil pass0 (pa_cons (pv 3) (pa_cons (pv 5) pa_nil)))))
        (pss_one (ps_raise T.x_NoEntry rfl rfl T.mg_NoEntry rz_def (pa_cons pe_str pa_nil)))
        pss_nil)
      (pss_cons (ps_if (pt_not (pt_val (pe_call (ok_tie_fits T) (hr.mono (by decide)) rfl T.tie_fits.mgf T.tie_fits.kp T.tie_fits.bi .nil pass0 (pa_cons (pv 3) (pa_cons (pv 6) (pa_cons (pv 7) pa_nil))))))
        (pss_one (ps_raise T.x_NoEntry rfl rfl T.mg_NoEntry rz_def (pa_cons pe_str pa_nil)))
        pss_nil)
      (pss_cons (ps_fld (pv 0) (pv 1) rfl)
      (pss_cons (ps_fld (pv 0) (pv 2) rfl)
      (pss_cons (ps_fld (pv 0) (pv 3) rfl)
      (pss_cons (ps_fld (pv 0) (pv 4) rfl)
      (pss_cons (ps_fld (pv 0) (pv 5) rfl)
      (pss_cons (ps_fld (pv 0) (pv 6) rfl)
      (pss_cons (ps_fld (pv 0) (pv 7) rfl)
      (pss_one (ps_fld (pv 0) (pv 8) rfl)))))))))))), ?_⟩
    refine ⟨_, rfl, _, rfl, _, rfl, _, rfl, n, d, r, w, rfl, on, od, or', ow, fw, fun H' s1 => ⟨fun h0 => ?_, fun h0 => ?_⟩⟩
    rotate_left
    · have e : why n d r w u s' b = whyH n d r w := by unfold why; rw [if_pos h0]
      have q := (k H' s1).2 (by rw [e]; exact h0)
      rw [e] at q
      exact q
    have hr3 : ∃ z : Str, r = .str z := by
      unfold whyH at h0
      split at h0
      · cases h0
      · split at h0
        · cases h0
        · split at h0
          · cases h0
          · rename_i q
            cases r <;> first | exact ⟨_, rfl⟩ | exact absurd rfl q
    obtain ⟨z, rfl⟩ := hr3
    refine ⟨_, rfl, _, rfl, z, u, rfl, ou.same s1, _, rfl, ?_⟩
    refine iteB (fun h1 => ?_) (fun h1 => ?_)
    · have h1 : underFits (.str z) u = false := by simpa using h1
      have e : why n d (.str z) w u s' b = 5 := by unfold why; rw [if_neg (by rw [h0]; decide), if_pos h1]
      have q := (k H' s1).2 (by rw [e]; decide)
      rw [e] at q
      exact ⟨le_ble rfl, q⟩
    have h1 : ¬ underFits (.str z) u = false := by simpa using h1
    refine ⟨_, rfl, _, rfl, _, rfl, z, s', b, rfl, os.same s1, ob.same s1, _, rfl, ?_⟩
    refine iteB (fun h2 => ?_) (fun h2 => ?_)
    · have h2 : tieFits (.str z) s' b = false := by simpa using h2
      have e : why n d (.str z) w u s' b = 5 := by unfold why; rw [if_neg (by rw [h0]; decide), if_neg h1, if_pos h2]
      have q := (k H' s1).2 (by rw [e]; decide)
      rw [e] at q
      exact ⟨le_ble rfl, q⟩
    have h2 : ¬ tieFits (.str z) s' b = false := by simpa using h2
    have q := (k H' s1).1 (by unfold why; rw [if_neg (by rw [h0]; decide), if_neg h1, if_neg h2])
    have a0 := s1 _ _ ha
    refine ⟨_, rfl, _, rfl, a, c.c_Entry, dx, _, rfl, a0, T.cl_Entry, T.na_Entry_number, le_ble rfl, ?_⟩
    refine ⟨_, rfl, _, rfl, a, c.c_Entry, dx, _, rfl, upd_same, T.cl_Entry, T.na_Entry_day, le_ble rfl, ?_⟩
    refine ⟨_, rfl, _, rfl, a, c.c_Entry, dx, _, rfl, upd_same, T.cl_Entry, T.na_Entry_rank, le_ble rfl, ?_⟩
    refine ⟨_, rfl, _, rfl, a, c.c_Entry, dx, _, rfl, upd_same, T.cl_Entry, T.na_Entry_word, le_ble rfl, ?_⟩
    refine ⟨_, rfl, _, rfl, a, c.c_Entry, dx, _, rfl, upd_same, T.cl_Entry, T.na_Entry_under, le_ble rfl, ?_⟩
    refine ⟨_, rfl, _, rfl, a, c.c_Entry, dx, _, rfl, upd_same, T.cl_Entry, T.na_Entry_sheet, le_ble rfl, ?_⟩
    refine ⟨_, rfl, _, rfl, a, c.c_Entry, dx, _, rfl, upd_same, T.cl_Entry, T.na_Entry_base, le_ble rfl, ?_⟩
    refine ⟨_, rfl, _, rfl, a, c.c_Entry, dx, _, rfl, upd_same, T.cl_Entry, T.na_Entry_described, le_ble rfl, ?_⟩
    rw [upd_upd, upd_upd, upd_upd, upd_upd, upd_upd, upd_upd, upd_upd]
    exact q

set_option maxHeartbeats 4000000 in
theorem ok_ahead (T : Txt w K mg c) : FnOk P w K mg base CX0 1 c.a_ahead c.d_ahead ["one", "other"] (spAhead c.c_Entry) := by
  refine T.ahead.fn.ok sc_ahead (fun vs H Q E h => ?_) (fun cdv A outer s H vs Q E hr h => ?_)
  · obtain ⟨x, y, e, f, rfl, _⟩ := h
    rfl
  · obtain ⟨x, y, e, f, rfl, hx, hy, k⟩ := h
    refine ⟨_, (pss_one (ps_ret (pe_cmpR (op_ltT hr.units0) (pe_tup (pa_cons (pe_fld (pv 0) rfl) (pa_cons (pe_fld (pv 0) rfl) pa_nil))) (pe_tup (pa_cons (pe_fld (pv 1) rfl) (pa_cons (pe_fld (pv 1) rfl) pa_nil))) (nomark _)))), ?_⟩
    obtain ⟨a, dx, rfl, ha⟩ := hx
    obtain ⟨b, dy, rfl, hb⟩ := hy
    refine ⟨_, rfl, a, _, dx, _, _, rfl, ha, T.cl_Entry, T.na_Entry_day, rfl, ?_⟩
    refine ⟨_, rfl, a, _, dx, _, _, rfl, ha, T.cl_Entry, T.na_Entry_number, rfl, le_ble rfl, fun p hp => ?_⟩
    have s1 := Same.new (o := HO.tup [.int e.d, .int e.n]) hp
    refine ⟨_, rfl, b, _, dy, _, _, rfl, s1 _ _ hb, T.cl_Entry, T.na_Entry_day, rfl, ?_⟩
    refine ⟨_, rfl, b, _, dy, _, _, rfl, s1 _ _ hb, T.cl_Entry, T.na_Entry_number, rfl, le_ble rfl, fun q hq => ?_⟩
    have s2 := Same.new (o := HO.tup [.int f.d, .int f.n]) hq
    exact ⟨p, q, [e.d, e.n], [f.d, f.n], rfl, rfl, SqT.of (s2 _ _ upd_same), SqT.of upd_same, k _ (s1.trans s2)⟩

set_option maxHeartbeats 4000000 in
theorem ok_book_list (T : Txt w K mg c) : FnOk P w K mg base (CXx P w) 2 c.a_book_list c.d_book_list ["entries"] (spBook K c.c_Entry c.c_NoBook) := by
  refine T.book_list.fn.okx sc_book_list (fun vs H Q E h => ?_) (fun cdv A outer s H vs Q E hr h => ?_)
  · obtain ⟨x, rfl, _⟩ := h
    rfl
  · obtain ⟨x, rfl, h0⟩ := h
    refine ⟨_, (pss_cons (ps_if (pt_not (pt_val (pe_callB call_isiA rfl T.no_isinstance bt_isinstance (pa_cons (pv 0) (pa_cons (pe_bltn (v := .ty "list") rfl T.no_list bt_list rfl) pa_nil)))))
        (pss_one (ps_raise T.x_NoBook rfl rfl T.mg_NoBook rz_def (pa_cons pe_str pa_nil)))
        pss_nil)
      (pss_cons (ps_set (i := 1) sc_book_list.nd rfl (Or.inl rfl) (pe_callTy call_list_of rfl T.no_list bt_list (pa_cons (pv 0) pa_nil)))
      (pss_cons (ps_set (i := 2) sc_book_list.nd rfl (Or.inl rfl) pe_dnewK)
      (pss_cons (ps_set (i := 3) sc_book_list.nd rfl (Or.inl rfl) pe_non)
      (pss_cons (ps_for own_def rfl (pi_list (pv 1)) (pg_name (i := 4) sc_book_list.nd rfl (Or.inl rfl))
        (pss_cons (ps_if (pt_not (pt_val (pe_callB call_isiA rfl T.no_isinstance bt_isinstance (pa_cons (pv 4) (pa_cons (pe_glob (v := .ref c.c_Entry) rfl T.mg_Entry rfl) pa_nil)))))
        (pss_one (ps_raise T.x_NoBook rfl rfl T.mg_NoBook rz_def (pa_cons pe_str pa_nil)))
        pss_nil)
      (pss_cons (ps_if (pt_cmp (pc_din (hu_of hr) (pe_fld (pv 4) rfl) (pv 2)))
        (pss_one (ps_raise T.x_NoBook rfl rfl T.mg_NoBook rz_def (pa_cons pe_str pa_nil)))
        pss_nil)
      (pss_cut (ps_if (PW.pt (pw_and (pt_cmp (pc_notN (pv 3))) (pw_and1 (pt_not (pt_val (pe_call (ok_ahead T) (hr.mono (by decide)) rfl T.ahead.mgf T.ahead.kp T.ahead.bi .nil pass0 (pa_cons (pv 3) (pa_cons (pv 4) pa_nil))))))))
        (pss_one (ps_raise T.x_NoBook rfl rfl T.mg_NoBook rz_def (pa_cons pe_str pa_nil)))
        pss_nil)
      (pss_cons (ps_dput (hu_of hr) (pv 2) (pe_fld (pv 4) rfl) pe_bl rfl)
      (pss_one (ps_set (i := 3) sc_book_list.nd rfl (Or.inl rfl) (pv 4))))))))
      (pss_one (ps_ret (pv 1)))))))), ?_⟩
    rcases h0 with ⟨l, ws, is, rfl, hL, hI, hz, k1, k2⟩ | ⟨n, ty, hn, k⟩
    rotate_left
    · exact ⟨_, rfl, rIsiA.ty ty hn ⟨_, rfl, iteT ⟨le_ble rfl, k H (Same.refl H)⟩⟩⟩
    have sz : 2000 < sizeLine := le_ble rfl
    refine ⟨_, rfl, rIsiA.ty (.lst hL) rfl ⟨_, rfl, iteF ?_⟩⟩
    refine ⟨_, rfl, l, _, rfl, .inl (SqL.of hL), fun q hq => ?_⟩
    have s1 := Same.new (o := HO.lst ws) hq
    have hq1 := upd_same (H := H) (a := q) (o := .lst ws)
    generalize upd H q (.lst ws) = G1 at s1 hq1
    refine fun d hd => ?_
    have s2 := s1.trans (Same.new (o := HO.dK []) hd)
    have hd2 := upd_same (H := G1) (a := d) (o := .dK [])
    have hq2 := Same.new (o := HO.dK []) hd _ _ hq1
    have nHd : H d = none := s1.free hd
    generalize upd G1 d (.dK []) = G2 at s2 hd2 hq2
    refine ⟨_, rfl, q, rfl, ⟨_, SqL.of hq2⟩, ?_⟩
    refine for_list (xs := ws) (fun i σ G => ∃ seen last lv kvs z, σ = [some (.ref l), some (.ref q), some (.ref d), some lv, z] ∧ ((last = none ∧ lv = .non) ∨ ∃ e, last = some e ∧ EntAt G c.c_Entry lv e) ∧ G d = some (.dK kvs) ∧ (∀ s : Int, valV kvs (Sum.inl s) = none ↔ seen.contains s = false) ∧ kvs.length ≤ i ∧ bookOk [] none is = bookOk seen last (is.drop i) ∧ Same H G ∧ G q = some (.lst ws)) ?_ ?_ ?_ ?_
    · exact ⟨[], none, .non, [], _, rfl, .inl ⟨rfl, rfl⟩, hd2, fun s => ⟨fun _ => rfl, fun _ => rfl⟩, Nat.le_refl _, rfl, s2, hq2⟩
    · rintro i σ G _ ⟨_, _, _, _, _, _, _, _, _, _, _, _, h⟩
      exact SqL.of h
    · rintro i x σ G hx ⟨seen, last, lv, kvs, z, rfl, g1, g2, g3, g4, g5, g6, g7⟩
      have hi : i < ws.length := (List.getElem?_eq_some_iff.mp hx).1
      have hii : i < is.length := by rw [← hI.1]; exact hi
      have it := hI.2 i x _ hx (List.getElem?_eq_getElem hii)
      have ed : is.drop i = is[i] :: is.drop (i + 1) := (List.getElem_cons_drop hii).symm
      rw [ed] at g5
      generalize is[i] = y at it g5
      cases it with
      | oth t hn =>
        refine ⟨_, rfl, rIsiA.tyC (t.same g6) hn ⟨_, rfl, iteT ⟨le_ble rfl, k2 g5 G g6⟩⟩⟩
      | @ent e h =>
        have h' := h.same g6
        obtain ⟨a, dx, rfl, ha⟩ := h'
        refine ⟨_, rfl, rIsiA.ins ha T.cl_Entry T.w_Entry T.ws_Entry ⟨_, rfl, iteF ?_⟩⟩
        refine ⟨_, rfl, a, _, dx, _, _, rfl, ha, T.cl_Entry, T.na_Entry_number, rfl, _, rfl, d, _, rfl, DGet.k (k := Sum.inl e.n) g2, ?_⟩
        have g5 : bookOk [] none is = (!seen.contains e.n && (lastOk last e && bookOk (seen ++ [e.n]) (some e) (is.drop (i + 1)))) := g5
        cases hv : valV kvs (Sum.inl e.n) with
        | some u =>
          have hc : seen.contains e.n = true := by
            cases q : seen.contains e.n with
            | true => rfl
            | false => rw [(g3 e.n).mpr q] at hv; cases hv
          rw [hc] at g5
          exact ⟨_, rfl, iteT ⟨le_ble rfl, k2 g5 G g6⟩⟩
        | none =>
          have hc := (g3 e.n).mp hv
          rw [hc] at g5
          refine ⟨_, rfl, iteF ?_⟩
          have g5 : bookOk [] none is = (lastOk last e && bookOk (seen ++ [e.n]) (some e) (is.drop (i + 1))) := g5
          refine ⟨fun σ' G' => σ' = [some (.ref l), some (.ref q), some (.ref d), some lv, some (.ref a)] ∧ Same G G' ∧ bookOk [] none is = bookOk (seen ++ [e.n]) (some e) (is.drop (i + 1)), ?_, ?_⟩
          · rcases g1 with ⟨rfl, rfl⟩ | ⟨e0, rfl, he0⟩
            · refine ⟨_, rfl, _, rfl, iteF ?_⟩
              exact ⟨rfl, Same.refl G, g5⟩
            · have h3 := he0
              obtain ⟨a0, dx0, rfl, ha0⟩ := he0
              refine ⟨_, rfl, _, rfl, iteT ?_⟩
              refine ⟨_, rfl, _, rfl, _, _, e0, e, rfl, h3, ⟨a, dx, rfl, ha⟩, fun G' s' => ?_⟩
              have g5 : bookOk [] none is = (aheadE e0 e && bookOk (seen ++ [e.n]) (some e) (is.drop (i + 1))) := g5
              cases hb : aheadE e0 e with
              | true =>
                rw [hb] at g5
                exact ⟨_, rfl, iteF ⟨rfl, s', g5⟩⟩
              | false =>
                rw [hb] at g5
                exact ⟨_, rfl, iteT ⟨le_ble rfl, k2 g5 G' (g6.trans s')⟩⟩
          rintro σ' G' ⟨rfl, s', g5⟩
          have ha' := s' _ _ ha
          refine ⟨_, rfl, _, rfl, a, _, dx, _, _, rfl, ha', T.cl_Entry, T.na_Entry_number, rfl, d, _, rfl, DPut.k (k := Sum.inl e.n) (s' _ _ g2) (by omega), ?_⟩
          have nad : a ≠ d := ne_of ha' (s' _ _ g2) (by intro z; cases z)
          have nqd : q ≠ d := ne_of (s' _ _ g7) (s' _ _ g2) (by intro z; cases z)
          refine ⟨_, rfl, seen ++ [e.n], some e, .ref a, _, _, rfl, .inr ⟨e, rfl, a, dx, rfl, by rw [upd_ne nad]; exact ha'⟩, upd_same, fun s => ?_, ?_, g5, fun b u hb => ?_, by rw [upd_ne nqd]; exact s' _ _ g7⟩
          · rw [valV_put]
            by_cases es : s = e.n
            · subst es
              rw [if_pos rfl]
              refine ⟨fun z => (nomatch z), fun z => ?_⟩
              rw [List.contains_iff_mem.mpr (List.mem_append_right _ (List.mem_singleton.mpr rfl))] at z
              cases z
            · rw [if_neg (fun z => es (Sum.inl.inj z)), g3 s]
              have : (seen ++ [e.n]).contains s = seen.contains s := by
                rw [Bool.eq_iff_iff, List.contains_iff_mem, List.contains_iff_mem, List.mem_append, List.mem_singleton]
                exact ⟨fun z => z.resolve_right es, fun z => .inl z⟩
              rw [this]
          · unfold putK
            rw [if_neg (by rw [valV_any, hv]; decide), List.length_append]
            show kvs.length + 1 ≤ _
            omega
          · rw [upd_ne (fun z => by rw [z, nHd] at hb; cases hb)]
            exact s' _ _ (g6 _ _ hb)
    · rintro σ G ⟨seen, last, lv, kvs, z, rfl, g1, g2, g3, g4, g5, g6, g7⟩
      rw [hI.1, List.drop_length] at g5
      exact ⟨_, rfl, k1 g5 q G g6 hq g7⟩

set_option maxHeartbeats 4000000 in
theorem ok_entry_row (T : Txt w K mg c) : FnOk P w K mg base CX0 1 c.a_entry_row c.d_entry_row ["entry"] (spRowOf c.c_Entry) := by
  refine T.entry_row.fn.ok sc_entry_row (fun vs H Q E h => ?_) (fun cdv A outer s H vs Q E hr h => ?_)
  · obtain ⟨v, e, rfl, _⟩ := h
    rfl
  · obtain ⟨v, e, rfl, hv, fit, k⟩ := h
    refine ⟨_, (pss_cons (ps_set (i := 1) sc_entry_row.nd rfl (Or.inl rfl) (pe_lst (pa_cons (pe_callTy call_str_int rfl T.no_str bt_str (pa_cons (pe_fld (pv 0) rfl) pa_nil)) (pa_cons (pe_callTy call_str_int rfl T.no_str bt_str (pa_cons (pe_fld (pv 0) rfl) pa_nil)) (pa_cons (pe_fld (pv 0) rfl) (pa_cons (pe_fld (pv 0) rfl) pa_nil))))))
      (pss_cut (ps_if (pt_cmp (pc_notN (pe_fld (pv 0) rfl)))
        (pss_one (ps_expr (pe_bm PySem.F.plainAttrs_list PySem.F.slot_list_extend PySem.F.type_list_extend (MtM.r mt_extend) (pv 1) (pa_cons (pe_lst (pa_cons pe_str (pa_cons (pe_callTy call_str_int rfl T.no_str bt_str (pa_cons (pe_fld (pv 0) rfl) pa_nil)) pa_nil))) pa_nil))))
        pss_nil)
      (pss_cut (ps_if (pt_cmp (pc_notN (pe_fld (pv 0) rfl)))
        (pss_one (ps_expr (pe_bm PySem.F.plainAttrs_list PySem.F.slot_list_extend PySem.F.type_list_extend (MtM.r mt_extend) (pv 1) (pa_cons (pe_lst (pa_cons pe_str (pa_cons (pe_callTy call_str_int rfl T.no_str bt_str (pa_cons (pe_fld (pv 0) rfl) pa_nil)) pa_nil))) pa_nil))))
        (pss_cons (ps_expr (pe_bm PySem.F.plainAttrs_list PySem.F.slot_list_extend PySem.F.type_list_extend (MtM.r mt_extend) (pv 1) (pa_cons (pe_lst (pa_cons pe_str (pa_cons (pe_callTy call_str_int rfl T.no_str bt_str (pa_cons (pe_fld (pv 0) rfl) pa_nil)) pa_nil))) pa_nil)))
      (pss_one (ps_if (pt_not (pt_val (pe_fld (pv 0) rfl)))
        (pss_one (ps_expr (pe_bm PySem.F.plainAttrs_list PySem.F.slot_list_append PySem.F.type_list_append (MtM.r mt_append) (pv 1) (pa_cons pe_str pa_nil))))
        pss_nil))))
      (pss_one (ps_ret (pe_bm PySem.F.plainAttrs_str PySem.F.slot_str_join PySem.F.type_str_join mt_join pe_str (pa_cons (pv 1) pa_nil))))))), ?_⟩
    obtain ⟨a, dx, rfl, ha⟩ := hv
    have n0 := fit.n0
    have n1 := fit.n1
    have d0 := fit.d0
    have d1 := fit.d1
    have sz : 2000 < sizeLine := le_ble rfl
    refine ⟨_, rfl, a, _, dx, _, _, rfl, ha, T.cl_Entry, T.na_Entry_day, rfl, _, rfl, log_ok (by omega) (by omega), ?_⟩
    refine ⟨_, rfl, a, _, dx, _, _, rfl, ha, T.cl_Entry, T.na_Entry_number, rfl, _, rfl, log_ok (by omega) (by omega), ?_⟩
    refine ⟨_, rfl, a, _, dx, _, _, rfl, ha, T.cl_Entry, T.na_Entry_rank, rfl, ?_⟩
    refine ⟨_, rfl, a, _, dx, _, _, rfl, ha, T.cl_Entry, T.na_Entry_word, rfl, le_ble rfl, fun p hp => ?_⟩
    have ww : ([Str.ofString (toString e.d), Str.ofString (toString e.n), e.r, e.w].map V.str) = [V.str (Str.ofString (toString e.d)), .str (Str.ofString (toString e.n)), .str e.r, .str e.w] := rfl
    refine ⟨fun σ G => σ = [some (.ref a), some (.ref p)] ∧ Same H G ∧ G p = some (.lst (([Str.ofString (toString e.d), Str.ofString (toString e.n), e.r, e.w] ++ txtU e.u).map V.str)), ?_, ?_⟩
    · refine ⟨_, rfl, a, _, dx, _, _, rfl, Same.new hp _ _ ha, T.cl_Entry, T.na_Entry_under, rfl, ?_⟩
      cases hu : e.u with
      | none => exact ⟨_, rfl, iteF ⟨rfl, Same.new hp, upd_same⟩⟩
      | some u =>
        have hl : (fieldsE e).lookup (Str.ofString "under") = some (V.int u) := by show some (optV e.u) = _; rw [hu]; rfl
        have hh := fit.u u hu
        refine ⟨_, rfl, iteT ?_⟩
        refine ⟨_, rfl, .inl ⟨rfl, _, SqL.of upd_same⟩, _, rfl, a, _, dx, _, _, rfl, Same.new hp _ _ ha, T.cl_Entry, T.na_Entry_under, hl, _, rfl, log_ok (by omega) hh.2, le_ble rfl, fun q hq => ?_⟩
        have npq : p ≠ q := ne_of_none upd_same hq
        refine ⟨p, q, _, _, rfl, rfl, Same.new hq _ _ upd_same, upd_same, le_ble rfl, rfl, fun b u hb => ?_, upd_same⟩
        rw [upd_ne (ne_of_none hb hp)]
        exact Same.new hq _ _ (Same.new hp _ _ hb)
    rintro σ G ⟨rfl, sG, hG⟩
    have lU : (txtU e.u).length ≤ 2 := by cases e.u <;> exact le_ble rfl
    refine ⟨fun σ G => σ = [some (.ref a), some (.ref p)] ∧ Same H G ∧ G p = some (.lst ((txtW e).map V.str)), ?_, ?_⟩
    · refine ⟨_, rfl, a, _, dx, _, _, rfl, sG _ _ ha, T.cl_Entry, T.na_Entry_base, rfl, ?_⟩
      have ext : ∀ (G' : Hp) (zs : List Str), Same G G' → txtW e = [Str.ofString (toString e.d), Str.ofString (toString e.n), e.r, e.w] ++ txtU e.u ++ zs → Same H (upd G' p (.lst (([Str.ofString (toString e.d), Str.ofString (toString e.n), e.r, e.w] ++ txtU e.u).map V.str ++ zs.map V.str))) ∧ upd G' p (.lst (([Str.ofString (toString e.d), Str.ofString (toString e.n), e.r, e.w] ++ txtU e.u).map V.str ++ zs.map V.str)) p = some (.lst ((txtW e).map V.str)) := fun G' zs s' ez => by
        refine ⟨fun b u hb => ?_, ?_⟩
        · rw [upd_ne (ne_of_none hb hp)]
          exact s' _ _ (sG _ _ hb)
        · rw [upd_same, ez, ← List.map_append]
      cases hb : e.b with
      | some b =>
        have hl : (fieldsE e).lookup (Str.ofString "base") = some (V.int b) := by show some (optV e.b) = _; rw [hb]; rfl
        have hh := fit.b b hb
        refine ⟨_, rfl, iteT ?_⟩
        refine ⟨_, rfl, .inl ⟨rfl, _, SqL.of hG⟩, _, rfl, a, _, dx, _, _, rfl, sG _ _ ha, T.cl_Entry, T.na_Entry_base, hl, _, rfl, log_ok (by omega) hh.2, le_ble rfl, fun q hq => ?_⟩
        refine ⟨p, q, _, _, rfl, rfl, Same.new hq _ _ hG, upd_same, ?_, ?_⟩
        · rw [List.length_map, List.length_append]
          show 4 + _ + 2 ≤ _
          omega
        · obtain ⟨x1, x2⟩ := ext _ [Str.ofString "of", Str.ofString (toString b)] (Same.new hq) (by unfold txtW; rw [hb]; rfl)
          exact ⟨rfl, x1, x2⟩
      | none =>
        obtain ⟨x, hx, x0, x1⟩ := fit.s hb
        have hl : (fieldsE e).lookup (Str.ofString "sheet") = some (V.int x) := by show some (optV e.s) = _; rw [hx]; rfl
        refine ⟨_, rfl, iteF ?_⟩
        refine ⟨_, rfl, .inl ⟨rfl, _, SqL.of hG⟩, _, rfl, a, _, dx, _, _, rfl, sG _ _ ha, T.cl_Entry, T.na_Entry_sheet, hl, _, rfl, log_ok (by omega) x1, le_ble rfl, fun q hq => ?_⟩
        have npq : p ≠ q := ne_of_none hG hq
        refine ⟨p, q, _, _, rfl, rfl, Same.new hq _ _ hG, upd_same, ?_, ?_⟩
        · rw [List.length_map, List.length_append]
          show 4 + _ + 2 ≤ _
          omega
        have npa : a ≠ p := ne_of_none ha hp
        have ha2 : upd (upd G q (.lst [.str (Str.ofString "tied"), .str (Str.ofString (toString x))])) p (.lst (([Str.ofString (toString e.d), Str.ofString (toString e.n), e.r, e.w] ++ txtU e.u).map V.str ++ [.str (Str.ofString "tied"), .str (Str.ofString (toString x))])) a = some (.ins c.c_Entry dx (fieldsE e)) := by
          rw [upd_ne npa]
          exact Same.new hq _ _ (sG _ _ ha)
        refine ⟨_, rfl, a, _, dx, _, _, rfl, ha2, T.cl_Entry, T.na_Entry_described, rfl, ?_⟩
        cases hk : e.k with
        | true =>
          refine ⟨_, rfl, iteF ?_⟩
          obtain ⟨y1, y2⟩ := ext _ [Str.ofString "tied", Str.ofString (toString x)] (Same.new hq) (by unfold txtW; rw [hb, hx, hk]; rfl)
          exact ⟨rfl, y1, y2⟩
        | false =>
          refine ⟨_, rfl, iteT ?_⟩
          refine ⟨_, rfl, .inl ⟨rfl, _, SqL.of upd_same⟩, p, _, _, rfl, rfl, upd_same, ?_, ?_⟩
          · rw [List.length_append, List.length_map, List.length_append]
            show 4 + _ + 2 < _
            omega
          rw [upd_upd]
          obtain ⟨y1, y2⟩ := ext _ [Str.ofString "tied", Str.ofString (toString x), Str.ofString "bare"] (Same.new hq) (by unfold txtW; rw [hb, hx, hk]; rfl)
          refine ⟨rfl, ?_, ?_⟩
          · rw [List.append_assoc]; exact y1
          · rw [List.append_assoc]; exact y2
    rintro σ G' ⟨rfl, sG', hG'⟩
    have tl := txt_len fit
    exact ⟨rfl, _, rfl, _, p, txtW e, rfl, rfl, SqL.of hG', le_ble (by decide +kernel), by omega, k _ sG'⟩

set_option maxHeartbeats 4000000 in
theorem ok_written (T : Txt w K mg c) : FnOk P w K mg base (CXx P w) 3 c.a_written c.d_written ["entries"] (spWritten K c.c_Entry c.c_NoBook) := by
  refine T.written.fn.okx sc_written (fun vs H Q E h => ?_) (fun cdv A outer s H vs Q E hr h => ?_)
  · obtain ⟨x, rfl, _⟩ := h
    rfl
  · obtain ⟨x, rfl, h0⟩ := h
    refine ⟨_, (pss_one (ps_ret (pe_bm PySem.F.plainAttrs_str PySem.F.slot_str_join PySem.F.type_str_join mt_join pe_str (pa_cons (pe_comp (N' := ["entry"]) (js := [none]) rfl rfl (by decide +kernel) (by decide +kernel) (free_nil (by decide +kernel)) (cap_nil rfl rfl) (pi_list (pe_callS (ok_book_list T) (hr.mono (by decide)) rfl T.book_list.mgf T.book_list.kp T.book_list.bi .nil pass_def (pa_cons (pv 0) pa_nil))) (fun B => ⟨(pg_name (i := 0) (show List.Nodup (["entry"] : List Str) by decide +kernel) rfl (Or.inl rfl)), pifs_nil, (pe_call (ok_entry_row T) (hr.mono (by decide)) rfl T.entry_row.mgf T.entry_row.kp T.entry_row.bi .nil pass0 (pa_cons (pv 0) pa_nil))⟩)) pa_nil)))), ?_⟩
    refine ⟨rfl, ?_⟩
    rcases h0 with ⟨l, ws, es, rfl, hL, hE, hf, hz, hb, k⟩ | ⟨bad, k⟩
    rotate_left
    · refine ⟨_, rfl, x, rfl, ?_⟩
      rcases bad with ⟨l, ws, is, rfl, hL, hI, hz, hb⟩ | ⟨n, ty, hn⟩
      · exact .inl ⟨l, ws, is, rfl, hL, hI, hz, fun h => absurd (hb.symm.trans h) (by decide), fun _ G sG => k G sG⟩
      · exact .inr ⟨n, ty, hn, fun G sG => k G sG⟩
    have sz : 2000 < sizeLine := le_ble rfl
    have hl := hE.1
    refine ⟨_, rfl, _, rfl, .inl ⟨l, ws, es.map some, rfl, hL, hE.its, by omega, fun _ q G sG hq hq2 => ?_, fun h => absurd (hb.symm.trans h) (by decide)⟩⟩
    refine ⟨q, rfl, ⟨_, SqL.of hq2⟩, fun m B hm => ?_⟩
    refine loop_lst (xs := ws) (fun i σ acc G' => (∃ o, σ = [o]) ∧ Same G G' ∧ G' m = some (.lst acc) ∧ acc = ((es.take i).map rowText).map V.str) (by omega) ?_ ?_ ?_ ?_
    · exact ⟨⟨_, rfl⟩, Same.new hm, upd_same, rfl⟩
    · rintro i σ acc G' hi ⟨_, s', h1, h2⟩
      refine ⟨h1, SqL.of (s' _ _ hq2), ?_⟩
      rw [h2, List.length_map, List.length_map, List.length_take]
      omega
    · rintro i x σ acc G' hx ⟨⟨o, rfl⟩, s', h1, h2⟩
      have hi : i < ws.length := (List.getElem?_eq_some_iff.mp hx).1
      have hie : i < es.length := by omega
      have ee : es[i]? = some es[i] := List.getElem?_eq_getElem hie
      refine ⟨_, rfl, x, es[i], rfl, (hE.2 i x _ hx ee).same (sG.trans s'), hf _ (List.getElem_mem hie), fun G2 s2 => ?_⟩
      refine ⟨s2 _ _ h1, Nx.mk hi ⟨⟨_, rfl⟩, fun b u hb => ?_, upd_same, ?_⟩⟩
      · rw [upd_ne (ne_of_none hb hm)]
        exact s2 _ _ (s' _ _ hb)
      · rw [h2, take_one ee, List.map_append, List.map_append]
        rfl
    · rintro σ acc G' ⟨_, s', h1, h2⟩
      rw [hl, List.take_of_length_le (Nat.le_refl _)] at h2
      subst h2
      exact ⟨_, m, es.map rowText, rfl, rfl, SqL.of h1, le_ble (by decide +kernel), texts_ok hf hz, k _ (sG.trans s')⟩

set_option maxHeartbeats 4000000 in
theorem ok_Lcell_at (T : Txt w K mg c) : FnOk P w K mg base CX0 1 c.a_Lcell_at c.d_Lcell_at ["_law_script", "_law_k"] (spCell K) := by
  refine T.Lcell_at.fn.ok sc_Lcell_at (fun vs H Q E h => ?_) (fun cdv A outer s H vs Q E hr h => ?_)
  · obtain ⟨a, i, ns, rfl, _⟩ := h
    rfl
  · obtain ⟨a, i, ns, rfl, h0, hS, k⟩ := h
    refine ⟨_, (pss_cons (ps_if (pt_cmpR op_lt (pv 1) (pe_callB call_len_seq rfl T.no_len bt_len (pa_cons (pv 0) pa_nil)) (nomark _))
        (pss_one (ps_ret (pe_ix ix_list (pv 0) (pv 1) (fun _ _ => rfl))))
        pss_nil)
      (pss_one (ps_ret pe_int))), ?_⟩
    refine ⟨_, rfl, _, rfl, a, _, rfl, .inl hS, _, _, rfl, rfl, _, rfl, ?_⟩
    refine ite2 (fun hl => ?_) (fun _ => k 0)
    obtain ⟨v, hv, hm⟩ := atI_in (xs := ns.map V.int) h0 (of_decide_eq_true hl)
    obtain ⟨z, _, rfl⟩ := List.mem_map.mp hm
    exact ⟨_, rfl, _, rfl, a, _, i, _, rfl, rfl, hS, hv, k z⟩

set_option maxHeartbeats 4000000 in
theorem ok_Lmixed (T : Txt w K mg c) : FnOk P w K mg base CX0 1 c.a_Lmixed c.d_Lmixed ["_law_cell", "_law_k"] (spMixB) := by
  refine T.Lmixed.fn.ok sc_Lmixed (fun vs H Q E h => ?_) (fun cdv A outer s H vs Q E hr h => ?_)
  · obtain ⟨n, i, rfl, _⟩ := h
    rfl
  · obtain ⟨n, i, rfl, h0, h1, k⟩ := h
    refine ⟨_, (pss_cut (ps_if (PW.pt (pw_and (pt_cmpR op_eq (pe_op op_mod (pv 0) pe_int) pe_int (nomark _)) (pw_and1 (pt_cmpR op_gt (pv 0) (pe_op op_pow pe_int pe_int) (nomark _)))))
        (pss_one (ps_ret (pe_op op_mod (pe_op op_fdiv (pv 0) pe_int) (pe_op op_pow pe_int pe_int))))
        pss_nil)
      (pss_one (ps_ret (pe_op op_mod (pe_op op_mul (pe_op op_add (pe_op op_mod (pv 0) (pe_op op_pow pe_int pe_int)) pe_int) (pe_op op_add pe_int (pe_op op_mul (pe_op op_mul pe_int (pv 1)) (pv 1)))) pe_int)))), ?_⟩
    have sq : i * i ≤ 100 * 100 := Int.mul_le_mul (by omega) (by omega) (by omega) (by omega)
    have sq0 : 0 ≤ i * i := Int.mul_nonneg h0 h0
    have e3 : 7919 * i * i = 7919 * (i * i) := Int.mul_assoc _ _ _
    refine ⟨fun σ G => G = H ∧ σ = [some (.int n), some (.int i)], ?_, ?_⟩
    · walk_at "rd"
      refine ite2 (fun _ => ?_) (fun _ => ⟨rfl, rfl⟩)
      walk_at "rd"
      refine ite2 (fun _ => ?_) (fun _ => ⟨rfl, rfl⟩)
      walk_at "rd"
      exact k _ (Int.emod_nonneg _ (by decide))
    rintro σ G ⟨rfl, rfl⟩
    walk_at "rd"
    refine ⟨.inl ⟨by omega, by omega⟩, ?_⟩
    walk_at "rd"
    refine ⟨.inr ⟨by rw [e3]; omega, by rw [e3]; omega⟩, ?_⟩
    walk_at "rd"
    exact k _ (Int.emod_nonneg _ (by decide))

set_option maxHeartbeats 4000000 in
theorem ok_Lword (T : Txt w K mg c) : FnOk P w K mg base CX0 1 c.a_Lword c.d_Lword ["_law_mixed_here"] (spMkW) := by
  refine T.Lword.fn.ok sc_Lword (fun vs H Q E h => ?_) (fun cdv A outer s H vs Q E hr h => ?_)
  · obtain ⟨m, rfl, _⟩ := h
    rfl
  · obtain ⟨m, rfl, h0, k⟩ := h
    refine ⟨_, (pss_cons (ps_set (i := 1) sc_Lword.nd rfl (Or.inl rfl) pe_str)
      (pss_cons (ps_set (i := 2) sc_Lword.nd rfl (Or.inl rfl) pe_str)
      (pss_cons (ps_for PassesOwn.never rfl (pi_range1 rfl T.no_range (pa_cons (pe_op op_add pe_int (pe_op op_mod (pv 0) pe_int)) pa_nil)) (pg_name (i := 3) sc_Lword.nd rfl (Or.inl rfl))
        (pss_one (ps_set (i := 2) sc_Lword.nd rfl (Or.inl rfl) (pe_op op_add_str (pv 2) (pe_ix ix_str (pv 1) (pe_op op_mod (pe_op op_add (pe_op op_fdiv (pe_op op_fdiv (pv 0) pe_int) (pe_op op_add (pv 3) pe_int)) (pe_op op_mul (pv 3) (pv 3))) pe_int) (fun _ _ => rfl))))))
      (pss_one (ps_ret (pv 2)))))), ?_⟩
    walk_at "rd"
    refine ⟨by omega, by omega, ?_⟩
    have abc : (Str.ofString "abcdefghijklmnopqrstuvwxyz").cps.toList.length = 26 := by decide +kernel
    have abl : ∀ c ∈ (Str.ofString "abcdefghijklmnopqrstuvwxyz").cps.toList, letter c = true := by decide +kernel
    refine for_range (n := (1 + m % 12).toNat) (lo := 0) (fun i σ H' => H' = H ∧ ∃ (z : Str) (o : Option V), σ = [some (.int m), some (.str (Str.ofString "abcdefghijklmnopqrstuvwxyz")), some (.str z), o] ∧ z.length = i ∧ z.cps.toList.all letter = true) ?_ ?_ ?_
    · exact ⟨rfl, _, _, rfl, rfl, rfl⟩
    · rintro i σ H' hi ⟨rfl, z, o, rfl, hz, ha⟩
      have hi' : (i : Int) < 12 := by omega
      walk_at "rd"
      refine ⟨⟨by omega, by omega⟩, ?_⟩
      walk_at "rd"
      refine ⟨.inl ⟨by omega, by omega⟩, ?_⟩
      walk_at "rd"
      obtain ⟨ch, hv, hm⟩ := atI_in (xs := (Str.ofString "abcdefghijklmnopqrstuvwxyz").cps.toList) (i := (m / 12 / (0 + (i : Int) + 1) + (0 + (i : Int)) * (0 + (i : Int))) % 26) (Int.emod_nonneg _ (by decide)) (by rw [abc]; exact Int.emod_lt_of_pos _ (by decide))
      refine ⟨_, _, ch, rfl, rfl, le_ble rfl, hv, ?_⟩
      have h13 : (13 : Nat) + 1 ≤ sizeLine := le_ble rfl
      refine ⟨_, _, rfl, rfl, ?_, ?_⟩
      · show z.length + 1 ≤ sizeLine
        omega
      · refine ⟨rfl, _, _, rfl, ?_, ?_⟩
        · rw [Str.length_append, hz]
          rfl
        · rw [all_app, ha]
          show (true && ([ch].all letter)) = true
          rw [List.all_cons, abl ch hm]
          rfl
    · rintro σ H' ⟨rfl, z, o, rfl, hz, ha⟩
      walk_at "rd"
      refine k z ?_
      rw [isWord_str, ha, decide_eq_true (by omega), decide_eq_true (by omega)]
      rfl

set_option maxHeartbeats 4000000 in
theorem ok_Lday (T : Txt w K mg c) : FnOk P w K mg base CX0 1 c.a_Lday c.d_Lday ["_law_last", "_law_mixed_here"] (spDay) := by
  refine T.Lday.fn.ok sc_Lday (fun vs H Q E h => ?_) (fun cdv A outer s H vs Q E hr h => ?_)
  · obtain ⟨v, m, o, rfl, _⟩ := h
    rfl
  · obtain ⟨v, m, o, rfl, h0, hv, k⟩ := h
    refine ⟨_, (pss_cut (ps_if (PW.pt (pw_or (pt_cmpR (op_eqD (hu62 hr)) (pv 0) (pe_lst pa_nil) (nomark _)) (pw_or1 (pt_cmpR op_gt (pe_op op_mod (pv 1) pe_int) pe_int (nomark _)))))
        (pss_cons (ps_set (i := 2) sc_Lday.nd rfl (Or.inl rfl) pe_int)
      (pss_cons (ps_if (pt_cmpR (op_neD (hu62 hr)) (pv 0) (pe_lst pa_nil) (nomark _))
        (pss_one (ps_set (i := 2) sc_Lday.nd rfl (Or.inl rfl) (pe_ix ix_list (pv 0) pe_int (fun _ _ => rfl))))
        pss_nil)
      (pss_one (ps_ret (pe_op op_add (pe_op op_add (pv 2) pe_int) (pe_ix ix_list (pe_lst (pa_cons pe_int (pa_cons (pe_op op_mod (pe_op op_fdiv (pv 1) pe_int) pe_int) pa_nil))) (pe_op op_mod (pe_op op_fdiv (pv 1) pe_int) pe_int) (fun _ _ => rfl)))))))
        pss_nil)
      (pss_one (ps_ret (pe_ix ix_list (pv 0) pe_int (fun _ _ => rfl))))), ?_⟩
    have hl : ∃ a xs, v = .ref a ∧ H a = some (.lst xs) ∧ (o = none → xs = []) ∧ (∀ e, o = some e → xs = rowV e) := by
      cases o with
      | none => obtain ⟨a, e, h⟩ := hv; exact ⟨a, [], e, h, fun _ => rfl, fun e z => (nomatch z)⟩
      | some x => obtain ⟨a, e, h⟩ := hv; exact ⟨a, _, e, h, fun z => (nomatch z), fun e z => (by cases z; rfl)⟩
    obtain ⟨a, xs, rfl, hA, hx0, hx1⟩ := hl
    have fst : ∀ e, o = some e → atI xs 0 = some (.int e.d) := fun e z => by rw [hx1 e z]; exact atI_nat (j := 0) rfl
    refine ⟨fun σ G => σ = [some (.ref a), some (.int m), none] ∧ Same H G ∧ ∃ e, o = some e, ?_, ?_⟩
    · refine ⟨_, rfl, le_ble rfl, fun e0 he0 => ?_⟩
      have s0 := Same.new (o := HO.lst []) he0
      refine ⟨0, _, by decide, seqNil (SqL.of (s0 _ _ hA)) (SqL.of upd_same), _, rfl, ?_⟩
      generalize upd H e0 (.lst []) = G at s0
      cases o with
      | none =>
        cases hx0 rfl
        refine iteT ⟨_, rfl, le_ble rfl, fun e1 he1 => ?_⟩
        have s1 := s0.trans (Same.new (o := HO.lst []) he1)
        refine ⟨0, _, by decide, seqNil (SqL.of (s1 _ _ hA)) (SqL.of upd_same), _, rfl, iteF ?_⟩
        generalize upd G e1 (.lst []) = G1 at s1
        walk_at "rd"
        refine ⟨le_ble rfl, fun p hp => ?_⟩
        walk_at "rd"
        obtain ⟨y, hy, hm⟩ := atI_in (xs := [V.int 0, V.int (m / 3 % 11000)]) (i := m / 33000 % 2) (by omega) (by show _ < (2 : Int); omega)
        obtain ⟨j, rfl, j0, j1⟩ : ∃ j, y = V.int j ∧ 0 ≤ j ∧ j < 11000 := by
          simp only [List.mem_cons, List.not_mem_nil, or_false] at hm
          rcases hm with rfl | rfl
          · exact ⟨_, rfl, by decide, by decide⟩
          · exact ⟨_, rfl, by omega, by omega⟩
        refine ⟨p, _, _, _, rfl, rfl, SqL.of upd_same, hy, ?_⟩
        walk_at "rd"
        exact k _ _ (s1.trans (Same.new hp)) ⟨by omega, by omega⟩
      | some e =>
        cases hx1 e rfl
        refine iteF ?_
        walk_at "rd"
        refine ite2 (fun _ => ?_) (fun _ => ⟨rfl, s0, e, rfl⟩)
        refine ⟨_, rfl, le_ble rfl, fun e1 he1 => ?_⟩
        have s1 := s0.trans (Same.new (o := HO.lst []) he1)
        refine ⟨0, _, by decide, seqNil (SqL.of (s1 _ _ hA)) (SqL.of upd_same), _, rfl, iteT ?_⟩
        generalize upd G e1 (.lst []) = G1 at s1
        refine ⟨_, rfl, a, _, _, _, rfl, rfl, SqL.of (s1 _ _ hA), fst e rfl, ?_⟩
        walk_at "rd"
        refine ⟨le_ble rfl, fun p hp => ?_⟩
        walk_at "rd"
        obtain ⟨y, hy, hm⟩ := atI_in (xs := [V.int 0, V.int (m / 3 % 11000)]) (i := m / 33000 % 2) (by omega) (by show _ < (2 : Int); omega)
        obtain ⟨j, rfl, j0, j1⟩ : ∃ j, y = V.int j ∧ 0 ≤ j ∧ j < 11000 := by
          simp only [List.mem_cons, List.not_mem_nil, or_false] at hm
          rcases hm with rfl | rfl
          · exact ⟨_, rfl, by decide, by decide⟩
          · exact ⟨_, rfl, by omega, by omega⟩
        refine ⟨p, _, _, _, rfl, rfl, SqL.of upd_same, hy, ?_⟩
        walk_at "rd"
        refine k _ _ (s1.trans (Same.new hp)) ?_
        show e.d ≤ e.d + 1 + j ∧ e.d + 1 + j ≤ e.d + 11000
        omega
    rintro σ G ⟨rfl, sG, e, ho⟩
    refine ⟨_, rfl, a, _, _, _, rfl, rfl, SqL.of (sG _ _ hA), fst e ho, k _ _ sG ?_⟩
    rw [ho]
    exact ⟨Int.le_refl _, by show e.d ≤ e.d + 11000; omega⟩

set_option maxHeartbeats 4000000 in
theorem ok_Lfields (T : Txt w K mg c) : FnOk P w K mg base CX0 2 c.a_Lfields c.d_Lfields ["_law_rows", "_law_mixed_here", "_law_k"] (spFields) := by
  refine T.Lfields.fn.ok sc_Lfields (fun vs H Q E h => ?_) (fun cdv A outer s H vs Q E hr h => ?_)
  · obtain ⟨l, ws, es, m, i, rfl, _⟩ := h
    rfl
  · obtain ⟨l, ws, es, m, i, rfl, hL, hR, hz, m0, i0, i1, inv, k⟩ := h
    refine ⟨_, (pss_cons (ps_set (i := 3) sc_Lfields.nd rfl (Or.inl rfl) (pe_lst pa_nil))
      (pss_cut (ps_if (pt_cmpR (op_neD (hu62 hr)) (pv 0) (pe_lst pa_nil) (nomark _))
        (pss_one (ps_set (i := 3) sc_Lfields.nd rfl (Or.inl rfl) (pe_ix ix_list (pv 0) (pe_un un_neg pe_int) (fun _ _ => rfl))))
        pss_nil)
      (pss_cons (ps_set (i := 4) sc_Lfields.nd rfl (Or.inl rfl) (pe_call (ok_Lday T) (hr.mono (by decide)) rfl T.Lday.mgf T.Lday.kp T.Lday.bi .nil pass0 (pa_cons (pv 3) (pa_cons (pv 1) pa_nil))))
      (pss_cons (ps_set (i := 5) sc_Lfields.nd rfl (Or.inl rfl) (pe_op op_add (pe_op op_add (pe_op op_mul pe_int (pe_op op_mod (pe_op op_mul (pv 1) pe_int) pe_int)) (pv 2)) pe_int))
      (pss_cut (ps_if (PW.pt (pw_and (pt_cmpR (op_neD (hu62 hr)) (pv 3) (pe_lst pa_nil) (nomark _)) (pw_and (pt_cmpR op_eq (pe_ix ix_list (pv 3) pe_int (fun _ _ => rfl)) (pv 4) (nomark _)) (pw_and1 (pt_cmpR op_lt (pv 5) (pe_ix ix_list (pv 3) pe_int (fun _ _ => rfl)) (nomark _))))))
        (pss_one (ps_set (i := 4) sc_Lfields.nd rfl (Or.inl rfl) (pe_op op_add (pv 4) pe_int)))
        pss_nil)
      (pss_cut (ps_set (i := 6) sc_Lfields.nd rfl (Or.inl rfl) (pe_ix ix_list (pe_lst (pa_cons pe_str (pa_cons pe_str (pa_cons pe_str (pa_cons pe_str pa_nil))))) (pe_op op_mod (pe_op op_fdiv (pv 1) pe_int) pe_int) (fun _ _ => rfl)))
      (pss_cons (ps_set (i := 7) sc_Lfields.nd rfl (Or.inl rfl) pe_non)
      (pss_cut (ps_if (pt_cmpR op_ne (pv 6) pe_str (nomark _))
        (pss_one (ps_set (i := 7) sc_Lfields.nd rfl (Or.inl rfl) (pe_op op_add pe_int (pe_op op_mod (pe_op op_mul (pv 1) pe_int) (pe_op op_pow pe_int pe_int)))))
        pss_nil)
      (pss_cut (ps_if (PW.pt (pw_and (pt_cmpR (op_neD (hu62 hr)) (pv 0) (pe_lst pa_nil) (nomark _)) (pw_and (pt_cmpR op_eq (pe_op op_mod (pe_op op_fdiv (pv 1) pe_int) pe_int) pe_int (nomark _)) (pw_and1 (pt_cmp (pc_notN (pv 7)))))))
        (pss_one (ps_set (i := 7) sc_Lfields.nd rfl (Or.inl rfl) (pe_ix ix_list (pe_ix ix_list (pv 0) (pe_op op_mod (pe_op op_fdiv (pv 1) pe_int) (pe_callB call_len_seq rfl T.no_len bt_len (pa_cons (pv 0) pa_nil))) (fun _ _ => rfl)) pe_int (fun _ _ => rfl))))
        pss_nil)
      (pss_cut (ps_set (i := 8) sc_Lfields.nd rfl (Or.inl rfl) (pe_op op_add pe_int (pe_ix ix_list (pe_lst (pa_cons (pe_op op_mod (pe_op op_fdiv (pv 1) pe_int) pe_int) (pa_cons (pe_op op_mod (pe_op op_mul (pv 1) pe_int) (pe_op op_pow pe_int pe_int)) pa_nil))) (pe_op op_mod (pe_op op_fdiv (pv 1) pe_int) pe_int) (fun _ _ => rfl))))
      (pss_cons (ps_set (i := 9) sc_Lfields.nd rfl (Or.inl rfl) (pe_call (ok_Lword T) (hr.mono (by decide)) rfl T.Lword.mgf T.Lword.kp T.Lword.bi .nil pass0 (pa_cons (pe_op op_mod (pe_op op_mul (pv 1) pe_int) pe_int) pa_nil)))
      (pss_cons (ps_if (PW.pt (pw_and (pt_cmpR op_ne (pv 6) pe_str (nomark _)) (pw_and1 (pt_cmpR op_eq (pe_op op_mod (pe_op op_fdiv (pv 1) pe_int) pe_int) pe_int (nomark _)))))
        (pss_one (ps_ret (pe_lst (pa_cons (pv 4) (pa_cons (pv 5) (pa_cons (pv 6) (pa_cons (pv 9) (pa_cons (pv 7) (pa_cons pe_non (pa_cons (pv 8) (pa_cons (pe_cmpR op_gt (pe_op op_mod (pe_op op_fdiv (pv 1) pe_int) pe_int) pe_int (nomark _)) pa_nil)))))))))))
        pss_nil)
      (pss_one (ps_ret (pe_lst (pa_cons (pv 4) (pa_cons (pv 5) (pa_cons (pv 6) (pa_cons (pv 9) (pa_cons (pv 7) (pa_cons (pv 8) (pa_cons pe_non (pa_cons (pe_cmpR op_gt (pe_op op_mod (pe_op op_fdiv (pv 1) pe_int) pe_int) pe_int (nomark _)) pa_nil))))))))))))))))))))))), ?_⟩
    have sz : 2000 < sizeLine := le_ble rfl
    refine ⟨le_ble rfl, fun l0 hl0 => ?_⟩
    have s0 := Same.new (o := HO.lst []) hl0
    have k0 := upd_same (H := H) (a := l0) (o := .lst [])
    generalize upd H l0 (.lst []) = G0 at s0 k0
    refine ⟨fun σ G => Same H G ∧ ∃ lv o, σ = [some (.ref l), some (.int m), some (.int i), some lv, none, none, none, none, none, none] ∧ LastAt G lv o ∧ lastE es o, ?_, ?_⟩
    · refine ⟨_, rfl, le_ble rfl, fun e1 he1 => ?_⟩
      have s1 := s0.trans (Same.new (o := HO.lst []) he1)
      have k1 := Same.new (o := HO.lst []) he1 _ _ k0
      refine ⟨0, _, by decide, seqNil (SqL.of (s1 _ _ hL)) (SqL.of upd_same), _, rfl, ?_⟩
      generalize upd G0 e1 (.lst []) = G1 at s1 k1
      rcases hR.last with ⟨e1, e2⟩ | ⟨ys, e, us, v, e1, e2, hv⟩
      · rw [e2]
        exact iteF ⟨s1, _, none, rfl, ⟨l0, rfl, k1⟩, .inl ⟨e1, rfl⟩⟩
      · have ne : (if true = true then !ws.isEmpty else ws.isEmpty) = true := by rw [e2]; cases us <;> rfl
        rw [ne]
        refine iteT ⟨_, rfl, _, rfl, l, _, _, v, rfl, rfl, SqL.of (s1 _ _ hL), by rw [e2]; exact atI_last _ _, ?_⟩
        exact ⟨s1, v, some e, rfl, hv.same s1, .inr ⟨ys, e, e1, rfl⟩⟩
    rintro σ G ⟨sG, lv, o, rfl, hlv, hlo⟩
    have hgl := hlo.is
    refine ⟨_, rfl, _, rfl, lv, m, o, rfl, m0, hlv, fun dd G2 s2 hdd => ?_⟩
    have hlv2 : LastAt G2 lv o := by
      cases o with
      | none => obtain ⟨x, e, h⟩ := hlv; exact ⟨x, e, s2 _ _ h⟩
      | some e => exact RowAt.same (e := e) hlv s2
    have sG2 := sG.trans s2
    walk_at "rd"
    have nn0 : 0 ≤ m * 69621 % 11000000 := by omega
    have nn1 : m * 69621 % 11000000 < 11000000 := by omega
    refine ⟨fun σ G => Same H G ∧ ∃ d n : Int, σ = [some (.ref l), some (.int m), some (.int i), some lv, some (.int d), some (.int n), none, none, none, none] ∧ (n - 1) % 90 = i ∧ 1 ≤ n ∧ n ≤ 1000000000 ∧ 1 ≤ d ∧ d ≤ 11001 * (i + 1) ∧ ∀ e, es.getLast? = some e → e.d < d ∨ (e.d = d ∧ e.n < n), ?_, ?_⟩
    · have e90 : (90 * (m * 69621 % 11000000) + i + 1 - 1) % 90 = i := by omega
      refine ⟨_, rfl, le_ble rfl, fun e1 he1 => ?_⟩
      have s3 := Same.new (o := HO.lst []) he1
      cases o with
      | none =>
        obtain ⟨x, rfl, hx⟩ := hlv2
        have hdd : 1 ≤ dd ∧ dd ≤ 11000 := hdd
        refine ⟨0, _, by decide, seqNil (SqL.of (s3 _ _ hx)) (SqL.of upd_same), _, rfl, iteF ?_⟩
        exact ⟨sG2.trans s3, dd, _, rfl, e90, by omega, by omega, by omega, by omega, fun e he => by rw [hgl] at he; cases he⟩
      | some e =>
        obtain ⟨x, rfl, hx⟩ := hlv2
        have hdd : e.d ≤ dd ∧ dd ≤ e.d + 11000 := hdd
        have em : e ∈ es := List.mem_of_getLast? hgl
        obtain ⟨fe, _, re⟩ := inv.all e em
        have ld := inv.last e hgl
        have ed0 := fe.d0
        have f0 : atI (rowV e) 0 = some (.int e.d) := atI_nat (j := 0) rfl
        have f1 : atI (rowV e) 1 = some (.int e.n) := atI_nat (j := 1) rfl
        have same : ∀ x, es.getLast? = some x → x = e := fun x hx => by rw [hgl] at hx; exact (Option.some.inj hx).symm
        refine ⟨0, _, by decide, seqNil (SqL.of (s3 _ _ hx)) (SqL.of upd_same), _, rfl, iteT ?_⟩
        have s23 := sG2.trans s3
        have hx3 := s3 _ _ hx
        generalize upd G2 e1 (.lst []) = G3 at s23 hx3
        refine ⟨_, rfl, x, _, _, _, rfl, rfl, SqL.of hx3, f0, _, rfl, rfl, _, rfl, ?_⟩
        refine ite2 (fun z => ?_) (fun z => ?_)
        · have z : e.d = dd := V.int.inj (of_decide_eq_true z)
          refine ⟨_, rfl, _, rfl, x, _, _, _, rfl, rfl, SqL.of hx3, f1, _, _, rfl, rfl, _, rfl, ?_⟩
          refine ite2 (fun y => ?_) (fun y => ?_)
          · walk_at "rd"
            exact ⟨s23, dd + 1, _, rfl, e90, by omega, by omega, by omega, by omega, fun t ht => by rw [same t ht]; exact .inl (by omega)⟩
          · have y : ¬ 90 * (m * 69621 % 11000000) + i + 1 < e.n := fun q => y (decide_eq_true q)
            exact ⟨s23, dd, _, rfl, e90, by omega, by omega, by omega, by omega, fun t ht => by rw [same t ht]; exact .inr ⟨z, by omega⟩⟩
        · have z : e.d ≠ dd := fun q => z (decide_eq_true (congrArg V.int q))
          exact ⟨s23, dd, _, rfl, e90, by omega, by omega, by omega, by omega, fun t ht => by rw [same t ht]; exact .inl (by omega)⟩
    rintro σ G3 ⟨s3, d, n, rfl, n1, n2, n3, d1, d2, ord⟩
    refine ⟨fun σ G => Same H G ∧ ∃ r : Str, σ = [some (.ref l), some (.int m), some (.int i), some lv, some (.int d), some (.int n), some (.str r), none, none, none] ∧ (r = "genus" ∨ r = "species" ∨ r = "form"), ?_, ?_⟩
    · refine ⟨le_ble rfl, fun p hp => ?_⟩
      walk_at "rd"
      obtain ⟨y, hy, hm⟩ := atI_in (xs := [V.str (Str.ofString "genus"), .str (Str.ofString "species"), .str (Str.ofString "form"), .str (Str.ofString "species")]) (i := m / 7 % 4) (by omega) (by show _ < (4 : Int); omega)
      refine ⟨p, _, _, y, rfl, rfl, SqL.of upd_same, hy, ?_⟩
      simp only [List.mem_cons, List.not_mem_nil, or_false] at hm
      rcases hm with rfl | rfl | rfl | rfl
      · exact ⟨s3.trans (Same.new hp), _, rfl, .inl rfl⟩
      · exact ⟨s3.trans (Same.new hp), _, rfl, .inr (.inl rfl)⟩
      · exact ⟨s3.trans (Same.new hp), _, rfl, .inr (.inr rfl)⟩
      · exact ⟨s3.trans (Same.new hp), _, rfl, .inr (.inl rfl)⟩
    rintro σ G4 ⟨s4, r, rfl, hr4⟩
    walk_at "rd"
    refine ⟨fun σ G => Same H G ∧ ∃ u : Option Int, σ = [some (.ref l), some (.int m), some (.int i), some lv, some (.int d), some (.int n), some (.str r), some (optV u), none, none] ∧ (r = "genus" → u = none) ∧ (r ≠ "genus" → ∃ x, u = some x ∧ 1 ≤ x ∧ x ≤ 1000000000), ?_, ?_⟩
    · walk_at "rd"
      refine ite2 (fun z => ?_) (fun z => ?_)
      · have z : r ≠ "genus" := fun q => by rw [q] at z; exact absurd z (by decide +kernel)
        walk_at "rd"
        have e9 : (10 : Int) ^ Int.toNat 9 = 1000000000 := by decide
        have q0 := Int.emod_nonneg (m * 40692) (b := (10 : Int) ^ Int.toNat 9) (by decide)
        have q1 := Int.emod_lt_of_pos (m * 40692) (b := (10 : Int) ^ Int.toNat 9) (by decide)
        exact ⟨s4, some _, rfl, fun q => absurd q z, fun _ => ⟨_, rfl, by omega, by omega⟩⟩
      · have z : r = "genus" := V.str.inj (Decidable.of_not_not (p := V.str r = V.str (Str.ofString "genus")) (fun q => z (by rw [decide_eq_false q]; rfl)))
        exact ⟨s4, none, rfl, fun _ => rfl, fun q => absurd z q⟩
    rintro σ G5 ⟨s5, u, rfl, u1, u2⟩
    refine ⟨fun σ G => Same H G ∧ ∃ u : Option Int, σ = [some (.ref l), some (.int m), some (.int i), some lv, some (.int d), some (.int n), some (.str r), some (optV u), none, none] ∧ (r = "genus" → u = none) ∧ (r ≠ "genus" → ∃ x, u = some x ∧ 1 ≤ x ∧ x ≤ 1000000000), ?_, ?_⟩
    · refine ⟨_, rfl, le_ble rfl, fun e1 he1 => ?_⟩
      have s6 := s5.trans (Same.new (o := HO.lst []) he1)
      refine ⟨0, _, by decide, seqNil (SqL.of (s6 _ _ hL)) (SqL.of upd_same), _, rfl, ?_⟩
      generalize upd G5 e1 (.lst []) = G6 at s6
      refine iteB (fun z => ?_) (fun _ => ⟨s6, u, rfl, u1, u2⟩)
      walk_at "rd"
      refine ite2 (fun _ => ?_) (fun _ => ⟨s6, u, rfl, u1, u2⟩)
      cases u with
      | none => exact ⟨_, rfl, _, rfl, iteF ⟨s6, none, rfl, u1, u2⟩⟩
      | some x0 =>
        refine ⟨_, rfl, _, rfl, iteT ?_⟩
        have rg : r ≠ "genus" := fun q => by have := u1 q; cases this
        have lp : 0 < ws.length := by
          cases ws with
          | nil => exact absurd z (by decide)
          | cons _ _ => exact Nat.succ_pos _
        walk_at "rd"
        refine ⟨l, _, rfl, .inl (SqL.of (s6 _ _ hL)), _, _, rfl, rfl, by omega, ?_⟩
        have b0 := Int.emod_nonneg (m / 56) (b := (ws.length : Int)) (by omega)
        have b1 := Int.emod_lt_of_pos (m / 56) (b := (ws.length : Int)) (by omega)
        have hj : (m / 56 % (ws.length : Int)).toNat < ws.length := by omega
        have hje : (m / 56 % (ws.length : Int)).toNat < es.length := by rw [← hR.1]; exact hj
        obtain ⟨ra, hra, hrow⟩ := hR.2 _ _ _ (List.getElem?_eq_getElem hj) (List.getElem?_eq_getElem hje)
        have hat := atI_toNat (xs := ws) b0 (List.getElem?_eq_getElem hj)
        rw [hra] at hat
        obtain ⟨fe, _, _⟩ := inv.all _ (List.getElem_mem hje)
        generalize es[(m / 56 % (ws.length : Int)).toNat] = e2 at hrow fe
        have f1 : atI (rowV e2) 1 = some (.int e2.n) := atI_nat (j := 1) rfl
        refine ⟨l, _, _, _, rfl, rfl, SqL.of (s6 _ _ hL), hat, ra, _, _, _, rfl, rfl, SqL.of (s6 _ _ hrow), f1, ?_⟩
        exact ⟨s6, some e2.n, rfl, fun q => absurd q rg, fun _ => ⟨_, rfl, fe.n0, fe.n1⟩⟩
    rintro σ G6 ⟨s6, u, rfl, u1, u2⟩
    refine ⟨fun σ G => Same H G ∧ ∃ t : Int, σ = [some (.ref l), some (.int m), some (.int i), some lv, some (.int d), some (.int n), some (.str r), some (optV u), some (.int t), none] ∧ 1 ≤ t ∧ t ≤ 1000000000, ?_, ?_⟩
    · walk_at "rd"
      refine ⟨le_ble rfl, fun p hp => ?_⟩
      walk_at "rd"
      have e9 : (10 : Int) ^ Int.toNat 9 = 1000000000 := by decide
      have q0 := Int.emod_nonneg (m * 16807) (b := (10 : Int) ^ Int.toNat 9) (by decide)
      have q1 := Int.emod_lt_of_pos (m * 16807) (b := (10 : Int) ^ Int.toNat 9) (by decide)
      obtain ⟨y, hy, hm⟩ := atI_in (xs := [V.int (m / 5 % 30), V.int (m * 16807 % 10 ^ Int.toNat 9)]) (i := m / 150 % 2) (by omega) (by show _ < (2 : Int); omega)
      obtain ⟨j, rfl, j0, j1⟩ : ∃ j, y = V.int j ∧ 0 ≤ j ∧ j < 1000000000 := by
        simp only [List.mem_cons, List.not_mem_nil, or_false] at hm
        rcases hm with rfl | rfl
        · exact ⟨_, rfl, by omega, by omega⟩
        · exact ⟨_, rfl, by omega, by omega⟩
      refine ⟨p, _, _, _, rfl, rfl, SqL.of upd_same, hy, ?_⟩
      walk_at "rd"
      exact ⟨s6.trans (Same.new hp), _, rfl, by omega, by omega⟩
    rintro σ G7 ⟨s7, t, rfl, t1, t2⟩
    walk_at "rd"
    refine ⟨by omega, fun z hz2 => ?_⟩
    have rk := rank_in hr4
    have wl : z.length ≤ 12 := by
      rw [isWord_str, Bool.and_eq_true, Bool.and_eq_true] at hz2
      have := of_decide_eq_true hz2.1.2
      omega
    have fin : ∀ (sv bv : Option Int) (kk : Bool), ((sv = some t ∧ bv = none) ∨ (sv = none ∧ bv = some t ∧ r ≠ "genus")) → NextE es ⟨n, d, r, z, u, sv, bv, kk⟩ i := fun sv bv kk hsb => by
      have hu : underFits (.str r) (optV u) = true := by
        by_cases e : r = "genus"
        · rw [u1 e, e, under_g]; rfl
        · obtain ⟨x, rfl, x1, x2⟩ := u2 e
          rw [under_n e]
          exact inR_of x1 x2
      have ht : tieFits (.str r) (optV sv) (optV bv) = true := by
        rcases hsb with ⟨rfl, rfl⟩ | ⟨rfl, rfl, e⟩
        · show tieFits (.str r) (.int t) .non = true
          rw [tie_n]; exact inR_of t1 t2
        · show tieFits (.str r) .non (.int t) = true
          rw [tie_b (b := V.int t) _ _ (by intro q; cases q), inR_of t1 t2, decide_eq_false (fun q => e (V.str.inj q))]
          rfl
      refine ⟨⟨n2, n3, d1, by show d ≤ 1000000; omega, rk.2, wl, fun x hx => ?_, fun x hx => ?_, fun hx => ?_⟩, ok_of (inR_of n2 n3) (inR_of d1 (by omega)) rk.1 hz2 hu ht, n1, d2, fun e he => lex_lt (ord e he)⟩
      · by_cases e : r = "genus"
        · have hx : u = some x := hx
          rw [u1 e] at hx; cases hx
        · obtain ⟨y, e2, y1, y2⟩ := u2 e
          have hx : u = some x := hx
          rw [e2] at hx; cases hx; exact ⟨y1, y2⟩
      · have hx : bv = some x := hx
        rcases hsb with ⟨_, e⟩ | ⟨_, e, _⟩
        · rw [e] at hx; cases hx
        · rw [e] at hx; cases hx; exact ⟨t1, t2⟩
      · have hx : bv = none := hx
        rcases hsb with ⟨e, _⟩ | ⟨_, e, _⟩
        · exact ⟨t, e, t1, t2⟩
        · rw [e] at hx; cases hx
    have row : ∀ (sv bv : Option Int) (kk : Bool) (q : Addr) (G : Hp), RowAt (upd G q (.lst [.int d, .int n, .str r, .str z, optV u, optV sv, optV bv, .bl kk])) (.ref q) ⟨n, d, r, z, u, sv, bv, kk⟩ := fun sv bv kk q G => ⟨q, rfl, upd_same⟩
    walk_at "rd"
    refine ite2 (fun e1 => ?_) (fun _ => ?_)
    · have e1 : r ≠ "genus" := fun q => by rw [q] at e1; exact absurd e1 (by decide +kernel)
      walk_at "rd"
      refine ite2 (fun _ => ?_) (fun _ => ?_)
      · walk_at "rd"
        refine ⟨le_ble rfl, fun q hq => ?_⟩
        exact k _ _ _ (s7.trans (Same.new hq)) (row none (some t) _ q G7) (fin _ _ _ (.inr ⟨rfl, rfl, e1⟩))
      · walk_at "rd"
        refine ⟨le_ble rfl, fun q hq => ?_⟩
        exact k _ _ _ (s7.trans (Same.new hq)) (row (some t) none _ q G7) (fin _ _ _ (.inl ⟨rfl, rfl⟩))
    · walk_at "rd"
      refine ⟨le_ble rfl, fun q hq => ?_⟩
      exact k _ _ _ (s7.trans (Same.new hq)) (row (some t) none _ q G7) (fin _ _ _ (.inl ⟨rfl, rfl⟩))

set_option maxHeartbeats 4000000 in
theorem ok_Ltext_of (T : Txt w K mg c) : FnOk P w K mg base CX0 1 c.a_Ltext_of c.d_Ltext_of ["_law_row"] (spTextOf) := by
  refine T.Ltext_of.fn.ok sc_Ltext_of (fun vs H Q E h => ?_) (fun cdv A outer s H vs Q E hr h => ?_)
  · obtain ⟨v, e, rfl, _⟩ := h
    rfl
  · obtain ⟨v, e, rfl, hv, fit, k⟩ := h
    refine ⟨_, (pss_cons (ps_set (i := 1) sc_Ltext_of.nd rfl (Or.inl rfl) (pe_lst (pa_cons (pe_callTy call_str_int rfl T.no_str bt_str (pa_cons (pe_ix ix_list (pv 0) pe_int (fun _ _ => rfl)) pa_nil)) (pa_cons (pe_callTy call_str_int rfl T.no_str bt_str (pa_cons (pe_ix ix_list (pv 0) pe_int (fun _ _ => rfl)) pa_nil)) (pa_cons (pe_ix ix_list (pv 0) pe_int (fun _ _ => rfl)) (pa_cons (pe_ix ix_list (pv 0) pe_int (fun _ _ => rfl)) pa_nil))))))
      (pss_cut (ps_if (pt_cmp (pc_notN (pe_ix ix_list (pv 0) pe_int (fun _ _ => rfl))))
        (pss_one (ps_set (i := 1) sc_Ltext_of.nd rfl (Or.inl rfl) (pe_op op_cat (pv 1) (pe_lst (pa_cons pe_str (pa_cons (pe_callTy call_str_int rfl T.no_str bt_str (pa_cons (pe_ix ix_list (pv 0) pe_int (fun _ _ => rfl)) pa_nil)) pa_nil))))))
        pss_nil)
      (pss_cons (ps_if (pt_cmp (pc_notN (pe_ix ix_list (pv 0) pe_int (fun _ _ => rfl))))
        (pss_one (ps_ret (pe_bm PySem.F.plainAttrs_str PySem.F.slot_str_join PySem.F.type_str_join mt_join pe_str (pa_cons (pe_op op_cat (pv 1) (pe_lst (pa_cons pe_str (pa_cons (pe_callTy call_str_int rfl T.no_str bt_str (pa_cons (pe_ix ix_list (pv 0) pe_int (fun _ _ => rfl)) pa_nil)) pa_nil)))) pa_nil))))
        pss_nil)
      (pss_cons (ps_if (pt_val (pe_ix ix_list (pv 0) pe_int (fun _ _ => rfl)))
        (pss_one (ps_ret (pe_bm PySem.F.plainAttrs_str PySem.F.slot_str_join PySem.F.type_str_join mt_join pe_str (pa_cons (pe_op op_cat (pv 1) (pe_lst (pa_cons pe_str (pa_cons (pe_callTy call_str_int rfl T.no_str bt_str (pa_cons (pe_ix ix_list (pv 0) pe_int (fun _ _ => rfl)) pa_nil)) pa_nil)))) pa_nil))))
        pss_nil)
      (pss_one (ps_ret (pe_bm PySem.F.plainAttrs_str PySem.F.slot_str_join PySem.F.type_str_join mt_join pe_str (pa_cons (pe_op op_cat (pv 1) (pe_lst (pa_cons pe_str (pa_cons (pe_callTy call_str_int rfl T.no_str bt_str (pa_cons (pe_ix ix_list (pv 0) pe_int (fun _ _ => rfl)) pa_nil)) (pa_cons pe_str pa_nil))))) pa_nil)))))))), ?_⟩
    obtain ⟨ra, rfl, hrow⟩ := hv
    have n0 := fit.n0
    have n1 := fit.n1
    have d0 := fit.d0
    have d1 := fit.d1
    have sz : 2000 < sizeLine := le_ble rfl
    have f0 : atI (rowV e) 0 = some (.int e.d) := atI_nat (j := 0) rfl
    have f1 : atI (rowV e) 1 = some (.int e.n) := atI_nat (j := 1) rfl
    have f2 : atI (rowV e) 2 = some (.str e.r) := atI_nat (j := 2) rfl
    have f3 : atI (rowV e) 3 = some (.str e.w) := atI_nat (j := 3) rfl
    have f4 : atI (rowV e) 4 = some (optV e.u) := atI_nat (j := 4) rfl
    have f5 : atI (rowV e) 5 = some (optV e.s) := atI_nat (j := 5) rfl
    have f6 : atI (rowV e) 6 = some (optV e.b) := atI_nat (j := 6) rfl
    have f7 : atI (rowV e) 7 = some (.bl e.k) := atI_nat (j := 7) rfl
    refine ⟨_, rfl, ra, _, _, _, rfl, rfl, SqL.of hrow, f0, _, rfl, log_ok (by omega) (by omega), ?_⟩
    refine ⟨_, rfl, ra, _, _, _, rfl, rfl, SqL.of hrow, f1, _, rfl, log_ok (by omega) (by omega), ?_⟩
    refine ⟨_, rfl, ra, _, _, _, rfl, rfl, SqL.of hrow, f2, ?_⟩
    refine ⟨_, rfl, ra, _, _, _, rfl, rfl, SqL.of hrow, f3, le_ble rfl, fun p hp => ?_⟩
    refine ⟨fun σ G => Same H G ∧ ∃ w, σ = [some (.ref ra), some (.ref w)] ∧ G w = some (.lst (([Str.ofString (toString e.d), Str.ofString (toString e.n), e.r, e.w] ++ txtU e.u).map V.str)), ?_, ?_⟩
    · refine ⟨_, rfl, ra, _, _, _, rfl, rfl, SqL.of (Same.new hp _ _ hrow), f4, ?_⟩
      cases hu : e.u with
      | none => exact ⟨_, rfl, iteF ⟨Same.new hp, p, rfl, upd_same⟩⟩
      | some u =>
        rw [hu] at f4
        have hh := fit.u u hu
        refine ⟨_, rfl, iteT ?_⟩
        refine ⟨_, rfl, _, rfl, ra, _, _, _, rfl, rfl, SqL.of (Same.new hp _ _ hrow), f4, _, rfl, log_ok (by omega) hh.2, le_ble rfl, fun q hq => ?_⟩
        exact ⟨p, q, _, _, rfl, rfl, Same.new hq _ _ upd_same, upd_same, le_ble rfl, fun q2 hq2 => ⟨(Same.new hp).trans ((Same.new hq).trans (Same.new hq2)), q2, rfl, upd_same⟩⟩
    rintro σ G ⟨sG, w, rfl, hw⟩
    have lU : (txtU e.u).length ≤ 2 := by cases e.u <;> exact le_ble rfl
    have tl := txt_len fit
    have hr2 := sG _ _ hrow
    have en : ∀ (G' : Hp) (q : Addr) (zs : List Str), Same H G' → txtW e = [Str.ofString (toString e.d), Str.ofString (toString e.n), e.r, e.w] ++ txtU e.u ++ zs → G' q = some (.lst (([Str.ofString (toString e.d), Str.ofString (toString e.n), e.r, e.w] ++ txtU e.u).map V.str ++ zs.map V.str)) → SqL K G' q ((txtW e).map V.str) := fun G' q zs s' ez h => by
      rw [ez, List.map_append]
      exact SqL.of h
    have ll : (([Str.ofString (toString e.d), Str.ofString (toString e.n), e.r, e.w] ++ txtU e.u).map V.str).length + 3 ≤ sizeLine := by
      rw [List.length_map, List.length_append]
      show 4 + _ + 3 ≤ _
      omega
    have l2 : (([Str.ofString (toString e.d), Str.ofString (toString e.n), e.r, e.w] ++ txtU e.u).map V.str).length + 2 ≤ sizeLine := by omega
    refine ⟨_, rfl, ra, _, _, _, rfl, rfl, SqL.of hr2, f6, ?_⟩
    cases hb : e.b with
    | some b =>
      rw [hb] at f6
      have hh := fit.b b hb
      refine ⟨_, rfl, iteT ?_⟩
      refine ⟨rfl, _, rfl, _, rfl, ra, _, _, _, rfl, rfl, SqL.of hr2, f6, _, rfl, log_ok (by omega) hh.2, le_ble rfl, fun q hq => ?_⟩
      refine ⟨w, q, _, _, rfl, rfl, Same.new hq _ _ hw, upd_same, l2, fun q2 hq2 => ?_⟩
      have s2 : ∀ o, Same H (upd _ q2 o) := fun o => sG.trans ((Same.new hq).trans (Same.new hq2))
      exact ⟨_, q2, txtW e, rfl, rfl, en _ q2 [Str.ofString "of", Str.ofString (toString b)] (s2 _) (by unfold txtW; rw [hb]; rfl) upd_same, le_ble (by decide +kernel), by omega, k _ (s2 _)⟩
    | none =>
      obtain ⟨x, hx, x0, x1⟩ := fit.s hb
      rw [hx] at f5
      refine ⟨_, rfl, iteF ?_⟩
      refine ⟨_, rfl, ra, _, _, _, rfl, rfl, SqL.of hr2, f7, ?_⟩
      cases hk : e.k with
      | true =>
        refine ⟨_, rfl, iteT ?_⟩
        refine ⟨rfl, _, rfl, _, rfl, ra, _, _, _, rfl, rfl, SqL.of hr2, f5, _, rfl, log_ok (by omega) x1, le_ble rfl, fun q hq => ?_⟩
        refine ⟨w, q, _, _, rfl, rfl, Same.new hq _ _ hw, upd_same, l2, fun q2 hq2 => ?_⟩
        have s2 : ∀ o, Same H (upd _ q2 o) := fun o => sG.trans ((Same.new hq).trans (Same.new hq2))
        exact ⟨_, q2, txtW e, rfl, rfl, en _ q2 [Str.ofString "tied", Str.ofString (toString x)] (s2 _) (by unfold txtW; rw [hb, hk, hx]; rfl) upd_same, le_ble (by decide +kernel), by omega, k _ (s2 _)⟩
      | false =>
        refine ⟨_, rfl, iteF ?_⟩
        refine ⟨rfl, _, rfl, _, rfl, ra, _, _, _, rfl, rfl, SqL.of hr2, f5, _, rfl, log_ok (by omega) x1, le_ble rfl, fun q hq => ?_⟩
        refine ⟨w, q, _, _, rfl, rfl, Same.new hq _ _ hw, upd_same, ll, fun q2 hq2 => ?_⟩
        have s2 : ∀ o, Same H (upd _ q2 o) := fun o => sG.trans ((Same.new hq).trans (Same.new hq2))
        exact ⟨_, q2, txtW e, rfl, rfl, en _ q2 [Str.ofString "tied", Str.ofString (toString x), Str.ofString "bare"] (s2 _) (by unfold txtW; rw [hb, hk, hx]; rfl) upd_same, le_ble (by decide +kernel), by omega, k _ (s2 _)⟩

set_option maxHeartbeats 4000000 in
theorem ok_Lentry (T : Txt w K mg c) : FnOk P w K mg base CX0 6 c.a_Lentry c.d_Lentry ["_law_row"] (spEntryOf c.c_Entry) := by
  refine T.Lentry.fn.ok sc_Lentry (fun vs H Q E h => ?_) (fun cdv A outer s H vs Q E hr h => ?_)
  · obtain ⟨v, e, rfl, _⟩ := h
    rfl
  · obtain ⟨v, e, rfl, hv, fit, okk, k⟩ := h
    refine ⟨_, (pss_cons (ps_if (PW.pt (pw_and (pt_cmp (pc_isN (pe_ix ix_list (pv 0) pe_int (fun _ _ => rfl)))) (pw_and1 (pt_val (pe_ix ix_list (pv 0) pe_int (fun _ _ => rfl))))))
        (pss_one (ps_ret (pe_makeS T.mk_Entry (ok_Entry_init T) (hr.mono (by decide)) rfl T.mg_Entry T.b_Entry_6 passE0 (pa_cons (pe_ix ix_list (pv 0) pe_int (fun _ _ => rfl)) (pa_cons (pe_ix ix_list (pv 0) pe_int (fun _ _ => rfl)) (pa_cons (pe_ix ix_list (pv 0) pe_int (fun _ _ => rfl)) (pa_cons (pe_ix ix_list (pv 0) pe_int (fun _ _ => rfl)) (pa_cons (pe_ix ix_list (pv 0) pe_int (fun _ _ => rfl)) (pa_cons (pe_ix ix_list (pv 0) pe_int (fun _ _ => rfl)) pa_nil)))))) pk_nil)))
        pss_nil)
      (pss_one (ps_ret (pe_makeS T.mk_Entry (ok_Entry_init T) (hr.mono (by decide)) rfl T.mg_Entry T.b_Entry_8 passE0 (pa_cons (pe_ix ix_list (pv 0) pe_int (fun _ _ => rfl)) (pa_cons (pe_ix ix_list (pv 0) pe_int (fun _ _ => rfl)) (pa_cons (pe_ix ix_list (pv 0) pe_int (fun _ _ => rfl)) (pa_cons (pe_ix ix_list (pv 0) pe_int (fun _ _ => rfl)) (pa_cons (pe_ix ix_list (pv 0) pe_int (fun _ _ => rfl)) (pa_cons (pe_ix ix_list (pv 0) pe_int (fun _ _ => rfl)) (pa_cons (pe_ix ix_list (pv 0) pe_int (fun _ _ => rfl)) (pa_cons (pe_ix ix_list (pv 0) pe_int (fun _ _ => rfl)) pa_nil)))))))) pk_nil)))), ?_⟩
    obtain ⟨ra, rfl, hrow⟩ := hv
    have f0 : atI (rowV e) 0 = some (.int e.d) := atI_nat (j := 0) rfl
    have f1 : atI (rowV e) 1 = some (.int e.n) := atI_nat (j := 1) rfl
    have f2 : atI (rowV e) 2 = some (.str e.r) := atI_nat (j := 2) rfl
    have f3 : atI (rowV e) 3 = some (.str e.w) := atI_nat (j := 3) rfl
    have f4 : atI (rowV e) 4 = some (optV e.u) := atI_nat (j := 4) rfl
    have f5 : atI (rowV e) 5 = some (optV e.s) := atI_nat (j := 5) rfl
    have f6 : atI (rowV e) 6 = some (optV e.b) := atI_nat (j := 6) rfl
    have f7 : atI (rowV e) 7 = some (.bl e.k) := atI_nat (j := 7) rfl
    have oO : ∀ (G : Hp) (o : Option Int), Own K G (optV o) := fun G o => by cases o with | none => exact Own.non | some _ => exact Own.int
    have sz : 2000 < sizeLine := le_ble rfl
    have fw : fits (.str e.w) := by show e.w.length ≤ sizeLine; have := fit.wl; omega
    have fin : ∀ (x dx : Addr) (Q' : VK) (E' : XK), H x = none → H dx = none → dx ≠ x → (∀ G, Q (.ref x) G → Q' .non G) → spInit K c.c_Entry ⟨c.c_NoNumber, c.c_NoDay, c.c_NoRank, c.c_NoWord, c.c_NoEntry⟩ [.ref x, .int e.n, .int e.d, .str e.r, .str e.w, optV e.u, optV e.s, optV e.b, .bl e.k] (upd (upd H dx (.own x)) x (.ins c.c_Entry dx [])) Q' E' := fun x dx Q' E' hx hdx ne hq => by
      refine ⟨x, dx, .int e.n, .int e.d, .str e.r, .str e.w, optV e.u, optV e.s, optV e.b, .bl e.k, rfl, upd_same, Own.int, Own.int, Own.str, Own.str, fw, oO _ _, oO _ _, oO _ _, fun G1 s1 => ⟨fun _ => ?_, fun h => absurd okk h⟩⟩
      exact hq _ (k _ _ (Same.upd ((Same.made hx hdx ne).trans s1) hx) ⟨x, dx, rfl, upd_same⟩)
    refine ⟨_, rfl, ra, _, _, _, rfl, rfl, SqL.of hrow, f6, ?_⟩
    by_cases h6 : e.b = none ∧ e.k = true
    · rw [h6.1]
      refine ⟨_, rfl, iteT ?_⟩
      refine ⟨_, rfl, ra, _, _, _, rfl, rfl, SqL.of hrow, f7, ?_⟩
      rw [h6.2]
      refine ⟨_, rfl, iteT ?_⟩
      refine ⟨_, rfl, ra, _, _, _, rfl, rfl, SqL.of hrow, f1, ?_⟩
      refine ⟨_, rfl, ra, _, _, _, rfl, rfl, SqL.of hrow, f0, ?_⟩
      refine ⟨_, rfl, ra, _, _, _, rfl, rfl, SqL.of hrow, f2, ?_⟩
      refine ⟨_, rfl, ra, _, _, _, rfl, rfl, SqL.of hrow, f3, ?_⟩
      refine ⟨_, rfl, ra, _, _, _, rfl, rfl, SqL.of hrow, f4, ?_⟩
      refine ⟨_, rfl, ra, _, _, _, rfl, rfl, SqL.of hrow, f5, ?_⟩
      refine ⟨rfl, rfl, fun x dx hx hdx ne => ?_⟩
      have f := fun Q' E' hq => fin x dx Q' E' hx hdx ne hq
      rw [h6.1, h6.2] at f
      exact f _ _ (fun G h => ⟨rfl, h⟩)
    · have nb : e.b = none → e.k = false := fun h => by cases q : e.k with | false => rfl | true => exact absurd ⟨h, q⟩ h6
      cases hb : e.b with
      | none =>
        refine ⟨_, rfl, iteT ?_⟩
        refine ⟨_, rfl, ra, _, _, _, rfl, rfl, SqL.of hrow, f7, ?_⟩
        rw [nb hb]
        refine ⟨_, rfl, iteF ?_⟩
        refine ⟨_, rfl, ra, _, _, _, rfl, rfl, SqL.of hrow, f1, ?_⟩
        refine ⟨_, rfl, ra, _, _, _, rfl, rfl, SqL.of hrow, f0, ?_⟩
        refine ⟨_, rfl, ra, _, _, _, rfl, rfl, SqL.of hrow, f2, ?_⟩
        refine ⟨_, rfl, ra, _, _, _, rfl, rfl, SqL.of hrow, f3, ?_⟩
        refine ⟨_, rfl, ra, _, _, _, rfl, rfl, SqL.of hrow, f4, ?_⟩
        refine ⟨_, rfl, ra, _, _, _, rfl, rfl, SqL.of hrow, f5, ?_⟩
        refine ⟨_, rfl, ra, _, _, _, rfl, rfl, SqL.of hrow, f6, ?_⟩
        refine ⟨_, rfl, ra, _, _, _, rfl, rfl, SqL.of hrow, f7, ?_⟩
        refine ⟨rfl, rfl, fun x dx hx hdx ne => ?_⟩
        exact fin x dx _ _ hx hdx ne (fun G h => ⟨rfl, h⟩)
      | some b =>
        refine ⟨_, rfl, iteF ?_⟩
        refine ⟨_, rfl, ra, _, _, _, rfl, rfl, SqL.of hrow, f1, ?_⟩
        refine ⟨_, rfl, ra, _, _, _, rfl, rfl, SqL.of hrow, f0, ?_⟩
        refine ⟨_, rfl, ra, _, _, _, rfl, rfl, SqL.of hrow, f2, ?_⟩
        refine ⟨_, rfl, ra, _, _, _, rfl, rfl, SqL.of hrow, f3, ?_⟩
        refine ⟨_, rfl, ra, _, _, _, rfl, rfl, SqL.of hrow, f4, ?_⟩
        refine ⟨_, rfl, ra, _, _, _, rfl, rfl, SqL.of hrow, f5, ?_⟩
        refine ⟨_, rfl, ra, _, _, _, rfl, rfl, SqL.of hrow, f6, ?_⟩
        refine ⟨_, rfl, ra, _, _, _, rfl, rfl, SqL.of hrow, f7, ?_⟩
        refine ⟨rfl, rfl, fun x dx hx hdx ne => ?_⟩
        exact fin x dx _ _ hx hdx ne (fun G h => ⟨rfl, h⟩)

set_option maxHeartbeats 4000000 in
theorem ok_Lno_book (T : Txt w K mg c) : FnOk P w K mg base CX0 1 c.a_Lno_book c.d_Lno_book ["_law_entries", "_law_cell"] (spNoBook K c.c_Entry) := by
  refine T.Lno_book.fn.ok sc_Lno_book (fun vs H Q E h => ?_) (fun cdv A outer s H vs Q E hr h => ?_)
  · obtain ⟨l, ws, es, z, rfl, _⟩ := h
    rfl
  · obtain ⟨l, ws, es, z, rfl, hL, hE, hz, k⟩ := h
    refine ⟨_, (pss_cut (ps_if (PW.pt (pw_and (pt_cmpR op_gt (pe_callB call_len_seq rfl T.no_len bt_len (pa_cons (pv 0) pa_nil)) pe_int (nomark _)) (pw_and1 (pt_cmpR op_eq (pe_op op_mod (pv 1) pe_int) pe_int (nomark _)))))
        (pss_one (ps_ret (pe_ix ix_list (pe_lst (pa_cons (pe_op op_cat (pv 0) (pe_slice sl_list (pv 0) po_none (po_some pe_int))) (pa_cons (pe_op op_cat (pv 0) (pe_lst (pa_cons pe_non pa_nil))) (pa_cons (pe_op op_cat (pe_slice sl_list (pv 0) (po_some (pe_un un_neg pe_int)) po_none) (pv 0)) (pa_cons (pe_lst (pa_cons (pe_ix ix_list (pv 0) pe_int (fun _ _ => rfl)) (pa_cons pe_str pa_nil))) pa_nil))))) (pe_op op_mod (pe_op op_fdiv (pv 1) pe_int) pe_int) (fun _ _ => rfl))))
        pss_nil)
      (pss_one (ps_ret (pe_ix ix_list (pe_lst (pa_cons pe_non (pa_cons (pe_callTy call_tuple_of rfl T.no_tuple bt_tuple (pa_cons (pv 0) pa_nil)) (pa_cons pe_int (pa_cons (pe_lst (pa_cons pe_int pa_nil)) pa_nil))))) (pe_op op_mod (pe_op op_fdiv (pv 1) pe_int) pe_int) (fun _ _ => rfl))))), ?_⟩
    have sz : 2000 < sizeLine := le_ble rfl
    have hits := hE.its (K := K)
    have non : ∀ G, ItAt K G c.c_Entry .non none := fun G => .oth .non T.wn_Entry_NoneType
    have num : ∀ G i, ItAt K G c.c_Entry (.int i) none := fun G i => .oth (.int i) T.wn_Entry_int
    have txt : ∀ G z, ItAt K G c.c_Entry (.str z) none := fun G z => .oth (.str z) T.wn_Entry_str
    refine ⟨fun σ G => σ = [some (.ref l), some (.int z)] ∧ G = H, ?_, ?_⟩
    · refine ⟨_, rfl, l, _, rfl, .inl (SqL.of hL), ?_⟩
      walk_at "rd"
      refine ite2 (fun h1 => ?_) (fun _ => ⟨rfl, rfl⟩)
      walk_at "rd"
      refine ite2 (fun h2 => ?_) (fun _ => ⟨rfl, rfl⟩)
      have h1 := of_decide_eq_true h1
      obtain ⟨e, es', rfl⟩ : ∃ e es', es = e :: es' := by
        cases es with
        | nil => rw [hE.1] at h1; exact absurd h1 (by decide)
        | cons e es' => exact ⟨e, es', rfl⟩
      obtain ⟨v, us, rfl, hv, hus⟩ := hE.uncons
      have hl : (v :: us).length ≤ 63 := hz
      have hus63 : us.length ≤ 62 := Nat.le_of_succ_le_succ hz
      refine ⟨_, rfl, _, rfl, _, rfl, l, _, rfl, SqL.of hL, fun p1 hp1 => ?_⟩
      have hL1 := Same.new (o := HO.lst (cutV (v :: us) none (some 1))) hp1 _ _ hL
      have kp1 := upd_same (H := H) (a := p1) (o := HO.lst (cutV (v :: us) none (some 1)))
      have s1 := Same.new (o := HO.lst (cutV (v :: us) none (some 1))) hp1
      rw [cut_one] at hL1 kp1 s1 ⊢
      generalize upd H p1 (.lst [v]) = G1 at hL1 kp1 s1 ⊢
      refine ⟨l, p1, _, _, rfl, rfl, hL1, kp1, by show us.length + 1 + 1 ≤ _; omega, fun q1 hq1 => ?_⟩
      have s2 := s1.trans (Same.new (o := HO.lst (v :: us ++ [v])) hq1)
      have kq1 := upd_same (H := G1) (a := q1) (o := HO.lst (v :: us ++ [v]))
      generalize upd G1 q1 (.lst (v :: us ++ [v])) = G2 at s2 kq1 ⊢
      refine ⟨_, rfl, le_ble rfl, fun p2 hp2 => ?_⟩
      have s3 := s2.trans (Same.new (o := HO.lst [V.non]) hp2)
      have kp2 := upd_same (H := G2) (a := p2) (o := HO.lst [V.non])
      have kq1 := Same.new (o := HO.lst [V.non]) hp2 _ _ kq1
      generalize upd G2 p2 (.lst [V.non]) = G3 at s3 kp2 kq1 ⊢
      refine ⟨l, p2, _, _, rfl, rfl, s3 _ _ hL, kp2, by show us.length + 1 + 1 ≤ _; omega, fun q2 hq2 => ?_⟩
      have s4 := s3.trans (Same.new (o := HO.lst (v :: us ++ [V.non])) hq2)
      have kq2 := upd_same (H := G3) (a := q2) (o := HO.lst (v :: us ++ [V.non]))
      have kq1 := Same.new (o := HO.lst (v :: us ++ [V.non])) hq2 _ _ kq1
      generalize upd G3 q2 (.lst (v :: us ++ [V.non])) = G4 at s4 kq1 kq2 ⊢
      refine ⟨_, rfl, _, rfl, _, rfl, l, _, rfl, SqL.of (s4 _ _ hL), fun p3 hp3 => ?_⟩
      obtain ⟨ve, e9, hcut, he9, hm9⟩ : ∃ ve e9, cutV (v :: us) (some (-1)) none = [ve] ∧ EntAt H c.c_Entry ve e9 ∧ e9 ∈ e :: es' := by
        rcases hE.last with ⟨q, _⟩ | ⟨ys, e9, us9, v9, q1, q2, q3⟩
        · cases q
        · exact ⟨v9, e9, by rw [q2]; exact cut_last _ _, q3, by rw [q1]; simp⟩
      have s5 := s4.trans (Same.new (o := HO.lst (cutV (v :: us) (some (-1)) none)) hp3)
      have kp3 := upd_same (H := G4) (a := p3) (o := HO.lst (cutV (v :: us) (some (-1)) none))
      have t5 := Same.new (o := HO.lst (cutV (v :: us) (some (-1)) none)) hp3
      rw [hcut] at s5 kp3 t5 ⊢
      have kq1 := t5 _ _ kq1
      have kq2 := t5 _ _ kq2
      generalize upd G4 p3 (.lst [ve]) = G5 at s5 kp3 kq1 kq2 ⊢
      refine ⟨_, rfl, p3, l, _, _, rfl, rfl, kp3, s5 _ _ hL, by show 1 + (us.length + 1) ≤ _; omega, fun q3 hq3 => ?_⟩
      have t6 := Same.new (o := HO.lst ([ve] ++ v :: us)) hq3
      have s6 := s5.trans t6
      have kq3 := upd_same (H := G5) (a := q3) (o := HO.lst ([ve] ++ v :: us))
      have kq1 := t6 _ _ kq1
      have kq2 := t6 _ _ kq2
      generalize upd G5 q3 (.lst ([ve] ++ v :: us)) = G6 at s6 kq1 kq2 kq3 ⊢
      refine ⟨_, rfl, l, _, _, _, rfl, rfl, SqL.of (s6 _ _ hL), atI_nat (j := 0) rfl, le_ble rfl, fun q4 hq4 => ?_⟩
      have t7 := Same.new (o := HO.lst [v, .str (Str.ofString "x")]) hq4
      have s7 := s6.trans t7
      have kq4 := upd_same (H := G6) (a := q4) (o := HO.lst [v, .str (Str.ofString "x")])
      have kq1 := t7 _ _ kq1
      have kq2 := t7 _ _ kq2
      have kq3 := t7 _ _ kq3
      generalize upd G6 q4 (.lst [v, .str (Str.ofString "x")]) = G7 at s7 kq1 kq2 kq3 kq4 ⊢
      refine ⟨le_ble rfl, fun p5 hp5 => ?_⟩
      have t8 := Same.new (o := HO.lst [.ref q1, .ref q2, .ref q3, .ref q4]) hp5
      have s8 := s7.trans t8
      walk_at "rd"
      obtain ⟨y, hy, hm⟩ := atI_in (xs := [V.ref q1, .ref q2, .ref q3, .ref q4]) (i := z / 2 % 4) (by omega) (by show _ < (4 : Int); omega)
      refine ⟨p5, _, _, y, rfl, rfl, SqL.of upd_same, hy, k _ _ s8 ?_⟩
      have hv8 := (ItAt.ent hv (K := K)).same s8
      have hus8 := (hus.its (K := K)).same s8
      have he8 := (ItAt.ent he9 (K := K)).same s8
      have hits8 := hits.same s8
      refine .inl ?_
      simp only [List.mem_cons, List.not_mem_nil, or_false] at hm
      rcases hm with rfl | rfl | rfl | rfl
      · exact ⟨q1, _, (e :: es').map some ++ [some e], rfl, t8 _ _ kq1, hits8.app (ItsAt.cons hv8 .nil), by show (us ++ [v]).length + 1 ≤ 1000; rw [List.length_append]; show us.length + 1 + 1 ≤ 1000; omega, book_twice e _ (by simp)⟩
      · exact ⟨q2, _, (e :: es').map some ++ [none], rfl, t8 _ _ kq2, hits8.app (ItsAt.cons (non _) .nil), by show (us ++ [V.non]).length + 1 ≤ 1000; rw [List.length_append]; show us.length + 1 + 1 ≤ 1000; omega, book_none _ _ _ (by simp)⟩
      · exact ⟨q3, _, some e9 :: (e :: es').map some, rfl, t8 _ _ kq3, ItsAt.cons he8 hits8, by show us.length + 1 + 1 ≤ 1000; omega, book_twice e9 _ (List.mem_map.mpr ⟨e9, hm9, rfl⟩)⟩
      · exact ⟨q4, _, [some e, none], rfl, t8 _ _ kq4, ItsAt.cons hv8 (ItsAt.cons (txt _ _) .nil), le_ble rfl, book_none _ _ _ (by simp)⟩
    rintro σ G ⟨rfl, rfl⟩
    refine ⟨_, rfl, l, _, rfl, .inl ⟨SqL.of hL, fun q1 hq1 => ?_⟩⟩
    have s1 := Same.new (o := HO.tup ws) hq1
    have kq1 := upd_same (H := G) (a := q1) (o := HO.tup ws)
    generalize upd G q1 (.tup ws) = G1 at s1 kq1 ⊢
    refine ⟨le_ble rfl, fun q2 hq2 => ?_⟩
    have t2 := Same.new (o := HO.lst [V.int 5]) hq2
    have s2 := s1.trans t2
    have kq2 := upd_same (H := G1) (a := q2) (o := HO.lst [V.int 5])
    have kq1 := t2 _ _ kq1
    generalize upd G1 q2 (.lst [V.int 5]) = G2 at s2 kq1 kq2 ⊢
    refine ⟨le_ble rfl, fun p5 hp5 => ?_⟩
    have t8 := Same.new (o := HO.lst [.non, .ref q1, .int 5, .ref q2]) hp5
    have s8 := s2.trans t8
    walk_at "rd"
    obtain ⟨y, hy, hm⟩ := atI_in (xs := [V.non, .ref q1, .int 5, .ref q2]) (i := z / 2 % 4) (by omega) (by show _ < (4 : Int); omega)
    refine ⟨p5, _, _, y, rfl, rfl, SqL.of upd_same, hy, k _ _ s8 ?_⟩
    simp only [List.mem_cons, List.not_mem_nil, or_false] at hm
    rcases hm with rfl | rfl | rfl | rfl
    · exact .inr ⟨_, .non, rfl⟩
    · exact .inr ⟨_, .tup (t8 _ _ kq1), rfl⟩
    · exact .inr ⟨_, .int 5, rfl⟩
    · exact .inl ⟨q2, _, [none], rfl, t8 _ _ kq2, ItsAt.cons (num _ _) .nil, le_ble rfl, rfl⟩

set_option maxHeartbeats 4000000 in
theorem ok_Lrefused (T : Txt w K mg c) : FnOk P w K mg base CX0 4 c.a_Lrefused c.d_Lrefused ["_law_thing"] (spRefusedB K c.c_Entry) := by
  refine T.Lrefused.fn.ok sc_Lrefused (fun vs H Q E h => ?_) (fun cdv A outer s H vs Q E hr h => ?_)
  · obtain ⟨x, rfl, _⟩ := h
    rfl
  · obtain ⟨x, rfl, bad, k⟩ := h
    refine ⟨_, (pss_cons (ps_set (i := 1) sc_Lrefused.nd rfl (Or.inl rfl) pe_non)
      (pss_cut (ps_try rfl rfl rfl sc_Lrefused.nd (i := 2) rfl rfl rfl T.mg_RightError (fun Ez pins W hp =>
        (pss_one (ps_expr (pe_callS (ok_written T) (hr.mono (by decide)) rfl T.written.mgf T.written.kp T.written.bi .nil hp (pa_cons (pv 0) pa_nil)))))
        (fun e => (pss_one (ps_set (i := 1) sc_Lrefused.nd rfl (Or.inl rfl) (pv 2)))))
      (pss_cons (ps_if (PW.pt (pw_or (pt_not (pt_val (pe_callB call_isiA rfl T.no_isinstance bt_isinstance (pa_cons (pv 1) (pa_cons (pe_glob (v := .ref c.c_NoBook) rfl T.mg_NoBook rfl) pa_nil))))) (pw_or1 (pt_not (pt_val (pe_callB call_isiA rfl T.no_isinstance bt_isinstance (pa_cons (pv 1) (pa_cons (pe_bltn (v := .ty "ValueError") rfl T.no_ValueError bt_ValueError rfl) pa_nil))))))))
        (pss_one (ps_ret pe_bl))
        pss_nil)
      (pss_one (ps_ret (pe_and (pe_not (pe_callB call_isiA rfl T.no_isinstance bt_isinstance (pa_cons (pv 1) (pa_cons (pe_glob (v := .ref c.c_NoEntry) rfl T.mg_NoEntry rfl) pa_nil)))) (pe_and (pe_not (pe_callB call_isiA rfl T.no_isinstance bt_isinstance (pa_cons (pv 1) (pa_cons (pe_glob (v := .ref c.c_NoNumber) rfl T.mg_NoNumber rfl) pa_nil)))) (pe_one (pe_not (pe_callB call_isiA rfl T.no_isinstance bt_isinstance (pa_cons (pv 1) (pa_cons (pe_glob (v := .ref c.c_NoText) rfl T.mg_NoText rfl) pa_nil)))))))))))), ?_⟩
    refine ⟨fun σ G => ∃ e, σ = [some x, some (.ref e), none] ∧ Same H G ∧ G e = some (exO (.ref c.c_NoBook) none e), ?_, ?_⟩
    · refine ⟨fun σ1 C dd H1 => σ1 = [some x, some .non, none] ∧ C = .ref c.c_NoBook ∧ dd = none ∧ Same H H1, fun pins W => ?_, ?_⟩
      · exact ⟨_, rfl, x, rfl, .inr ⟨bad, fun G sG => ⟨rfl, rfl, rfl, sG⟩⟩⟩
      · rintro σ1 C dd H1 ⟨rfl, rfl, rfl, sH⟩
        exact ⟨T.e_NoBook_RightError, fun e he => ⟨_, rfl, e, rfl, sH.trans (Same.new he), upd_same⟩⟩
    rintro σ G ⟨e, rfl, sG, he⟩
    refine ⟨_, rfl, rIsiA.exc he T.q_NoBook T.i_NoBook_NoBook ⟨_, rfl, iteF ?_⟩⟩
    refine ⟨_, rfl, rIsiA.excT he T.q_NoBook T.i_NoBook_ValueError ⟨_, rfl, iteF ?_⟩⟩
    refine ⟨_, rfl, rIsiA.exc he T.q_NoBook T.i_NoBook_NoEntry ⟨_, rfl, _, rfl, iteT ?_⟩⟩
    refine ⟨_, rfl, rIsiA.exc he T.q_NoBook T.i_NoBook_NoNumber ⟨_, rfl, _, rfl, iteT ?_⟩⟩
    exact ⟨_, rfl, rIsiA.exc he T.q_NoBook T.i_NoBook_NoText ⟨_, rfl, k G sG⟩⟩

set_option maxHeartbeats 4000000 in
theorem ok_law (T : Txt w K mg c) : FnOk P w K mg base CX0 7 c.a_law c.d_law ["_law_script"] (spLaw K) := by
  refine T.law.fn.ok sc_law (fun vs H Q E h => ?_) (fun cdv A outer s H vs Q E hr h => ?_)
  · obtain ⟨a, ns, rfl, _⟩ := h
    rfl
  · obtain ⟨a, ns, rfl, hS, hn, k⟩ := h
    refine ⟨_, (pss_cons (ps_set (i := 1) sc_law.nd rfl (Or.inl rfl) (pe_lst pa_nil))
      (pss_cut (ps_for PassesOwn.never rfl (pi_enum rfl T.no_enumerate (pa_cons (pe_slice sl_list (pv 0) po_none (po_some pe_int)) pa_nil)) (pg_tup rfl (pgs_cons (pg_name (i := 2) sc_law.nd rfl (Or.inl rfl)) (pgs_cons (pg_name (i := 3) sc_law.nd rfl (Or.inl rfl)) pgs_nil)))
        (pss_one (ps_expr (pe_bm PySem.F.plainAttrs_list PySem.F.slot_list_append PySem.F.type_list_append (MtM.r mt_append) (pv 1) (pa_cons (pe_call (ok_Lfields T) (hr.mono (by decide)) rfl T.Lfields.mgf T.Lfields.kp T.Lfields.bi .nil pass0 (pa_cons (pv 1) (pa_cons (pe_call (ok_Lmixed T) (hr.mono (by decide)) rfl T.Lmixed.mgf T.Lmixed.kp T.Lmixed.bi .nil pass0 (pa_cons (pv 3) (pa_cons (pv 2) pa_nil))) (pa_cons (pv 2) pa_nil)))) pa_nil)))))
      (pss_cut (ps_setComp (i := 4) sc_law.nd rfl rfl (N' := ["_law_row"]) (js := [none]) rfl rfl (by decide +kernel) (by decide +kernel) (free_nil (by decide +kernel)) (cap_nil rfl rfl) (pi_list (pv 1)) (fun B => ⟨(pg_name (i := 0) (show List.Nodup (["_law_row"] : List Str) by decide +kernel) rfl (Or.inl rfl)), pifs_nil, (pe_call (ok_Ltext_of T) (hr.mono (by decide)) rfl T.Ltext_of.mgf T.Ltext_of.kp T.Ltext_of.bi .nil pass0 (pa_cons (pv 0) pa_nil))⟩))
      (pss_cut (ps_setComp (i := 5) sc_law.nd rfl rfl (N' := ["_law_row"]) (js := [none]) rfl rfl (by decide +kernel) (by decide +kernel) (free_nil (by decide +kernel)) (cap_nil rfl rfl) (pi_list (pv 1)) (fun B => ⟨(pg_name (i := 0) (show List.Nodup (["_law_row"] : List Str) by decide +kernel) rfl (Or.inl rfl)), pifs_nil, (pe_call (ok_Lentry T) (hr.mono (by decide)) rfl T.Lentry.mgf T.Lentry.kp T.Lentry.bi .nil pass0 (pa_cons (pv 0) pa_nil))⟩))
      (pss_cons (ps_set (i := 6) sc_law.nd rfl (Or.inl rfl) (pe_callS (ok_written T) (hr.mono (by decide)) rfl T.written.mgf T.written.kp T.written.bi .nil passE0 (pa_cons (pv 5) pa_nil)))
      (pss_cut (ps_if (PW.pt (pw_or (pt_not (pt_val (pe_callB call_isiA rfl T.no_isinstance bt_isinstance (pa_cons (pv 6) (pa_cons (pe_bltn (v := .ty "str") rfl T.no_str bt_str rfl) pa_nil))))) (pw_or (pt_cmpR op_ne (pv 6) (pe_bm PySem.F.plainAttrs_str PySem.F.slot_str_join PySem.F.type_str_join mt_join pe_str (pa_cons (pv 4) pa_nil)) (nomark _)) (pw_or1 (pt_cmpR op_ne (pe_callB call_len_seq rfl T.no_len bt_len (pa_cons (pv 5) pa_nil)) (pe_callB call_len_seq rfl T.no_len bt_len (pa_cons (pv 1) pa_nil)) (nomark _))))))
        (pss_one (ps_ret pe_bl))
        pss_nil)
      (pss_cut (ps_for PassesOwn.never rfl (pi_zip rfl T.no_zip (pa_cons (pv 5) (pa_cons (pv 4) pa_nil))) (pg_tup rfl (pgs_cons (pg_name (i := 7) sc_law.nd rfl (Or.inl rfl)) (pgs_cons (pg_name (i := 8) sc_law.nd rfl (Or.inl rfl)) pgs_nil)))
        (pss_cons (ps_set (i := 9) sc_law.nd rfl (Or.inl rfl) (pe_call (ok_entry_row T) (hr.mono (by decide)) rfl T.entry_row.mgf T.entry_row.kp T.entry_row.bi .nil pass0 (pa_cons (pv 7) pa_nil)))
      (pss_one (ps_if (PW.pt (pw_or (pt_not (pt_val (pe_callB call_isiA rfl T.no_isinstance bt_isinstance (pa_cons (pv 9) (pa_cons (pe_bltn (v := .ty "str") rfl T.no_str bt_str rfl) pa_nil))))) (pw_or1 (pt_cmpR op_ne (pv 9) (pv 8) (nomark _)))))
        (pss_one (ps_ret pe_bl))
        pss_nil))))
      (pss_cut (ps_if (pt_not (pt_val (pe_call (ok_Lrefused T) (hr.mono (by decide)) rfl T.Lrefused.mgf T.Lrefused.kp T.Lrefused.bi .nil pass0 (pa_cons (pe_call (ok_Lno_book T) (hr.mono (by decide)) rfl T.Lno_book.mgf T.Lno_book.kp T.Lno_book.bi .nil pass0 (pa_cons (pv 5) (pa_cons (pe_call (ok_Lcell_at T) (hr.mono (by decide)) rfl T.Lcell_at.mgf T.Lcell_at.kp T.Lcell_at.bi .nil pass0 (pa_cons (pv 0) (pa_cons pe_int pa_nil))) pa_nil))) pa_nil))))
        (pss_one (ps_ret pe_bl))
        pss_nil)
      (pss_cons (ps_if (pt_cmpR (op_eqD (hu62 hr)) (pv 1) (pe_lst pa_nil) (nomark _))
        (pss_one (ps_ret (pe_cmpR op_eq (pv 6) pe_str (nomark _))))
        pss_nil)
      (pss_cut (ps_if (pt_cmpR op_ne (pe_callS (ok_written T) (hr.mono (by decide)) rfl T.written.mgf T.written.kp T.written.bi .nil passE0 (pa_cons (pe_slice sl_list (pv 5) (po_some pe_int) po_none) pa_nil)) (pe_bm PySem.F.plainAttrs_str PySem.F.slot_str_join PySem.F.type_str_join mt_join pe_str (pa_cons (pe_slice sl_list (pv 4) (po_some pe_int) po_none) pa_nil)) (nomark _))
        (pss_one (ps_ret pe_bl))
        pss_nil)
      (pss_cons (ps_expr (pe_bm0 PySem.F.plainAttrs_list PySem.F.slot_list_pop PySem.F.type_list_pop (MtM.r mt_pop) (pv 5)))
      (pss_one (ps_ret (pe_and (pe_cmpR op_eq (pe_callS (ok_written T) (hr.mono (by decide)) rfl T.written.mgf T.written.kp T.written.bi .nil passE0 (pa_cons (pv 5) pa_nil)) (pe_bm PySem.F.plainAttrs_str PySem.F.slot_str_join PySem.F.type_str_join mt_join pe_str (pa_cons (pe_slice sl_list (pv 4) po_none (po_some (pe_un un_neg pe_int))) pa_nil)) (nomark _)) (pe_one (pe_cmpR op_eq (pe_callS (ok_written T) (hr.mono (by decide)) rfl T.written.mgf T.written.kp T.written.bi .nil passE0 (pa_cons (pe_comp (N' := ["_law_row"]) (js := [none]) rfl rfl (by decide +kernel) (by decide +kernel) (free_nil (by decide +kernel)) (cap_nil rfl rfl) (pi_list (pv 1)) (fun B => ⟨(pg_name (i := 0) (show List.Nodup (["_law_row"] : List Str) by decide +kernel) rfl (Or.inl rfl)), pifs_nil, (pe_call (ok_Lentry T) (hr.mono (by decide)) rfl T.Lentry.mgf T.Lentry.kp T.Lentry.bi .nil pass0 (pa_cons (pv 0) pa_nil))⟩)) pa_nil)) (pv 6) (nomark _))))))))))))))))), ?_⟩
    have sz : 2000 < sizeLine := le_ble rfl
    refine ⟨le_ble rfl, fun l hl => ?_⟩
    have s0 := Same.new (o := HO.lst []) hl
    have k0 := upd_same (H := H) (a := l) (o := HO.lst [])
    generalize upd H l (.lst []) = G0 at s0 k0 ⊢
    refine ⟨fun σ G => Same H G ∧ ∃ z2 z3 ws es, σ = [some (.ref a), some (.ref l), z2, z3, none, none, none, none, none, none] ∧ G l = some (.lst ws) ∧ RowsE G ws es ∧ ws.length ≤ 63 ∧ (∀ e ∈ es, Fit e ∧ okE e) ∧ bookOk [] none (es.map some) = true, ?_, ?_⟩
    · refine ⟨_, rfl, _, rfl, a, _, rfl, s0.seq hS, fun p hp => ?_⟩
      have cl := cutV_length (ns.map V.int) none (some 63)
      rw [List.length_map] at cl
      have cm : ∀ x ∈ cutV (ns.map V.int) none (some 63), ∃ n, x = .int n := fun x hx => by
        obtain ⟨n, _, e⟩ := List.mem_map.mp (List.mem_of_mem_drop (List.mem_of_mem_take hx))
        exact ⟨n, e.symm⟩
      generalize cutV (ns.map V.int) none (some 63) = xs at cl cm ⊢
      have t1 := Same.new (o := HO.lst xs) hp
      have s1 := s0.trans t1
      have kp := upd_same (H := G0) (a := p) (o := HO.lst xs)
      have k1 := t1 _ _ k0
      have npl : p ≠ l := (ne_of_none k0 hp).symm
      generalize upd G0 p (.lst xs) = G1 at s1 kp k1 ⊢
      refine ⟨p, rfl, ⟨_, SqL.of kp⟩, ?_⟩
      refine for_enum (xs := xs) (fun i σ G => Same H G ∧ G p = some (.lst xs) ∧ ∃ z2 z3 ws es, σ = [some (.ref a), some (.ref l), z2, z3, none, none, none, none, none, none] ∧ G l = some (.lst ws) ∧ RowsE G ws es ∧ ws.length = i ∧ InvE es i ∧ bookOk [] none (es.map some) = true) ?_ ?_ ?_ ?_
      · exact ⟨s1, kp, _, _, [], [], rfl, k1, ⟨rfl, fun j v e h => nomatch h⟩, rfl, ⟨fun e h => (nomatch h), fun e h => (nomatch h)⟩, rfl⟩
      · rintro i σ G _ ⟨_, h, _⟩
        exact SqL.of h
      · rintro i x σ G T' hx ⟨sG, hp', z2, z3, ws, es, rfl, hl', hR, hw, inv, hb⟩ hT
        obtain ⟨n, rfl⟩ := cm x (List.mem_of_getElem? hx)
        have hi : i < xs.length := (List.getElem?_eq_some_iff.mp hx).1
        have st := Same.new (o := HO.tup [V.int i, .int n]) hT
        refine ⟨T', _, rfl, SqT.of upd_same, rfl, _, _, rfl, _, _, rfl, rfl, ?_⟩
        have sG' := sG.trans st
        have hp2 := st _ _ hp'
        have hl2 := st _ _ hl'
        have hR2 := hR.same st
        generalize upd G T' (.tup [V.int i, .int n]) = G2 at sG' hp2 hl2 hR2 ⊢
        refine ⟨_, rfl, .inl ⟨rfl, _, SqL.of hl2⟩, _, rfl, _, rfl, _, rfl, n, i, rfl, by omega, by omega, fun m m0 => ?_⟩
        refine ⟨_, rfl, l, ws, es, m, i, rfl, hl2, hR2, by omega, m0, by omega, by omega, inv, fun v e G3 s3 hv ne => ?_⟩
        refine ⟨l, ws, v, rfl, rfl, s3 _ _ hl2, by omega, fun b u hb => ?_, ?_, _, _, ws ++ [v], es ++ [e], rfl, upd_same, RowsE.push (s3 _ _ hl2) (hR2.same s3) hv, by rw [List.length_append, hw]; rfl, ?_, book_next inv hb ne⟩
        · rw [upd_ne (ne_of_none hb hl)]
          exact s3 _ _ (sG' _ _ hb)
        · rw [upd_ne npl]
          exact s3 _ _ hp2
        · have := inv.push ne
          exact_mod_cast this
      · rintro σ G ⟨sG, _, z2, z3, ws, es, rfl, hl', hR, hw, inv, hb⟩
        exact ⟨sG, z2, z3, ws, es, rfl, hl', hR, by omega, fun e he => ⟨(inv.all e he).1, (inv.all e he).2.1⟩, hb⟩
    rintro σ G1 ⟨s1, z2, z3, ws, es, rfl, hl1, hR, hw, hf, hb⟩
    clear k0 s0
    have le : es.length ≤ 63 := by rw [← hR.1]; exact hw
    refine ⟨fun σ G => Same G1 G ∧ ∃ m, σ = [some (.ref a), some (.ref l), z2, z3, some (.ref m), none, none, none, none, none] ∧ G m = some (.lst ((es.map rowText).map V.str)), ?_, ?_⟩
    · refine ⟨_, rfl, l, rfl, ⟨_, SqL.of hl1⟩, fun m B hm => ?_⟩
      refine loop_lst (xs := ws) (fun i σ acc G' => (∃ o, σ = [o]) ∧ Same G1 G' ∧ G' m = some (.lst acc) ∧ acc = ((es.take i).map rowText).map V.str) (by omega) ?_ ?_ ?_ ?_
      · exact ⟨⟨_, rfl⟩, Same.new hm, upd_same, rfl⟩
      · rintro i σ acc G' hi ⟨_, s', h1, h2⟩
        refine ⟨h1, SqL.of (s' _ _ hl1), ?_⟩
        rw [h2, List.length_map, List.length_map, List.length_take]
        omega
      · rintro i x σ acc G' hx ⟨⟨o, rfl⟩, s', h1, h2⟩
        have hi : i < ws.length := (List.getElem?_eq_some_iff.mp hx).1
        have hie : i < es.length := by rw [← hR.1]; exact hi
        have ee : es[i]? = some es[i] := List.getElem?_eq_getElem hie
        refine ⟨_, rfl, x, es[i], rfl, (hR.2 i x _ hx ee).same s', (hf _ (List.getElem_mem hie)).1, fun G2 s2 => ?_⟩
        refine ⟨s2 _ _ h1, Nx.mk hi ⟨⟨_, rfl⟩, fun b u hb => ?_, upd_same, ?_⟩⟩
        · rw [upd_ne (ne_of_none hb hm)]
          exact s2 _ _ (s' _ _ hb)
        · rw [h2, take_one ee, List.map_append, List.map_append]
          rfl
      · rintro σ acc G' ⟨_, s', h1, h2⟩
        rw [hR.1, List.take_of_length_le (Nat.le_refl _)] at h2
        subst h2
        exact ⟨s', m, rfl, h1⟩
    rintro σ G2 ⟨s2, m, rfl, hm⟩
    have hl2 := s2 _ _ hl1
    have hR2 := hR.same s2
    refine ⟨fun σ G => Same G2 G ∧ ∃ h vs, σ = [some (.ref a), some (.ref l), z2, z3, some (.ref m), some (.ref h), none, none, none, none] ∧ G h = some (.lst vs) ∧ EntsAt G c.c_Entry vs es ∧ h ≠ m ∧ h ≠ l ∧ G2 h = none, ?_, ?_⟩
    · refine ⟨_, rfl, l, rfl, ⟨_, SqL.of hl2⟩, fun h B hh => ?_⟩
      refine loop_lst (xs := ws) (fun i σ acc G' => (∃ o, σ = [o]) ∧ Same G2 G' ∧ G' h = some (.lst acc) ∧ acc.length = i ∧ EntsAt G' c.c_Entry acc (es.take i)) (by omega) ?_ ?_ ?_ ?_
      · exact ⟨⟨_, rfl⟩, Same.new hh, upd_same, rfl, rfl, fun j v e q => nomatch q⟩
      · rintro i σ acc G' hi ⟨_, s', h1, h2, h3⟩
        exact ⟨h1, SqL.of (s' _ _ hl2), by omega⟩
      · rintro i x σ acc G' hx ⟨⟨o, rfl⟩, s', h1, h2, h3⟩
        have hi : i < ws.length := (List.getElem?_eq_some_iff.mp hx).1
        have hie : i < es.length := by rw [← hR.1]; exact hi
        have ee : es[i]? = some es[i] := List.getElem?_eq_getElem hie
        have fe := hf _ (List.getElem_mem hie)
        refine ⟨_, rfl, x, es[i], rfl, (hR2.2 i x _ hx ee).same s', fe.1, fe.2, fun y G3 s3 hy => ?_⟩
        refine ⟨s3 _ _ h1, Nx.mk hi ⟨⟨_, rfl⟩, fun b u hb => ?_, upd_same, by rw [List.length_append, h2]; rfl, ?_⟩⟩
        · rw [upd_ne (ne_of_none hb hh)]
          exact s3 _ _ (s' _ _ hb)
        · rw [take_one ee]
          exact EntsAt.push (s3 _ _ h1) (h3.same s3) hy _
      · rintro σ acc G' ⟨_, s', h1, h2, h3⟩
        rw [hR.1, List.take_of_length_le (Nat.le_refl _)] at h3
        exact ⟨s', h, acc, rfl, h1, h3, (ne_of_none hm hh).symm, (ne_of_none hl2 hh).symm, hh⟩
    rintro σ G3 ⟨s3, h, vs, rfl, hh, hE, nhm, nhl, nHh⟩
    have hm3 := s3 _ _ hm
    have hl3 := s3 _ _ hl2
    have hR3 := hR2.same s3
    have s13 := s1.trans (s2.trans s3)
    have ff : ∀ e ∈ es, Fit e := fun e he => (hf e he).1
    have tok := texts_ok ff le
    have l1 : (Str.ofString "\n").length ≤ 16 := le_ble (by decide +kernel)
    refine ⟨_, rfl, _, rfl, .inl ⟨h, vs, es, rfl, hh, hE, ff, le, hb, fun G4 s4 => ?_⟩⟩
    refine ⟨fun σ G => σ = [some (.ref a), some (.ref l), z2, z3, some (.ref m), some (.ref h), some (.str (texts es)), none, none, none] ∧ G = G4, ?_, ?_⟩
    · refine ⟨_, rfl, rIsiA.ty (.str _) rfl ⟨_, rfl, iteF ?_⟩⟩
      refine ⟨_, rfl, rfl, _, rfl, _, m, es.map rowText, rfl, rfl, SqL.of (s4 _ _ hm3), l1, tok, rfl, _, rfl, ?_⟩
      refine ite2 (fun z => ?_) (fun _ => ?_)
      · have q : (decide (V.str (texts es) = V.str (Txt.join (Str.ofString "\n") (es.map rowText)))) = true := decide_eq_true rfl
        rw [q] at z
        exact absurd z (by decide)
      refine ⟨_, rfl, h, _, rfl, .inl (SqL.of (s4 _ _ hh)), _, rfl, l, _, rfl, .inl (SqL.of (s4 _ _ hl3)), rfl, _, rfl, ?_⟩
      refine ite2 (fun z => ?_) (fun _ => ⟨rfl, rfl⟩)
      rw [hE.1, hR.1, decide_eq_true rfl] at z
      exact absurd z (by decide)
    rintro σ G ⟨rfl, rfl⟩
    have hh4 := s4 _ _ hh
    have hm4 := s4 _ _ hm3
    have hl4 := s4 _ _ hl3
    have hR4 := hR3.same s4
    have hE4 := hE.same s4
    have s14 := s13.trans s4
    clear s13 hm3 hl3 hR3
    refine ⟨fun σ G' => Same G G' ∧ ∃ z7 z8 z9, σ = [some (.ref a), some (.ref l), z2, z3, some (.ref m), some (.ref h), some (.str (texts es)), z7, z8, z9], ?_, ?_⟩
    · refine ⟨_, rfl, _, rfl, h, m, rfl, ⟨_, SqL.of hh4⟩, ⟨_, SqL.of hm4⟩, ?_⟩
      refine for_zip (xs := vs) (ys := (es.map rowText).map V.str) (fun i σ G' => Same G G' ∧ ∃ z7 z8 z9, σ = [some (.ref a), some (.ref l), z2, z3, some (.ref m), some (.ref h), some (.str (texts es)), z7, z8, z9]) ⟨Same.refl G, _, _, _, rfl⟩ ?_ ?_ ?_
      · rintro i σ G' _ ⟨sG, _⟩
        exact ⟨SqL.of (sG _ _ hh4), SqL.of (sG _ _ hm4)⟩
      · rintro i x y T' σ G' hx hy ⟨sG, z7, z8, z9, rfl⟩ hT
        have hi : i < vs.length := (List.getElem?_eq_some_iff.mp hx).1
        have hie : i < es.length := by rw [← hE.1]; exact hi
        have ee : es[i]? = some es[i] := List.getElem?_eq_getElem hie
        have ey : y = .str (rowText es[i]) := by
          rw [List.getElem?_map, List.getElem?_map, ee] at hy
          exact (Option.some.inj hy).symm
        subst ey
        have s5 := sG.trans (Same.new (o := HO.tup [x, .str (rowText es[i])]) hT)
        refine ⟨T', _, rfl, SqT.of upd_same, rfl, _, _, rfl, _, _, rfl, rfl, ?_⟩
        refine ⟨_, rfl, x, es[i], rfl, (hE4.2 i x _ hx ee).same s5, ff _ (List.getElem_mem hie), fun G5 s6 => ?_⟩
        refine ⟨_, rfl, rIsiA.ty (.str _) rfl ⟨_, rfl, iteF ?_⟩⟩
        refine ⟨_, rfl, _, rfl, rfl, _, rfl, ?_⟩
        refine ite2 (fun z => ?_) (fun _ => ⟨s5.trans s6, _, _, _, rfl⟩)
        rw [decide_eq_true rfl] at z
        exact absurd z (by decide)
      · rintro σ G' ⟨sG, z7, z8, z9, rfl⟩
        exact ⟨sG, _, _, _, rfl⟩
    rintro σ G5 ⟨s5, z7, z8, z9, rfl⟩
    refine ⟨fun σ G' => Same G5 G' ∧ σ = [some (.ref a), some (.ref l), z2, z3, some (.ref m), some (.ref h), some (.str (texts es)), z7, z8, z9], ?_, ?_⟩
    · refine ⟨_, rfl, _, rfl, a, 0, ns, rfl, by decide, (s14.trans s5).seq hS, fun z => ?_⟩
      refine ⟨h, vs, es, z, rfl, s5 _ _ hh4, hE4.same s5, by rw [hE.1]; exact le, fun x G6 s6 bad => ?_⟩
      refine ⟨x, rfl, bad, fun G7 s7 => ⟨_, rfl, iteF ⟨s6.trans s7, rfl⟩⟩⟩
    rintro σ G6 ⟨s6, rfl⟩
    have s46 := s5.trans s6
    refine ⟨_, rfl, le_ble rfl, fun e1 he1 => ?_⟩
    have t7 := Same.new (o := HO.lst []) he1
    have s47 := s46.trans t7
    refine ⟨0, _, by decide, seqNil (SqL.of (s47 _ _ hl4)) (SqL.of upd_same), _, rfl, ?_⟩
    generalize upd G6 e1 (.lst []) = G7 at s47 ⊢
    clear t7 s46 s6 s5
    cases es with
    | nil =>
      have e : ws = [] := List.length_eq_zero_iff.mp hR.1
      subst e
      refine iteT ⟨_, rfl, rfl, ?_⟩
      have q : texts [] = Str.ofString "" := by decide +kernel
      rw [q, decide_eq_true rfl]
      exact k _
    | cons e es' =>
    obtain ⟨w0, ws', rfl⟩ : ∃ w0 ws', ws = w0 :: ws' := by
      cases ws with
      | nil => cases hR.1
      | cons w0 ws' => exact ⟨w0, ws', rfl⟩
    refine iteF ?_
    obtain ⟨v0, us, rfl, hv0, hus⟩ := hE4.uncons
    have le' : es'.length ≤ 63 := Nat.le_of_succ_le le
    have ff' : ∀ x ∈ es', Fit x := fun x hx => ff x (List.mem_cons_of_mem _ hx)
    refine ⟨fun σ G' => Same G7 G' ∧ σ = [some (.ref a), some (.ref l), z2, z3, some (.ref m), some (.ref h), some (.str (texts (e :: es'))), z7, z8, z9], ?_, ?_⟩
    · refine ⟨_, rfl, _, rfl, h, _, rfl, SqL.of (s47 _ _ hh4), fun p hp => ?_⟩
      rw [cut_tail]
      have t8 := Same.new (o := HO.lst us) hp
      have s48 := s47.trans t8
      have kp := upd_same (H := G7) (a := p) (o := HO.lst us)
      generalize upd G7 p (.lst us) = G8 at t8 s48 kp ⊢
      refine ⟨_, rfl, .inl ⟨p, us, es', rfl, kp, hus.same s48, ff', le', book_tail hb, fun G9 s9 => ?_⟩⟩
      refine ⟨rfl, _, rfl, _, rfl, m, _, rfl, SqL.of ((s48.trans s9) _ _ hm4), fun p2 hp2 => ?_⟩
      rw [show cutV (((e :: es').map rowText).map V.str) (some 1) none = (es'.map rowText).map V.str from cut_tail _ _]
      refine ⟨_, p2, es'.map rowText, rfl, rfl, SqL.of upd_same, l1, texts_ok ff' le', rfl, _, rfl, ?_⟩
      refine ite2 (fun z => ?_) (fun _ => ⟨t8.trans (s9.trans (Same.new hp2)), rfl⟩)
      have q : (decide (V.str (texts es') = V.str (Txt.join (Str.ofString "\n") (es'.map rowText)))) = true := decide_eq_true rfl
      rw [q] at z
      exact absurd z (by decide)
    rintro σ G8 ⟨s8, rfl⟩
    have s48 := s47.trans s8
    have hh8 := s48 _ _ hh4
    have hm8 := s48 _ _ hm4
    have hl8 := s48 _ _ hl4
    have hE8 := hE4.same s48
    have ss : Same G2 G8 := s3.trans (s4.trans s48)
    rcases hE8.last with ⟨q, _⟩ | ⟨ys, e9, us9, v9, q1, q2, q3⟩
    · cases q
    have hE9 : EntsAt G8 c.c_Entry us9 ys := EntsAt.init (q1 ▸ q2 ▸ hE8)
    generalize hes : e :: es' = es at *
    generalize hvs : v0 :: us = vs at *
    subst q1
    subst q2
    refine ⟨_, rfl, .inl ⟨rfl, _, SqL.of hh8⟩, h, _, v9, rfl, rfl, hh8, by simp, ?_⟩
    rw [List.dropLast_concat]
    have hR9 : RowsE (upd G8 h (.lst us9)) (w0 :: ws') (ys ++ [e9]) := ⟨hR.1, fun j v x hv hx => by
      obtain ⟨ra, e1, h1⟩ := hR2.2 j v x hv hx
      exact ⟨ra, e1, by rw [upd_ne (ne_of_none h1 nHh)]; exact ss _ _ h1⟩⟩
    have hE9 := EntsAt.upd hh8 hE9 us9
    have hh9 := upd_same (H := G8) (a := h) (o := HO.lst us9)
    have hm9 : upd G8 h (.lst us9) m = some (.lst (((ys ++ [e9]).map rowText).map V.str)) := by rw [upd_ne (Ne.symm nhm)]; exact hm8
    have hl9 : upd G8 h (.lst us9) l = some (.lst (w0 :: ws')) := by rw [upd_ne (Ne.symm nhl)]; exact hl8
    generalize upd G8 h (.lst us9) = G9 at hR9 hE9 hh9 hm9 hl9 ⊢
    have ffy : ∀ x ∈ ys, Fit x := fun x hx => ff x (List.mem_append_left _ hx)
    have ley : ys.length ≤ 63 := by rw [List.length_append] at le; omega
    have hby : bookOk [] none (ys.map some) = true := by rw [List.map_append] at hb; exact book_init _ _ _ _ hb
    refine ⟨_, rfl, _, rfl, .inl ⟨h, us9, ys, rfl, hh9, hE9, ffy, ley, hby, fun G10 s10 => ?_⟩⟩
    refine ⟨rfl, _, rfl, _, rfl, _, rfl, m, _, rfl, SqL.of (s10 _ _ hm9), fun p2 hp2 => ?_⟩
    rw [show cutV (((ys ++ [e9]).map rowText).map V.str) none (some (-1)) = (ys.map rowText).map V.str by rw [List.map_append, List.map_append]; exact cut_init _ _]
    have s11 := s10.trans (Same.new (o := HO.lst ((ys.map rowText).map V.str)) hp2)
    refine ⟨_, p2, ys.map rowText, rfl, rfl, SqL.of upd_same, l1, texts_ok ffy ley, rfl, ?_⟩
    generalize upd G10 p2 (.lst ((ys.map rowText).map V.str)) = G11 at s11 ⊢
    refine ⟨true, congrArg V.bl (decide_eq_true rfl), iteT ?_⟩
    have hl11 := s11 _ _ hl9
    have hR11 := hR9.same s11
    have h63 : (w0 :: ws').length ≤ 63 := hw
    generalize w0 :: ws' = wz at hl11 hR11 h63
    generalize hez : ys ++ [e9] = ez at hR11 hb ff hf le ⊢
    refine ⟨_, rfl, l, rfl, ⟨_, SqL.of hl11⟩, fun h2 B hh2 => ?_⟩
    refine loop_lst (xs := wz) (fun i σ acc G' => (∃ o, σ = [o]) ∧ Same G11 G' ∧ G' h2 = some (.lst acc) ∧ acc.length = i ∧ EntsAt G' c.c_Entry acc (ez.take i)) (by omega) ?_ ?_ ?_ ?_
    · exact ⟨⟨_, rfl⟩, Same.new hh2, upd_same, rfl, rfl, fun j v e q => nomatch q⟩
    · rintro i σ acc G' hi ⟨_, s', h1, h2', h3⟩
      exact ⟨h1, SqL.of (s' _ _ hl11), by omega⟩
    · rintro i x σ acc G' hx ⟨⟨o, rfl⟩, s', h1, h2', h3⟩
      have hi : i < wz.length := (List.getElem?_eq_some_iff.mp hx).1
      have hie : i < ez.length := by rw [← hR11.1]; exact hi
      have ee : ez[i]? = some ez[i] := List.getElem?_eq_getElem hie
      have fe := hf _ (List.getElem_mem hie)
      refine ⟨_, rfl, x, ez[i], rfl, (hR11.2 i x _ hx ee).same s', fe.1, fe.2, fun y G3 s3 hy => ?_⟩
      refine ⟨s3 _ _ h1, Nx.mk hi ⟨⟨_, rfl⟩, fun b u hb => ?_, upd_same, by rw [List.length_append, h2']; rfl, ?_⟩⟩
      · rw [upd_ne (ne_of_none hb hh2)]
        exact s3 _ _ (s' _ _ hb)
      · rw [take_one ee]
        exact EntsAt.push (s3 _ _ h1) (h3.same s3) hy _
    · rintro σ acc G' ⟨_, s', h1, h2', h3⟩
      rw [hR11.1, List.take_of_length_le (Nat.le_refl _)] at h3
      refine ⟨_, rfl, .inl ⟨h2, acc, ez, rfl, h1, h3, ff, le, hb, fun G12 s12 => ?_⟩⟩
      refine ⟨_, rfl, rfl, ?_⟩
      rw [decide_eq_true rfl]
      exact k _

end
theorem all_mk {l : PySem.W.OpenLaw} {w : World} {K : PySem.W.Frag} {h : Heap} {mg : Str → Option Value} {fa : Addr} (X : K.In h) (G : h.Ns mainGlobals mg) (hfa : mg "law" = some (.ref fa))
    {f0 : Addr} {od0 an0 : Option Addr} {sl0 : Array (Option Value)} {oc0 kV0 dc0 pm0 cd0 ct0 : Value}
    {f1 : Addr} {od1 an1 : Option Addr} {sl1 : Array (Option Value)} {oc1 kV1 dc1 pm1 cd1 ct1 : Value}
    {f2 : Addr} {od2 an2 : Option Addr} {sl2 : Array (Option Value)} {oc2 kV2 dc2 pm2 cd2 ct2 : Value}
    {f3 : Addr} {od3 an3 : Option Addr} {sl3 : Array (Option Value)} {oc3 kV3 dc3 pm3 cd3 ct3 : Value}
    {f4 : Addr} {od4 an4 : Option Addr} {sl4 : Array (Option Value)} {oc4 kV4 dc4 pm4 cd4 ct4 : Value}
    {f5 : Addr} {od5 an5 : Option Addr} {sl5 : Array (Option Value)} {oc5 kV5 dc5 pm5 cd5 ct5 : Value}
    {f6 : Addr} {od6 an6 : Option Addr} {sl6 : Array (Option Value)} {oc6 kV6 dc6 pm6 cd6 ct6 : Value}
    {f7 : Addr} {od7 an7 : Option Addr} {sl7 : Array (Option Value)} {oc7 kV7 dc7 pm7 cd7 ct7 : Value}
    {f8 : Addr} {od8 an8 : Option Addr} {sl8 : Array (Option Value)} {oc8 kV8 dc8 pm8 cd8 ct8 : Value}
    {f9 : Addr} {od9 an9 : Option Addr} {sl9 : Array (Option Value)} {oc9 kV9 dc9 pm9 cd9 ct9 : Value}
    {f10 : Addr} {od10 an10 : Option Addr} {sl10 : Array (Option Value)} {oc10 kV10 dc10 pm10 cd10 ct10 : Value}
    {f11 : Addr} {od11 an11 : Option Addr} {sl11 : Array (Option Value)} {oc11 kV11 dc11 pm11 cd11 ct11 : Value}
    {f12 : Addr} {od12 an12 : Option Addr} {sl12 : Array (Option Value)} {oc12 kV12 dc12 pm12 cd12 ct12 : Value}
    {f13 : Addr} {od13 an13 : Option Addr} {sl13 : Array (Option Value)} {oc13 kV13 dc13 pm13 cd13 ct13 : Value}
    {f14 : Addr} {od14 an14 : Option Addr} {sl14 : Array (Option Value)} {oc14 kV14 dc14 pm14 cd14 ct14 : Value}
    {f15 : Addr} {od15 an15 : Option Addr} {sl15 : Array (Option Value)} {oc15 kV15 dc15 pm15 cd15 ct15 : Value}
    {f16 : Addr} {od16 an16 : Option Addr} {sl16 : Array (Option Value)} {oc16 kV16 dc16 pm16 cd16 ct16 : Value}
    {f17 : Addr} {od17 an17 : Option Addr} {sl17 : Array (Option Value)} {oc17 kV17 dc17 pm17 cd17 ct17 : Value}
    {f18 : Addr} {od18 an18 : Option Addr} {sl18 : Array (Option Value)} {oc18 kV18 dc18 pm18 cd18 ct18 : Value}
    {f19 : Addr} {od19 an19 : Option Addr} {sl19 : Array (Option Value)} {oc19 kV19 dc19 pm19 cd19 ct19 : Value}
    {f20 : Addr} {od20 an20 : Option Addr} {sl20 : Array (Option Value)} {oc20 kV20 dc20 pm20 cd20 ct20 : Value}
    {f21 : Addr} {od21 an21 : Option Addr} {sl21 : Array (Option Value)} {oc21 kV21 dc21 pm21 cd21 ct21 : Value}
    {c_Entry f_Entry t_Entry : Addr} {od_Entry an_Entry : Option Addr} {sl_Entry : Array (Option Value)} {oc_Entry kV_Entry dc_Entry pm_Entry cd_Entry ct_Entry : Value} {o_Entry : Obj} {n_Entry : Nat}
    {u_MOST_LETTERS : Value}
    {u_LAST_DAY : Value}
    {u_LAST_NUMBER : Value}
    {u_RANKS : Addr} {o_RANKS : Obj} {i_RANKS : List Value} {n_RANKS : Nat}
    {c_NoNumber : Addr}
    {c_NoDay : Addr}
    {c_NoRank : Addr}
    {c_NoWord : Addr}
    {c_NoBook : Addr}
    {c_NoEntry : Addr}
    {c_RightError : Addr}
    {c_NoText : Addr}
    {N_NoNumber A_NoNumber : Addr} {nm_NoNumber q_NoNumber : Str} {bs_NoNumber : List Value} {hd_NoNumber : Bool} {sn_NoNumber : List Str} {sub_NoNumber : List Value} {ab_NoNumber : Bool} {col_NoNumber : Option Bool} {dd_NoNumber : Option Addr} {k0_NoNumber k1_NoNumber k2_NoNumber k3_NoNumber k5_NoNumber : Option Value}
    {es_NoNumber : Array DictEntry} {x1_NoNumber : Value} {x2_NoNumber : Option Addr} {x3_NoNumber : Nat} {x4_NoNumber : Array (Option Value)} {y0_NoNumber : Value} {y1_NoNumber : Option Addr} {y2_NoNumber : ClassData} {y3_NoNumber : Array (Option Value)} {et_NoNumber : Array DictEntry} {z1_NoNumber : Value} {z2_NoNumber : Option Addr} {z3_NoNumber : Nat} {z4_NoNumber : Array (Option Value)}
    {N_NoDay A_NoDay : Addr} {nm_NoDay q_NoDay : Str} {bs_NoDay : List Value} {hd_NoDay : Bool} {sn_NoDay : List Str} {sub_NoDay : List Value} {ab_NoDay : Bool} {col_NoDay : Option Bool} {dd_NoDay : Option Addr} {k0_NoDay k1_NoDay k2_NoDay k3_NoDay k5_NoDay : Option Value}
    {es_NoDay : Array DictEntry} {x1_NoDay : Value} {x2_NoDay : Option Addr} {x3_NoDay : Nat} {x4_NoDay : Array (Option Value)} {y0_NoDay : Value} {y1_NoDay : Option Addr} {y2_NoDay : ClassData} {y3_NoDay : Array (Option Value)} {et_NoDay : Array DictEntry} {z1_NoDay : Value} {z2_NoDay : Option Addr} {z3_NoDay : Nat} {z4_NoDay : Array (Option Value)}
    {N_NoRank A_NoRank : Addr} {nm_NoRank q_NoRank : Str} {bs_NoRank : List Value} {hd_NoRank : Bool} {sn_NoRank : List Str} {sub_NoRank : List Value} {ab_NoRank : Bool} {col_NoRank : Option Bool} {dd_NoRank : Option Addr} {k0_NoRank k1_NoRank k2_NoRank k3_NoRank k5_NoRank : Option Value}
    {es_NoRank : Array DictEntry} {x1_NoRank : Value} {x2_NoRank : Option Addr} {x3_NoRank : Nat} {x4_NoRank : Array (Option Value)} {y0_NoRank : Value} {y1_NoRank : Option Addr} {y2_NoRank : ClassData} {y3_NoRank : Array (Option Value)} {et_NoRank : Array DictEntry} {z1_NoRank : Value} {z2_NoRank : Option Addr} {z3_NoRank : Nat} {z4_NoRank : Array (Option Value)}
    {N_NoWord A_NoWord : Addr} {nm_NoWord q_NoWord : Str} {bs_NoWord : List Value} {hd_NoWord : Bool} {sn_NoWord : List Str} {sub_NoWord : List Value} {ab_NoWord : Bool} {col_NoWord : Option Bool} {dd_NoWord : Option Addr} {k0_NoWord k1_NoWord k2_NoWord k3_NoWord k5_NoWord : Option Value}
    {es_NoWord : Array DictEntry} {x1_NoWord : Value} {x2_NoWord : Option Addr} {x3_NoWord : Nat} {x4_NoWord : Array (Option Value)} {y0_NoWord : Value} {y1_NoWord : Option Addr} {y2_NoWord : ClassData} {y3_NoWord : Array (Option Value)} {et_NoWord : Array DictEntry} {z1_NoWord : Value} {z2_NoWord : Option Addr} {z3_NoWord : Nat} {z4_NoWord : Array (Option Value)}
    {N_NoBook A_NoBook : Addr} {nm_NoBook q_NoBook : Str} {bs_NoBook : List Value} {hd_NoBook : Bool} {sn_NoBook : List Str} {sub_NoBook : List Value} {ab_NoBook : Bool} {col_NoBook : Option Bool} {dd_NoBook : Option Addr} {k0_NoBook k1_NoBook k2_NoBook k3_NoBook k5_NoBook : Option Value}
    {es_NoBook : Array DictEntry} {x1_NoBook : Value} {x2_NoBook : Option Addr} {x3_NoBook : Nat} {x4_NoBook : Array (Option Value)} {y0_NoBook : Value} {y1_NoBook : Option Addr} {y2_NoBook : ClassData} {y3_NoBook : Array (Option Value)} {et_NoBook : Array DictEntry} {z1_NoBook : Value} {z2_NoBook : Option Addr} {z3_NoBook : Nat} {z4_NoBook : Array (Option Value)}
    {N_NoEntry A_NoEntry : Addr} {nm_NoEntry q_NoEntry : Str} {bs_NoEntry : List Value} {hd_NoEntry : Bool} {sn_NoEntry : List Str} {sub_NoEntry : List Value} {ab_NoEntry : Bool} {col_NoEntry : Option Bool} {dd_NoEntry : Option Addr} {k0_NoEntry k1_NoEntry k2_NoEntry k3_NoEntry k5_NoEntry : Option Value}
    {es_NoEntry : Array DictEntry} {x1_NoEntry : Value} {x2_NoEntry : Option Addr} {x3_NoEntry : Nat} {x4_NoEntry : Array (Option Value)} {y0_NoEntry : Value} {y1_NoEntry : Option Addr} {y2_NoEntry : ClassData} {y3_NoEntry : Array (Option Value)} {et_NoEntry : Array DictEntry} {z1_NoEntry : Value} {z2_NoEntry : Option Addr} {z3_NoEntry : Nat} {z4_NoEntry : Array (Option Value)}
    (a0 : PySem.W.nsIn K mainGlobals "is_whole" = some (some (.ref f0)))
    (l0 : K.lookup f0 = some ⟨oc0, od0, .func (PySem.W.fnOf "is_whole" "is_whole" (defArgs s_is_whole) (defBody s_is_whole) (defScope s_is_whole) .none kV0 dc0 pm0 an0 cd0 ct0), sl0⟩)
    (c0 : PySem.W.codeIn K cd0 "is_whole" = true)
    (k0 : PySem.W.keepIn K (.ref f0) = true)
    (a1 : PySem.W.nsIn K mainGlobals "is_day" = some (some (.ref f1)))
    (l1 : K.lookup f1 = some ⟨oc1, od1, .func (PySem.W.fnOf "is_day" "is_day" (defArgs s_is_day) (defBody s_is_day) (defScope s_is_day) .none kV1 dc1 pm1 an1 cd1 ct1), sl1⟩)
    (c1 : PySem.W.codeIn K cd1 "is_day" = true)
    (k1 : PySem.W.keepIn K (.ref f1) = true)
    (a2 : PySem.W.nsIn K mainGlobals "is_number" = some (some (.ref f2)))
    (l2 : K.lookup f2 = some ⟨oc2, od2, .func (PySem.W.fnOf "is_number" "is_number" (defArgs s_is_number) (defBody s_is_number) (defScope s_is_number) .none kV2 dc2 pm2 an2 cd2 ct2), sl2⟩)
    (c2 : PySem.W.codeIn K cd2 "is_number" = true)
    (k2 : PySem.W.keepIn K (.ref f2) = true)
    (a3 : PySem.W.nsIn K mainGlobals "is_word" = some (some (.ref f3)))
    (l3 : K.lookup f3 = some ⟨oc3, od3, .func (PySem.W.fnOf "is_word" "is_word" (defArgs s_is_word) (defBody s_is_word) (defScope s_is_word) .none kV3 dc3 pm3 an3 cd3 ct3), sl3⟩)
    (c3 : PySem.W.codeIn K cd3 "is_word" = true)
    (k3 : PySem.W.keepIn K (.ref f3) = true)
    (a4 : PySem.W.nsIn K mainGlobals "is_rank" = some (some (.ref f4)))
    (l4 : K.lookup f4 = some ⟨oc4, od4, .func (PySem.W.fnOf "is_rank" "is_rank" (defArgs s_is_rank) (defBody s_is_rank) (defScope s_is_rank) .none kV4 dc4 pm4 an4 cd4 ct4), sl4⟩)
    (c4 : PySem.W.codeIn K cd4 "is_rank" = true)
    (k4 : PySem.W.keepIn K (.ref f4) = true)
    (a5 : PySem.W.nsIn K mainGlobals "refuse_head" = some (some (.ref f5)))
    (l5 : K.lookup f5 = some ⟨oc5, od5, .func (PySem.W.fnOf "refuse_head" "refuse_head" (defArgs s_refuse_head) (defBody s_refuse_head) (defScope s_refuse_head) .none kV5 dc5 pm5 an5 cd5 ct5), sl5⟩)
    (c5 : PySem.W.codeIn K cd5 "refuse_head" = true)
    (k5 : PySem.W.keepIn K (.ref f5) = true)
    (a6 : PySem.W.nsIn K mainGlobals "under_fits" = some (some (.ref f6)))
    (l6 : K.lookup f6 = some ⟨oc6, od6, .func (PySem.W.fnOf "under_fits" "under_fits" (defArgs s_under_fits) (defBody s_under_fits) (defScope s_under_fits) .none kV6 dc6 pm6 an6 cd6 ct6), sl6⟩)
    (c6 : PySem.W.codeIn K cd6 "under_fits" = true)
    (k6 : PySem.W.keepIn K (.ref f6) = true)
    (a7 : PySem.W.nsIn K mainGlobals "tie_fits" = some (some (.ref f7)))
    (l7 : K.lookup f7 = some ⟨oc7, od7, .func (PySem.W.fnOf "tie_fits" "tie_fits" (defArgs s_tie_fits) (defBody s_tie_fits) (defScope s_tie_fits) .none kV7 dc7 pm7 an7 cd7 ct7), sl7⟩)
    (c7 : PySem.W.codeIn K cd7 "tie_fits" = true)
    (k7 : PySem.W.keepIn K (.ref f7) = true)
    (a8 : PySem.W.nsIn K mainGlobals "ahead" = some (some (.ref f8)))
    (l8 : K.lookup f8 = some ⟨oc8, od8, .func (PySem.W.fnOf "ahead" "ahead" (defArgs s_ahead) (defBody s_ahead) (defScope s_ahead) .none kV8 dc8 pm8 an8 cd8 ct8), sl8⟩)
    (c8 : PySem.W.codeIn K cd8 "ahead" = true)
    (k8 : PySem.W.keepIn K (.ref f8) = true)
    (a9 : PySem.W.nsIn K mainGlobals "book_list" = some (some (.ref f9)))
    (l9 : K.lookup f9 = some ⟨oc9, od9, .func (PySem.W.fnOf "book_list" "book_list" (defArgs s_book_list) (defBody s_book_list) (defScope s_book_list) .none kV9 dc9 pm9 an9 cd9 ct9), sl9⟩)
    (c9 : PySem.W.codeIn K cd9 "book_list" = true)
    (k9 : PySem.W.keepIn K (.ref f9) = true)
    (a10 : PySem.W.nsIn K mainGlobals "entry_row" = some (some (.ref f10)))
    (l10 : K.lookup f10 = some ⟨oc10, od10, .func (PySem.W.fnOf "entry_row" "entry_row" (defArgs s_entry_row) (defBody s_entry_row) (defScope s_entry_row) .none kV10 dc10 pm10 an10 cd10 ct10), sl10⟩)
    (c10 : PySem.W.codeIn K cd10 "entry_row" = true)
    (k10 : PySem.W.keepIn K (.ref f10) = true)
    (a11 : PySem.W.nsIn K mainGlobals "written" = some (some (.ref f11)))
    (l11 : K.lookup f11 = some ⟨oc11, od11, .func (PySem.W.fnOf "written" "written" (defArgs s_written) (defBody s_written) (defScope s_written) .none kV11 dc11 pm11 an11 cd11 ct11), sl11⟩)
    (c11 : PySem.W.codeIn K cd11 "written" = true)
    (k11 : PySem.W.keepIn K (.ref f11) = true)
    (a12 : PySem.W.nsIn K mainGlobals "_law_cell_at" = some (some (.ref f12)))
    (l12 : K.lookup f12 = some ⟨oc12, od12, .func (PySem.W.fnOf "_law_cell_at" "_law_cell_at" (defArgs s_Lcell_at) (defBody s_Lcell_at) (defScope s_Lcell_at) .none kV12 dc12 pm12 an12 cd12 ct12), sl12⟩)
    (c12 : PySem.W.codeIn K cd12 "_law_cell_at" = true)
    (k12 : PySem.W.keepIn K (.ref f12) = true)
    (a13 : PySem.W.nsIn K mainGlobals "_law_mixed" = some (some (.ref f13)))
    (l13 : K.lookup f13 = some ⟨oc13, od13, .func (PySem.W.fnOf "_law_mixed" "_law_mixed" (defArgs s_Lmixed) (defBody s_Lmixed) (defScope s_Lmixed) .none kV13 dc13 pm13 an13 cd13 ct13), sl13⟩)
    (c13 : PySem.W.codeIn K cd13 "_law_mixed" = true)
    (k13 : PySem.W.keepIn K (.ref f13) = true)
    (a14 : PySem.W.nsIn K mainGlobals "_law_word" = some (some (.ref f14)))
    (l14 : K.lookup f14 = some ⟨oc14, od14, .func (PySem.W.fnOf "_law_word" "_law_word" (defArgs s_Lword) (defBody s_Lword) (defScope s_Lword) .none kV14 dc14 pm14 an14 cd14 ct14), sl14⟩)
    (c14 : PySem.W.codeIn K cd14 "_law_word" = true)
    (k14 : PySem.W.keepIn K (.ref f14) = true)
    (a15 : PySem.W.nsIn K mainGlobals "_law_day" = some (some (.ref f15)))
    (l15 : K.lookup f15 = some ⟨oc15, od15, .func (PySem.W.fnOf "_law_day" "_law_day" (defArgs s_Lday) (defBody s_Lday) (defScope s_Lday) .none kV15 dc15 pm15 an15 cd15 ct15), sl15⟩)
    (c15 : PySem.W.codeIn K cd15 "_law_day" = true)
    (k15 : PySem.W.keepIn K (.ref f15) = true)
    (a16 : PySem.W.nsIn K mainGlobals "_law_fields" = some (some (.ref f16)))
    (l16 : K.lookup f16 = some ⟨oc16, od16, .func (PySem.W.fnOf "_law_fields" "_law_fields" (defArgs s_Lfields) (defBody s_Lfields) (defScope s_Lfields) .none kV16 dc16 pm16 an16 cd16 ct16), sl16⟩)
    (c16 : PySem.W.codeIn K cd16 "_law_fields" = true)
    (k16 : PySem.W.keepIn K (.ref f16) = true)
    (a17 : PySem.W.nsIn K mainGlobals "_law_text_of" = some (some (.ref f17)))
    (l17 : K.lookup f17 = some ⟨oc17, od17, .func (PySem.W.fnOf "_law_text_of" "_law_text_of" (defArgs s_Ltext_of) (defBody s_Ltext_of) (defScope s_Ltext_of) .none kV17 dc17 pm17 an17 cd17 ct17), sl17⟩)
    (c17 : PySem.W.codeIn K cd17 "_law_text_of" = true)
    (k17 : PySem.W.keepIn K (.ref f17) = true)
    (a18 : PySem.W.nsIn K mainGlobals "_law_entry" = some (some (.ref f18)))
    (l18 : K.lookup f18 = some ⟨oc18, od18, .func (PySem.W.fnOf "_law_entry" "_law_entry" (defArgs s_Lentry) (defBody s_Lentry) (defScope s_Lentry) .none kV18 dc18 pm18 an18 cd18 ct18), sl18⟩)
    (c18 : PySem.W.codeIn K cd18 "_law_entry" = true)
    (k18 : PySem.W.keepIn K (.ref f18) = true)
    (a19 : PySem.W.nsIn K mainGlobals "_law_no_book" = some (some (.ref f19)))
    (l19 : K.lookup f19 = some ⟨oc19, od19, .func (PySem.W.fnOf "_law_no_book" "_law_no_book" (defArgs s_Lno_book) (defBody s_Lno_book) (defScope s_Lno_book) .none kV19 dc19 pm19 an19 cd19 ct19), sl19⟩)
    (c19 : PySem.W.codeIn K cd19 "_law_no_book" = true)
    (k19 : PySem.W.keepIn K (.ref f19) = true)
    (a20 : PySem.W.nsIn K mainGlobals "_law_refused" = some (some (.ref f20)))
    (l20 : K.lookup f20 = some ⟨oc20, od20, .func (PySem.W.fnOf "_law_refused" "_law_refused" (defArgs s_Lrefused) (defBody s_Lrefused) (defScope s_Lrefused) .none kV20 dc20 pm20 an20 cd20 ct20), sl20⟩)
    (c20 : PySem.W.codeIn K cd20 "_law_refused" = true)
    (k20 : PySem.W.keepIn K (.ref f20) = true)
    (a21 : PySem.W.nsIn K mainGlobals "law" = some (some (.ref f21)))
    (l21 : K.lookup f21 = some ⟨oc21, od21, .func (PySem.W.fnOf "law" "law" (defArgs s_law) (defBody s_law) (defScope s_law) .none kV21 dc21 pm21 an21 cd21 ct21), sl21⟩)
    (c21 : PySem.W.codeIn K cd21 "law" = true)
    (k21 : PySem.W.keepIn K (.ref f21) = true)
    (cg_Entry : PySem.W.nsIn K mainGlobals "Entry" = some (some (.ref c_Entry)))
    (pg_Entry : PySem.W.plainGet K c_Entry Str.empty = true)
    (hd_Entry : PySem.W.hasDictIn K c_Entry = true)
    (po_Entry : PySem.W.plainOver K c_Entry = true)
    (sa_Entry : PySem.W.findIn K (.ref c_Entry) "__setattr__" = some (some (.builtin "object.__setattr__")))
    (mk_Entry : PySem.W.makesIn K c_Entry = true)
    (in_Entry : PySem.W.findIn K (.ref c_Entry) "__init__" = some (some (.ref f_Entry)))
    (fn_Entry : PySem.W.isFn K (.ref f_Entry) = true)
    (kc_Entry : PySem.W.keepIn K (.ref c_Entry) = true)
    (kf_Entry : PySem.W.keepIn K (.ref f_Entry) = true)
    (lf_Entry : K.lookup f_Entry = some ⟨oc_Entry, od_Entry, .func (PySem.W.fnOf "__init__" "Entry.__init__" (defArgs s_Entry_init) (defBody s_Entry_init) (defScope s_Entry_init) (.ref t_Entry) kV_Entry dc_Entry pm_Entry an_Entry cd_Entry ct_Entry), sl_Entry⟩)
    (cf_Entry : PySem.W.codeIn K cd_Entry "Entry.__init__" = true)
    (lt_Entry : K.lookup t_Entry = some o_Entry)
    (dt_Entry : o_Entry.data = .seq #[.none, .none, .none, .bool true] n_Entry)
    (na_Entry_number : PySem.W.findIn K (.ref c_Entry) "number" = some none)
    (na_Entry_day : PySem.W.findIn K (.ref c_Entry) "day" = some none)
    (na_Entry_rank : PySem.W.findIn K (.ref c_Entry) "rank" = some none)
    (na_Entry_word : PySem.W.findIn K (.ref c_Entry) "word" = some none)
    (na_Entry_under : PySem.W.findIn K (.ref c_Entry) "under" = some none)
    (na_Entry_sheet : PySem.W.findIn K (.ref c_Entry) "sheet" = some none)
    (na_Entry_base : PySem.W.findIn K (.ref c_Entry) "base" = some none)
    (na_Entry_described : PySem.W.findIn K (.ref c_Entry) "described" = some none)
    (cg_MOST_LETTERS : PySem.W.nsIn K mainGlobals "MOST_LETTERS" = some (some u_MOST_LETTERS))
    (cr_MOST_LETTERS : RelV (.int 12) u_MOST_LETTERS)
    (cg_LAST_DAY : PySem.W.nsIn K mainGlobals "LAST_DAY" = some (some u_LAST_DAY))
    (cr_LAST_DAY : RelV (.int 1000000) u_LAST_DAY)
    (cg_LAST_NUMBER : PySem.W.nsIn K mainGlobals "LAST_NUMBER" = some (some u_LAST_NUMBER))
    (cr_LAST_NUMBER : RelV (.int 1000000000) u_LAST_NUMBER)
    (cg_RANKS : PySem.W.nsIn K mainGlobals "RANKS" = some (some (.ref u_RANKS)))
    (cl_RANKS : K.lookup u_RANKS = some o_RANKS)
    (cc_RANKS : o_RANKS.cls = .type "tuple")
    (cd_RANKS : o_RANKS.data = .seq i_RANKS.toArray n_RANKS)
    (cv_RANKS : Vals [.str "genus", .str "species", .str "form"] i_RANKS)
    (cg_NoNumber : PySem.W.nsIn K mainGlobals "NoNumber" = some (some (.ref c_NoNumber)))
    (cg_NoDay : PySem.W.nsIn K mainGlobals "NoDay" = some (some (.ref c_NoDay)))
    (cg_NoRank : PySem.W.nsIn K mainGlobals "NoRank" = some (some (.ref c_NoRank)))
    (cg_NoWord : PySem.W.nsIn K mainGlobals "NoWord" = some (some (.ref c_NoWord)))
    (cg_NoBook : PySem.W.nsIn K mainGlobals "NoBook" = some (some (.ref c_NoBook)))
    (cg_NoEntry : PySem.W.nsIn K mainGlobals "NoEntry" = some (some (.ref c_NoEntry)))
    (cg_RightError : PySem.W.nsIn K mainGlobals "RightError" = some (some (.ref c_RightError)))
    (cg_NoText : PySem.W.nsIn K mainGlobals "NoText" = some (some (.ref c_NoText)))
    (xl_NoNumber : K.lookup c_NoNumber = some (excClassObj nm_NoNumber q_NoNumber c_NoNumber N_NoNumber bs_NoNumber (.ref A_NoNumber :: vmro) hd_NoNumber sn_NoNumber sub_NoNumber ab_NoNumber col_NoNumber dd_NoNumber k0_NoNumber k1_NoNumber k2_NoNumber k3_NoNumber k5_NoNumber "ValueError.__new__"))
    (xn_NoNumber : K.lookup N_NoNumber = some ⟨x1_NoNumber, x2_NoNumber, .dict es_NoNumber x3_NoNumber, x4_NoNumber⟩)
    (xs_NoNumber : strKeysB es_NoNumber = true)
    (xi_NoNumber : nsFind es_NoNumber "__init__" = none)
    (xa_NoNumber : K.lookup A_NoNumber = some { cls := y0_NoNumber, dict := y1_NoNumber, data := .cls y2_NoNumber, slots := y3_NoNumber })
    (xb_NoNumber : K.lookup y2_NoNumber.ns = some ⟨z1_NoNumber, z2_NoNumber, .dict et_NoNumber z3_NoNumber, z4_NoNumber⟩)
    (xt_NoNumber : strKeysB et_NoNumber = true)
    (xj_NoNumber : nsFind et_NoNumber "__init__" = none)
    (qcs_NoNumber : (PySem.W.clsIn K c_NoNumber).isSome = true)
    (qga_NoNumber : PySem.W.findIn K (.ref c_NoNumber) "__getattribute__" = some (some (.builtin "BaseException.__getattribute__")))
    (qgt_NoNumber : PySem.W.findIn K (.ref c_NoNumber) "__getattr__" = some none)
    (qca_NoNumber : PySem.W.findIn K (.ref c_NoNumber) "__class__" = some (some (.builtin "object.__class__")))
    (qgg_NoNumber : PySem.W.specialIn K (.builtin "object.__class__") "__get__" = some (some (.builtin "getset_descriptor.__get__")))
    (qtk_NoNumber : PySem.W.takesIn K (.builtin "object.__class__") = some true)
    (qmo_NoNumber : PySem.W.mroIn K c_NoNumber (.type "object") = some true)
    (qsb_NoNumber : PySem.W.subIn K (.ref c_NoNumber) (.type "BaseException") = some true)
    (i_NoNumber_NoBook : PySem.W.kitOne K (.ref c_NoNumber) (.ref c_NoBook) = some false)
    (i_NoNumber_ValueError : PySem.W.kitOne K (.ref c_NoNumber) (.type "ValueError") = some true)
    (i_NoNumber_NoEntry : PySem.W.kitOne K (.ref c_NoNumber) (.ref c_NoEntry) = some false)
    (i_NoNumber_NoNumber : PySem.W.kitOne K (.ref c_NoNumber) (.ref c_NoNumber) = some true)
    (i_NoNumber_NoText : PySem.W.kitOne K (.ref c_NoNumber) (.ref c_NoText) = some false)
    (e_NoNumber_RightError : PySem.W.exmOne K (.ref c_NoNumber) (.ref c_RightError) = some true)
    (xl_NoDay : K.lookup c_NoDay = some (excClassObj nm_NoDay q_NoDay c_NoDay N_NoDay bs_NoDay (.ref A_NoDay :: vmro) hd_NoDay sn_NoDay sub_NoDay ab_NoDay col_NoDay dd_NoDay k0_NoDay k1_NoDay k2_NoDay k3_NoDay k5_NoDay "ValueError.__new__"))
    (xn_NoDay : K.lookup N_NoDay = some ⟨x1_NoDay, x2_NoDay, .dict es_NoDay x3_NoDay, x4_NoDay⟩)
    (xs_NoDay : strKeysB es_NoDay = true)
    (xi_NoDay : nsFind es_NoDay "__init__" = none)
    (xa_NoDay : K.lookup A_NoDay = some { cls := y0_NoDay, dict := y1_NoDay, data := .cls y2_NoDay, slots := y3_NoDay })
    (xb_NoDay : K.lookup y2_NoDay.ns = some ⟨z1_NoDay, z2_NoDay, .dict et_NoDay z3_NoDay, z4_NoDay⟩)
    (xt_NoDay : strKeysB et_NoDay = true)
    (xj_NoDay : nsFind et_NoDay "__init__" = none)
    (qcs_NoDay : (PySem.W.clsIn K c_NoDay).isSome = true)
    (qga_NoDay : PySem.W.findIn K (.ref c_NoDay) "__getattribute__" = some (some (.builtin "BaseException.__getattribute__")))
    (qgt_NoDay : PySem.W.findIn K (.ref c_NoDay) "__getattr__" = some none)
    (qca_NoDay : PySem.W.findIn K (.ref c_NoDay) "__class__" = some (some (.builtin "object.__class__")))
    (qgg_NoDay : PySem.W.specialIn K (.builtin "object.__class__") "__get__" = some (some (.builtin "getset_descriptor.__get__")))
    (qtk_NoDay : PySem.W.takesIn K (.builtin "object.__class__") = some true)
    (qmo_NoDay : PySem.W.mroIn K c_NoDay (.type "object") = some true)
    (qsb_NoDay : PySem.W.subIn K (.ref c_NoDay) (.type "BaseException") = some true)
    (i_NoDay_NoBook : PySem.W.kitOne K (.ref c_NoDay) (.ref c_NoBook) = some false)
    (i_NoDay_ValueError : PySem.W.kitOne K (.ref c_NoDay) (.type "ValueError") = some true)
    (i_NoDay_NoEntry : PySem.W.kitOne K (.ref c_NoDay) (.ref c_NoEntry) = some false)
    (i_NoDay_NoNumber : PySem.W.kitOne K (.ref c_NoDay) (.ref c_NoNumber) = some false)
    (i_NoDay_NoText : PySem.W.kitOne K (.ref c_NoDay) (.ref c_NoText) = some false)
    (e_NoDay_RightError : PySem.W.exmOne K (.ref c_NoDay) (.ref c_RightError) = some true)
    (xl_NoRank : K.lookup c_NoRank = some (excClassObj nm_NoRank q_NoRank c_NoRank N_NoRank bs_NoRank (.ref A_NoRank :: vmro) hd_NoRank sn_NoRank sub_NoRank ab_NoRank col_NoRank dd_NoRank k0_NoRank k1_NoRank k2_NoRank k3_NoRank k5_NoRank "ValueError.__new__"))
    (xn_NoRank : K.lookup N_NoRank = some ⟨x1_NoRank, x2_NoRank, .dict es_NoRank x3_NoRank, x4_NoRank⟩)
    (xs_NoRank : strKeysB es_NoRank = true)
    (xi_NoRank : nsFind es_NoRank "__init__" = none)
    (xa_NoRank : K.lookup A_NoRank = some { cls := y0_NoRank, dict := y1_NoRank, data := .cls y2_NoRank, slots := y3_NoRank })
    (xb_NoRank : K.lookup y2_NoRank.ns = some ⟨z1_NoRank, z2_NoRank, .dict et_NoRank z3_NoRank, z4_NoRank⟩)
    (xt_NoRank : strKeysB et_NoRank = true)
    (xj_NoRank : nsFind et_NoRank "__init__" = none)
    (qcs_NoRank : (PySem.W.clsIn K c_NoRank).isSome = true)
    (qga_NoRank : PySem.W.findIn K (.ref c_NoRank) "__getattribute__" = some (some (.builtin "BaseException.__getattribute__")))
    (qgt_NoRank : PySem.W.findIn K (.ref c_NoRank) "__getattr__" = some none)
    (qca_NoRank : PySem.W.findIn K (.ref c_NoRank) "__class__" = some (some (.builtin "object.__class__")))
    (qgg_NoRank : PySem.W.specialIn K (.builtin "object.__class__") "__get__" = some (some (.builtin "getset_descriptor.__get__")))
    (qtk_NoRank : PySem.W.takesIn K (.builtin "object.__class__") = some true)
    (qmo_NoRank : PySem.W.mroIn K c_NoRank (.type "object") = some true)
    (qsb_NoRank : PySem.W.subIn K (.ref c_NoRank) (.type "BaseException") = some true)
    (i_NoRank_NoBook : PySem.W.kitOne K (.ref c_NoRank) (.ref c_NoBook) = some false)
    (i_NoRank_ValueError : PySem.W.kitOne K (.ref c_NoRank) (.type "ValueError") = some true)
    (i_NoRank_NoEntry : PySem.W.kitOne K (.ref c_NoRank) (.ref c_NoEntry) = some false)
    (i_NoRank_NoNumber : PySem.W.kitOne K (.ref c_NoRank) (.ref c_NoNumber) = some false)
    (i_NoRank_NoText : PySem.W.kitOne K (.ref c_NoRank) (.ref c_NoText) = some false)
    (e_NoRank_RightError : PySem.W.exmOne K (.ref c_NoRank) (.ref c_RightError) = some true)
    (xl_NoWord : K.lookup c_NoWord = some (excClassObj nm_NoWord q_NoWord c_NoWord N_NoWord bs_NoWord (.ref A_NoWord :: vmro) hd_NoWord sn_NoWord sub_NoWord ab_NoWord col_NoWord dd_NoWord k0_NoWord k1_NoWord k2_NoWord k3_NoWord k5_NoWord "ValueError.__new__"))
    (xn_NoWord : K.lookup N_NoWord = some ⟨x1_NoWord, x2_NoWord, .dict es_NoWord x3_NoWord, x4_NoWord⟩)
    (xs_NoWord : strKeysB es_NoWord = true)
    (xi_NoWord : nsFind es_NoWord "__init__" = none)
    (xa_NoWord : K.lookup A_NoWord = some { cls := y0_NoWord, dict := y1_NoWord, data := .cls y2_NoWord, slots := y3_NoWord })
    (xb_NoWord : K.lookup y2_NoWord.ns = some ⟨z1_NoWord, z2_NoWord, .dict et_NoWord z3_NoWord, z4_NoWord⟩)
    (xt_NoWord : strKeysB et_NoWord = true)
    (xj_NoWord : nsFind et_NoWord "__init__" = none)
    (qcs_NoWord : (PySem.W.clsIn K c_NoWord).isSome = true)
    (qga_NoWord : PySem.W.findIn K (.ref c_NoWord) "__getattribute__" = some (some (.builtin "BaseException.__getattribute__")))
    (qgt_NoWord : PySem.W.findIn K (.ref c_NoWord) "__getattr__" = some none)
    (qca_NoWord : PySem.W.findIn K (.ref c_NoWord) "__class__" = some (some (.builtin "object.__class__")))
    (qgg_NoWord : PySem.W.specialIn K (.builtin "object.__class__") "__get__" = some (some (.builtin "getset_descriptor.__get__")))
    (qtk_NoWord : PySem.W.takesIn K (.builtin "object.__class__") = some true)
    (qmo_NoWord : PySem.W.mroIn K c_NoWord (.type "object") = some true)
    (qsb_NoWord : PySem.W.subIn K (.ref c_NoWord) (.type "BaseException") = some true)
    (i_NoWord_NoBook : PySem.W.kitOne K (.ref c_NoWord) (.ref c_NoBook) = some false)
    (i_NoWord_ValueError : PySem.W.kitOne K (.ref c_NoWord) (.type "ValueError") = some true)
    (i_NoWord_NoEntry : PySem.W.kitOne K (.ref c_NoWord) (.ref c_NoEntry) = some false)
    (i_NoWord_NoNumber : PySem.W.kitOne K (.ref c_NoWord) (.ref c_NoNumber) = some false)
    (i_NoWord_NoText : PySem.W.kitOne K (.ref c_NoWord) (.ref c_NoText) = some false)
    (e_NoWord_RightError : PySem.W.exmOne K (.ref c_NoWord) (.ref c_RightError) = some true)
    (xl_NoBook : K.lookup c_NoBook = some (excClassObj nm_NoBook q_NoBook c_NoBook N_NoBook bs_NoBook (.ref A_NoBook :: vmro) hd_NoBook sn_NoBook sub_NoBook ab_NoBook col_NoBook dd_NoBook k0_NoBook k1_NoBook k2_NoBook k3_NoBook k5_NoBook "ValueError.__new__"))
    (xn_NoBook : K.lookup N_NoBook = some ⟨x1_NoBook, x2_NoBook, .dict es_NoBook x3_NoBook, x4_NoBook⟩)
    (xs_NoBook : strKeysB es_NoBook = true)
    (xi_NoBook : nsFind es_NoBook "__init__" = none)
    (xa_NoBook : K.lookup A_NoBook = some { cls := y0_NoBook, dict := y1_NoBook, data := .cls y2_NoBook, slots := y3_NoBook })
    (xb_NoBook : K.lookup y2_NoBook.ns = some ⟨z1_NoBook, z2_NoBook, .dict et_NoBook z3_NoBook, z4_NoBook⟩)
    (xt_NoBook : strKeysB et_NoBook = true)
    (xj_NoBook : nsFind et_NoBook "__init__" = none)
    (qcs_NoBook : (PySem.W.clsIn K c_NoBook).isSome = true)
    (qga_NoBook : PySem.W.findIn K (.ref c_NoBook) "__getattribute__" = some (some (.builtin "BaseException.__getattribute__")))
    (qgt_NoBook : PySem.W.findIn K (.ref c_NoBook) "__getattr__" = some none)
    (qca_NoBook : PySem.W.findIn K (.ref c_NoBook) "__class__" = some (some (.builtin "object.__class__")))
    (qgg_NoBook : PySem.W.specialIn K (.builtin "object.__class__") "__get__" = some (some (.builtin "getset_descriptor.__get__")))
    (qtk_NoBook : PySem.W.takesIn K (.builtin "object.__class__") = some true)
    (qmo_NoBook : PySem.W.mroIn K c_NoBook (.type "object") = some true)
    (qsb_NoBook : PySem.W.subIn K (.ref c_NoBook) (.type "BaseException") = some true)
    (i_NoBook_NoBook : PySem.W.kitOne K (.ref c_NoBook) (.ref c_NoBook) = some true)
    (i_NoBook_ValueError : PySem.W.kitOne K (.ref c_NoBook) (.type "ValueError") = some true)
    (i_NoBook_NoEntry : PySem.W.kitOne K (.ref c_NoBook) (.ref c_NoEntry) = some false)
    (i_NoBook_NoNumber : PySem.W.kitOne K (.ref c_NoBook) (.ref c_NoNumber) = some false)
    (i_NoBook_NoText : PySem.W.kitOne K (.ref c_NoBook) (.ref c_NoText) = some false)
    (e_NoBook_RightError : PySem.W.exmOne K (.ref c_NoBook) (.ref c_RightError) = some true)
    (xl_NoEntry : K.lookup c_NoEntry = some (excClassObj nm_NoEntry q_NoEntry c_NoEntry N_NoEntry bs_NoEntry (.ref A_NoEntry :: vmro) hd_NoEntry sn_NoEntry sub_NoEntry ab_NoEntry col_NoEntry dd_NoEntry k0_NoEntry k1_NoEntry k2_NoEntry k3_NoEntry k5_NoEntry "ValueError.__new__"))
    (xn_NoEntry : K.lookup N_NoEntry = some ⟨x1_NoEntry, x2_NoEntry, .dict es_NoEntry x3_NoEntry, x4_NoEntry⟩)
    (xs_NoEntry : strKeysB es_NoEntry = true)
    (xi_NoEntry : nsFind es_NoEntry "__init__" = none)
    (xa_NoEntry : K.lookup A_NoEntry = some { cls := y0_NoEntry, dict := y1_NoEntry, data := .cls y2_NoEntry, slots := y3_NoEntry })
    (xb_NoEntry : K.lookup y2_NoEntry.ns = some ⟨z1_NoEntry, z2_NoEntry, .dict et_NoEntry z3_NoEntry, z4_NoEntry⟩)
    (xt_NoEntry : strKeysB et_NoEntry = true)
    (xj_NoEntry : nsFind et_NoEntry "__init__" = none)
    (qcs_NoEntry : (PySem.W.clsIn K c_NoEntry).isSome = true)
    (qga_NoEntry : PySem.W.findIn K (.ref c_NoEntry) "__getattribute__" = some (some (.builtin "BaseException.__getattribute__")))
    (qgt_NoEntry : PySem.W.findIn K (.ref c_NoEntry) "__getattr__" = some none)
    (qca_NoEntry : PySem.W.findIn K (.ref c_NoEntry) "__class__" = some (some (.builtin "object.__class__")))
    (qgg_NoEntry : PySem.W.specialIn K (.builtin "object.__class__") "__get__" = some (some (.builtin "getset_descriptor.__get__")))
    (qtk_NoEntry : PySem.W.takesIn K (.builtin "object.__class__") = some true)
    (qmo_NoEntry : PySem.W.mroIn K c_NoEntry (.type "object") = some true)
    (qsb_NoEntry : PySem.W.subIn K (.ref c_NoEntry) (.type "BaseException") = some true)
    (i_NoEntry_NoBook : PySem.W.kitOne K (.ref c_NoEntry) (.ref c_NoBook) = some false)
    (i_NoEntry_ValueError : PySem.W.kitOne K (.ref c_NoEntry) (.type "ValueError") = some true)
    (i_NoEntry_NoEntry : PySem.W.kitOne K (.ref c_NoEntry) (.ref c_NoEntry) = some true)
    (i_NoEntry_NoNumber : PySem.W.kitOne K (.ref c_NoEntry) (.ref c_NoNumber) = some false)
    (i_NoEntry_NoText : PySem.W.kitOne K (.ref c_NoEntry) (.ref c_NoText) = some false)
    (e_NoEntry_RightError : PySem.W.exmOne K (.ref c_NoEntry) (.ref c_RightError) = some true)
    (wc_Entry : PySem.W.findIn K (.ref c_Entry) "__class__" = some (some (.builtin "object.__class__")))
    (wg_Entry : PySem.W.specialIn K (.builtin "object.__class__") "__get__" = some (some (.builtin "getset_descriptor.__get__")))
    (wt_Entry : PySem.W.takesIn K (.builtin "object.__class__") = some true)
    (wm_Entry : PySem.W.mroIn K c_Entry (.type "object") = some true)
    (ws_Entry : PySem.W.kitOne K (.ref c_Entry) (.ref c_Entry) = some true)
    (wn_Entry_NoneType : PySem.W.kitOne K (.type "NoneType") (.ref c_Entry) = some false)
    (wn_Entry_int : PySem.W.kitOne K (.type "int") (.ref c_Entry) = some false)
    (wn_Entry_str : PySem.W.kitOne K (.type "str") (.ref c_Entry) = some false)
    (wn_Entry_bool : PySem.W.kitOne K (.type "bool") (.ref c_Entry) = some false)
    (wn_Entry_list : PySem.W.kitOne K (.type "list") (.ref c_Entry) = some false)
    (wn_Entry_tuple : PySem.W.kitOne K (.type "tuple") (.ref c_Entry) = some false)
    (wn_Entry_dict : PySem.W.kitOne K (.type "dict") (.ref c_Entry) = some false)
    (z_len : PySem.W.nsIn K mainGlobals "len" = some none)
    (z_isinstance : PySem.W.nsIn K mainGlobals "isinstance" = some none)
    (z_str : PySem.W.nsIn K mainGlobals "str" = some none)
    (z_bool : PySem.W.nsIn K mainGlobals "bool" = some none)
    (z_all : PySem.W.nsIn K mainGlobals "all" = some none)
    (z_range : PySem.W.nsIn K mainGlobals "range" = some none)
    (z_int : PySem.W.nsIn K mainGlobals "int" = some none)
    (z_ValueError : PySem.W.nsIn K mainGlobals "ValueError" = some none)
    (z_list : PySem.W.nsIn K mainGlobals "list" = some none)
    (z_tuple : PySem.W.nsIn K mainGlobals "tuple" = some none)
    (z_enumerate : PySem.W.nsIn K mainGlobals "enumerate" = some none)
    (z_zip : PySem.W.nsIn K mainGlobals "zip" = some none)
    : ∃ fd : FuncData, (∀ (s : Shared) (v : Value), BindsTo s fd ⟨[v], []⟩ [("_law_script", v)]) ∧ ∀ base : Heap, K.In base → base.Ns mainGlobals mg → FnOk l.prog w K mg base CX0 7 fa fd ["_law_script"] (spLaw K) := by
  have e := hfa.symm.trans (PySem.W.mg_of X G a21)
  cases e
  have F0 := fun_mk (st := s_is_whole) l0 c0 k0
  have b0 := F0.binds (ps := ["thing"]) fun _ _ _ _ _ _ us hl => by
    obtain ⟨a0, us0, rfl, g0⟩ := lenS hl
    obtain rfl := len0 g0
    rfl
  have F1 := fun_mk (st := s_is_day) l1 c1 k1
  have b1 := F1.binds (ps := ["thing"]) fun _ _ _ _ _ _ us hl => by
    obtain ⟨a0, us0, rfl, g0⟩ := lenS hl
    obtain rfl := len0 g0
    rfl
  have F2 := fun_mk (st := s_is_number) l2 c2 k2
  have b2 := F2.binds (ps := ["thing"]) fun _ _ _ _ _ _ us hl => by
    obtain ⟨a0, us0, rfl, g0⟩ := lenS hl
    obtain rfl := len0 g0
    rfl
  have F3 := fun_mk (st := s_is_word) l3 c3 k3
  have b3 := F3.binds (ps := ["thing"]) fun _ _ _ _ _ _ us hl => by
    obtain ⟨a0, us0, rfl, g0⟩ := lenS hl
    obtain rfl := len0 g0
    rfl
  have F4 := fun_mk (st := s_is_rank) l4 c4 k4
  have b4 := F4.binds (ps := ["thing"]) fun _ _ _ _ _ _ us hl => by
    obtain ⟨a0, us0, rfl, g0⟩ := lenS hl
    obtain rfl := len0 g0
    rfl
  have F5 := fun_mk (st := s_refuse_head) l5 c5 k5
  have b5 := F5.binds (ps := ["number", "day", "rank", "word"]) fun _ _ _ _ _ _ us hl => by
    obtain ⟨a0, us0, rfl, g0⟩ := lenS hl
    obtain ⟨a1, us1, rfl, g1⟩ := lenS g0
    obtain ⟨a2, us2, rfl, g2⟩ := lenS g1
    obtain ⟨a3, us3, rfl, g3⟩ := lenS g2
    obtain rfl := len0 g3
    rfl
  have F6 := fun_mk (st := s_under_fits) l6 c6 k6
  have b6 := F6.binds (ps := ["rank", "under"]) fun _ _ _ _ _ _ us hl => by
    obtain ⟨a0, us0, rfl, g0⟩ := lenS hl
    obtain ⟨a1, us1, rfl, g1⟩ := lenS g0
    obtain rfl := len0 g1
    rfl
  have F7 := fun_mk (st := s_tie_fits) l7 c7 k7
  have b7 := F7.binds (ps := ["rank", "sheet", "base"]) fun _ _ _ _ _ _ us hl => by
    obtain ⟨a0, us0, rfl, g0⟩ := lenS hl
    obtain ⟨a1, us1, rfl, g1⟩ := lenS g0
    obtain ⟨a2, us2, rfl, g2⟩ := lenS g1
    obtain rfl := len0 g2
    rfl
  have F8 := fun_mk (st := s_ahead) l8 c8 k8
  have b8 := F8.binds (ps := ["one", "other"]) fun _ _ _ _ _ _ us hl => by
    obtain ⟨a0, us0, rfl, g0⟩ := lenS hl
    obtain ⟨a1, us1, rfl, g1⟩ := lenS g0
    obtain rfl := len0 g1
    rfl
  have F9 := fun_mk (st := s_book_list) l9 c9 k9
  have b9 := F9.binds (ps := ["entries"]) fun _ _ _ _ _ _ us hl => by
    obtain ⟨a0, us0, rfl, g0⟩ := lenS hl
    obtain rfl := len0 g0
    rfl
  have F10 := fun_mk (st := s_entry_row) l10 c10 k10
  have b10 := F10.binds (ps := ["entry"]) fun _ _ _ _ _ _ us hl => by
    obtain ⟨a0, us0, rfl, g0⟩ := lenS hl
    obtain rfl := len0 g0
    rfl
  have F11 := fun_mk (st := s_written) l11 c11 k11
  have b11 := F11.binds (ps := ["entries"]) fun _ _ _ _ _ _ us hl => by
    obtain ⟨a0, us0, rfl, g0⟩ := lenS hl
    obtain rfl := len0 g0
    rfl
  have F12 := fun_mk (st := s_Lcell_at) l12 c12 k12
  have b12 := F12.binds (ps := ["_law_script", "_law_k"]) fun _ _ _ _ _ _ us hl => by
    obtain ⟨a0, us0, rfl, g0⟩ := lenS hl
    obtain ⟨a1, us1, rfl, g1⟩ := lenS g0
    obtain rfl := len0 g1
    rfl
  have F13 := fun_mk (st := s_Lmixed) l13 c13 k13
  have b13 := F13.binds (ps := ["_law_cell", "_law_k"]) fun _ _ _ _ _ _ us hl => by
    obtain ⟨a0, us0, rfl, g0⟩ := lenS hl
    obtain ⟨a1, us1, rfl, g1⟩ := lenS g0
    obtain rfl := len0 g1
    rfl
  have F14 := fun_mk (st := s_Lword) l14 c14 k14
  have b14 := F14.binds (ps := ["_law_mixed_here"]) fun _ _ _ _ _ _ us hl => by
    obtain ⟨a0, us0, rfl, g0⟩ := lenS hl
    obtain rfl := len0 g0
    rfl
  have F15 := fun_mk (st := s_Lday) l15 c15 k15
  have b15 := F15.binds (ps := ["_law_last", "_law_mixed_here"]) fun _ _ _ _ _ _ us hl => by
    obtain ⟨a0, us0, rfl, g0⟩ := lenS hl
    obtain ⟨a1, us1, rfl, g1⟩ := lenS g0
    obtain rfl := len0 g1
    rfl
  have F16 := fun_mk (st := s_Lfields) l16 c16 k16
  have b16 := F16.binds (ps := ["_law_rows", "_law_mixed_here", "_law_k"]) fun _ _ _ _ _ _ us hl => by
    obtain ⟨a0, us0, rfl, g0⟩ := lenS hl
    obtain ⟨a1, us1, rfl, g1⟩ := lenS g0
    obtain ⟨a2, us2, rfl, g2⟩ := lenS g1
    obtain rfl := len0 g2
    rfl
  have F17 := fun_mk (st := s_Ltext_of) l17 c17 k17
  have b17 := F17.binds (ps := ["_law_row"]) fun _ _ _ _ _ _ us hl => by
    obtain ⟨a0, us0, rfl, g0⟩ := lenS hl
    obtain rfl := len0 g0
    rfl
  have F18 := fun_mk (st := s_Lentry) l18 c18 k18
  have b18 := F18.binds (ps := ["_law_row"]) fun _ _ _ _ _ _ us hl => by
    obtain ⟨a0, us0, rfl, g0⟩ := lenS hl
    obtain rfl := len0 g0
    rfl
  have F19 := fun_mk (st := s_Lno_book) l19 c19 k19
  have b19 := F19.binds (ps := ["_law_entries", "_law_cell"]) fun _ _ _ _ _ _ us hl => by
    obtain ⟨a0, us0, rfl, g0⟩ := lenS hl
    obtain ⟨a1, us1, rfl, g1⟩ := lenS g0
    obtain rfl := len0 g1
    rfl
  have F20 := fun_mk (st := s_Lrefused) l20 c20 k20
  have b20 := F20.binds (ps := ["_law_thing"]) fun _ _ _ _ _ _ us hl => by
    obtain ⟨a0, us0, rfl, g0⟩ := lenS hl
    obtain rfl := len0 g0
    rfl
  have F21 := fun_mk (st := s_law) l21 c21 k21
  have b21 := F21.binds (ps := ["_law_script"]) fun _ _ _ _ _ _ us hl => by
    obtain ⟨a0, us0, rfl, g0⟩ := lenS hl
    obtain rfl := len0 g0
    rfl
  have T : Txt w K mg ⟨f0, _, f1, _, f2, _, f3, _, f4, _, f5, _, f6, _, f7, _, f8, _, f9, _, f10, _, f11, _, f12, _, f13, _, f14, _, f15, _, f16, _, f17, _, f18, _, f19, _, f20, _, fa, _, c_Entry, f_Entry, t_Entry, _, u_MOST_LETTERS, u_LAST_DAY, u_LAST_NUMBER, u_RANKS, c_NoNumber, c_NoDay, c_NoRank, c_NoWord, c_NoBook, c_NoEntry, c_RightError, c_NoText⟩ := ⟨⟨F0, PySem.W.mg_of X G a0, b0⟩, ⟨F1, PySem.W.mg_of X G a1, b1⟩, ⟨F2, PySem.W.mg_of X G a2, b2⟩, ⟨F3, PySem.W.mg_of X G a3, b3⟩, ⟨F4, PySem.W.mg_of X G a4, b4⟩, ⟨F5, PySem.W.mg_of X G a5, b5⟩, ⟨F6, PySem.W.mg_of X G a6, b6⟩, ⟨F7, PySem.W.mg_of X G a7, b7⟩, ⟨F8, PySem.W.mg_of X G a8, b8⟩, ⟨F9, PySem.W.mg_of X G a9, b9⟩, ⟨F10, PySem.W.mg_of X G a10, b10⟩, ⟨F11, PySem.W.mg_of X G a11, b11⟩, ⟨F12, PySem.W.mg_of X G a12, b12⟩, ⟨F13, PySem.W.mg_of X G a13, b13⟩, ⟨F14, PySem.W.mg_of X G a14, b14⟩, ⟨F15, PySem.W.mg_of X G a15, b15⟩, ⟨F16, PySem.W.mg_of X G a16, b16⟩, ⟨F17, PySem.W.mg_of X G a17, b17⟩, ⟨F18, PySem.W.mg_of X G a18, b18⟩, ⟨F19, PySem.W.mg_of X G a19, b19⟩, ⟨F20, PySem.W.mg_of X G a20, b20⟩, ⟨F21, PySem.W.mg_of X G a21, b21⟩, PySem.W.mg_of X G cg_Entry, ⟨pg_Entry, hd_Entry, po_Entry, sa_Entry⟩, ⟨mk_Entry, in_Entry, fn_Entry, kc_Entry⟩, funD_mk lf_Entry cf_Entry kf_Entry, na_Entry_number, na_Entry_day, na_Entry_rank, na_Entry_word, na_Entry_under, na_Entry_sheet, na_Entry_base, na_Entry_described, mb_Entry_8 (funD_mk lf_Entry cf_Entry kf_Entry) lt_Entry dt_Entry, mb_Entry_6 (funD_mk lf_Entry cf_Entry kf_Entry) lt_Entry dt_Entry, PySem.W.mg_of X G cg_MOST_LETTERS, cr_MOST_LETTERS, PySem.W.mg_of X G cg_LAST_DAY, cr_LAST_DAY, PySem.W.mg_of X G cg_LAST_NUMBER, cr_LAST_NUMBER, PySem.W.mg_of X G cg_RANKS, fun H => sqT_of cl_RANKS cc_RANKS cd_RANKS (by rw [List.size_toArray, ← Paired.length cv_RANKS]; exact le_ble rfl) (by simpa using cv_RANKS), PySem.W.mg_of X G cg_NoNumber, PySem.W.mg_of X G cg_NoDay, PySem.W.mg_of X G cg_NoRank, PySem.W.mg_of X G cg_NoWord, PySem.W.mg_of X G cg_NoBook, PySem.W.mg_of X G cg_NoEntry, PySem.W.mg_of X G cg_RightError, PySem.W.mg_of X G cg_NoText, XCls.mk2 xl_NoNumber xn_NoNumber xs_NoNumber xi_NoNumber xa_NoNumber xb_NoNumber xt_NoNumber xj_NoNumber, ⟨qcs_NoNumber, qga_NoNumber, qgt_NoNumber, qca_NoNumber, qgg_NoNumber, qtk_NoNumber, qmo_NoNumber, qsb_NoNumber⟩, i_NoNumber_NoBook, i_NoNumber_ValueError, i_NoNumber_NoEntry, i_NoNumber_NoNumber, i_NoNumber_NoText, e_NoNumber_RightError, XCls.mk2 xl_NoDay xn_NoDay xs_NoDay xi_NoDay xa_NoDay xb_NoDay xt_NoDay xj_NoDay, ⟨qcs_NoDay, qga_NoDay, qgt_NoDay, qca_NoDay, qgg_NoDay, qtk_NoDay, qmo_NoDay, qsb_NoDay⟩, i_NoDay_NoBook, i_NoDay_ValueError, i_NoDay_NoEntry, i_NoDay_NoNumber, i_NoDay_NoText, e_NoDay_RightError, XCls.mk2 xl_NoRank xn_NoRank xs_NoRank xi_NoRank xa_NoRank xb_NoRank xt_NoRank xj_NoRank, ⟨qcs_NoRank, qga_NoRank, qgt_NoRank, qca_NoRank, qgg_NoRank, qtk_NoRank, qmo_NoRank, qsb_NoRank⟩, i_NoRank_NoBook, i_NoRank_ValueError, i_NoRank_NoEntry, i_NoRank_NoNumber, i_NoRank_NoText, e_NoRank_RightError, XCls.mk2 xl_NoWord xn_NoWord xs_NoWord xi_NoWord xa_NoWord xb_NoWord xt_NoWord xj_NoWord, ⟨qcs_NoWord, qga_NoWord, qgt_NoWord, qca_NoWord, qgg_NoWord, qtk_NoWord, qmo_NoWord, qsb_NoWord⟩, i_NoWord_NoBook, i_NoWord_ValueError, i_NoWord_NoEntry, i_NoWord_NoNumber, i_NoWord_NoText, e_NoWord_RightError, XCls.mk2 xl_NoBook xn_NoBook xs_NoBook xi_NoBook xa_NoBook xb_NoBook xt_NoBook xj_NoBook, ⟨qcs_NoBook, qga_NoBook, qgt_NoBook, qca_NoBook, qgg_NoBook, qtk_NoBook, qmo_NoBook, qsb_NoBook⟩, i_NoBook_NoBook, i_NoBook_ValueError, i_NoBook_NoEntry, i_NoBook_NoNumber, i_NoBook_NoText, e_NoBook_RightError, XCls.mk2 xl_NoEntry xn_NoEntry xs_NoEntry xi_NoEntry xa_NoEntry xb_NoEntry xt_NoEntry xj_NoEntry, ⟨qcs_NoEntry, qga_NoEntry, qgt_NoEntry, qca_NoEntry, qgg_NoEntry, qtk_NoEntry, qmo_NoEntry, qsb_NoEntry⟩, i_NoEntry_NoBook, i_NoEntry_ValueError, i_NoEntry_NoEntry, i_NoEntry_NoNumber, i_NoEntry_NoText, e_NoEntry_RightError, ⟨wc_Entry, wg_Entry, wt_Entry, wm_Entry⟩, ws_Entry, wn_Entry_NoneType, wn_Entry_int, wn_Entry_str, wn_Entry_bool, wn_Entry_list, wn_Entry_tuple, wn_Entry_dict, PySem.W.mg_none_of X G z_len, PySem.W.mg_none_of X G z_isinstance, PySem.W.mg_none_of X G z_str, PySem.W.mg_none_of X G z_bool, PySem.W.mg_none_of X G z_all, PySem.W.mg_none_of X G z_range, PySem.W.mg_none_of X G z_int, PySem.W.mg_none_of X G z_ValueError, PySem.W.mg_none_of X G z_list, PySem.W.mg_none_of X G z_tuple, PySem.W.mg_none_of X G z_enumerate, PySem.W.mg_none_of X G z_zip⟩
  exact ⟨_, fun s v => .of_eq rfl, fun base _ _ => ok_law T⟩
end My
theorem PySem.W.Fast.tw6354873672800007063 : True := trivial
theorem PySem.W.Fast.tw10509709828982311624 : True := trivial
theorem PySem.W.Fast.tw7957287695914024057 : True := trivial
theorem PySem.W.Fast.tw13490192631404164241 : True := trivial
theorem PySem.W.Fast.tw384654112382012272 : True := trivial
theorem PySem.W.Fast.tw13204282572650944183 : True := trivial
theorem PySem.W.Fast.tw4338274497491116013 : True := trivial
theorem PySem.W.Fast.tw14210859667556858130 : True := trivial
theorem PySem.W.Fast.tw14671371089911368859 : True := trivial
theorem PySem.W.Fast.tw7110408279894712298 : True := trivial
theorem PySem.W.Fast.tw3924975495662014121 : True := trivial
theorem PySem.W.Fast.tw12294253565182119069 : True := trivial
theorem PySem.W.Fast.tw10240389689903498756 : True := trivial
theorem PySem.W.Fast.tw10068061705753268326 : True := trivial
theorem PySem.W.Fast.tw411406302925179709 : True := trivial
theorem PySem.W.Fast.tw9525365328140989551 : True := trivial
theorem PySem.W.Fast.tw9883305653031904418 : True := trivial
theorem PySem.W.Fast.tw15435257507266904101 : True := trivial
theorem PySem.W.Fast.tw8478719605328398709 : True := trivial
theorem PySem.W.Fast.tw1924115784514956361 : True := trivial
theorem PySem.W.Fast.tw14270527543303508038 : True := trivial
theorem PySem.W.Fast.tw13183958453324925655 : True := trivial
theorem PySem.W.Fast.tw12965344593001717473 : True := trivial
theorem PySem.W.Fast.tw10478113441330076460 : True := trivial
theorem PySem.W.Fast.tw11775588653717279757 : True := trivial
theorem PySem.W.Fast.tw11767876583983225732 : True := trivial
theorem PySem.W.Fast.tw4880105668576712476 : True := trivial
theorem PySem.W.Fast.tw15628546111610895386 : True := trivial
theorem PySem.W.Fast.tw18054773880989611324 : True := trivial
theorem PySem.W.Fast.tw10349178247299957233 : True := trivial
theorem PySem.W.Fast.tw6186949698496316714 : True := trivial
theorem PySem.W.Fast.tw8458329862220362572 : True := trivial
theorem PySem.W.Fast.tw16564774697339357867 : True := trivial
theorem PySem.W.Fast.tw2610200854846989967 : True := trivial
theorem PySem.W.Fast.tw11219953080501231300 : True := trivial
theorem PySem.W.Fast.tw15252205158903505686 : True := trivial
theorem PySem.W.Fast.tw11939229355820049961 : True := trivial
theorem PySem.W.Fast.tw15619932243847505143 : True := trivial
theorem PySem.W.Fast.tw129120391001108236 : True := trivial
theorem PySem.W.Fast.tw18007684693454093001 : True := trivial
theorem PySem.W.Fast.tw4210744412905562948 : True := trivial
theorem PySem.W.Fast.tw9666946608641353743 : True := trivial
theorem PySem.W.Fast.tw6066324397265117979 : True := trivial
theorem PySem.W.Fast.tw4249404576437807531 : True := trivial
theorem PySem.W.Fast.tw7903197953677210988 : True := trivial
theorem PySem.W.Fast.tw17227288672551703486 : True := trivial
theorem PySem.W.Fast.tw12479663047285175329 : True := trivial
theorem PySem.W.Fast.tw4546396081468877982 : True := trivial
theorem PySem.W.Fast.tw12429466361241228486 : True := trivial
theorem PySem.W.Fast.tw15673187768559737929 : True := trivial
theorem PySem.W.Fast.tw7147200895038189505 : True := trivial
theorem PySem.W.Fast.tw8030235319715369713 : True := trivial
theorem PySem.W.Fast.tw7346003105198980989 : True := trivial
theorem PySem.W.Fast.tw17880769090163071505 : True := trivial
theorem PySem.W.Fast.tw3290441439946355268 : True := trivial
theorem PySem.W.Fast.tw755663506549335860 : True := trivial
theorem PySem.W.Fast.tw12150875392270314513 : True := trivial
theorem PySem.W.Fast.tw1425385021163418572 : True := trivial
theorem PySem.W.Fast.tw427198985033997835 : True := trivial
theorem PySem.W.Fast.tw1797356201404203215 : True := trivial
theorem PySem.W.Fast.tw1687334379064295644 : True := trivial
theorem PySem.W.Fast.tw10327029639901259320 : True := trivial
theorem PySem.W.Fast.tw15018961434586006911 : True := trivial
theorem PySem.W.Fast.tw6109963468934567708 : True := trivial
theorem PySem.W.Fast.tw4700463299470194753 : True := trivial
theorem PySem.W.Fast.tw4654662541212602637 : True := trivial
theorem PySem.W.Fast.tw16246708880038195546 : True := trivial
theorem PySem.W.Fast.tw17165125938979686463 : True := trivial
theorem PySem.W.Fast.tw9524218578865907832 : True := trivial
theorem PySem.W.Fast.tw6252729278035313395 : True := trivial
theorem PySem.W.Fast.tw7450077062816762228 : True := trivial
theorem PySem.W.Fast.tw13620633484363928098 : True := trivial
theorem PySem.W.Fast.tw13511062845829383144 : True := trivial
theorem PySem.W.Fast.tw14123358122699081190 : True := trivial
theorem PySem.W.Fast.tw9033901394847760283 : True := trivial
theorem PySem.W.Fast.tw9796933774488559162 : True := trivial
theorem PySem.W.Fast.tw10560480353722154743 : True := trivial
theorem PySem.W.Fast.tw9108723551814223634 : True := trivial
theorem PySem.W.Fast.tw804397491889429246 : True := trivial
theorem PySem.W.Fast.tw18007036473081540938 : True := trivial
theorem PySem.W.Fast.tw785263886988402944 : True := trivial
theorem PySem.W.Fast.tw11743458352619396681 : True := trivial
theorem PySem.W.Fast.tw4796956466412485170 : True := trivial
theorem PySem.W.Fast.tw17638438775930492976 : True := trivial
theorem PySem.W.Fast.tw16365039768722633947 : True := trivial
theorem PySem.W.Fast.tw17410159926353018295 : True := trivial
theorem PySem.W.Fast.tw5049154869818990523 : True := trivial
theorem PySem.W.Fast.tw4096712871229591520 : True := trivial
theorem PySem.W.Fast.tw10214395852460156176 : True := trivial
theorem PySem.W.Fast.tw7622360843544828445 : True := trivial
theorem PySem.W.Fast.tw13155606344109779427 : True := trivial
theorem PySem.W.Fast.tw7956398396868991568 : True := trivial
theorem PySem.W.Fast.tw4934463583517564781 : True := trivial
theorem PySem.W.Fast.tw9356731832228356314 : True := trivial
theorem PySem.W.Fast.tw4648174666184515086 : True := trivial
theorem PySem.W.Fast.tw6806513122355166479 : True := trivial
theorem PySem.W.Fast.tw18342315592960272527 : True := trivial
theorem PySem.W.Fast.tw15996374142892001570 : True := trivial
theorem PySem.W.Fast.tw16066884562837144089 : True := trivial
theorem PySem.W.Fast.tw18346747079147847390 : True := trivial
theorem PySem.W.Fast.tw5520770774753422426 : True := trivial
theorem PySem.W.Fast.tw7178892810534248273 : True := trivial
theorem PySem.W.Fast.tw2457172907527345938 : True := trivial
theorem PySem.W.Fast.tw3989624060897604993 : True := trivial
theorem PySem.W.Fast.tw11506849337042866544 : True := trivial
theorem PySem.W.Fast.tw7167586075274512956 : True := trivial
theorem PySem.W.Fast.tw11128506860844963440 : True := trivial
theorem PySem.W.Fast.tw5345545896582138990 : True := trivial
theorem PySem.W.Fast.tw13204570752485255862 : True := trivial
theorem PySem.W.Fast.tw11284868511532342703 : True := trivial
theorem PySem.W.Fast.tw14240191118727647799 : True := trivial
theorem PySem.W.Fast.tw13974952283404221295 : True := trivial
theorem PySem.W.Fast.tw14399430363950026562 : True := trivial
theorem PySem.W.Fast.tw13408465419850992981 : True := trivial
theorem PySem.W.Fast.tw3414807197935231212 : True := trivial
theorem PySem.W.Fast.tw2085697672692632345 : True := trivial
theorem PySem.W.Fast.tw1652480448306970216 : True := trivial
theorem PySem.W.Fast.tw9853165647933838422 : True := trivial
theorem PySem.W.Fast.tw1646854807354507034 : True := trivial
theorem PySem.W.Fast.tw800346426666147963 : True := trivial
theorem PySem.W.Fast.tw3865782098218508003 : True := trivial
theorem PySem.W.Fast.tw11374479549592132194 : True := trivial
theorem PySem.W.Fast.tw8833779078216665716 : True := trivial
theorem PySem.W.Fast.tw2761003480052268346 : True := trivial
theorem PySem.W.Fast.tw16788380198508672294 : True := trivial
theorem PySem.W.Fast.tw12010477751171418739 : True := trivial
theorem PySem.W.Fast.tw8664519893421105772 : True := trivial
theorem PySem.W.Fast.tw17912428871860275283 : True := trivial
theorem PySem.W.Fast.tw9037141021526498309 : True := trivial
theorem PySem.W.Fast.tw12687243764956979395 : True := trivial
theorem PySem.W.Fast.tw4062752540082431568 : True := trivial
theorem PySem.W.Fast.tw8704046089670874366 : True := trivial
theorem PySem.W.Fast.tw12831646071152919846 : True := trivial
theorem PySem.W.Fast.tw14486869466365528041 : True := trivial
theorem PySem.W.Fast.tw3253443308436428873 : True := trivial
theorem PySem.W.Fast.tw13187484047314561967 : True := trivial
theorem PySem.W.Fast.tw11883997702380403285 : True := trivial
theorem PySem.W.Fast.tw16898514121689877246 : True := trivial
theorem PySem.W.Fast.tw9769290473213426263 : True := trivial
theorem PySem.W.Fast.tw881468956820516766 : True := trivial
theorem PySem.W.Fast.tw8915364438559754063 : True := trivial
theorem PySem.W.Fast.tw1564410860089943360 : True := trivial
theorem PySem.W.Fast.tw17164229817468191076 : True := trivial
theorem PySem.W.Fast.tw16095981454506727492 : True := trivial
theorem PySem.W.Fast.tw14935492778486620827 : True := trivial
theorem PySem.W.Fast.tw11225149636446539421 : True := trivial
theorem PySem.W.Fast.tw11002695086189353638 : True := trivial
theorem PySem.W.Fast.tw17117452438450385462 : True := trivial
theorem PySem.W.Fast.tw10505968280701180741 : True := trivial
theorem PySem.W.Fast.tw12924050247391962941 : True := trivial
theorem PySem.W.Fast.tw6306397732754297773 : True := trivial
theorem PySem.W.Fast.tw2454214715641508571 : True := trivial
theorem PySem.W.Fast.tw10074571593213332452 : True := trivial
theorem PySem.W.Fast.tw2649193294532509235 : True := trivial
theorem PySem.W.Fast.tw8220687943264463943 : True := trivial
theorem PySem.W.Fast.tw14328962948225256093 : True := trivial
theorem PySem.W.Fast.tw15016742601897202855 : True := trivial
theorem PySem.W.Fast.tw12627521586246033551 : True := trivial
theorem PySem.W.Fast.tw1612651187491365313 : True := trivial
theorem PySem.W.Fast.tw13483270835396623236 : True := trivial
theorem PySem.W.Fast.tw11106817121836279882 : True := trivial
theorem PySem.W.Fast.tw4321873701650127408 : True := trivial
theorem PySem.W.Fast.tw14795432104524353764 : True := trivial
theorem PySem.W.Fast.tw9715218295193126187 : True := trivial
theorem PySem.W.Fast.tw16042361931244300815 : True := trivial
theorem PySem.W.Fast.tw13889842480783628292 : True := trivial
theorem PySem.W.Fast.tw17938909952502110471 : True := trivial
theorem PySem.W.Fast.tw16918981064165542339 : True := trivial
theorem PySem.W.Fast.tw12305762664937354003 : True := trivial
theorem PySem.W.Fast.tw9400115407259571556 : True := trivial
theorem PySem.W.Fast.tw16830404693491223991 : True := trivial
theorem PySem.W.Fast.tw2270750847114823366 : True := trivial
theorem PySem.W.Fast.tw5432652257590875859 : True := trivial
theorem PySem.W.Fast.tw5534555671407772605 : True := trivial
theorem PySem.W.Fast.tw15226204177123504453 : True := trivial
theorem PySem.W.Fast.tw6888206869975843225 : True := trivial
theorem PySem.W.Fast.tw9163270699317360483 : True := trivial
theorem PySem.W.Fast.tw7529702557827668653 : True := trivial
theorem PySem.W.Fast.tw4903200660031688102 : True := trivial
theorem PySem.W.Fast.tw17765153313921843437 : True := trivial
theorem PySem.W.Fast.tw2163677323303764246 : True := trivial
theorem PySem.W.Fast.tw10106468759834105988 : True := trivial
theorem PySem.W.Fast.tw17187179144636033134 : True := trivial
theorem PySem.W.Fast.tw9747850154547737290 : True := trivial
theorem PySem.W.Fast.tw18106301893451826253 : True := trivial
theorem PySem.W.Fast.tw9417727789081721257 : True := trivial
theorem PySem.W.Fast.tw16476452382601416912 : True := trivial
theorem PySem.W.Fast.tw11543705124724351338 : True := trivial
theorem PySem.W.Fast.tw2055640415366639765 : True := trivial
theorem PySem.W.Fast.tw16038724381798644170 : True := trivial
theorem PySem.W.Fast.tw11458784038439349174 : True := trivial
theorem PySem.W.Fast.tw8633675131903905168 : True := trivial
theorem PySem.W.Fast.tw15276939443191493157 : True := trivial
theorem PySem.W.Fast.tw5887883596574283865 : True := trivial
theorem PySem.W.Fast.tw9006598185542233119 : True := trivial
theorem PySem.W.Fast.tw17589136718984618280 : True := trivial
theorem PySem.W.Fast.tw159368865325157778 : True := trivial
theorem PySem.W.Fast.tw10631003366785117389 : True := trivial
theorem PySem.W.Fast.tw59066461196159556 : True := trivial
theorem PySem.W.Fast.tw5849586331325758862 : True := trivial
theorem PySem.W.Fast.tw5606081472763962674 : True := trivial
theorem PySem.W.Fast.tw3112042967540594907 : True := trivial
theorem PySem.W.Fast.tw10018201703571367011 : True := trivial
theorem PySem.W.Fast.tw1120919913238884341 : True := trivial
theorem PySem.W.Fast.tw2457391326990552883 : True := trivial
theorem PySem.W.Fast.tw16494014946771357214 : True := trivial
theorem PySem.W.Fast.tw6502280599825050633 : True := trivial
theorem PySem.W.Fast.tw18228993820270536528 : True := trivial
theorem PySem.W.Fast.tw14401581870399923991 : True := trivial
theorem PySem.W.Fast.tw9820871480874185279 : True := trivial
theorem PySem.W.Fast.tw17035264791604529745 : True := trivial
theorem PySem.W.Fast.tw271975058160178333 : True := trivial
theorem PySem.W.Fast.tw2860593783669497164 : True := trivial
theorem PySem.W.Fast.tw6378838958969137636 : True := trivial
theorem PySem.W.Fast.tw18361767618663046372 : True := trivial
theorem PySem.W.Fast.tw6593783746623051390 : True := trivial
theorem PySem.W.Fast.tw3693489691440075730 : True := trivial
theorem PySem.W.Fast.tw5749194089131318162 : True := trivial
theorem PySem.W.Fast.tw4737720470650625604 : True := trivial
theorem PySem.W.Fast.tw7686726099089740776 : True := trivial
theorem PySem.W.Fast.tw2228638799375721154 : True := trivial
theorem PySem.W.Fast.tw5225769934780801465 : True := trivial
theorem PySem.W.Fast.tw812374360937010927 : True := trivial
theorem PySem.W.Fast.tw12541993078369932573 : True := trivial
theorem PySem.W.Fast.tw11192117621653506629 : True := trivial
theorem PySem.W.Fast.tw8224399622238992549 : True := trivial
theorem PySem.W.Fast.tw4291540894889021226 : True := trivial
theorem PySem.W.Fast.tw3351220118609873397 : True := trivial
theorem PySem.W.Fast.tw5460758004654548714 : True := trivial
theorem PySem.W.Fast.tw13204481169190830638 : True := trivial
theorem PySem.W.Fast.tw10804397276582705461 : True := trivial
theorem PySem.W.Fast.tw2369622680695273627 : True := trivial
theorem PySem.W.Fast.tw1753002308221938396 : True := trivial
theorem PySem.W.Fast.tw8834783664927343655 : True := trivial
theorem PySem.W.Fast.tw5284249856815657705 : True := trivial
theorem PySem.W.Fast.tw12934811507998920272 : True := trivial
theorem PySem.W.Fast.tw12436299183956914102 : True := trivial
theorem PySem.W.Fast.tw12133771843326690565 : True := trivial
theorem PySem.W.Fast.tw11099345480198214991 : True := trivial
theorem PySem.W.Fast.tw6581999953280674896 : True := trivial
theorem PySem.W.Fast.tw15249250012659751062 : True := trivial
theorem PySem.W.Fast.tw6342207059588601736 : True := trivial
theorem PySem.W.Fast.tw1752796732102027833 : True := trivial
theorem PySem.W.Fast.tw18228340985829946105 : True := trivial
theorem PySem.W.Fast.tw1969951966180819092 : True := trivial
theorem PySem.W.Fast.tw17264496025059250973 : True := trivial
theorem PySem.W.Fast.tw2787179240814637638 : True := trivial
theorem PySem.W.Fast.tw18198805345483521471 : True := trivial
theorem PySem.W.Fast.tw13612502872490304362 : True := trivial
theorem PySem.W.Fast.tw10656398538319687117 : True := trivial
theorem PySem.W.Fast.tw17957001164828806037 : True := trivial
theorem PySem.W.Fast.tw12233906306398473424 : True := trivial
theorem PySem.W.Fast.tw11246715251490263590 : True := trivial
theorem PySem.W.Fast.tw2941980343180368405 : True := trivial
theorem PySem.W.Fast.tw10472057463871887701 : True := trivial
theorem PySem.W.Fast.tw16367192382841154986 : True := trivial
theorem PySem.W.Fast.tw13685352050630451991 : True := trivial
theorem PySem.W.Fast.tw1197320154524963294 : True := trivial
theorem PySem.W.Fast.tw6022974489473022902 : True := trivial
theorem PySem.W.Fast.tw2878421741584088204 : True := trivial
theorem PySem.W.Fast.tw5724028240594978100 : True := trivial
theorem PySem.W.Fast.tw17388672391258470029 : True := trivial
theorem PySem.W.Fast.tw14578127499417987588 : True := trivial
theorem PySem.W.Fast.tw143811488236081767 : True := trivial
theorem PySem.W.Fast.tw652155364605035477 : True := trivial
theorem PySem.W.Fast.tw8136658936474401458 : True := trivial
theorem PySem.W.Fast.tw13831733327533541581 : True := trivial
theorem PySem.W.Fast.tw2079624510567279238 : True := trivial
theorem PySem.W.Fast.tw724033689918359161 : True := trivial
theorem PySem.W.Fast.tw10830682970863794261 : True := trivial
theorem PySem.W.Fast.tw4101172221469355839 : True := trivial
theorem PySem.W.Fast.tw4496980126244061633 : True := trivial
theorem PySem.W.Fast.tw5111655549611549716 : True := trivial
theorem PySem.W.Fast.tw3677443505563234213 : True := trivial
theorem PySem.W.Fast.tw8769522738624553642 : True := trivial
theorem PySem.W.Fast.tw8526140272961732833 : True := trivial
theorem PySem.W.Fast.tw13774722186957100678 : True := trivial
theorem PySem.W.Fast.tw7755733310549230460 : True := trivial
theorem PySem.W.Fast.tw5500639719821809657 : True := trivial
theorem PySem.W.Fast.tw5967060752285279180 : True := trivial
theorem PySem.W.Fast.tw11113665049835286906 : True := trivial
theorem PySem.W.Fast.tw3047851919684096697 : True := trivial
theorem PySem.W.Fast.tw3272473986831542699 : True := trivial
theorem PySem.W.Fast.tw12381332713860681107 : True := trivial
theorem PySem.W.Fast.tw3744069577672915114 : True := trivial
theorem PySem.W.Fast.tw4241468182693857576 : True := trivial
theorem PySem.W.Fast.tw10082138426403809684 : True := trivial
theorem PySem.W.Fast.tw607824600256287493 : True := trivial
theorem PySem.W.Fast.tw12435303741470671991 : True := trivial
theorem PySem.W.Fast.tw2976417538170062951 : True := trivial
theorem PySem.W.Fast.tw160744318106028285 : True := trivial
theorem PySem.W.Fast.tw12877376066335003620 : True := trivial
theorem PySem.W.Fast.tw5258819527588813974 : True := trivial
theorem PySem.W.Fast.tw3073523103536698379 : True := trivial
theorem PySem.W.Fast.tw5828621476234490012 : True := trivial
theorem PySem.W.Fast.tw6779607775809499690 : True := trivial
theorem PySem.W.Fast.tw9294952046449343040 : True := trivial
theorem PySem.W.Fast.tw6073613553851592159 : True := trivial
theorem PySem.W.Fast.tw13107421523455708409 : True := trivial
theorem PySem.W.Fast.tw6582886088656863018 : True := trivial
theorem PySem.W.Fast.tw17852675019024659213 : True := trivial
theorem PySem.W.Fast.tw11235868728092272040 : True := trivial
theorem PySem.W.Fast.tw18373456868104115546 : True := trivial
theorem PySem.W.Fast.tw6907482582092956383 : True := trivial
theorem PySem.W.Fast.tw8095113395189599073 : True := trivial
theorem PySem.W.Fast.tw16192478585265503552 : True := trivial
theorem PySem.W.Fast.tw9621594394049701221 : True := trivial
theorem PySem.W.Fast.tw6792434923889309276 : True := trivial
theorem PySem.W.Fast.tw18369839386744539300 : True := trivial
theorem PySem.W.Fast.tw14376240929728629994 : True := trivial
theorem PySem.W.Fast.tw11978540327310200653 : True := trivial
theorem PySem.W.Fast.tw2909756702610867725 : True := trivial
theorem PySem.W.Fast.tw16361860667368737839 : True := trivial
theorem PySem.W.Fast.tw10971149331382182277 : True := trivial
theorem PySem.W.Fast.tw411280386137576204 : True := trivial
theorem PySem.W.Fast.tw2212471153172797034 : True := trivial
theorem PySem.W.Fast.tw5428060316863805368 : True := trivial
theorem PySem.W.Fast.tw8278128899347171068 : True := trivial
theorem PySem.W.Fast.tw12917661723922131589 : True := trivial
theorem PySem.W.Fast.tw257029844833324425 : True := trivial
theorem PySem.W.Fast.tw3560714579809787075 : True := trivial
theorem PySem.W.Fast.tw1326964272246124063 : True := trivial
theorem PySem.W.Fast.tw9587276370489047278 : True := trivial
theorem PySem.W.Fast.tw10937487102712286256 : True := trivial
theorem PySem.W.Fast.tw9900854907240977197 : True := trivial
theorem PySem.W.Fast.tw18286769012538865390 : True := trivial
theorem PySem.W.Fast.tw2508161981807405867 : True := trivial
theorem PySem.W.Fast.tw3742972498316328490 : True := trivial
theorem PySem.W.Fast.tw943809062571726224 : True := trivial
theorem PySem.W.Fast.tw13524624493669909513 : True := trivial
theorem PySem.W.Fast.tw5346150094980553246 : True := trivial
theorem PySem.W.Fast.tw5963995437835587140 : True := trivial
theorem PySem.W.Fast.tw5976668473457560915 : True := trivial
theorem PySem.W.Fast.tw6848413144050013648 : True := trivial
theorem PySem.W.Fast.tw14828528764679392101 : True := trivial
theorem PySem.W.Fast.tw122684345713468072 : True := trivial
theorem PySem.W.Fast.tw8370635402599647072 : True := trivial
theorem PySem.W.Fast.tw10073109852442704966 : True := trivial
theorem PySem.W.Fast.tw5477116792499352579 : True := trivial
theorem PySem.W.Fast.tw16110147984514018729 : True := trivial
theorem PySem.W.Fast.tw2519492309130453891 : True := trivial
theorem PySem.W.Fast.tw14911784938621684558 : True := trivial
theorem PySem.W.Fast.tw8365172836047319569 : True := trivial
theorem PySem.W.Fast.tw15575843689294226228 : True := trivial
theorem PySem.W.Fast.tw8892452184883677946 : True := trivial
theorem PySem.W.Fast.tw13656722781887559171 : True := trivial
open PySem PySem.W PyProof.Rows
set_option maxRecDepth 100000 in
set_option maxHeartbeats 0 in
theorem PySem.Challenge.cw_rightname_k22_books_written_holds : PySem.Challenge.rw_rightname_k22_books_written.Holds := by
  w_on; o_law; k_head; (case hw => w_witness2)
  k_fill
  refine L2.walk_ofK (l := PySem.Challenge.rw_rightname_k22_books_written) (n := 63) (k := 7) (x := "_law_script") (CX := L2.CX0) (sp := My.spLaw) rfl (by decide) rfl ⟨rfl, by decide, by decide⟩ (fun w h Y => PySem.W.kIn_of Y) ?F ?S ?C
  case F =>
    intro w mg fa h KX G hmg
    refine' My.all_mk KX G hmg ?pa0 ?pl0 ?pc0 ?pk0 ?pa1 ?pl1 ?pc1 ?pk1 ?pa2 ?pl2 ?pc2 ?pk2 ?pa3 ?pl3 ?pc3 ?pk3 ?pa4 ?pl4 ?pc4 ?pk4 ?pa5 ?pl5 ?pc5 ?pk5 ?pa6 ?pl6 ?pc6 ?pk6 ?pa7 ?pl7 ?pc7 ?pk7 ?pa8 ?pl8 ?pc8 ?pk8 ?pa9 ?pl9 ?pc9 ?pk9 ?pa10 ?pl10 ?pc10 ?pk10 ?pa11 ?pl11 ?pc11 ?pk11 ?pa12 ?pl12 ?pc12 ?pk12 ?pa13 ?pl13 ?pc13 ?pk13 ?pa14 ?pl14 ?pc14 ?pk14 ?pa15 ?pl15 ?pc15 ?pk15 ?pa16 ?pl16 ?pc16 ?pk16 ?pa17 ?pl17 ?pc17 ?pk17 ?pa18 ?pl18 ?pc18 ?pk18 ?pa19 ?pl19 ?pc19 ?pk19 ?pa20 ?pl20 ?pc20 ?pk20 ?pa21 ?pl21 ?pc21 ?pk21 ?pcg_Entry ?ppg_Entry ?phd_Entry ?ppo_Entry ?psa_Entry ?pmk_Entry ?pin_Entry ?pfn_Entry ?pkc_Entry ?pkf_Entry ?plf_Entry ?pcf_Entry ?plt_Entry ?pdt_Entry ?pna_Entry_number ?pna_Entry_day ?pna_Entry_rank ?pna_Entry_word ?pna_Entry_under ?pna_Entry_sheet ?pna_Entry_base ?pna_Entry_described ?pcg_MOST_LETTERS ?pcr_MOST_LETTERS ?pcg_LAST_DAY ?pcr_LAST_DAY ?pcg_LAST_NUMBER ?pcr_LAST_NUMBER ?pcg_RANKS ?pcl_RANKS ?pcc_RANKS ?pcd_RANKS ?pcv_RANKS ?pcg_NoNumber ?pcg_NoDay ?pcg_NoRank ?pcg_NoWord ?pcg_NoBook ?pcg_NoEntry ?pcg_RightError ?pcg_NoText ?pxl_NoNumber ?pxn_NoNumber ?pxs_NoNumber ?pxi_NoNumber ?pxa_NoNumber ?pxb_NoNumber ?pxt_NoNumber ?pxj_NoNumber ?pqcs_NoNumber ?pqga_NoNumber ?pqgt_NoNumber ?pqca_NoNumber ?pqgg_NoNumber ?pqtk_NoNumber ?pqmo_NoNumber ?pqsb_NoNumber ?pi_NoNumber_NoBook ?pi_NoNumber_ValueError ?pi_NoNumber_NoEntry ?pi_NoNumber_NoNumber ?pi_NoNumber_NoText ?pe_NoNumber_RightError ?pxl_NoDay ?pxn_NoDay ?pxs_NoDay ?pxi_NoDay ?pxa_NoDay ?pxb_NoDay ?pxt_NoDay ?pxj_NoDay ?pqcs_NoDay ?pqga_NoDay ?pqgt_NoDay ?pqca_NoDay ?pqgg_NoDay ?pqtk_NoDay ?pqmo_NoDay ?pqsb_NoDay ?pi_NoDay_NoBook ?pi_NoDay_ValueError ?pi_NoDay_NoEntry ?pi_NoDay_NoNumber ?pi_NoDay_NoText ?pe_NoDay_RightError ?pxl_NoRank ?pxn_NoRank ?pxs_NoRank ?pxi_NoRank ?pxa_NoRank ?pxb_NoRank ?pxt_NoRank ?pxj_NoRank ?pqcs_NoRank ?pqga_NoRank ?pqgt_NoRank ?pqca_NoRank ?pqgg_NoRank ?pqtk_NoRank ?pqmo_NoRank ?pqsb_NoRank ?pi_NoRank_NoBook ?pi_NoRank_ValueError ?pi_NoRank_NoEntry ?pi_NoRank_NoNumber ?pi_NoRank_NoText ?pe_NoRank_RightError ?pxl_NoWord ?pxn_NoWord ?pxs_NoWord ?pxi_NoWord ?pxa_NoWord ?pxb_NoWord ?pxt_NoWord ?pxj_NoWord ?pqcs_NoWord ?pqga_NoWord ?pqgt_NoWord ?pqca_NoWord ?pqgg_NoWord ?pqtk_NoWord ?pqmo_NoWord ?pqsb_NoWord ?pi_NoWord_NoBook ?pi_NoWord_ValueError ?pi_NoWord_NoEntry ?pi_NoWord_NoNumber ?pi_NoWord_NoText ?pe_NoWord_RightError ?pxl_NoBook ?pxn_NoBook ?pxs_NoBook ?pxi_NoBook ?pxa_NoBook ?pxb_NoBook ?pxt_NoBook ?pxj_NoBook ?pqcs_NoBook ?pqga_NoBook ?pqgt_NoBook ?pqca_NoBook ?pqgg_NoBook ?pqtk_NoBook ?pqmo_NoBook ?pqsb_NoBook ?pi_NoBook_NoBook ?pi_NoBook_ValueError ?pi_NoBook_NoEntry ?pi_NoBook_NoNumber ?pi_NoBook_NoText ?pe_NoBook_RightError ?pxl_NoEntry ?pxn_NoEntry ?pxs_NoEntry ?pxi_NoEntry ?pxa_NoEntry ?pxb_NoEntry ?pxt_NoEntry ?pxj_NoEntry ?pqcs_NoEntry ?pqga_NoEntry ?pqgt_NoEntry ?pqca_NoEntry ?pqgg_NoEntry ?pqtk_NoEntry ?pqmo_NoEntry ?pqsb_NoEntry ?pi_NoEntry_NoBook ?pi_NoEntry_ValueError ?pi_NoEntry_NoEntry ?pi_NoEntry_NoNumber ?pi_NoEntry_NoText ?pe_NoEntry_RightError ?pwc_Entry ?pwg_Entry ?pwt_Entry ?pwm_Entry ?pws_Entry ?pwn_Entry_NoneType ?pwn_Entry_int ?pwn_Entry_str ?pwn_Entry_bool ?pwn_Entry_list ?pwn_Entry_tuple ?pwn_Entry_dict ?pz_len ?pz_isinstance ?pz_str ?pz_bool ?pz_all ?pz_range ?pz_int ?pz_ValueError ?pz_list ?pz_tuple ?pz_enumerate ?pz_zip
    (case pa0 => k_is)
    (case pl0 => k_is)
    (case pc0 => k_is)
    (case pk0 => k_is)
    (case pa1 => k_is)
    (case pl1 => k_is)
    (case pc1 => k_is)
    (case pk1 => k_is)
    (case pa2 => k_is)
    (case pl2 => k_is)
    (case pc2 => k_is)
    (case pk2 => k_is)
    (case pa3 => k_is)
    (case pl3 => k_is)
    (case pc3 => k_is)
    (case pk3 => k_is)
    (case pa4 => k_is)
    (case pl4 => k_is)
    (case pc4 => k_is)
    (case pk4 => k_is)
    (case pa5 => k_is)
    (case pl5 => k_is)
    (case pc5 => k_is)
    (case pk5 => k_is)
    (case pa6 => k_is)
    (case pl6 => k_is)
    (case pc6 => k_is)
    (case pk6 => k_is)
    (case pa7 => k_is)
    (case pl7 => k_is)
    (case pc7 => k_is)
    (case pk7 => k_is)
    (case pa8 => k_is)
    (case pl8 => k_is)
    (case pc8 => k_is)
    (case pk8 => k_is)
    (case pa9 => k_is)
    (case pl9 => k_is)
    (case pc9 => k_is)
    (case pk9 => k_is)
    (case pa10 => k_is)
    (case pl10 => k_is)
    (case pc10 => k_is)
    (case pk10 => k_is)
    (case pa11 => k_is)
    (case pl11 => k_is)
    (case pc11 => k_is)
    (case pk11 => k_is)
    (case pa12 => k_is)
    (case pl12 => k_is)
    (case pc12 => k_is)
    (case pk12 => k_is)
    (case pa13 => k_is)
    (case pl13 => k_is)
    (case pc13 => k_is)
    (case pk13 => k_is)
    (case pa14 => k_is)
    (case pl14 => k_is)
    (case pc14 => k_is)
    (case pk14 => k_is)
    (case pa15 => k_is)
    (case pl15 => k_is)
    (case pc15 => k_is)
    (case pk15 => k_is)
    (case pa16 => k_is)
    (case pl16 => k_is)
    (case pc16 => k_is)
    (case pk16 => k_is)
    (case pa17 => k_is)
    (case pl17 => k_is)
    (case pc17 => k_is)
    (case pk17 => k_is)
    (case pa18 => k_is)
    (case pl18 => k_is)
    (case pc18 => k_is)
    (case pk18 => k_is)
    (case pa19 => k_is)
    (case pl19 => k_is)
    (case pc19 => k_is)
    (case pk19 => k_is)
    (case pa20 => k_is)
    (case pl20 => k_is)
    (case pc20 => k_is)
    (case pk20 => k_is)
    (case pa21 => k_is)
    (case pl21 => k_is)
    (case pc21 => k_is)
    (case pk21 => k_is)
    (case pcg_Entry => k_is)
    (case ppg_Entry => k_is)
    (case phd_Entry => k_is)
    (case ppo_Entry => k_is)
    (case psa_Entry => k_is)
    (case pmk_Entry => k_is)
    (case pin_Entry => k_is)
    (case pfn_Entry => k_is)
    (case pkc_Entry => k_is)
    (case pkf_Entry => k_is)
    (case plf_Entry => k_is)
    (case pcf_Entry => k_is)
    (case plt_Entry => k_is)
    (case pdt_Entry => exact rfl)
    (case pna_Entry_number => k_is)
    (case pna_Entry_day => k_is)
    (case pna_Entry_rank => k_is)
    (case pna_Entry_word => k_is)
    (case pna_Entry_under => k_is)
    (case pna_Entry_sheet => k_is)
    (case pna_Entry_base => k_is)
    (case pna_Entry_described => k_is)
    (case pcg_MOST_LETTERS => k_is)
    (case pcr_MOST_LETTERS => first | exact L2.rel_int | exact L2.rel_str | exact rfl)
    (case pcg_LAST_DAY => k_is)
    (case pcr_LAST_DAY => first | exact L2.rel_int | exact L2.rel_str | exact rfl)
    (case pcg_LAST_NUMBER => k_is)
    (case pcr_LAST_NUMBER => first | exact L2.rel_int | exact L2.rel_str | exact rfl)
    (case pcg_RANKS => k_is)
    (case pcl_RANKS => k_is)
    (case pcc_RANKS => exact rfl)
    (case pcd_RANKS => exact rfl)
    (case pcv_RANKS => exact (.cons ⟨_, rfl⟩ (.cons ⟨_, rfl⟩ (.cons ⟨_, rfl⟩ .nil))))
    (case pcg_NoNumber => k_is)
    (case pcg_NoDay => k_is)
    (case pcg_NoRank => k_is)
    (case pcg_NoWord => k_is)
    (case pcg_NoBook => k_is)
    (case pcg_NoEntry => k_is)
    (case pcg_RightError => k_is)
    (case pcg_NoText => k_is)
    (case pxl_NoNumber => k_is)
    (case pxn_NoNumber => k_is)
    (case pxs_NoNumber => kernel_rfl)
    (case pxi_NoNumber => kernel_rfl)
    (case pxa_NoNumber => k_is)
    (case pxb_NoNumber => k_is)
    (case pxt_NoNumber => kernel_rfl)
    (case pxj_NoNumber => kernel_rfl)
    (case pqcs_NoNumber => kernel_rfl)
    (case pqga_NoNumber => k_is)
    (case pqgt_NoNumber => k_is)
    (case pqca_NoNumber => k_is)
    (case pqgg_NoNumber => k_is)
    (case pqtk_NoNumber => k_is)
    (case pqmo_NoNumber => k_is)
    (case pqsb_NoNumber => k_is)
    (case pi_NoNumber_NoBook => kernel_rfl)
    (case pi_NoNumber_ValueError => kernel_rfl)
    (case pi_NoNumber_NoEntry => kernel_rfl)
    (case pi_NoNumber_NoNumber => kernel_rfl)
    (case pi_NoNumber_NoText => kernel_rfl)
    (case pe_NoNumber_RightError => kernel_rfl)
    (case pxl_NoDay => k_is)
    (case pxn_NoDay => k_is)
    (case pxs_NoDay => kernel_rfl)
    (case pxi_NoDay => kernel_rfl)
    (case pxa_NoDay => k_is)
    (case pxb_NoDay => k_is)
    (case pxt_NoDay => kernel_rfl)
    (case pxj_NoDay => kernel_rfl)
    (case pqcs_NoDay => kernel_rfl)
    (case pqga_NoDay => k_is)
    (case pqgt_NoDay => k_is)
    (case pqca_NoDay => k_is)
    (case pqgg_NoDay => k_is)
    (case pqtk_NoDay => k_is)
    (case pqmo_NoDay => k_is)
    (case pqsb_NoDay => k_is)
    (case pi_NoDay_NoBook => kernel_rfl)
    (case pi_NoDay_ValueError => kernel_rfl)
    (case pi_NoDay_NoEntry => kernel_rfl)
    (case pi_NoDay_NoNumber => kernel_rfl)
    (case pi_NoDay_NoText => kernel_rfl)
    (case pe_NoDay_RightError => kernel_rfl)
    (case pxl_NoRank => k_is)
    (case pxn_NoRank => k_is)
    (case pxs_NoRank => kernel_rfl)
    (case pxi_NoRank => kernel_rfl)
    (case pxa_NoRank => k_is)
    (case pxb_NoRank => k_is)
    (case pxt_NoRank => kernel_rfl)
    (case pxj_NoRank => kernel_rfl)
    (case pqcs_NoRank => kernel_rfl)
    (case pqga_NoRank => k_is)
    (case pqgt_NoRank => k_is)
    (case pqca_NoRank => k_is)
    (case pqgg_NoRank => k_is)
    (case pqtk_NoRank => k_is)
    (case pqmo_NoRank => k_is)
    (case pqsb_NoRank => k_is)
    (case pi_NoRank_NoBook => kernel_rfl)
    (case pi_NoRank_ValueError => kernel_rfl)
    (case pi_NoRank_NoEntry => kernel_rfl)
    (case pi_NoRank_NoNumber => kernel_rfl)
    (case pi_NoRank_NoText => kernel_rfl)
    (case pe_NoRank_RightError => kernel_rfl)
    (case pxl_NoWord => k_is)
    (case pxn_NoWord => k_is)
    (case pxs_NoWord => kernel_rfl)
    (case pxi_NoWord => kernel_rfl)
    (case pxa_NoWord => k_is)
    (case pxb_NoWord => k_is)
    (case pxt_NoWord => kernel_rfl)
    (case pxj_NoWord => kernel_rfl)
    (case pqcs_NoWord => kernel_rfl)
    (case pqga_NoWord => k_is)
    (case pqgt_NoWord => k_is)
    (case pqca_NoWord => k_is)
    (case pqgg_NoWord => k_is)
    (case pqtk_NoWord => k_is)
    (case pqmo_NoWord => k_is)
    (case pqsb_NoWord => k_is)
    (case pi_NoWord_NoBook => kernel_rfl)
    (case pi_NoWord_ValueError => kernel_rfl)
    (case pi_NoWord_NoEntry => kernel_rfl)
    (case pi_NoWord_NoNumber => kernel_rfl)
    (case pi_NoWord_NoText => kernel_rfl)
    (case pe_NoWord_RightError => kernel_rfl)
    (case pxl_NoBook => k_is)
    (case pxn_NoBook => k_is)
    (case pxs_NoBook => kernel_rfl)
    (case pxi_NoBook => kernel_rfl)
    (case pxa_NoBook => k_is)
    (case pxb_NoBook => k_is)
    (case pxt_NoBook => kernel_rfl)
    (case pxj_NoBook => kernel_rfl)
    (case pqcs_NoBook => kernel_rfl)
    (case pqga_NoBook => k_is)
    (case pqgt_NoBook => k_is)
    (case pqca_NoBook => k_is)
    (case pqgg_NoBook => k_is)
    (case pqtk_NoBook => k_is)
    (case pqmo_NoBook => k_is)
    (case pqsb_NoBook => k_is)
    (case pi_NoBook_NoBook => kernel_rfl)
    (case pi_NoBook_ValueError => kernel_rfl)
    (case pi_NoBook_NoEntry => kernel_rfl)
    (case pi_NoBook_NoNumber => kernel_rfl)
    (case pi_NoBook_NoText => kernel_rfl)
    (case pe_NoBook_RightError => kernel_rfl)
    (case pxl_NoEntry => k_is)
    (case pxn_NoEntry => k_is)
    (case pxs_NoEntry => kernel_rfl)
    (case pxi_NoEntry => kernel_rfl)
    (case pxa_NoEntry => k_is)
    (case pxb_NoEntry => k_is)
    (case pxt_NoEntry => kernel_rfl)
    (case pxj_NoEntry => kernel_rfl)
    (case pqcs_NoEntry => kernel_rfl)
    (case pqga_NoEntry => k_is)
    (case pqgt_NoEntry => k_is)
    (case pqca_NoEntry => k_is)
    (case pqgg_NoEntry => k_is)
    (case pqtk_NoEntry => k_is)
    (case pqmo_NoEntry => k_is)
    (case pqsb_NoEntry => k_is)
    (case pi_NoEntry_NoBook => kernel_rfl)
    (case pi_NoEntry_ValueError => kernel_rfl)
    (case pi_NoEntry_NoEntry => kernel_rfl)
    (case pi_NoEntry_NoNumber => kernel_rfl)
    (case pi_NoEntry_NoText => kernel_rfl)
    (case pe_NoEntry_RightError => kernel_rfl)
    (case pwc_Entry => k_is)
    (case pwg_Entry => k_is)
    (case pwt_Entry => k_is)
    (case pwm_Entry => k_is)
    (case pws_Entry => kernel_rfl)
    (case pwn_Entry_NoneType => kernel_rfl)
    (case pwn_Entry_int => kernel_rfl)
    (case pwn_Entry_str => kernel_rfl)
    (case pwn_Entry_bool => kernel_rfl)
    (case pwn_Entry_list => kernel_rfl)
    (case pwn_Entry_tuple => kernel_rfl)
    (case pwn_Entry_dict => kernel_rfl)
    (case pz_len => k_is)
    (case pz_isinstance => k_is)
    (case pz_str => k_is)
    (case pz_bool => k_is)
    (case pz_all => k_is)
    (case pz_range => k_is)
    (case pz_int => k_is)
    (case pz_ValueError => k_is)
    (case pz_list => k_is)
    (case pz_tuple => k_is)
    (case pz_enumerate => k_is)
    (case pz_zip => k_is)
  case S => exact fun K H a ns hl hO hS => ⟨a, ns, rfl, hS, hl, fun _ => rfl⟩
  case C => exact fun _ _ _ _ z => z
#print axioms PySem.Challenge.cw_rightname_k22_books_written_holds

