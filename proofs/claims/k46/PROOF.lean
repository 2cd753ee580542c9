import PyProof.Rows.All
import Wide.All
import OpenK.AllK
import Wide.FinOn
import Lean
import PyProof.EqAt
import PyProof.EqKinds
import PyProof.TupleCall
import PySem.Challenge.RW_rightname_k46_taken
set_option Elab.async false
set_option linter.all false
set_option maxRecDepth 100000
/-! THE HAND LAYER, for ints, bools, texts, own classes, LISTS and tuples (index, slices, in, append, pop ..), calls, loops. Paste it whole ahead of your own text; what your proof does not reach may be deleted. -/
namespace L2
open PySem PySem.Spec PyProof.Rows

/-- a key: an int or a str -/
abbrev Key := Sum Int Str
def keyIs : Key → Value → Bool
  | .inl k, v => Value.isInt k v
  | .inr x, v => Value.isStrOf x v
def keyH (w : World) : Key → Int
  | .inl k => hashInt k
  | .inr x => hashStr w x
theorem keyIs_shape : ∀ {k : Key} {v : Value}, keyIs k v = true → (∃ i t, k = Sum.inl i ∧ v = Value.int i t) ∨ (∃ x t, k = Sum.inr x ∧ v = Value.str x t)
  | .inl i, v, h => by
    obtain ⟨t, e⟩ := Value.isInt_shape (k := i) (v := v) h
    exact .inl ⟨i, t, rfl, e⟩
  | .inr x, v, h => by
    obtain ⟨t, e⟩ := Value.isStrOf_shape (x := x) (v := v) h
    exact .inr ⟨x, t, rfl, e⟩
theorem keyIs_int (i : Int) (t : Tok) : keyIs (.inl i) (.int i t) = true := by simp [keyIs, Value.isInt]
theorem keyIs_str (x : Str) (t : Tok) : keyIs (.inr x) (.str x t) = true := by simp [keyIs, Value.isStrOf]
theorem key_ll (a b : Int) : decide ((Sum.inl a : Key) = Sum.inl b) = (a == b) := by
  by_cases e : a = b
  · subst e; simp
  · have h : ¬ (Sum.inl a : Key) = Sum.inl b := fun q => e (Sum.inl.inj q)
    rw [decide_eq_false h]
    exact (beq_eq_false_iff_ne.mpr e).symm
theorem key_rr (a b : Str) : decide ((Sum.inr a : Key) = Sum.inr b) = decide (a = b) := by
  by_cases e : a = b
  · subst e; simp
  · have h : ¬ (Sum.inr a : Key) = Sum.inr b := fun q => e (Sum.inr.inj q)
    rw [decide_eq_false h, decide_eq_false e]
theorem key_lr (a : Int) (b : Str) : decide ((Sum.inl a : Key) = Sum.inr b) = false := decide_eq_false (fun q => nomatch q)
theorem key_rl (a : Str) (b : Int) : decide ((Sum.inr a : Key) = Sum.inl b) = false := decide_eq_false (fun q => nomatch q)

def mixKind (prog : Program) (w : World) : PySem.KeyKind prog w Key where
  is := keyIs
  hash := keyH w
  inj := fun v a b ha hb => by
    rcases keyIs_shape ha with ⟨i, t, rfl, rfl⟩ | ⟨x, t, rfl, rfl⟩
    · rcases keyIs_shape hb with ⟨j, u, rfl, e⟩ | ⟨y, u, rfl, e⟩
      · injection e with e1 _; rw [e1]
      · exact nomatch e
    · rcases keyIs_shape hb with ⟨j, u, rfl, e⟩ | ⟨y, u, rfl, e⟩
      · exact nomatch e
      · injection e with e1 _; rw [e1]
  byValue := fun k v h => by
    rcases keyIs_shape h with ⟨i, t, rfl, rfl⟩ | ⟨x, t, rfl, rfl⟩ <;> rfl
  pyHash := fun hv h => by
    rcases keyIs_shape hv with ⟨i, t, rfl, rfl⟩ | ⟨x, t, rfl, rfl⟩
    · exact wpAny_pyHash_int h
    · exact wpAny_pyHash_str h
  eqBool := fun hu hv h => by
    rcases keyIs_shape hu with ⟨i, t, rfl, rfl⟩ | ⟨x, t, rfl, rfl⟩
    · rcases keyIs_shape hv with ⟨j, u, rfl, rfl⟩ | ⟨y, u, rfl, rfl⟩
      · rw [key_ll] at h; exact wpAny_eqBool_int h
      · rw [key_lr] at h; exact SeqAt.EqAt.int_str i t y u _ _ _ _ h
    · rcases keyIs_shape hv with ⟨j, u, rfl, rfl⟩ | ⟨y, u, rfl, rfl⟩
      · rw [key_rl] at h; exact SeqAt.EqAt.str_int x t j u _ _ _ _ h
      · rw [key_rr] at h; exact wpAny_eqBool_str h
  «strs» := fun k x t v h => by
    rcases keyIs_shape h with ⟨i, u, rfl, e⟩ | ⟨y, u, rfl, e⟩
    · exact nomatch e
    · injection e with e1 _
      subst e1
      cases v <;> rfl

theorem mixKind_int (prog : Program) (w : World) (i : Int) (t : Tok) : (mixKind prog w).is (.inl i) (.int i t) = true := keyIs_int i t
theorem mixKind_str (prog : Program) (w : World) (x : Str) (t : Tok) : (mixKind prog w).is (.inr x) (.str x t) = true := keyIs_str x t
end L2

namespace L2
open PySem PySem.Spec PyProof.Rows

/-- a value, without the heap -/
inductive V where
  | non | bl (b : Bool) | int (i : Int) | str (x : Str) | byt (b : Array UInt8) | flt (b : UInt64) | ref (a : Addr) | ty (n : String)
  deriving DecidableEq

def RelV : V → Value → Prop
  | .non, u => u = Value.none
  | .bl b, u => u = Value.bool b
  | .int i, u => ∃ t, u = Value.int i t
  | .str x, u => ∃ t, u = Value.str x t
  | .byt b, u => ∃ t, u = Value.bytes b t
  | .flt b, u => ∃ t, u = Value.float b t
  | .ref a, u => u = Value.ref a
  | .ty n, u => u = Value.type n

abbrev Vals : List V → List Value → Prop := Paired RelV
theorem Vals.length {xs : List V} {us : List Value} (r : Vals xs us) : xs.length = us.length := Paired.length r
theorem Vals.get : ∀ {xs : List V} {us : List Value} {i : Nat} {x : V}, Vals xs us → xs[i]? = some x → ∃ u, us[i]? = some u ∧ RelV x u
  | _, _, _, _, .nil, e => by simp at e
  | _, _, 0, _, .cons r _, e => by simp at e; subst e; exact ⟨_, rfl, r⟩
  | _, _, i + 1, x, .cons _ t, e => by
    obtain ⟨u, h1, h2⟩ := Vals.get (i := i) (x := x) t (by simpa using e)
    exact ⟨u, by simpa using h1, h2⟩
theorem Vals.set {x : V} {u : Value} (r : RelV x u) : ∀ {xs : List V} {us : List Value} (i : Nat), Vals xs us → Vals (xs.set i x) (us.set i u)
  | _, _, _, .nil => .nil
  | _, _, 0, .cons _ t => .cons r t
  | _, _, i + 1, .cons q t => .cons q (Vals.set r i t)
theorem Vals.append : ∀ {xs ys : List V} {us ws : List Value}, Vals xs us → Vals ys ws → Vals (xs ++ ys) (us ++ ws)
  | _, _, _, _, .nil, s => s
  | _, _, _, _, .cons r t, s => .cons r (Vals.append t s)
def RelO : Option V → Option Value → Prop
  | some v, some u => RelV v u
  | none, none => True
  | _, _ => False
def KV {κ : Type} : List (κ × V) → List (κ × Value) → Prop := Paired fun (p : κ × V) (q : κ × Value) => p.1 = q.1 ∧ RelV p.2 q.2

/-- a key of a dict (00_mix): an int or a text -/
def kV : Key → V
  | .inl i => .int i
  | .inr x => .str x

/-- what stands at a tracked address -/
inductive HO where
  /-- a list -/
  | lst (xs : List V)
  /-- a tuple (never changes) -/
  | tup (xs : List V)
  /-- a dict whose keys are ints and texts; one whose keys are tuples of ints and texts (the empty one is both) -/
  | dK (kvs : List (Key × V)) | dT (kvs : List (List Key × V))
  /-- a set of ints: its members, its size -/
  | set (S : Int → Bool) (n : Nat)
  /-- an instance of the class at C, its dict at dx, its attributes -/
  | ins (C dx : Addr) (fs : List (Str × V))
  /-- the dict of the instance at x -/
  | own (x : Addr)
  /-- the dict of an exception -/
  | xd (fs : List (Str × V))
  /-- a bound method, f of x -/
  | met (f x : Addr)
  /-- a range object lo, lo + 1, .. below hi -/
  | rng (lo hi : Int)
  /-- a thing that is known to the object (the script; a dict while a loop walks it): read, never written while it is so -/
  | frz (o : Obj) (u : HO)
  /-- a code object's table -/
  | tbl (ps : Array Value)
  /-- any other thing, by what is true of its one object (a def of one's own: SetO a S n := HO.ext fun h => ..) -/
  | ext (φ : Heap → Prop)

abbrev Hp := Addr → Option HO
def upd (H : Hp) (a : Addr) (o : HO) : Hp := fun b => if b = a then some o else H b
theorem upd_same {H : Hp} {a : Addr} {o : HO} : upd H a o a = some o := by unfold upd; rw [if_pos rfl]
theorem upd_ne {H : Hp} {a b : Addr} {o : HO} (h : b ≠ a) : upd H a o b = H b := by unfold upd; rw [if_neg h]
theorem upd_upd {H : Hp} {a : Addr} {o u : HO} : upd (upd H a o) a u = upd H a u := by
  funext b; unfold upd; split <;> rfl
/-- two objects of different content stand apart -/
theorem ne_of {H : Hp} {a b : Addr} {o u : HO} (h : H a = some o) (h' : H b = some u) (d : o ≠ u) : a ≠ b := by
  intro e; subst e; rw [h] at h'; exact d (Option.some.inj h')
theorem ne_of_none {H : Hp} {a b : Addr} {o : HO} (h : H a = some o) (h' : H b = none) : a ≠ b := by
  intro e; subst e; rw [h] at h'; cases h'

section
variable (P : Program) (w : World)
def ObjOk (H : Hp) (h : Heap) (a : Addr) : HO → Prop
  | .lst xs => xs.length ≤ sizeLine ∧ ∃ (its : List Value) (n : Nat), Vals xs its ∧ h.get? a = some { cls := .type "list", data := .seq its.toArray n }
  | .tup xs => xs.length ≤ sizeLine ∧ ∃ its : List Value, Vals xs its ∧ IsTup h a its.toArray
  | .dK kvs => kvs.length ≤ sizeLine ∧ (a == sysModules) = false ∧ ∃ vs, KV kvs vs ∧ h.DictOf (mixKind P w) a vs
  | .dT kvs => kvs.length ≤ sizeLine ∧ (a == sysModules) = false ∧ ∃ xs : List (List Key × Addr × Value),
      Paired (fun (p : List Key × V) (q : List Key × Addr × Value) => p.1 = q.1 ∧ H q.2.1 = some (.tup (p.1.map kV)) ∧ RelV p.2 q.2.2) kvs xs ∧
      ∃ o es ep, h.get? a = some o ∧ o.ExactDict ∧ o.data = .dict es ep ∧ es.toList = xs.map (entryOfKey (tupleKind (mixKind P w))) ∧ (xs.map (·.1)).Nodup
  | .set S n => h.SetOf (intKind P w) a S n
  | .ins C dx fs => H dx = some (.own a) ∧ fs.length ≤ 1000 ∧ dx ≠ a ∧ h.get? a = some (PySem.W.instObj C dx) ∧
      ∃ mA, h.Ns1 dx mA ∧ (∀ f, RelO (fs.lookup f) (mA f)) ∧ PySem.Within mA (fs.map (·.1))
  | .own _ => ∃ o, h.get? a = some o
  | .xd fs => ∃ mA, h.Ns1 a mA ∧ ∀ f, RelO (fs.lookup f) (mA f)
  | .rng lo hi => ∃ t u v, h.get? a = some { cls := .type "range", data := .fields #[.int lo t, .int hi u, .int 1 v] }
  | .frz o u => h.get? a = some o ∧ ObjOk H h a u
  | .tbl ps => h.get? a = some { cls := .none, data := .fields ps }
  | .met f x => h.get? a = some (PySem.W.methodObj (.ref f) (.ref x))
  | .ext φ => φ h ∧ (∃ o, h.get? a = some o) ∧ ∀ h1 h2 : Heap, φ h1 → (∀ o, h1.get? a = some o → h2.get? a = some o) → φ h2
/-- the abstract heap is held -/
def HOk (H : Hp) (h : Heap) : Prop := ∀ a o, H a = some o → ObjOk P w H h a o
end

section
variable {P : Program} {w : World} {H H' : Hp} {h h' : Heap} {a : Addr} {o : HO}
theorem ObjOk.lt (x : ObjOk P w H h a o) : a < h.objs.size := by
  cases o with
  | lst xs => obtain ⟨_, _, _, _, e⟩ := x; exact Heap.lt_size e
  | tup xs => obtain ⟨_, _, _, p⟩ := x; exact p.lt
  | dK kvs => obtain ⟨_, _, _, _, o, _, _, e, _⟩ := x; exact Heap.lt_size e
  | dT kvs => obtain ⟨_, _, _, _, o, _, _, e, _⟩ := x; exact Heap.lt_size e
  | set S n => obtain ⟨o, _, _, _, e, _⟩ := x; exact Heap.lt_size e
  | ins C dx fs => obtain ⟨_, _, _, e, _⟩ := x; exact Heap.lt_size e
  | own y => obtain ⟨_, e⟩ := x; exact Heap.lt_size e
  | xd fs => obtain ⟨_, ⟨_, _, _, e, _⟩, _⟩ := x; exact Heap.lt_size e
  | rng lo hi => obtain ⟨_, _, _, e⟩ := x; exact Heap.lt_size e
  | frz ob u => obtain ⟨e, _⟩ := x; exact Heap.lt_size e
  | tbl ps => exact Heap.lt_size (show h.get? a = some _ from x)
  | met f y => exact Heap.lt_size (show h.get? a = some _ from x)
  | ext φ => obtain ⟨_, ⟨_, e⟩, _⟩ := x; exact Heap.lt_size e
theorem Paired.mapP {α β : Type} {F G : α → β → Prop} : ∀ {l₁ : List α} {l₂ : List β}, Paired F l₁ l₂ → (∀ a b, F a b → G a b) → Paired G l₁ l₂
  | _, _, .nil, _ => .nil
  | _, _, .cons r t, f => .cons (f _ _ r) (Paired.mapP t f)
/-- what an object's description leans on: its own object, its own dict, the tuples -/
theorem ObjOk.stay (x : ObjOk P w H h a o) (k : ∀ b u, (b = a ∨ H b = some (.own a)) → h.get? b = some u → h'.get? b = some u)
    (ho : ∀ b, H b = some (.own a) → H' b = some (.own a)) (ht : ∀ b xs, H b = some (.tup xs) → H' b = some (.tup xs)) : ObjOk P w H' h' a o := by
  induction o with
  | lst xs => obtain ⟨z, its, n, r, e⟩ := x; exact ⟨z, its, n, r, k _ _ (.inl rfl) e⟩
  | tup xs => obtain ⟨z, its, r, ob, e, c⟩ := x; exact ⟨z, its, r, ob, k _ _ (.inl rfl) e, c⟩
  | dK kvs => obtain ⟨z, y, vs, r, ob, es, ep, e, c⟩ := x; exact ⟨z, y, vs, r, ob, es, ep, k _ _ (.inl rfl) e, c⟩
  | dT kvs =>
    obtain ⟨z, y, xs, r, ob, es, ep, e, c⟩ := x
    exact ⟨z, y, xs, Paired.mapP r fun p q z => ⟨z.1, ht _ _ z.2.1, z.2.2⟩, ob, es, ep, k _ _ (.inl rfl) e, c⟩
  | set S n => obtain ⟨ob, es, ep, t, e, c⟩ := x; exact ⟨ob, es, ep, t, k _ _ (.inl rfl) e, c⟩
  | ins C dx fs =>
    obtain ⟨d, z, ne, e, mA, ⟨od, es, ep, e2, c⟩, r⟩ := x
    exact ⟨ho _ d, z, ne, k _ _ (.inl rfl) e, mA, ⟨od, es, ep, k _ _ (.inr d) e2, c⟩, r⟩
  | own y => obtain ⟨ob, e⟩ := x; exact ⟨ob, k _ _ (.inl rfl) e⟩
  | xd fs => obtain ⟨mA, ⟨od, es, ep, e, c⟩, r⟩ := x; exact ⟨mA, ⟨od, es, ep, k _ _ (.inl rfl) e, c⟩, r⟩
  | rng lo hi => obtain ⟨t, u, v, e⟩ := x; exact ⟨t, u, v, k _ _ (.inl rfl) e⟩
  | frz ob u ih => obtain ⟨e, q⟩ := x; exact ⟨k _ _ (.inl rfl) e, ih q⟩
  | tbl ps =>
    have e : h.get? a = some { cls := .none, data := .fields ps } := x
    show h'.get? a = some { cls := .none, data := .fields ps }
    exact k a _ (.inl rfl) e
  | met f y =>
    have e : h.get? a = some (PySem.W.methodObj (.ref f) (.ref y)) := x
    show h'.get? a = some (PySem.W.methodObj (.ref f) (.ref y))
    exact k a _ (.inl rfl) e
  | ext φ => obtain ⟨p, ⟨o, e⟩, st⟩ := x; exact ⟨st _ _ p fun o q => k _ _ (.inl rfl) q, ⟨o, k _ _ (.inl rfl) e⟩, st⟩
theorem HOk.lt (x : HOk P w H h) (e : H a = some o) : a < h.objs.size := (x a o e).lt
theorem HOk.fresh (x : HOk P w H h) (e : h.objs.size ≤ a) : H a = none := by
  cases q : H a with
  | none => rfl
  | some u => exact absurd (Nat.lt_of_lt_of_le (x.lt q) e) (Nat.lt_irrefl _)
/-- every object of the heap is kept -/
theorem HOk.kept (x : HOk P w H h) (k : ∀ b u, h.get? b = some u → h'.get? b = some u) : HOk P w H h' := fun a o e =>
  (x a o e).stay (fun b u _ q => k b u q) (fun _ q => q) fun _ _ q => q
/-- a new object is laid and tracked -/
theorem HOk.laid (x : HOk P w H h) (k : ∀ b u, h.get? b = some u → h'.get? b = some u) (hp : h.objs.size ≤ a) (new : ObjOk P w (upd H a o) h' a o) : HOk P w (upd H a o) h' := fun b u e => by
  have hn := x.fresh hp
  by_cases hb : b = a
  · subst hb; rw [upd_same] at e; cases e; exact new
  · rw [upd_ne hb] at e
    exact (x b u e).stay (fun c v _ q => k c v q) (fun c q => by rw [upd_ne (ne_of_none q hn)]; exact q) fun c xs q => by rw [upd_ne (ne_of_none q hn)]; exact q
end

/-- what may be read as u: it is u, or a known u -/
def Rd (H : Hp) (a : Addr) (u : HO) : Prop := H a = some u ∨ ∃ o, H a = some (.frz o u)
theorem Rd.ok {P : Program} {w : World} {H : Hp} {h : Heap} {a : Addr} {u : HO} (r : Rd H a u) (x : HOk P w H h) : ObjOk P w H h a u := by
  rcases r with r | ⟨o, r⟩
  · exact x a u r
  · obtain ⟨_, q⟩ := x a _ r
    exact q
/-- what may be written -/
def Mut : Option HO → Prop
  | some (.lst _) => True
  | some (.dK _) => True
  | some (.dT _) => True
  | some (.set _ _) => True
  | some (.ins _ _ _) => True
  | some (.ext _) => True
  | _ => False
section
variable {P : Program} {w : World} {H : Hp} {h h' : Heap} {x e : Addr} {o' : HO}
/-- the object at e is changed: x itself, or the dict of the instance x -/
theorem HOk.write (ok : HOk P w H h) (mu : Mut (H x)) (he : e = x ∨ H e = some (.own x)) (k : ∀ b u, b ≠ e → h.get? b = some u → h'.get? b = some u) (heo : ∃ u, h'.get? e = some u)
    (new : ObjOk P w (upd H x o') h' x o') : HOk P w (upd H x o') h' := fun b u q => by
  have nown : ∀ c y, H c = some (.own y) → c ≠ x := fun c y r z => by subst z; rw [r] at mu; exact mu
  have ntup : ∀ c xs, H c = some (.tup xs) → c ≠ x := fun c xs r z => by subst z; rw [r] at mu; exact mu
  by_cases hb : b = x
  · subst hb; rw [upd_same] at q; cases q; exact new
  · rw [upd_ne hb] at q
    by_cases hbe : b = e
    · have q' : H b = some (.own x) := by
        rcases he with z | z
        · exact absurd (hbe.trans z) hb
        · rw [hbe]; exact z
      rw [q] at q'; cases q'
      obtain ⟨v, hv⟩ := heo
      exact ⟨v, by rw [hbe]; exact hv⟩
    · refine (ok b u q).stay (fun c v hc r => k c v ?_ r) (fun c r => by rw [upd_ne (nown c b r)]; exact r) fun c xs r => by rw [upd_ne (ntup c xs r)]; exact r
      rcases hc with rfl | hc
      · exact hbe
      · rintro rfl
        rcases he with z | z
        · exact nown c b hc z
        · rw [hc] at z; cases z; exact hb rfl
end

/-! ### kept unless tracked; of the frames at fs (the callers') the slots may change (an exception that passes writes there); of the records at ex (iterators) nothing is said -/
structure Un (fs ex : List Addr) (H H' : Hp) (h h' : Heap) : Prop where
  keep : ∀ b o, h.get? b = some o → H b = none → b ∉ fs → b ∉ ex → h'.get? b = some o
  slot : ∀ b o, h.get? b = some o → H b = none → b ∈ fs → b ∉ ex → ∃ sl, h'.get? b = some { o with slots := sl }
  free : ∀ b o, h.get? b = some o → H b = none → b ∉ ex → H' b = none
  there : ∀ b o, h.get? b = some o → b ∉ ex → ∃ o', h'.get? b = some o'
  tups : ∀ b xs, H b = some (.tup xs) → H' b = some (.tup xs)
  frzs : ∀ b o u, H b = some (.frz o u) → H' b = some (.frz o u)
  tbls : ∀ b ps, H b = some (.tbl ps) → ∃ more, H' b = some (.tbl (ps ++ more))
section
variable {fs fs' ex ex' : List Addr} {H H1 H2 : Hp} {h h1 h2 h' : Heap} {a x e : Addr} {o : HO}
theorem Un.any (u : Un fs ex H H1 h h1) {b : Addr} {ob : Obj} (q : h.get? b = some ob) (n : H b = none) (hx : b ∉ ex) : ∃ sl, h1.get? b = some { ob with slots := sl } := by
  by_cases hb : b ∈ fs
  · exact u.slot b ob q n hb hx
  · exact ⟨ob.slots, u.keep b ob q n hb hx⟩
theorem Un.trans (a : Un fs ex H H1 h h1) (b : Un fs ex H1 H2 h1 h2) : Un fs ex H H2 h h2 where
  keep := fun c ob q n hc hx => b.keep c ob (a.keep c ob q n hc hx) (a.free c ob q n hx) hc hx
  slot := fun c ob q n hc hx => by
    obtain ⟨sl, e1⟩ := a.slot c ob q n hc hx
    obtain ⟨sl', e2⟩ := b.slot c _ e1 (a.free c ob q n hx) hc hx
    exact ⟨sl', e2⟩
  free := fun c ob q n hx => by
    obtain ⟨o', e1⟩ := a.there c ob q hx
    exact b.free c o' e1 (a.free c ob q n hx) hx
  there := fun c ob q hx => by
    obtain ⟨o', e1⟩ := a.there c ob q hx
    exact b.there c o' e1 hx
  tups := fun c xs q => b.tups c xs (a.tups c xs q)
  frzs := fun c ob xs q => b.frzs c ob xs (a.frzs c ob xs q)
  tbls := fun c ps q => by
    obtain ⟨m1, e1⟩ := a.tbls c ps q
    obtain ⟨m2, e2⟩ := b.tbls c _ e1
    exact ⟨m1 ++ m2, by rw [e2, Array.append_assoc]⟩
theorem Un.kept (k : ∀ b u, h.get? b = some u → h'.get? b = some u) : Un fs ex H H h h' :=
  ⟨fun b ob q _ _ _ => k b ob q, fun b ob q _ _ _ => ⟨ob.slots, k b ob q⟩, fun _ _ _ n _ => n, fun b ob q _ => ⟨ob, k b ob q⟩, fun _ _ q => q, fun _ _ _ q => q, fun _ ps q => ⟨#[], by rw [q]; simp⟩⟩
theorem Un.refl : Un fs ex H H h h := Un.kept fun _ _ q => q
theorem Un.laid (k : ∀ b u, h.get? b = some u → h'.get? b = some u) (hp : h.objs.size ≤ a) (hn : H a = none) : Un fs ex H (upd H a o) h h' where
  keep := fun b u q _ _ _ => k b u q
  slot := fun b u q _ _ _ => ⟨u.slots, k b u q⟩
  free := fun b u q n _ => by rw [upd_ne (Nat.ne_of_lt (Nat.lt_of_lt_of_le (Heap.lt_size q) hp))]; exact n
  there := fun b u q _ => ⟨u, k b u q⟩
  tups := fun b xs q => by rw [upd_ne (ne_of_none q hn)]; exact q
  frzs := fun b u xs q => by rw [upd_ne (ne_of_none q hn)]; exact q
  tbls := fun b ps q => ⟨#[], by rw [upd_ne (ne_of_none q hn), q]; simp⟩
theorem Un.write (mu : Mut (H x)) (he : e = x ∨ H e = some (.own x)) (k : ∀ b u, b ≠ e → h.get? b = some u → h'.get? b = some u) (heo : ∃ u, h'.get? e = some u) : Un fs ex H (upd H x o) h h' := by
  have hx : ∀ b, H b = none → b ≠ x := fun b n z => by subst z; rw [n] at mu; exact mu
  have hb : ∀ b, H b = none → b ≠ e := fun b n z => by
    subst z
    rcases he with r | r
    · exact hx b n r
    · rw [n] at r; cases r
  have hm : ∀ b u, H b = some u → ¬ Mut (some u) → b ≠ x := fun b u q nm z => by subst z; rw [q] at mu; exact nm mu
  refine ⟨fun b u q n _ _ => k b u (hb b n) q, fun b u q n _ _ => ⟨u.slots, k b u (hb b n) q⟩, fun b u q n _ => by rw [upd_ne (hx b n)]; exact n, fun b u q _ => ?_,
    fun b xs q => by rw [upd_ne (hm b _ q fun z => z)]; exact q, fun b u xs q => by rw [upd_ne (hm b _ q fun z => z)]; exact q, fun b ps q => ⟨#[], by rw [upd_ne (hm b _ q fun z => z), q]; simp⟩⟩
  by_cases hbe : b = e
  · subst hbe; exact heo
  · exact ⟨u, k b u hbe q⟩
end

/-! ### the heap without what is tracked -/
def trk (h : Heap) (H : Hp) : List Addr := (List.range h.objs.size).filter fun a => (H a).isSome
def hidT (h : Heap) (H : Hp) : Heap := PySem.W.hideAll h (trk h H)
theorem hidT_size (h : Heap) (H : Hp) : (hidT h H).objs.size = h.objs.size := PySem.W.hideAll_size _ _
theorem hidT_get {h : Heap} {H : Hp} {b : Addr} {o : Obj} (e : h.get? b = some o) (n : H b = none) : (hidT h H).get? b = some o :=
  PySem.W.hideAll_get _ e fun hm => by
    have q : (H b).isSome = true := (List.mem_filter.mp hm).2
    rw [n] at q; simp at q
theorem of_hidT {h : Heap} {H : Hp} {b : Addr} {o : Obj} (e : (hidT h H).get? b = some o) : h.get? b = some o ∧ H b = none := by
  have e' : h.get? b = some o := PySem.W.of_hideAll (trk h H) e
  refine ⟨e', ?_⟩
  cases q : H b with
  | none => rfl
  | some x =>
    have hm : b ∈ trk h H := List.mem_filter.mpr ⟨List.mem_range.mpr (Heap.lt_size e'), by simp [q]⟩
    have z : (hidT h H).get? b = none := PySem.W.hideAll_none (trk h H) hm
    rw [z] at e; cases e

/-! ### OpenK's ledger, filled with every new object but one -/
def allNews (g h : Heap) (L : Addr) : List (Addr × Obj) := (List.range h.objs.size).filterMap fun a => if a = L ∨ (g.get? a).isSome = true then none else (h.get? a).map fun o => (a, o)
def rest (g h : Heap) (L d : Addr) : List (Addr × Obj) := (allNews g h L).filter fun p => decide (p.1 ≠ d)
end L2

namespace L2
open PySem PySem.Spec PyProof.Rows

/-- the module's facts, over the base: the heap at the law's entry without what is tracked there -/
structure Mod (K : PySem.W.Frag) (mg : Str → Option Value) (base : Heap) : Prop where
  kin : K.In base
  glob : base.Ns mainGlobals mg
  blt : ∃ mb, base.Ns builtinsNs mb ∧ ∀ x : Str, x ≠ "__name__" → mb x = bootBuiltins x
  nolimit : base.NoLimit

/- the context: a def's body (or a comprehension's block) running. base: fixed through the whole law; s₀, H₀: the entry; outer: the frames whose slots others may change (a def's callers); stack: all frames that run;
   ex: iterators that were made ahead of the entry and are walked here (a comprehension's); fn: the names whose cells were made at the entry (a def: all; a comprehension's block: its own); calm: not within an except suite; pn: pins that every state bears; xe: what is wanted of an exception that leaves the code -/
set_option genInjectivity false in
set_option genSizeOfSpec false in
set_option genSizeOf false in
structure Cx where
  prog : Program
  w : World
  K : PySem.W.Frag
  mg : Str → Option Value
  base : Heap
  A : Around
  N : List Str
  s₀ : Shared
  H₀ : Hp
  env : Env
  outer : List Env
  stack : List Env
  ex : List Addr
  fn : Str → Bool
  calm : Bool
  pn : List (Addr × Obj)
  xe : Value → Shared → Prop
/-- the callers' frames -/
def frs (l : List Env) : List Addr := l.filterMap (·.frame)
abbrev Cx.fs (X : Cx) : List Addr := frs X.outer

def Vis (sc : Scope) (x : Str) : Prop := sc.names.lookup x = some .local ∨ sc.names.lookup x = some .cell ∨ sc.names.lookup x = some .free
def Loc (sc : Scope) (x : Str) : Prop := sc.names.lookup x = some .local ∨ sc.names.lookup x = some .cell
def Look (env : Env) (h : Heap) (m : Str → Option Value) (x : Str) (u : Value) : Prop :=
  (env.kindOf x = some .local ∧ m x = some u) ∨ ((env.kindOf x = some .cell ∨ env.kindOf x = some .free) ∧ ∃ c, env.cells.lookup x = some c ∧ h.IsCell c (some u))

structure Cx.Ok (X : Cx) : Prop where
  mod : Mod X.K X.mg X.base
  kind : X.env.scope.kind = .function
  glob : X.env.globals = mainGlobals
  blt : X.env.builtins = builtinsNs
  above : X.s₀.heap.objs.size ≤ X.env.locals
  inj : ∀ x y c, X.env.cells.lookup x = some c → X.env.cells.lookup y = some c → x = y
  has : ∀ x, (X.env.kindOf x = some .cell ∨ X.env.kindOf x = some .free) → ∃ c, X.env.cells.lookup x = some c
  cab : ∀ x c, X.fn x = true → X.env.cells.lookup x = some c → X.s₀.heap.objs.size ≤ c
  hd : X.calm = true → X.A.handled = none
  frames : X.A.frames = some X.stack
  stk : X.stack = X.outer ∨ (X.stack = X.env :: X.outer ∧ X.env.frame = some X.env.locals)
  exf : ∀ b ∈ X.ex, b ≠ X.env.locals ∧ ∀ x c, X.env.cells.lookup x = some c → c ≠ b
  bs : ∀ b o, X.base.get? b = some o → X.s₀.heap.get? b = some o ∧ X.H₀ b = none
  bsz : X.base.objs.size ≤ X.s₀.heap.objs.size
  noex : ∀ b o, X.base.get? b = some o → b ∉ X.ex
  exfs : ∀ b ∈ X.ex, b ∉ X.fs
  funs : X.s₀.heap.FunFrames X.base X.outer
  frf : ∀ b ∈ X.fs, X.H₀ b = none

structure Inv (X : Cx) (pins : List (Addr × Obj)) (σ : List (Option V)) (H : Hp) (s : Shared) : Prop where
  ok : X.Ok
  os : s.os = X.s₀.os
  bare : AllBare s.gens
  base : Un X.fs X.ex X.H₀ H X.s₀.heap s.heap
  loc : ∃ m, s.heap.Ns X.env.locals m ∧ ∀ (i : Nat) (x : Str) (v : V), X.N[i]? = some x → σ[i]? = some (some v) → Vis X.env.scope x → ∃ u, RelV v u ∧ Look X.env s.heap m x u
  cell : ∀ x c, X.env.cells.lookup x = some c → ∃ v, s.heap.IsCell c v
  free : H X.env.locals = none
  freeC : ∀ x c, X.env.cells.lookup x = some c → H c = none
  pin : ∀ p ∈ X.pn ++ pins, s.heap.get? p.1 = some p.2 ∧ H p.1 = none ∧ p.1 ≠ X.env.locals ∧ p.1 ∉ X.fs ∧ ∀ v, p.2.data ≠ .cell v
  hok : HOk X.prog X.w H s.heap
  len : σ.length = X.N.length

section
variable {X : Cx} {pins : List (Addr × Obj)} {σ : List (Option V)} {H H' : Hp} {s : Shared} {h' : Heap}

theorem Cx.Ok.nofr (ok : X.Ok) {b : Addr} {o : Obj} (e : X.base.get? b = some o) : b ∉ X.fs := fun hb => by
  have := (ok.funs.mem hb).1
  rw [e] at this; cases this
theorem Inv.bs (I : Inv X pins σ H s) : ∀ b o, X.base.get? b = some o → s.heap.get? b = some o ∧ H b = none := fun b o e =>
  ⟨I.base.keep b o (I.ok.bs b o e).1 (I.ok.bs b o e).2 (I.ok.nofr e) (I.ok.noex b o e), I.base.free b o (I.ok.bs b o e).1 (I.ok.bs b o e).2 (I.ok.noex b o e)⟩
theorem Inv.bk (I : Inv X pins σ H s) : ∀ b o, X.base.get? b = some o → s.heap.get? b = some o := fun b o e => (I.bs b o e).1
theorem Inv.mod (I : Inv X pins σ H s) : Mod X.K X.mg X.base := I.ok.mod
theorem Inv.kIn (I : Inv X pins σ H s) : X.K.In s.heap := I.ok.mod.kin.keeps I.bk
theorem Inv.lt (I : Inv X pins σ H s) : X.env.locals < s.heap.objs.size := let ⟨_, hn, _⟩ := I.loc; hn.lt
theorem Inv.sz (I : Inv X pins σ H s) : X.s₀.heap.objs.size ≤ s.heap.objs.size := Nat.le_trans I.ok.above (Nat.le_of_lt I.lt)
theorem Inv.nofs (I : Inv X pins σ H s) {a : Addr} (h : s.heap.objs.size ≤ a) : a ∉ X.fs := fun hb => by
  obtain ⟨_, o, ho, _⟩ := I.ok.funs.mem hb
  exact absurd (Nat.lt_of_lt_of_le (Heap.lt_size ho) (Nat.le_trans I.sz h)) (Nat.lt_irrefl _)
theorem Inv.cne (I : Inv X pins σ H s) : ∀ x c, X.env.cells.lookup x = some c → c ≠ X.env.locals := fun x c e z => by
  obtain ⟨v, o, ho, hd⟩ := I.cell x c e
  obtain ⟨m, ⟨o', es, ep, ho', hd', _⟩, _⟩ := I.loc
  rw [z, ho'] at ho; cases ho; rw [hd'] at hd; cases hd
theorem Inv.funs (I : Inv X pins σ H s) : s.heap.FunFrames X.base X.outer := by
  have all : ∀ (l : List Env), (∀ b ∈ frs l, b ∈ X.fs) → X.s₀.heap.FunFrames X.base l → s.heap.FunFrames X.base l := by
    intro l
    induction l with
    | nil => intro _ _; trivial
    | cons env r ih =>
      intro hs hl
      obtain ⟨hk, ⟨L, o, hf, hn, ho, hd⟩, hr⟩ := hl
      have hL : L ∈ X.fs := hs L (by unfold frs; rw [List.filterMap_cons, hf]; exact List.mem_cons_self)
      obtain ⟨sl, e⟩ := I.base.slot L o ho (I.ok.frf L hL) hL fun z => I.ok.exfs L z hL
      exact ⟨hk, ⟨L, _, hf, hn, e, hd⟩, ih (fun b hb => hs b (by unfold frs; rw [List.filterMap_cons, hf]; exact List.mem_cons_of_mem _ hb)) hr⟩
  exact all X.outer (fun _ hb => hb) I.ok.funs

/-- the frames that run, for a call -/
theorem Inv.stack (I : Inv X pins σ H s) : s.heap.FunFrames X.base X.stack := by
  rcases I.ok.stk with e | ⟨e, hf⟩
  · rw [e]; exact I.funs
  · rw [e]
    obtain ⟨m, hn, _⟩ := I.loc
    refine .cons (by rw [I.ok.kind]; decide) hf hn ?_ I.funs
    exact Heap.get?_none_of_le (Nat.le_trans I.ok.bsz I.ok.above)
theorem Inv.stkSub (I : Inv X pins σ H s) : ∀ b ∈ frs X.stack, b ∈ X.env.locals :: X.fs := fun b hb => by
  rcases I.ok.stk with e | ⟨e, hf⟩
  · rw [e] at hb; exact List.mem_cons_of_mem _ hb
  · rw [e] at hb
    unfold frs at hb
    rw [List.filterMap_cons, hf] at hb
    exact hb
theorem Inv.stkFree (I : Inv X pins σ H s) : ∀ b ∈ frs X.stack, H b = none := fun b hb => by
  rcases List.mem_cons.mp (I.stkSub b hb) with e | hb
  · rw [e]; exact I.free
  · obtain ⟨_, o, ho, _⟩ := I.ok.funs.mem hb
    exact I.base.free b o ho (I.ok.frf b hb) fun z => I.ok.exfs b z hb

/-- THE STEP: the untracked objects but the frame and the records at ch are kept (the callers' frames up to slots), the frame's map is kept, the new abstract heap is held -/
theorem Inv.step {g' : Array GenState} {t' : Nat} {d' : Drawn} {ch : List Addr} (I : Inv X pins σ H s)
    (hch : ∀ b ∈ ch, (b ∈ X.ex ∨ X.s₀.heap.objs.size ≤ b) ∧ b ≠ X.env.locals ∧ (∀ x c, X.env.cells.lookup x = some c → c ≠ b) ∧ ∀ p ∈ X.pn ++ pins, p.1 ≠ b)
    (keep : ∀ b o, b ≠ X.env.locals → b ∉ X.fs → b ∉ ch → s.heap.get? b = some o → H b = none → h'.get? b = some o)
    (slot : ∀ b o, b ≠ X.env.locals → b ∈ X.fs → b ∉ ch → s.heap.get? b = some o → H b = none → ∃ sl, h'.get? b = some { o with slots := sl }) (free : ∀ b o, b ∉ ch → s.heap.get? b = some o → H b = none → H' b = none)
    (there : ∀ b o, b ∉ ch → s.heap.get? b = some o → ∃ o', h'.get? b = some o')
    (tups : ∀ b xs, H b = some (.tup xs) → H' b = some (.tup xs)) (frzs : ∀ b o u, H b = some (.frz o u) → H' b = some (.frz o u)) (tbls : ∀ b ps, H b = some (.tbl ps) → ∃ more, H' b = some (.tbl (ps ++ more)))
    (ns : ∀ m, s.heap.Ns X.env.locals m → h'.Ns X.env.locals m) (hok : HOk X.prog X.w H' h') (hg : AllBare g') :
    Inv X pins σ H' { s with heap := h', gens := g', drawn := d', toks := t' } := by
  have neL : ∀ b o, X.s₀.heap.get? b = some o → b ≠ X.env.locals := fun b o e => Nat.ne_of_lt (Nat.lt_of_lt_of_le (Heap.lt_size e) I.ok.above)
  have neC : ∀ b o, X.s₀.heap.get? b = some o → b ∉ X.ex → b ∉ ch := fun b o e hx hb => by
    rcases (hch b hb).1 with z | z
    · exact hx z
    · exact absurd (Nat.lt_of_lt_of_le (Heap.lt_size e) z) (Nat.lt_irrefl _)
  have cellK : ∀ x c, X.env.cells.lookup x = some c → ∀ v, s.heap.IsCell c v → h'.IsCell c v := fun x c e v ⟨o, ho, hd⟩ => by
    have nch : c ∉ ch := fun z => (hch c z).2.2.1 x c e rfl
    by_cases hc : c ∈ X.fs
    · obtain ⟨sl, q⟩ := slot c o (I.cne x c e) hc nch ho (I.freeC x c e)
      exact ⟨_, q, hd⟩
    · exact ⟨o, keep c o (I.cne x c e) hc nch ho (I.freeC x c e), hd⟩
  refine ⟨I.ok, I.os, hg, ⟨fun b o e n hb hx => ?_, fun b o e n hb hx => ?_, fun b o e n hx => ?_, fun b o e hx => ?_, fun b xs e => tups b xs (I.base.tups b xs e), fun b o xs e => frzs b o xs (I.base.frzs b o xs e), fun b ps e => ?_⟩, ?_, fun x c e => ?_, ?_, fun x c e => ?_, fun p hp => ?_, hok, I.len⟩
  · exact keep b o (neL b o e) hb (neC b o e hx) (I.base.keep b o e n hb hx) (I.base.free b o e n hx)
  · obtain ⟨sl, e1⟩ := I.base.slot b o e n hb hx
    obtain ⟨sl', e2⟩ := slot b _ (neL b o e) hb (neC b o e hx) e1 (I.base.free b o e n hx)
    exact ⟨sl', e2⟩
  · obtain ⟨o', e1⟩ := I.base.there b o e hx
    exact free b o' (neC b o e hx) e1 (I.base.free b o e n hx)
  · obtain ⟨o', e1⟩ := I.base.there b o e hx
    exact there b o' (neC b o e hx) e1
  · obtain ⟨m1, e1⟩ := I.base.tbls b ps e
    obtain ⟨m2, e2⟩ := tbls b _ e1
    exact ⟨m1 ++ m2, by rw [e2, Array.append_assoc]⟩
  · obtain ⟨m, hn, hl⟩ := I.loc
    refine ⟨m, ns m hn, fun i x v e1 e2 e3 => ?_⟩
    obtain ⟨u, r, l⟩ := hl i x v e1 e2 e3
    refine ⟨u, r, ?_⟩
    rcases l with l | ⟨k, c, e, z⟩
    · exact .inl l
    · exact .inr ⟨k, c, e, cellK x c e _ z⟩
  · obtain ⟨v, z⟩ := I.cell x c e
    exact ⟨v, cellK x c e v z⟩
  · obtain ⟨m, ⟨o, _, _, ho, _⟩, _⟩ := I.loc
    exact free _ o (fun z => (hch _ z).2.1 rfl) ho I.free
  · obtain ⟨v, o, ho, hd⟩ := I.cell x c e
    exact free c o (fun z => (hch c z).2.2.1 x c e rfl) ho (I.freeC x c e)
  · obtain ⟨e, n, ne, nf, d⟩ := I.pin p hp
    have nch : p.1 ∉ ch := fun z => (hch p.1 z).2.2.2 p hp rfl
    exact ⟨keep p.1 p.2 ne nf nch e n, free p.1 p.2 nch e n, ne, nf, d⟩
/-- .. where the frame's own object is kept too -/
theorem Inv.un {t' : Nat} (I : Inv X pins σ H s) (u : Un X.fs [] H H' s.heap h') (hok : HOk X.prog X.w H' h') : Inv X pins σ H' { s with heap := h', toks := t' } := by
  obtain ⟨m, ⟨o, es, ep, ho, r⟩, _⟩ := id I.loc
  obtain ⟨sl, hL⟩ := u.any ho I.free (by simp)
  exact I.step (g' := s.gens) (d' := s.drawn) (ch := []) (fun _ z => nomatch z) (fun b o _ hb _ e n => u.keep b o e n hb (by simp)) (fun b o _ hb _ e n => u.slot b o e n hb (by simp)) (fun b o _ e n => u.free b o e n (by simp)) (fun b o _ e => u.there b o e (by simp)) u.tups u.frzs u.tbls (fun m' hm => by
    obtain ⟨o', es', ep', ho', r'⟩ := hm
    rw [ho] at ho'; cases ho'
    exact ⟨_, es', ep', hL, r'⟩) hok I.bare
/-- behind a call (or a comprehension's block): the slots of this frame may have changed too, the records at ch may have turned -/
theorem Inv.call {g' : Array GenState} {t' : Nat} {d' : Drawn} {ch : List Addr} (I : Inv X pins σ H s) (u : Un (frs X.stack) ch H H' s.heap h') (hok : HOk X.prog X.w H' h') (hg : AllBare g')
    (hch : ∀ b ∈ ch, (b ∈ X.ex ∨ X.s₀.heap.objs.size ≤ b) ∧ b ≠ X.env.locals ∧ (∀ x c, X.env.cells.lookup x = some c → c ≠ b) ∧ ∀ p ∈ X.pn ++ pins, p.1 ≠ b) :
    Inv X pins σ H' { s with heap := h', gens := g', drawn := d', toks := t' } := by
  obtain ⟨m, ⟨o, es, ep, ho, r⟩, _⟩ := id I.loc
  obtain ⟨sl, hL⟩ := u.any ho I.free fun z => (hch _ z).2.1 rfl
  exact I.step (ch := ch) hch (fun b o hL hb hc e n => u.keep b o e n (fun z => (List.mem_cons.mp (I.stkSub b z)).elim hL hb) hc) (fun b o _ _ hc e n => u.any e n hc) (fun b o hc e n => u.free b o e n hc) (fun b o hc e => u.there b o e hc) u.tups u.frzs u.tbls (fun m' hm => by
    obtain ⟨o', es', ep', ho', r'⟩ := hm
    rw [ho] at ho'; cases ho'
    exact ⟨_, es', ep', hL, r'⟩) hok hg
/-- an untracked record of ours (an iterator) has turned -/
theorem Inv.turned {t' : Nat} {it : Addr} (I : Inv X pins σ H s) (k : ∀ b o, b ≠ it → s.heap.get? b = some o → h'.get? b = some o) (hn : H it = none) (hL : it ≠ X.env.locals)
    (h1 : it ∈ X.ex ∨ X.s₀.heap.objs.size ≤ it) (h2 : ∀ x c, X.env.cells.lookup x = some c → c ≠ it) (h3 : ∀ p ∈ X.pn ++ pins, p.1 ≠ it) : Inv X pins σ H { s with heap := h', toks := t' } := by
  have nit : ∀ b u, H b = some u → b ≠ it := fun b u e z => by rw [z, hn] at e; cases e
  refine I.step (g' := s.gens) (d' := s.drawn) (ch := [it]) (fun b hb => ?_) (fun b o _ _ hc e _ => k b o (fun z => hc (by simp [z])) e) (fun b o _ _ hc e _ => ⟨o.slots, k b o (fun z => hc (by simp [z])) e⟩) (fun _ _ _ _ n => n)
    (fun b o hc e => ⟨o, k b o (fun z => hc (by simp [z])) e⟩) (fun _ _ e => e) (fun _ _ _ e => e) (fun b ps e => ⟨#[], by rw [e]; simp⟩) (fun m hm => ?_) (fun b u e => ?_) I.bare
  · have e : b = it := by simpa using hb
    subst e
    exact ⟨h1, hL, h2, h3⟩
  · obtain ⟨o, es, ep, ho, r⟩ := hm
    exact ⟨o, es, ep, k _ o (Ne.symm hL) ho, r⟩
  · refine (I.hok b u e).stay (fun c v hc q => k c v ?_ q) (fun _ q => q) fun _ _ q => q
    rcases hc with z | z
    · rw [z]; exact nit b u e
    · exact nit c _ z
theorem Inv.tok (I : Inv X pins σ H s) (t : Nat) : Inv X pins σ H { s with toks := t } := I.un (h' := s.heap) (t' := t) Un.refl I.hok
/-- all objects kept -/
theorem Inv.kept {t' : Nat} (I : Inv X pins σ H s) (k : ∀ b u, s.heap.get? b = some u → h'.get? b = some u) : Inv X pins σ H { s with heap := h', toks := t' } := I.un (Un.kept k) (I.hok.kept k)
/-- a new object laid and tracked -/
theorem Inv.laid {a : Addr} {o : HO} {t' : Nat} (I : Inv X pins σ H s) (k : ∀ b u, s.heap.get? b = some u → h'.get? b = some u) (hp : s.heap.objs.size ≤ a) (new : ObjOk X.prog X.w (upd H a o) h' a o) :
    Inv X pins σ (upd H a o) { s with heap := h', toks := t' } := I.un (Un.laid k hp (I.hok.fresh hp)) (I.hok.laid k hp new)
/-- an object written -/
theorem Inv.write {x e : Addr} {o : HO} {t' : Nat} (I : Inv X pins σ H s) (mu : Mut (H x)) (he : e = x ∨ H e = some (.own x)) (k : ∀ b u, b ≠ e → s.heap.get? b = some u → h'.get? b = some u) (heo : ∃ u, h'.get? e = some u)
    (new : ObjOk X.prog X.w (upd H x o) h' x o) : Inv X pins σ (upd H x o) { s with heap := h', toks := t' } := I.un (Un.write mu he k heo) (I.hok.write mu he k heo new)
theorem Inv.pins_of {pins' : List (Addr × Obj)} (I : Inv X pins σ H s) (h : ∀ p ∈ pins', s.heap.get? p.1 = some p.2 ∧ H p.1 = none ∧ p.1 ≠ X.env.locals ∧ p.1 ∉ X.fs ∧ ∀ v, p.2.data ≠ .cell v) : Inv X pins' σ H s :=
  ⟨I.ok, I.os, I.bare, I.base, I.loc, I.cell, I.free, I.freeC, fun p hp => (List.mem_append.mp hp).elim (fun z => I.pin p (List.mem_append_left _ z)) (h p), I.hok, I.len⟩

theorem nodup_ix {N : List Str} (hN : N.Nodup) {i j : Nat} {x : Str} (a : N[i]? = some x) (b : N[j]? = some x) : i = j := by
  obtain ⟨h1, e1⟩ := List.getElem?_eq_some_iff.mp a
  obtain ⟨h2, e2⟩ := List.getElem?_eq_some_iff.mp b
  exact (List.getElem_inj hN).mp (e1.trans e2.symm)

/-- a name is stored; what changed -/
theorem store_ok2 {M : Model} {A : Around} {E : Value → Shared → Prop} {i : Nat} {x : Str} {v : V} {u : Value} {Q : Unit → Shared → Prop} (I : Inv X pins σ H s) (hN : X.N.Nodup) (hi : X.N[i]? = some x) (hx : Loc X.env.scope x) (r : RelV v u)
    (h : ∀ s', Inv X pins (σ.set i (some v)) H s' → (∃ a, Heap.SameBut a s.heap s'.heap ∧ (a = X.env.locals ∨ X.env.cells.lookup x = some a)) → Q () s') (hf : X.fn x = true ∨ X.env.scope.names.lookup x = some .local := by first | exact .inl rfl | exact .inr rfl | assumption) : wpAny M A (storeName X.env x u) Q E s := by
  obtain ⟨m, hn, hl⟩ := id I.loc
  have hcls : (X.env.scope.kind == .class || (X.env.scope.kind == .module && X.env.locals != X.env.globals)) = false := by rw [I.ok.kind]; rfl
  have hiσ : i < σ.length := by rw [I.len]; exact (List.getElem?_eq_some_iff.mp hi).1
  have cne := I.cne
  have tracked : ∀ {a : Addr} {h' : Heap}, (∃ o, s.heap.get? a = some o ∧ H a = none) → Heap.SameBut a s.heap h' → HOk X.prog X.w H h' := fun {a h'} ha hs b ob e => by
    obtain ⟨_, _, hfree⟩ := ha
    refine (I.hok b ob e).stay (fun c w' hc q => (hs.2 c ?_).trans q) (fun _ q => q) fun _ _ q => q
    rintro rfl
    rcases hc with rfl | hc
    · rw [hfree] at e; cases e
    · rw [hfree] at hc; cases hc
  rcases hx with hk | hk
  · refine wpAny_storeName_local hk hn (fun h' hn' hs => ?_) hcls
    obtain ⟨oL, _, _, hoL, _⟩ := id hn
    refine h _ ⟨I.ok, I.os, I.bare, ⟨fun b o e n hb hx => ?_, fun b o e n hb hx => ?_, I.base.free, fun b o e hx => ?_, I.base.tups, I.base.frzs, I.base.tbls⟩, ⟨_, hn', fun j y v' e1 e2 e3 => ?_⟩, fun y c e => ?_, I.free, I.freeC, fun p hp => ?_, tracked ⟨oL, hoL, I.free⟩ hs, by simpa using I.len⟩ ⟨_, hs, .inl rfl⟩
    · exact (hs.2 b (Nat.ne_of_lt (Nat.lt_of_lt_of_le (Heap.lt_size e) I.ok.above))).trans (I.base.keep b o e n hb hx)
    · obtain ⟨sl, e1⟩ := I.base.slot b o e n hb hx
      exact ⟨sl, (hs.2 b (Nat.ne_of_lt (Nat.lt_of_lt_of_le (Heap.lt_size e) I.ok.above))).trans e1⟩
    · obtain ⟨o', e1⟩ := I.base.there b o e hx
      exact ⟨o', (hs.2 b (Nat.ne_of_lt (Nat.lt_of_lt_of_le (Heap.lt_size e) I.ok.above))).trans e1⟩
    · by_cases hj : j = i
      · subst hj
        rw [hi] at e1; cases e1
        rw [List.getElem?_set_self hiσ] at e2
        cases e2
        exact ⟨u, r, .inl ⟨hk, by simp⟩⟩
      · rw [List.getElem?_set_ne (Ne.symm hj)] at e2
        obtain ⟨u', r', q⟩ := hl j y v' e1 e2 e3
        refine ⟨u', r', ?_⟩
        rcases q with ⟨k, e⟩ | ⟨k, c, e, z⟩
        · refine .inl ⟨k, ?_⟩
          have : y ≠ x := fun e => hj (nodup_ix hN e1 (e ▸ hi))
          simp [this, e]
        · exact .inr ⟨k, c, e, z.sameBut hs (cne y c e)⟩
    · obtain ⟨w', z⟩ := I.cell y c e
      exact ⟨w', z.sameBut hs (cne y c e)⟩
    · obtain ⟨e, n, ne, nf, d⟩ := I.pin p hp
      exact ⟨(hs.2 p.1 ne).trans e, n, ne, nf, d⟩
  · have hfn : X.fn x = true := by
      rcases hf with z | z
      · exact z
      · rw [z] at hk; cases hk
    obtain ⟨c, hc⟩ := I.ok.has x (.inl hk)
    obtain ⟨w', z⟩ := I.cell x c hc
    refine wpAny_storeName_cell I.ok.kind hk hc z (fun h' hc' hs => ?_)
    obtain ⟨oc, hoc, hocd⟩ := id z
    refine h { s with heap := h' } ⟨I.ok, I.os, I.bare, ⟨fun b o e n hb hx => ?_, fun b o e n hb hx => ?_, I.base.free, fun b o e hx => ?_, I.base.tups, I.base.frzs, I.base.tbls⟩, ⟨m, hn.sameBut hs (Ne.symm (cne x c hc)), fun j y v' e1 e2 e3 => ?_⟩, fun y c' e => ?_, I.free, I.freeC, fun p hp => ?_, tracked ⟨oc, hoc, I.freeC x c hc⟩ hs, by simpa using I.len⟩ ⟨c, hs, .inr hc⟩
    · exact (hs.2 b (Nat.ne_of_lt (Nat.lt_of_lt_of_le (Heap.lt_size e) (I.ok.cab x c hfn hc)))).trans (I.base.keep b o e n hb hx)
    · obtain ⟨sl, e1⟩ := I.base.slot b o e n hb hx
      exact ⟨sl, (hs.2 b (Nat.ne_of_lt (Nat.lt_of_lt_of_le (Heap.lt_size e) (I.ok.cab x c hfn hc)))).trans e1⟩
    · obtain ⟨o', e1⟩ := I.base.there b o e hx
      exact ⟨o', (hs.2 b (Nat.ne_of_lt (Nat.lt_of_lt_of_le (Heap.lt_size e) (I.ok.cab x c hfn hc)))).trans e1⟩
    · by_cases hj : j = i
      · subst hj
        rw [hi] at e1; cases e1
        rw [List.getElem?_set_self hiσ] at e2
        cases e2
        exact ⟨u, r, .inr ⟨.inl hk, c, hc, hc'⟩⟩
      · rw [List.getElem?_set_ne (Ne.symm hj)] at e2
        obtain ⟨u', r', q⟩ := hl j y v' e1 e2 e3
        refine ⟨u', r', ?_⟩
        rcases q with q | ⟨k, c', e, z'⟩
        · exact .inl q
        · refine .inr ⟨k, c', e, z'.sameBut hs ?_⟩
          rintro rfl
          exact hj (nodup_ix hN e1 (I.ok.inj _ _ _ e hc ▸ hi))
    · by_cases hcc : c' = c
      · subst hcc; exact ⟨_, hc'⟩
      · obtain ⟨w2, z2⟩ := I.cell y c' e
        exact ⟨w2, z2.sameBut hs hcc⟩
    · obtain ⟨e, n, ne, nf, d⟩ := I.pin p hp
      refine ⟨(hs.2 p.1 ?_).trans e, n, ne, nf, d⟩
      intro q
      rw [q, hoc] at e
      have q' : oc = p.2 := Option.some.inj e
      exact d w' (by rw [← q']; exact hocd)
theorem store_ok {M : Model} {A : Around} {E : Value → Shared → Prop} {i : Nat} {x : Str} {v : V} {u : Value} {Q : Unit → Shared → Prop} (I : Inv X pins σ H s) (hN : X.N.Nodup) (hi : X.N[i]? = some x) (hx : Loc X.env.scope x) (r : RelV v u)
    (h : ∀ s', Inv X pins (σ.set i (some v)) H s' → Q () s') (hf : X.fn x = true ∨ X.env.scope.names.lookup x = some .local := by first | exact .inl rfl | exact .inr rfl | assumption) : wpAny M A (storeName X.env x u) Q E s :=
  store_ok2 I hN hi hx r (fun s' I' _ => h s' I') hf
/-- behind a call or a block, the state as it is -/
theorem Inv.call' {s' : Shared} {ch : List Addr} (I : Inv X pins σ H s) (ho : s'.os = s.os) (u : Un (frs X.stack) ch H H' s.heap s'.heap) (hok : HOk X.prog X.w H' s'.heap) (hg : AllBare s'.gens)
    (hch : ∀ b ∈ ch, (b ∈ X.ex ∨ X.s₀.heap.objs.size ≤ b) ∧ b ≠ X.env.locals ∧ (∀ x c, X.env.cells.lookup x = some c → c ≠ b) ∧ ∀ p ∈ X.pn ++ pins, p.1 ≠ b) : Inv X pins σ H' s' := by
  obtain ⟨h', g', d', t', o'⟩ := s'
  have e : o' = s.os := ho
  subst e
  exact I.call (g' := g') (t' := t') (d' := d') u hok hg hch
end

/-! ### the judgements -/
/-- an exception: its class, its own dict's address (where it has one), the abstract heap behind it -/
abbrev XK := Value → Option Addr → Hp → Prop
abbrev St := List (Option V)
abbrev VK := V → Hp → Prop
/-- an expression's reading; a test's; an argument list's -/
abbrev TE := St → Hp → VK → Prop
abbrev TT := St → Hp → (Bool → Hp → Prop) → Prop
abbrev TA := St → Hp → (List V → Hp → Prop) → Prop
/- what is wanted behind a statement -/
set_option genInjectivity false in
set_option genSizeOfSpec false in
set_option genSizeOf false in
structure Ends where
  nx : St → Hp → Prop
  rt : VK
  bk : St → Hp → Prop := fun _ _ => False
  ct : St → Hp → Prop := fun _ _ => False
abbrev TS := Ends → St → Hp → Prop

def EP (X : Cx) (pins : List (Addr × Obj)) (σ : St) (Q : VK) (u : Value) (s' : Shared) : Prop := ∃ v H', Inv X pins σ H' s' ∧ RelV v u ∧ Q v H'
def TP (X : Cx) (pins : List (Addr × Obj)) (σ : St) (Q : Bool → Hp → Prop) (b : Bool) (s' : Shared) : Prop := ∃ H', Inv X pins σ H' s' ∧ Q b H'
def AP (X : Cx) (pins : List (Addr × Obj)) (σ : St) (Q : List V → Hp → Prop) (us : List Value) (s' : Shared) : Prop := ∃ vs H', Inv X pins σ H' s' ∧ Vals vs us ∧ Q vs H'
def SP (X : Cx) (pins : List (Addr × Obj)) (D : Ends) (f : Flow) (s' : Shared) : Prop :=
  match f with
  | .next => ∃ σ' H', Inv X pins σ' H' s' ∧ D.nx σ' H'
  | .brk => ∃ σ' H', Inv X pins σ' H' s' ∧ D.bk σ' H'
  | .cont => ∃ σ' H', Inv X pins σ' H' s' ∧ D.ct σ' H'
  | .ret u => ∃ v σ' H', Inv X pins σ' H' s' ∧ RelV v u ∧ D.rt v H'

@[irreducible] def PE (X : Cx) (e : Expr) (t : TE) : Prop :=
  ∀ (pins : List (Addr × Obj)) (s : Shared) (σ : St) (H : Hp) (Q : VK), Inv X pins σ H s → t σ H Q → wpAny (model X.prog X.w) X.A (eval e X.env) (EP X pins σ Q) X.xe s
@[irreducible] def PT (X : Cx) (e : Expr) (t : TT) : Prop :=
  ∀ (pins : List (Addr × Obj)) (s : Shared) (σ : St) (H : Hp) (Q : Bool → Hp → Prop), Inv X pins σ H s → t σ H Q → wpAny (model X.prog X.w) X.A (isTrue e X.env (eval e X.env)) (TP X pins σ Q) X.xe s
/-- a test whatever its 'whole' is (and, or) -/
@[irreducible] def PW (X : Cx) (e : Expr) (t : TT) : Prop :=
  ∀ (whole : Sem Value) (pins : List (Addr × Obj)) (s : Shared) (σ : St) (H : Hp) (Q : Bool → Hp → Prop), Inv X pins σ H s → t σ H Q → wpAny (model X.prog X.w) X.A (isTrue e X.env whole) (TP X pins σ Q) X.xe s
theorem PW.pt {X : Cx} {e : Expr} {t : TT} (h : PW X e t) : PT X e t := by
  first
  | exact (h _)
  | (unfold PT at *; unfold PW at *; exact (h _))

/-- an argument list (no star), from the left -/
@[irreducible] def PA (X : Cx) (es : List Expr) (t : TA) : Prop :=
  ∀ (pos : Pos) (pins : List (Addr × Obj)) (s : Shared) (σ : St) (H : Hp) (Q : List V → Hp → Prop), Inv X pins σ H s → t σ H Q → wpAny (model X.prog X.w) X.A (spliced (backTo pos (starEach es X.env))) (AP X pins σ Q) X.xe s
@[irreducible] def PS (X : Cx) (st : Stmt) (t : TS) : Prop :=
  ∀ (pins : List (Addr × Obj)) (s : Shared) (σ : St) (H : Hp) (D : Ends), Inv X pins σ H s → t D σ H → wpAny (model X.prog X.w) X.A (exec st X.env) (SP X pins D) X.xe s
@[irreducible] def PSs (X : Cx) (st : List Stmt) (t : TS) : Prop :=
  ∀ (pins : List (Addr × Obj)) (s : Shared) (σ : St) (H : Hp) (D : Ends), Inv X pins σ H s → t D σ H → wpAny (model X.prog X.w) X.A (execs st X.env) (SP X pins D) X.xe s
/-- weaken the end -/
theorem thn {α : Type} {t : Sem α} {Q Q' : α → Shared → Prop} {M : Model} {A : Around} {E : Value → Shared → Prop} {s : Shared} (h : wpAny M A t Q E s) (hQ : ∀ a s, Q a s → Q' a s) : wpAny M A t Q' E s := wpAny_mono h hQ fun _ _ x => x
end L2

namespace L2
open PySem PySem.Spec PyProof.Rows
section
variable {X : Cx}

/-! ### names and constants -/
def tVar (i : Nat) : TE := fun σ H Q => ∃ v, σ[i]? = some (some v) ∧ Q v H
def tC (v : V) : TE := fun _ H Q => Q v H
theorem pe_var {i : Nat} {x : Str} {pos : Pos} (hN : X.N[i]? = some x) (hv : Vis X.env.scope x) (hd : (x == ("__debug__" : Str)) = false := by decide) (hcd : (x == ("__classdict__" : Str)) = false := by decide) : PE X (.Name x pos) (tVar i) := by
  unfold PE at *
  exact by
    intro pins s σ H Q I h
    obtain ⟨v, e, h⟩ := h
    obtain ⟨m, hn, hl⟩ := I.loc
    obtain ⟨u, r, l⟩ := hl i x v hN e hv
    have fin : EP X pins σ Q u s := ⟨v, H, I, r, h⟩
    rcases l with ⟨hk, hm⟩ | ⟨hk, c, hc, hcell⟩
    · exact wpAny_Name (wpAny_loadName_local I.ok.kind hk hn hm fin) hd
    · rcases hk with hk | hk
      · exact wpAny_Name (wpAny_loadName_cell I.ok.kind hk hc hcell fin) hd
      · exact wpAny_Name (wpAny_loadName_free I.ok.kind hk hc hcell fin hcd) hd

theorem pe_int {i j pos} : PE X (.Constant (.int i) j pos) (tC (.int i)) := by
  first
  | exact (fun _ _ _ H _ I h => wpAny_Constant_int ⟨.int i, H, I.tok _, ⟨_, rfl⟩, h⟩)
  | (unfold PE at *; exact (fun _ _ _ H _ I h => wpAny_Constant_int ⟨.int i, H, I.tok _, ⟨_, rfl⟩, h⟩))

theorem pe_bl {b j pos} : PE X (.Constant (.bool b) j pos) (tC (.bl b)) := by
  first
  | exact (fun _ _ _ H _ I h => Constant_bool ⟨.bl b, H, I, rfl, h⟩)
  | (unfold PE at *; exact (fun _ _ _ H _ I h => Constant_bool ⟨.bl b, H, I, rfl, h⟩))

theorem pe_non {j pos} : PE X (.Constant .none j pos) (tC .non) := by
  first
  | exact (fun _ _ _ H _ I h => Constant_none ⟨.non, H, I, rfl, h⟩)
  | (unfold PE at *; exact (fun _ _ _ H _ I h => Constant_none ⟨.non, H, I, rfl, h⟩))

theorem pe_str {x j pos} : PE X (.Constant (.str x) j pos) (tC (.str x)) := by
  first
  | exact (fun _ _ _ H _ I h => Calls.Constant_str ⟨.str x, H, I.tok _, ⟨_, rfl⟩, h⟩)
  | (unfold PE at *; exact (fun _ _ _ H _ I h => Calls.Constant_str ⟨.str x, H, I.tok _, ⟨_, rfl⟩, h⟩))

/-- a global name of the def -/
def Gl (X : Cx) (x : Str) : Prop := X.env.kindOf x = some .globalImplicit
theorem ld_glob {E : Value → Shared → Prop} {pins : List (Addr × Obj)} {s : Shared} {σ : St} {H : Hp} {x : Str} {u : Value} {pos : Pos} {Q : Value → Shared → Prop} (I : Inv X pins σ H s) (hg : Gl X x) (hm : X.mg x = some u) (h : Q u s)
    (hd : (x == ("__debug__" : Str)) = false := by decide) : wpAny (model X.prog X.w) X.A (eval (.Name x pos) X.env) Q E s :=
  Calls.Name_function_global I.ok.kind hg (Calls.loadGlobal_global (by rw [I.ok.glob]; exact I.mod.glob.keeps I.bk) hm h) hd
theorem ld_blt {E : Value → Shared → Prop} {pins : List (Addr × Obj)} {s : Shared} {σ : St} {H : Hp} {x : Str} {u : Value} {pos : Pos} {Q : Value → Shared → Prop} (I : Inv X pins σ H s) (hg : Gl X x) (hm : X.mg x = none) (hv : bootBuiltins x = some u) (h : Q u s)
    (hn : x ≠ "__name__" := by decide) (hd : (x == ("__debug__" : Str)) = false := by decide) : wpAny (model X.prog X.w) X.A (eval (.Name x pos) X.env) Q E s := by
  obtain ⟨mb, h1, h2⟩ := I.mod.blt
  exact Calls.Name_function_global I.ok.kind hg (Calls.loadGlobal_builtin (by rw [I.ok.glob]; exact I.mod.glob.keeps I.bk) hm (by rw [I.ok.blt]; exact h1.keeps I.bk) ((h2 x hn).trans hv) h) hd
/-- a module's constant, a class, a function, as a value -/
theorem pe_glob {x : Str} {v : V} {u : Value} {pos : Pos} (hg : Gl X x) (hm : X.mg x = some u) (r : RelV v u) (hd : (x == ("__debug__" : Str)) = false := by decide) : PE X (.Name x pos) (tC v) := by
  first
  | exact (fun _ _ _ H _ I h => ld_glob I hg hm ⟨v, H, I, r, h⟩ hd)
  | (unfold PE at *; exact (fun _ _ _ H _ I h => ld_glob I hg hm ⟨v, H, I, r, h⟩ hd))

theorem pe_bltn {x : Str} {v : V} {u : Value} {pos : Pos} (hg : Gl X x) (hm : X.mg x = none) (hv : bootBuiltins x = some u) (r : RelV v u) (hn : x ≠ "__name__" := by decide) (hd : (x == ("__debug__" : Str)) = false := by decide) : PE X (.Name x pos) (tC v) := by
  first
  | exact (fun _ _ _ H _ I h => ld_blt I hg hm hv ⟨v, H, I, r, h⟩ hn hd)
  | (unfold PE at *; exact (fun _ _ _ H _ I h => ld_blt I hg hm hv ⟨v, H, I, r, h⟩ hn hd))

/-! ### arithmetic -/
variable {a b : Expr} {ta tb : TE} {pos : Pos}
/-! ### comparisons -/
@[irreducible] def PC (X : Cx) (op : CmpOp) (a b : Expr) (t : TE) : Prop :=
  ∀ (pins : List (Addr × Obj)) (s : Shared) (σ : St) (H : Hp) (Q : VK), Inv X pins σ H s → t σ H Q →
    wpAny (model X.prog X.w) X.A (eval a X.env) (fun v s₁ => wpAny (model X.prog X.w) X.A (eval b X.env) (fun u s₂ => wpAny (model X.prog X.w) X.A (compareOp op v u) (EP X pins σ Q) X.xe s₂) X.xe s₁) X.xe s
theorem nobehind (b : Expr) {op : CmpOp} (h : op ≠ .In) (h2 : op ≠ .NotIn) : behindInMarks op b = false := by
  have e1 : (op == CmpOp.In) = false := by cases op <;> first | rfl | exact absurd rfl h
  have e2 : (op == CmpOp.NotIn) = false := by cases op <;> first | rfl | exact absurd rfl h2
  cases b <;> simp [behindInMarks, e1, e2]
/-- is None -/
def tIsN (ta : TE) : TE := fun σ H Q => ta σ H fun x H1 => Q (.bl (decide (x = .non))) H1
theorem RelV.none_iff {x : V} {v : Value} (r : RelV x v) : (v == Value.none) = decide (x = .non) := by
  cases x with
  | non => cases r; rfl
  | bl _ => cases r; rfl
  | int _ => obtain ⟨t, rfl⟩ := r; rfl
  | str _ => obtain ⟨t, rfl⟩ := r; rfl
  | byt _ => obtain ⟨t, rfl⟩ := r; rfl
  | flt _ => obtain ⟨t, rfl⟩ := r; rfl
  | ref _ => cases r; rfl
  | ty _ => cases r; rfl
theorem pc_isN {j pos'} (ha : PE X a ta) : PC X .Is a (.Constant .none j pos') (tIsN ta) := by
  unfold PE at *; unfold PC at *
  exact by
    intro pins s σ H Q I h
    refine thn (ha pins s σ H _ I h) fun v s1 ⟨x, H1, I1, r1, q1⟩ => ?_
    exact Constant_none (is_none_gen ⟨.bl _, H1, I1, by rw [r1.none_iff]; rfl, q1⟩)

/-- a comparison as a value, as a test -/
def tB (t : TE) : TT := fun σ H Q => t σ H fun x H1 => ∃ c, x = .bl c ∧ Q c H1
theorem pt_cmp {op : CmpOp} {t : TE} (h : PC X op a b t) (h1 : behindInMarks op b = false := by first | exact nobehind _ (by decide) (by decide) | rfl) : PT X (.Compare a [op] [b] pos) (tB t) := by
  unfold PT at *; unfold PC at *
  exact by
    intro pins s σ H Q I hw
    refine wpAny_isTrue_Compare1 (thn (h pins s σ H _ I hw) fun v s1 h1 => thn h1 fun u s2 h2 => thn h2 fun c s3 ⟨x, H1, I1, r1, q1⟩ => ?_) h1
    obtain ⟨d, rfl, q⟩ := q1
    cases r1
    exact wpAny_truthy_bool ⟨H1, I1, q⟩

/-- an expression whose value is a bool, as a test -/
theorem pt_val {e : Expr} {t : TE} (h : PE X e t) (he : ∀ whole, isTrue e X.env whole = (do let v ← whole; standAt e.pos; holding [v] (truthy v)) := by intro _; rfl) : PT X e (tB t) := by
  unfold PE at *; unfold PT at *
  exact by
    intro pins s σ H Q I hw
    refine isTrue_plain (thn (h pins s σ H _ I hw) fun v s1 ⟨x, H1, I1, r1, q1⟩ => ?_) (he _)
    obtain ⟨d, rfl, q⟩ := q1
    cases r1
    exact wpAny_truthy_bool ⟨H1, I1, q⟩

/-! ### and, or, not -/
variable {tA tB' : TT} {rest : List Expr}
def tAnd (t u : TT) : TT := fun σ H Q => t σ H fun c H1 => if c = true then u σ H1 Q else Q false H1
def tOr (t u : TT) : TT := fun σ H Q => t σ H fun c H1 => if c = true then Q true H1 else u σ H1 Q
def tNot (t : TT) : TT := fun σ H Q => t σ H fun c H1 => Q (!c) H1
theorem pw_and1 (ha : PT X a tA) : PW X (.BoolOp .And [a] pos) tA := by
  unfold PT at *; unfold PW at *
  exact by
    intro wh pins s σ H Q I h
    refine isTrue_and (thn (ha pins s σ H Q I h) fun c s1 e => ?_)
    cases c with
    | true => exact isTrue_and_nil e
    | false => exact e

theorem pw_or1 (ha : PT X a tA) : PW X (.BoolOp .Or [a] pos) tA := by
  unfold PT at *; unfold PW at *
  exact by
    intro wh pins s σ H Q I h
    refine isTrue_or (thn (ha pins s σ H Q I h) fun c s1 e => ?_)
    cases c with
    | false => exact isTrue_or_nil e
    | true => exact e

theorem pw_and (ha : PT X a tA) (hb : PW X (.BoolOp .And (b :: rest) pos) tB') : PW X (.BoolOp .And (a :: b :: rest) pos) (tAnd tA tB') := by
  unfold PT at *; unfold PW at *
  exact by
    intro wh pins s σ H Q I h
    refine isTrue_and (thn (ha pins s σ H _ I h) fun c s1 ⟨H1, I1, q1⟩ => ?_)
    cases c with
    | true => exact hb wh pins s1 σ H1 Q I1 q1
    | false => exact ⟨H1, I1, q1⟩

theorem pw_or (ha : PT X a tA) (hb : PW X (.BoolOp .Or (b :: rest) pos) tB') : PW X (.BoolOp .Or (a :: b :: rest) pos) (tOr tA tB') := by
  unfold PT at *; unfold PW at *
  exact by
    intro wh pins s σ H Q I h
    refine isTrue_or (thn (ha pins s σ H _ I h) fun c s1 ⟨H1, I1, q1⟩ => ?_)
    cases c with
    | true => exact ⟨H1, I1, q1⟩
    | false => exact hb wh pins s1 σ H1 Q I1 q1

theorem pt_not (ha : PT X a tA) : PT X (.UnaryOp .Not a pos) (tNot tA) := by
  unfold PT at *
  exact by
    intro pins s σ H Q I h
    exact isTrue_not (ha pins s σ H (fun c H1 => Q (!c) H1) I h)

/-- .. as values (bools) -/
def tAndV (ta tb : TE) : TE := fun σ H Q => ta σ H fun x H1 => ∃ c, x = .bl c ∧ if c = true then tb σ H1 Q else Q (.bl false) H1
def tNotV (ta : TE) : TE := fun σ H Q => ta σ H fun x H1 => ∃ c, x = .bl c ∧ Q (.bl (!c)) H1
theorem pe_one {op} {t : TE} (h : PE X a t) : PE X (.BoolOp op [a] pos) t := by
  first
  | exact (fun pins s σ H Q I hw => BoolOp_one (h pins s σ H Q I hw))
  | (unfold PE at *; exact (fun pins s σ H Q I hw => BoolOp_one (h pins s σ H Q I hw)))

theorem pe_and (ha : PE X a ta) (hb : PE X (.BoolOp .And (b :: rest) pos) tb) : PE X (.BoolOp .And (a :: b :: rest) pos) (tAndV ta tb) := by
  unfold PE at *
  exact by
    intro pins s σ H Q I h
    refine BoolOp_and (thn (ha pins s σ H _ I h) fun v s1 ⟨x, H1, I1, r1, q1⟩ => ?_)
    obtain ⟨c, rfl, q1⟩ := q1
    cases r1
    refine wpAny_truthy_bool ?_
    cases c with
    | true => exact hb pins s1 σ H1 Q I1 q1
    | false => exact ⟨.bl false, H1, I1, rfl, q1⟩

theorem pe_not (ha : PE X a ta) : PE X (.UnaryOp .Not a pos) (tNotV ta) := by
  unfold PE at *
  exact by
    intro pins s σ H Q I h
    refine UnaryOp_ (thn (ha pins s σ H _ I h) fun v s1 ⟨x, H1, I1, r1, q1⟩ => ?_)
    obtain ⟨c, rfl, q1⟩ := q1
    cases r1
    exact not_of (wpAny_truthy_bool ⟨.bl (!c), H1, I1, rfl, q1⟩)

end
end L2

namespace L2
open PySem PySem.Spec PyProof.Rows

/-! ### a list, a tuple that is read: tracked, frozen, or an object of the module -/
def SqL (K : PySem.W.Frag) (H : Hp) (a : Addr) (xs : List V) : Prop :=
  Rd H a (.lst xs) ∨
    ∃ (o : Obj) (its : Array Value) (n : Nat), K.lookup a = some o ∧ o.cls = .type "list" ∧ o.dict = none ∧ o.data = .seq its n ∧ its.size ≤ sizeLine ∧ Vals xs its.toList
def SqT (K : PySem.W.Frag) (H : Hp) (a : Addr) (xs : List V) : Prop :=
  Rd H a (.tup xs) ∨
    ∃ (o : Obj) (its : Array Value) (n : Nat), K.lookup a = some o ∧ o.cls = .type "tuple" ∧ o.data = .seq its n ∧ its.size ≤ sizeLine ∧ Vals xs its.toList
def absV : Value → Option V
  | .none => some .non
  | .bool b => some (.bl b)
  | .int i _ => some (.int i)
  | .str x _ => some (.str x)
  | .bytes b _ => some (.byt b)
  | .float b _ => some (.flt b)
  | .ref a => some (.ref a)
  | .type n => some (.ty n)
  | _ => none
theorem RelV.abs {x : V} {u : Value} (r : RelV x u) : absV u = some x := by
  cases x with
  | non => cases r; rfl
  | bl _ => cases r; rfl
  | int _ => obtain ⟨t, rfl⟩ := r; rfl
  | str _ => obtain ⟨t, rfl⟩ := r; rfl
  | byt _ => obtain ⟨t, rfl⟩ := r; rfl
  | flt _ => obtain ⟨t, rfl⟩ := r; rfl
  | ref _ => cases r; rfl
  | ty _ => cases r; rfl
theorem RelV.inj {x y : V} {u : Value} (r : RelV x u) (q : RelV y u) : x = y := Option.some.inj (r.abs.symm.trans q.abs)
theorem Vals.inj : ∀ {xs ys : List V} {us : List Value}, Vals xs us → Vals ys us → xs = ys
  | _, _, _, .nil, .nil => rfl
  | _, _, _, .cons r t, .cons r' t' => by rw [r.inj r', Vals.inj t t']
section
variable {X : Cx} {pins : List (Addr × Obj)} {σ : St} {H : Hp} {s : Shared} {a : Addr} {xs ys : List V}
theorem SqL.of {K : PySem.W.Frag} (h : H a = some (.lst xs)) : SqL K H a xs := .inl (.inl h)
theorem SqT.of {K : PySem.W.Frag} (h : H a = some (.tup xs)) : SqT K H a xs := .inl (.inl h)
theorem Inv.list (I : Inv X pins σ H s) (h : SqL X.K H a xs) : ∃ its : List Value, Vals xs its ∧ PlainL s.heap a its.toArray ∧ xs.length ≤ sizeLine := by
  rcases h with h | ⟨o, its, n, hk, hc, hd, hs, hz, r⟩
  · obtain ⟨z, its, n, r, e⟩ := h.ok I.hok
    exact ⟨its, r, ⟨_, n, e, rfl, rfl, rfl⟩, z⟩
  · refine ⟨its.toList, r, ⟨o, n, I.kIn a o hk, hc, hd, by simpa using hs⟩, ?_⟩
    have e := r.length
    simp only [Array.length_toList] at e
    omega
theorem Inv.tuple (I : Inv X pins σ H s) (h : SqT X.K H a xs) : ∃ its : List Value, Vals xs its ∧ IsTup s.heap a its.toArray ∧ xs.length ≤ sizeLine := by
  rcases h with h | ⟨o, its, n, hk, hc, hs, hz, r⟩
  · obtain ⟨z, its, r, p⟩ := h.ok I.hok
    exact ⟨its, r, p, z⟩
  · refine ⟨its.toList, r, ⟨o, I.kIn a o hk, hc, n, by simpa using hs⟩, ?_⟩
    have e := r.length
    simp only [Array.length_toList] at e
    omega
theorem Inv.list_inj (I : Inv X pins σ H s) (h : SqL X.K H a xs) (h' : SqL X.K H a ys) : xs = ys := by
  obtain ⟨its, r, ⟨o, n, e, _, _, d⟩, _⟩ := I.list h
  obtain ⟨its', r', ⟨o', n', e', _, _, d'⟩, _⟩ := I.list h'
  rw [e] at e'; cases e'
  rw [d] at d'
  injection d' with d1 _
  have : its = its' := by simpa using congrArg Array.toList d1
  subst this
  exact r.inj r'
theorem Inv.tuple_inj (I : Inv X pins σ H s) (h : SqT X.K H a xs) (h' : SqT X.K H a ys) : xs = ys := by
  obtain ⟨its, r, ⟨o, e, _, n, d⟩, _⟩ := I.tuple h
  obtain ⟨its', r', ⟨o', e', _, n', d'⟩, _⟩ := I.tuple h'
  rw [e] at e'; cases e'
  rw [d] at d'
  injection d' with d1 _
  have : its = its' := by simpa using congrArg Array.toList d1
  subst this
  exact r.inj r'
end

/-! ### another wish about exceptions -/
abbrev Cx.wish (X : Cx) (E : Value → Shared → Prop) : Cx := { X with xe := E }
/-- no exception leaves -/
abbrev Cx.nox (X : Cx) : Cx := X.wish fun _ _ => False
theorem Cx.Ok.wish {X : Cx} (ok : X.Ok) (E : Value → Shared → Prop) : (X.wish E).Ok :=
  ⟨ok.mod, ok.kind, ok.glob, ok.blt, ok.above, ok.inj, ok.has, ok.cab, ok.hd, ok.frames, ok.stk, ok.exf, ok.bs, ok.bsz, ok.noex, ok.exfs, ok.funs, ok.frf⟩
theorem Cx.Ok.unwish {X : Cx} {E : Value → Shared → Prop} (ok : (X.wish E).Ok) : X.Ok :=
  ⟨ok.mod, ok.kind, ok.glob, ok.blt, ok.above, ok.inj, ok.has, ok.cab, ok.hd, ok.frames, ok.stk, ok.exf, ok.bs, ok.bsz, ok.noex, ok.exfs, ok.funs, ok.frf⟩
section
variable {X : Cx} {pins : List (Addr × Obj)} {σ : St} {H : Hp} {s : Shared} {E : Value → Shared → Prop}
theorem Inv.wish (I : Inv X pins σ H s) (E : Value → Shared → Prop) : Inv (X.wish E) pins σ H s := ⟨I.ok.wish E, I.os, I.bare, I.base, I.loc, I.cell, I.free, I.freeC, I.pin, I.hok, I.len⟩
theorem Inv.unwish (I : Inv (X.wish E) pins σ H s) : Inv X pins σ H s := ⟨I.ok.unwish, I.os, I.bare, I.base, I.loc, I.cell, I.free, I.freeC, I.pin, I.hok, I.len⟩
theorem SP.unwish {D : Ends} {f : Flow} {s' : Shared} (h : SP (X.wish E) pins D f s') : SP X pins D f s' := by
  cases f with
  | next => obtain ⟨σ', H', I, q⟩ := h; exact ⟨σ', H', I.unwish, q⟩
  | brk => obtain ⟨σ', H', I, q⟩ := h; exact ⟨σ', H', I.unwish, q⟩
  | cont => obtain ⟨σ', H', I, q⟩ := h; exact ⟨σ', H', I.unwish, q⟩
  | ret u => obtain ⟨v, σ', H', I, r, q⟩ := h; exact ⟨v, σ', H', I.unwish, r, q⟩
theorem PSs.nox {st : List Stmt} {t : TS} (h : PSs X.nox st t) : PSs X st t := by
  unfold PSs at *
  exact (fun pins s σ H D I hw =>
    wpAny_mono (h pins s σ H D (I.wish _) hw) (fun _ _ q => q.unwish) fun _ _ z => False.elim z)

end

/-! ### blocks and small statements -/
section
variable {X : Cx} {st : Stmt} {rest : List Stmt} {t u : TS} {e : Expr} {te : TE} {pos : Pos}
def tNext : TS := fun D σ H => D.nx σ H
def tSeq (t u : TS) : TS := fun D σ H => t { D with nx := u D } σ H
theorem pss_nil : PSs X [] tNext := by
  first
  | exact (fun _ _ σ H _ I h => wpAny_execs_nil ⟨σ, H, I, h⟩)
  | (unfold PSs at *; exact (fun _ _ σ H _ I h => wpAny_execs_nil ⟨σ, H, I, h⟩))

theorem pss_cons (h1 : PS X st t) (h2 : PSs X rest u) : PSs X (st :: rest) (tSeq t u) := by
  unfold PS at *; unfold PSs at *
  exact by
    intro pins s σ H D I h
    refine wpAny_execs_cons (thn (h1 pins s σ H { D with nx := u D } I h) fun f s1 q => ?_)
    cases f with
    | next =>
      obtain ⟨σ', H', I', q⟩ := q
      exact h2 pins s1 σ' H' D I' q
    | ret v => exact q
    | brk => exact q
    | cont => exact q

theorem pss_one (h1 : PS X st t) : PSs X [st] t := by
  unfold PS at *; unfold PSs at *
  exact by
    intro pins s σ H D I h
    refine wpAny_execs_cons (thn (h1 pins s σ H D I h) fun f s1 q => ?_)
    cases f with
    | next => exact wpAny_execs_nil q
    | ret v => exact q
    | brk => exact q
    | cont => exact q

/-- in a def's body nothing is shown -/
theorem Inv.quiet {pins : List (Addr × Obj)} {σ : St} {H : Hp} {s : Shared} (I : Inv X pins σ H s) : interactive X.env = false := by simp [interactive, I.ok.kind]
/-- an expression whose value is dropped -/
def tDrop (te : TE) : TS := fun D σ H => te σ H fun _ H1 => D.nx σ H1
theorem ps_expr (he : PE X e te) (hs : swapsWith e none pos.line X.env = pure false := by rfl) : PS X (.Expr e pos) (tDrop te) := by
  unfold PE at *; unfold PS at *
  exact by
    intro pins s σ H D I h
    exact wpAny_Expr_any (thn (he pins s σ H _ I h) fun v s1 ⟨x, H1, I1, r1, q1⟩ => ⟨σ, H1, I1, q1⟩) I.quiet hs

def tRet (te : TE) : TS := fun D σ H => te σ H D.rt
theorem ps_ret (he : PE X e te) : PS X (.Return (some e) pos) (tRet te) := by
  unfold PE at *; unfold PS at *
  exact by
    intro pins s σ H D I h
    exact wpAny_Return_some (thn (he pins s σ H _ I h) fun v s1 ⟨x, H1, I1, r1, q1⟩ => ⟨x, σ, H1, I1, r1, q1⟩)

def tRetN : TS := fun D _ H => D.rt .non H
theorem ps_retN : PS X (.Return none pos) tRetN := by
  first
  | exact (fun _ _ σ H _ I h => wpAny_Return_none ⟨.non, σ, H, I, rfl, h⟩)
  | (unfold PS at *; exact (fun _ _ σ H _ I h => wpAny_Return_none ⟨.non, σ, H, I, rfl, h⟩))

def tIfS (c : TT) (t u : TS) : TS := fun D σ H => c σ H fun b H1 => if b = true then t D σ H1 else u D σ H1
theorem ps_if {c : Expr} {a b : List Stmt} {tc : TT} (hc : PT X c tc) (ha : PSs X a t) (hb : PSs X b u) : PS X (.If c a b pos) (tIfS tc t u) := by
  unfold PT at *; unfold PS at *; unfold PSs at *
  exact by
    intro pins s σ H D I h
    refine wpAny_If (thn (hc pins s σ H _ I h) fun d s1 ⟨H1, I1, q1⟩ => ?_)
    cases d with
    | true => exact ha pins s1 σ H1 D I1 q1
    | false => exact hb pins s1 σ H1 D I1 q1

/-- code that the proof never comes to -/
def tNever : TS := fun _ _ _ => False
theorem ps_never : PS X st tNever := by
  first
  | exact (fun _ _ _ _ _ _ h => h.elim)
  | (unfold PS at *; exact (fun _ _ _ _ _ _ h => h.elim))

end

/-! ### targets -/
abbrev TG := V → St → Hp → (St → Hp → Prop) → Prop
abbrev TGs := List V → St → Hp → (St → Hp → Prop) → Prop
@[irreducible] def PG (X : Cx) (target : Expr) (t : TG) : Prop :=
  ∀ (pins : List (Addr × Obj)) (s : Shared) (σ : St) (H : Hp) (v : V) (u : Value) (Q : St → Hp → Prop), Inv X pins σ H s → RelV v u → t v σ H Q →
    wpAny (model X.prog X.w) X.A (assign target X.env u) (fun _ s' => ∃ σ' H', Inv X pins σ' H' s' ∧ Q σ' H') X.xe s
/-- several targets, one after another -/
@[irreducible] def PGs (X : Cx) (ts : List Expr) (t : TGs) : Prop :=
  ∀ (pins : List (Addr × Obj)) (s : Shared) (σ : St) (H : Hp) (vs : List V) (us : List Value) (Q : St → Hp → Prop), Inv X pins σ H s → Vals vs us → t vs σ H Q →
    wpAny (model X.prog X.w) X.A (assignInOrder ((assignEach ts X.env).map (·.2)) us) (fun _ s' => ∃ σ' H', Inv X pins σ' H' s' ∧ Q σ' H') X.xe s
/-- o[i] = v, by values -/
abbrev TSet := V → V → V → Hp → (Hp → Prop) → Prop
@[irreducible] def PSet (X : Cx) (t : TSet) : Prop :=
  ∀ (pins : List (Addr × Obj)) (s : Shared) (σ : St) (H : Hp) (o i v : V) (ov iv u : Value) (Q : Hp → Prop), Inv X pins σ H s → RelV o ov → RelV i iv → RelV v u → t o i v H Q →
    wpAny (model X.prog X.w) X.A (setItem ov iv u) (fun _ s' => ∃ H', Inv X pins σ H' s' ∧ Q H') X.xe s
section
variable {X : Cx} {pos : Pos}
def gName (i : Nat) : TG := fun v σ H Q => Q (σ.set i (some v)) H
theorem pg_name {i : Nat} {x : Str} (hN : X.N.Nodup) (hi : X.N[i]? = some x) (hx : Loc X.env.scope x) (hf : X.fn x = true ∨ X.env.scope.names.lookup x = some .local := by first | exact .inl rfl | exact .inr rfl | assumption) : PG X (.Name x pos) (gName i) := by
  unfold PG at *
  exact by
    intro pins s σ H v u Q I r h
    exact wpAny_assign_Name (store_ok I hN hi hx r (fun s' I' => ⟨_, H, I', h⟩) hf)

def gNil : TGs := fun vs σ H Q => vs = [] ∧ Q σ H
def gCons (t : TG) (u : TGs) : TGs := fun vs σ H Q => ∃ v r, vs = v :: r ∧ t v σ H fun σ' H' => u r σ' H' Q
theorem pgs_nil : PGs X [] gNil := by
  unfold PGs at *
  exact by
    intro pins s σ H vs us Q I r h
    obtain ⟨e, h⟩ := h
    subst e
    cases r
    exact assignInOrder_nil ⟨σ, H, I, h⟩

theorem pgs_cons {e : Expr} {es : List Expr} {t : TG} {u : TGs} (h1 : PG X e t) (h2 : PGs X es u)
    (hs : (assignEach (e :: es) X.env).map (·.2) = assign e X.env :: (assignEach es X.env).map (·.2) := by rfl) : PGs X (e :: es) (gCons t u) := by
  unfold PG at *; unfold PGs at *
  exact by
    intro pins s σ H vs us Q I r h
    obtain ⟨v, vr, e1, h⟩ := h
    subst e1
    cases r with
    | cons r rr =>
      rw [hs]
      refine assignInOrder_cons (thn (h1 pins s σ H _ _ _ I r h) fun _ s1 ⟨σ1, H1, I1, q1⟩ => ?_)
      exact h2 pins s1 σ1 H1 _ _ Q I1 rr q1

/-- (a, b, ..) = a tuple of that length -/
def gTup (K : PySem.W.Frag) (n : Nat) (t : TGs) : TG := fun v σ H Q => ∃ a xs, v = .ref a ∧ SqT K H a xs ∧ xs.length = n ∧ t xs σ H Q
theorem pg_tup {es : List Expr} {k : Nat} {t : TGs} {n : Nat} (hc : X.calm = true) (h : PGs X es t)
    (hn : (assignEach es X.env).length = n := by rfl) (hst : (assignEach es X.env).findIdx? (·.1) = none := by rfl) : PG X (.Tuple es k pos) (gTup X.K n t) := by
  unfold PG at *; unfold PGs at *
  exact by
    intro pins s σ H v u Q I r hw
    obtain ⟨a, xs, e1, hq, hl, hw⟩ := hw
    subst e1
    cases r
    obtain ⟨its, rv, ht, hz⟩ := I.tuple hq
    refine assign_Tuple_tuple (I.ok.hd hc) ht (by simp [hn, ← hl, rv.length]) hst fun h' hx => ?_
    have I1 : Inv X pins σ H { s with heap := h' } := I.kept (t' := s.toks) fun b o e => hx b o (Nat.ne_of_lt (Heap.lt_size e)) e
    exact h pins _ σ H xs _ Q I1 (by simpa using rv) hw

/-- o[i] = .. -/
def gSub (to ti : TE) (t : TSet) : TG := fun v σ H Q => to σ H fun o H1 => ti σ H1 fun i H2 => t o i v H2 fun H3 => Q σ H3
theorem pg_sub {o i : Expr} {to ti : TE} {t : TSet} (ho : PE X o to) (hi : PE X i ti) (hs : PSet X t)
    (ha : ∀ v, assign (.Subscript o i pos) X.env v = (do
      let ov ← holding [v] (eval o X.env)
      let iv ← holding [v, ov] (eval i X.env)
      standAt pos
      holding [v, ov, iv] (setItem ov iv v)
      release [v, ov, iv] []) := by intro _; rfl) : PG X (.Subscript o i pos) (gSub to ti t) := by
  unfold PE at *; unfold PG at *; unfold PSet at *
  exact by
    intro pins s σ H v u Q I r h
    rw [ha]
    refine wpAny_bind (wpAny_holding (thn (ho pins s σ H _ I h) fun ov s1 ⟨x, H1, I1, r1, q1⟩ => ?_))
    refine wpAny_bind (wpAny_holding (thn (hi pins s1 σ H1 _ I1 q1) fun iv s2 ⟨y, H2, I2, r2, q2⟩ => ?_))
    refine wpAny_bind (wpAny_standAt (wpAny_bind (wpAny_holding (thn (hs pins s2 σ H2 x y v ov iv u _ I2 r1 r2 r q2) fun _ s3 ⟨H3, I3, q3⟩ => ?_))))
    exact wpAny_release ⟨σ, H3, I3, q3⟩

/-- target = value -/
def tAsg (te : TE) (g : TG) : TS := fun D σ H => te σ H fun x H1 => g x σ H1 D.nx
theorem ps_asg {tg e : Expr} {te : TE} {g : TG} (he : PE X e te) (hg : PG X tg g) (hs : swapsWithSole [tg] e pos.line X.env = pure false := by rfl) (hw : swappedStores [tg] e X.env = pure none := by rfl)
    (h1 : (assignEach [tg] X.env).map (·.2) = [assign tg X.env] := by rfl) : PS X (.Assign [tg] e pos) (tAsg te g) := by
  unfold PE at *; unfold PS at *; unfold PG at *
  exact by
    intro pins s σ H D I h
    refine wpAny_Assign_stores (thn (he pins s σ H _ I h) fun v s1 ⟨x, H1, I1, r1, q1⟩ => ?_) hs hw
    rw [h1]
    exact thn (hg pins s1 σ H1 x v _ I1 r1 q1) fun _ s2 q => q

/-- name = value -/
theorem ps_set {i : Nat} {x : Str} {e : Expr} {te : TE} {pos' : Pos} (hN : X.N.Nodup) (hi : X.N[i]? = some x) (hx : Loc X.env.scope x) (he : PE X e te) (hs : swapsWith e (some (.Name x pos')) pos.line X.env = pure false := by rfl) (hf : X.fn x = true ∨ X.env.scope.names.lookup x = some .local := by first | exact .inl rfl | exact .inr rfl | assumption) :
    PS X (.Assign [.Name x pos'] e pos) (tAsg te (gName i)) := by
  unfold PE at *; unfold PS at *
  exact by
    intro pins s σ H D I h
    refine wpAny_Assign_Name (thn (he pins s σ H _ I h) fun v s1 ⟨y, H1, I1, r1, q1⟩ => ?_) hs
    exact store_ok I1 hN hi hx r1 (fun s2 I2 => ⟨_, H1, I2, q1⟩) hf

end

/-! ### while -/
section
variable {X : Cx} {pos : Pos}
end

/-! ### what a loop or a comprehension walks -/
/- at turn i: it yields x (the heap may grow), or it stops -/
set_option genInjectivity false in
set_option genSizeOfSpec false in
set_option genSizeOf false in
structure It where
  go : Nat → Hp → Prop
  yld : Nat → Hp → V → Hp → Prop
  stop : Nat → Hp → Prop
/-- the iterator's own objects may turn: they are not the frame's, not pinned, younger than the entry (or a comprehension's own) -/
def FpOk (X : Cx) (pins : List (Addr × Obj)) (H : Hp) (b : Addr) : Prop :=
  H b = none ∧ b ≠ X.env.locals ∧ b ∉ X.fs ∧ (b ∈ X.ex ∨ X.s₀.heap.objs.size ≤ b) ∧ (∀ x c, X.env.cells.lookup x = some c → c ≠ b) ∧ ∀ p ∈ X.pn ++ pins, p.1 ≠ b
theorem Inv.fpOk {X : Cx} {pins : List (Addr × Obj)} {σ : St} {H H' : Hp} {s : Shared} {b : Addr} (I : Inv X pins σ H s) (hb : s.heap.objs.size ≤ b) (hn : H' b = none) : FpOk X pins H' b := by
  refine ⟨hn, Nat.ne_of_gt (Nat.lt_of_lt_of_le I.lt hb), I.nofs hb, .inr (Nat.le_trans I.sz hb), fun x c e z => ?_, fun p hp z => ?_⟩
  · obtain ⟨v, q⟩ := I.cell x c e
    exact absurd (Nat.lt_of_lt_of_le q.lt (by rw [z]; exact hb)) (Nat.lt_irrefl _)
  · exact absurd (Nat.lt_of_lt_of_le (Heap.lt_size (I.pin p hp).1) (by rw [z]; exact hb)) (Nat.lt_irrefl _)
structure Turn (P : Program) (w : World) (K : PySem.W.Frag) (tg : Expr) (J : It) (fp : List Addr) (it : Addr) (tn : Nat → Heap → Prop) : Prop where
  mem : it ∈ fp
  obj : ∀ i h, tn i h → ∀ b ∈ fp, ∃ o, h.get? b = some o ∧ ∀ v, o.data ≠ .cell v
  keep : ∀ i h h', tn i h → (∀ b ∈ fp, ∀ o, h.get? b = some o → h'.get? b = some o) → tn i h'
  item : ∀ (X : Cx), X.prog = P → X.w = w → X.K = K → X.calm = true → ∀ (i : Nat) (pins : List (Addr × Obj)) (s : Shared) (σ : St) (H : Hp) (E : Value → Shared → Prop), Inv X pins σ H s → (∀ b ∈ fp, FpOk X pins H b) → tn i s.heap → J.go i H →
    wpAny (model P w) X.A (pyNext (.ref it)) (fun r s1 => ∃ u, r = some u ∧
      wpAny (model P w) X.A (letOwnedTupleGo tg (.ref it) u) (fun _ s2 => ∃ x H', Inv X pins σ H' s2 ∧ RelV x u ∧ J.yld i H x H' ∧ tn (i + 1) s2.heap ∧ ∀ b ∈ fp, H' b = none) E s1) E s
  done : ∀ (X : Cx), X.prog = P → X.w = w → X.K = K → X.calm = true → ∀ (i : Nat) (pins : List (Addr × Obj)) (s : Shared) (σ : St) (H : Hp) (E : Value → Shared → Prop), Inv X pins σ H s → (∀ b ∈ fp, FpOk X pins H b) → tn i s.heap → J.stop i H →
    wpAny (model P w) X.A (pyNext (.ref it)) (fun r s1 => r = none ∧ Inv X pins σ H s1) E s
  self : ∀ (A : Around) (i : Nat) (s : Shared) (Q : Value → Shared → Prop) (E : Value → Shared → Prop), tn i s.heap → Q (.ref it) s → wpAny (model P w) A (pyIter (.ref it)) Q E s
abbrev TI := St → Hp → (It → Hp → Prop) → Prop
/-- an iterator has come -/
def PIE (X : Cx) (pins : List (Addr × Obj)) (σ : St) (tg : Expr) (R : It → Hp → Prop) (itv : Value) (s2 : Shared) : Prop :=
  ∃ (it : Addr) (fp : List Addr) (tn : Nat → Heap → Prop) (J : It) (H' : Hp), itv = .ref it ∧ Inv X pins σ H' s2 ∧ Turn X.prog X.w X.K tg J fp it tn ∧ tn 0 s2.heap ∧ (∀ b ∈ fp, FpOk X pins H' b) ∧ R J H'
@[irreducible] def PI (X : Cx) (tg iter : Expr) (wi : TI) : Prop :=
  ∀ (pins : List (Addr × Obj)) (s : Shared) (σ : St) (H : Hp) (R : It → Hp → Prop), Inv X pins σ H s → wi σ H R →
    wpAny (model X.prog X.w) X.A (eval iter X.env) (fun v s1 => wpAny (model X.prog X.w) X.A (pyIter v) (PIE X pins σ tg R) X.xe s1) X.xe s

/-- the step ahead of the store is nothing for an iterator that keeps no tuple -/
theorem go_of {M : Model} {A : Around} {E : Value → Shared → Prop} {s : Shared} {tg : Expr} {it : Addr} {u : Value} {o : Obj} {n : String} {vs : Array Value} {Q : Unit → Shared → Prop} (ho : s.heap.get? it = some o) (hc : o.cls = .type n) (hd : o.data = .fields vs)
    (hn : ["enumerate", "zip", "dict_itemiterator", "dict_reverseitemiterator", "odict_iterator", "itertools.zip_longest", "itertools.pairwise"].contains n = false) (hQ : Q () s) : wpAny M A (letOwnedTupleGo tg (.ref it) u) Q E s := by
  unfold letOwnedTupleGo
  cases tg <;> first
    | exact wpAny_pure hQ
    | (cases u <;> first
        | exact wpAny_pure hQ
        | (refine wpAny_bind (wpAny_load ho ?_)
           rw [hc, hd]
           show wpAny M A (if (["enumerate", "zip", "dict_itemiterator", "dict_reverseitemiterator", "odict_iterator", "itertools.zip_longest", "itertools.pairwise"].contains n && vs[0]? == some (rawInt _)) = true then _ else _) Q E s
           rw [if_neg (by intro h; rw [hn, Bool.false_and] at h; cases h)]
           exact wpAny_pure hQ))

/-- the list at a, as it stands at each turn (a loop may append to it) -/
def Itl (K : PySem.W.Frag) (a : Addr) : It :=
  ⟨fun i H => ∃ xs x, SqL K H a xs ∧ xs[i]? = some x, fun i H x H' => H' = H ∧ ∀ xs, SqL K H a xs → xs[i]? = some x, fun i H => ∃ xs, SqL K H a xs ∧ xs.length ≤ i⟩
/-- lo, lo + 1, .. (n of them) -/
def Itr (lo : Int) (n : Nat) : It := ⟨fun i _ => i < n, fun i H x H' => H' = H ∧ x = .int (lo + i), fun i _ => n ≤ i⟩
theorem turn_list {P : Program} {w : World} {K : PySem.W.Frag} {tg : Expr} (a it : Addr) : Turn P w K tg (Itl K a) [it] it (fun i h => h.IsListIter it a i) where
  mem := by simp
  obj := fun i h st b hb => by
    have e : b = it := by simpa using hb
    subst e
    obtain ⟨o, e, c, d⟩ := st
    exact ⟨o, e, fun v z => by rw [d] at z; cases z⟩
  keep := fun i h h' st k => st.at fun o e => k it (by simp) o e
  item := by
    intro X hP hw hK hc i pins s σ H E I hf st hg
    subst hP hw hK
    obtain ⟨xs, x, hq, hx⟩ := hg
    obtain ⟨its, rv, p, hz⟩ := I.list hq
    obtain ⟨u, hu, ru⟩ := rv.get hx
    obtain ⟨f0, f1, f2, f3, f4, f5⟩ := hf it (by simp)
    refine wpAny_pyNext_list_item st p.isList (x := u) (by simpa using hu) fun h' st' sb => ?_
    have I1 : Inv X pins σ H { s with heap := h' } := I.turned (t' := s.toks) (fun b o hb e => (sb.2 b hb).trans e) f0 f1 f3 f4 f5
    obtain ⟨o, e, c, d⟩ := id st'
    exact ⟨u, rfl, go_of (s := { s with heap := h' }) e c d (by decide) ⟨x, H, I1, ru, ⟨rfl, fun ys hy => by rw [I.list_inj hy hq]; exact hx⟩, st', fun b hb => (hf b hb).1⟩⟩
  done := by
    intro X hP hw hK hc i pins s σ H E I hf st hg
    subst hP hw hK
    obtain ⟨xs, hq, hx⟩ := hg
    obtain ⟨its, rv, p, hz⟩ := I.list hq
    obtain ⟨f0, f1, f2, f3, f4, f5⟩ := hf it (by simp)
    have hl := rv.length
    exact wpAny_pyNext_list_end (I.ok.hd hc) st p.isList (by simp; omega) fun h' eb => ⟨rfl, I.turned (t' := s.toks) (fun b o hb e => eb b o hb e) f0 f1 f3 f4 f5⟩
  self := fun _ _ _ _ _ st h => wpAny_pyIter_listiter st h
theorem turn_range {P : Program} {w : World} {K : PySem.W.Frag} {tg : Expr} (it : Addr) (lo : Int) (n : Nat) : Turn P w K tg (Itr lo n) [it] it (fun i h => IsRangeIter h it (lo + (i : Nat) * 1) ((n : Int) - (i : Nat)) 1) where
  mem := by simp
  obj := fun i h st b hb => by
    have e : b = it := by simpa using hb
    subst e
    exact ⟨_, st, fun v z => by
      have z' : Data.fields _ = Data.cell v := z
      cases z'⟩
  keep := fun i h h' st k => k it (by simp) _ st
  item := by
    intro X hP hw hK hc i pins s σ H E I hf st hg
    subst hP hw hK
    obtain ⟨f0, f1, f2, f3, f4, f5⟩ := hf it (by simp)
    have W := Walks.range (prog := X.prog) (w := X.w) (I.ok.hd hc) it lo 1 n
    refine W.item i s _ _ hg st fun v h' tk hv st' kk => ?_
    obtain ⟨t, rfl⟩ := hv
    have I1 : Inv X pins σ H { s with heap := h', toks := tk } := I.turned (fun b o hb e => kk b o (by simpa using hb) e) f0 f1 f3 f4 f5
    refine ⟨_, rfl, go_of (s := { s with heap := h', toks := tk }) (n := "range_iterator") st' rfl rfl (by decide) ⟨.int (lo + i), H, I1, ⟨t, ?_⟩, ⟨rfl, rfl⟩, st', fun b hb => (hf b hb).1⟩⟩
    rw [Int.mul_one]
  done := by
    intro X hP hw hK hc i pins s σ H E I hf st hg
    subst hP hw hK
    obtain ⟨f0, f1, f2, f3, f4, f5⟩ := hf it (by simp)
    exact wpAny_pyNext_range_end (I.ok.hd hc) st (by have : n ≤ i := hg; omega) fun h' eb => ⟨rfl, I.turned (t' := s.toks) (fun b o hb e => eb b o hb e) f0 f1 f3 f4 f5⟩
  self := fun _ _ _ _ _ st h => wpAny_pyIter_rangeiter st h
end L2

namespace L2
open PySem PySem.Spec PyProof.Rows
section
variable {X : Cx} {tg : Expr}
def iList (K : PySem.W.Frag) (tl : TE) : TI := fun σ H R => tl σ H fun x H1 => ∃ a, x = .ref a ∧ (∃ xs, SqL K H1 a xs) ∧ R (Itl K a) H1
theorem pi_list {l : Expr} {tl : TE} (hl : PE X l tl) : PI X tg l (iList X.K tl) := by
  unfold PE at *; unfold PI at *
  exact by
    intro pins s σ H R I h
    refine thn (hl pins s σ H _ I h) fun v s1 ⟨x, H1, I1, r1, q1⟩ => ?_
    obtain ⟨a, e, ⟨xs, hq⟩, q⟩ := q1
    subst e
    cases r1
    obtain ⟨its, rv, p, hz⟩ := I1.list hq
    refine wpAny_pyIter_list p.isList ?_
    refine ⟨s1.heap.objs.size, [s1.heap.objs.size], _, _, H1, rfl, I1.kept (t' := s1.toks) fun b o e => Heap.get?_push_of_some _ e, turn_list a _, ⟨_, Heap.get?_push_size _ rfl, rfl, rfl⟩, fun b hb => ?_, q⟩
    have e : b = s1.heap.objs.size := by simpa using hb
    subst e
    exact I1.fpOk (Nat.le_refl _) (I1.hok.fresh (Nat.le_refl _))

/-- a range object just made, walked -/
theorem range_it {pins : List (Addr × Obj)} {σ : St} {H : Hp} {s : Shared} {R : It → Hp → Prop} {E : Value → Shared → Prop} {lo hi : Int} {t u v : Tok} {tk : Nat} (I : Inv X pins σ H s) (h1 : -(2 ^ 62) ≤ lo) (h2 : lo < 2 ^ 62) (h3 : -(2 ^ 62) ≤ hi) (h4 : hi < 2 ^ 62)
    (q : R (Itr lo (hi - lo).toNat) H) : wpAny (model X.prog X.w) X.A (pyIter (.ref s.heap.objs.size)) (PIE X pins σ tg R) E { s with heap := s.heap.push { cls := .type "range", data := .fields #[.int lo t, .int hi u, .int 1 v] }, toks := tk } := by
  refine wpAny_pyIter_range (IsRange.new ..) (small_one h1 h2 h3 h4) ?_
  have I1 : Inv X pins σ H { s with heap := s.heap.push { cls := .type "range", data := .fields #[.int lo t, .int hi u, .int 1 v] }, toks := tk } := I.kept fun b o e => Heap.get?_push_of_some _ e
  refine ⟨(s.heap.push { cls := .type "range", data := .fields #[.int lo t, .int hi u, .int 1 v] }).objs.size, [(s.heap.push { cls := .type "range", data := .fields #[.int lo t, .int hi u, .int 1 v] }).objs.size], _, _, H, rfl,
    I1.kept (t' := tk) fun b o e => Heap.get?_push_of_some _ e, turn_range _ lo (hi - lo).toNat, ?_, fun b hb => ?_, q⟩
  · have e1 : lo + ((0 : Nat) : Int) * 1 = lo := by simp
    have e2 : (((hi - lo).toNat : Nat) : Int) - ((0 : Nat) : Int) = Builtin.Range.rangeSize lo hi 1 := by rw [rangeSize_one]; split <;> omega
    show IsRangeIter _ _ (lo + ((0 : Nat) : Int) * 1) ((((hi - lo).toNat : Nat) : Int) - ((0 : Nat) : Int)) 1
    rw [e1, e2]
    exact Heap.get?_push_size _ rfl
  · have e : b = (s.heap.push { cls := .type "range", data := .fields #[.int lo t, .int hi u, .int 1 v] }).objs.size := by simpa using hb
    subst e
    exact I1.fpOk (Nat.le_refl _) (I1.hok.fresh (Nat.le_refl _))
def iRng1 (ta : TA) : TI := fun σ H R => ta σ H fun vs H1 => ∃ j : Int, vs = [.int j] ∧ -(2 ^ 62) ≤ j ∧ j < 2 ^ 62 ∧ R (Itr 0 j.toNat) H1
def iRng2 (ta : TA) : TI := fun σ H R => ta σ H fun vs H1 => ∃ i j : Int, vs = [.int i, .int j] ∧ (-(2 ^ 62) ≤ i ∧ i < 2 ^ 62 ∧ -(2 ^ 62) ≤ j ∧ j < 2 ^ 62) ∧ R (Itr i (j - i).toNat) H1
theorem pi_range1 {a : Expr} {ta : TA} {p pos : Pos} (hg : Gl X "range") (hm : X.mg "range" = none) (ha : PA X [a] ta) (hs : starEach [a] X.env = [(false, eval a X.env)] := by rfl) : PI X tg (.Call (.Name "range" p) [a] [] pos) (iRng1 ta) := by
  unfold PA at *; unfold PI at *
  exact by
    intro pins s σ H R I h
    refine Call_ (ld_blt I hg hm boot_range (PyProof.Rows.callWith_type1 (thn (ha pos pins s σ H _ I h) fun us s1 ⟨vs, H1, I1, r1, q1⟩ => ?_) hs rfl))
    obtain ⟨j, e, q1, q2, q⟩ := q1
    subst e
    cases r1 with
    | cons r rr =>
      cases rr
      obtain ⟨t, rfl⟩ := r
      exact call_range_1 (range_it I1 (by omega) (by omega) q1 q2 (by simpa using q))

theorem pi_range2 {a b : Expr} {ta : TA} {p pos : Pos} (hg : Gl X "range") (hm : X.mg "range" = none) (ha : PA X [a, b] ta) (hs : starEach [a, b] X.env = [(false, eval a X.env), (false, eval b X.env)] := by rfl) (hs2 : starEach [b] X.env = [(false, eval b X.env)] := by rfl) :
    PI X tg (.Call (.Name "range" p) [a, b] [] pos) (iRng2 ta) := by
  unfold PA at *; unfold PI at *
  exact by
    intro pins s σ H R I h
    refine Call_ (ld_blt I hg hm boot_range (PyProof.Rows.callWith_type1 (thn (ha pos pins s σ H _ I h) fun us s1 ⟨vs, H1, I1, r1, q1⟩ => ?_) (by rw [hs, hs2]) (by rw [hs2]; rfl)))
    obtain ⟨i, j, e, ⟨q1, q2, q3, q4⟩, q⟩ := q1
    subst e
    cases r1 with
    | cons r rr =>
      cases rr with
      | cons r' rr =>
        cases rr
        obtain ⟨t, rfl⟩ := r
        obtain ⟨t', rfl⟩ := r'
        exact call_range_2 (range_it I1 q1 q2 q3 q4 q)

/-! ### for -/
/-- W: the invariant by the turn and a measure; N: what the body is to reach -/
def tFor (wi : TI) (g : TG) (tb : TS) : TS := fun D σ H => wi σ H fun J H1 => ∃ W : Nat → Nat → St → Hp → Prop, (∃ m, W 0 m σ H1) ∧ ∀ i m σ H, W i m σ H →
  (J.stop i H ∧ D.nx σ H) ∨ (J.go i H ∧ ∃ N : St → Hp → Prop, (∀ σ' H', N σ' H' → ∃ m', m' < m ∧ W (i + 1) m' σ' H') ∧ ∀ x H', J.yld i H x H' → g x σ H' fun σ2 H2 => tb { D with nx := N, ct := N, bk := D.nx } σ2 H2)
/-- the records at fp as they stand -/
def pinsAt (fp : List Addr) (h : Heap) : List (Addr × Obj) := fp.filterMap fun b => (h.get? b).map fun o => (b, o)
theorem mem_pinsAt {fp : List Addr} {h : Heap} {b : Addr} {o : Obj} (hb : b ∈ fp) (e : h.get? b = some o) : (b, o) ∈ pinsAt fp h := List.mem_filterMap.mpr ⟨b, hb, by rw [e]; rfl⟩
theorem of_pinsAt {fp : List Addr} {h : Heap} {p : Addr × Obj} (hp : p ∈ pinsAt fp h) : p.1 ∈ fp ∧ h.get? p.1 = some p.2 := by
  obtain ⟨b, hb, e⟩ := List.mem_filterMap.mp hp
  cases q : h.get? b with
  | none => rw [q] at e; cases e
  | some o =>
    rw [q] at e
    have e' : (b, o) = p := Option.some.inj e
    subst e'
    exact ⟨hb, q⟩
theorem Inv.pinned {pins : List (Addr × Obj)} {σ : St} {H : Hp} {s : Shared} {fp : List Addr} (I : Inv X pins σ H s) (hf : ∀ b ∈ fp, FpOk X pins H b) (ho : ∀ b ∈ fp, ∃ o, s.heap.get? b = some o ∧ ∀ v, o.data ≠ .cell v) : Inv X (pins ++ pinsAt fp s.heap) σ H s :=
  I.pins_of fun p hp => (List.mem_append.mp hp).elim (fun z => I.pin p (List.mem_append_right _ z)) fun z => by
    obtain ⟨hb, e⟩ := of_pinsAt z
    obtain ⟨f0, f1, f2, _⟩ := hf p.1 hb
    obtain ⟨o, e', d⟩ := ho p.1 hb
    rw [e] at e'; cases e'
    exact ⟨e, f0, f1, f2, d⟩
theorem Inv.unpinned {pins pl : List (Addr × Obj)} {σ : St} {H : Hp} {s : Shared} (I : Inv X (pins ++ pl) σ H s) : Inv X pins σ H s := I.pins_of fun p hp => I.pin p (List.mem_append_right _ (List.mem_append_left _ hp))
theorem ps_for {iter : Expr} {body : List Stmt} {wi : TI} {g : TG} {tb : TS} {pos : Pos} (hp : PassesOwn (model X.prog X.w) X.A X.env X.xe) (hc : X.calm = true) (hi : PI X tg iter wi) (hg : PG X tg g) (hb : PSs X body tb)
    (hs : ∀ x, foldedSetIterable iter X.env x = pure x := by intro _; rfl) : PS X (.For tg iter body [] pos) (tFor wi g tb) := by
  unfold PS at *; unfold PSs at *; unfold PG at *; unfold PI at *
  exact by
    intro pins s σ H D I h
    refine wpAny_For (thn (hi pins s σ H _ I h) fun v s1 h1 => thn h1 fun itv s2 h2 => ?_) hs
    obtain ⟨it, fp, tn, J, H2, e, I2, T, st2, f2, W, ⟨m0, w0⟩, turn⟩ := h2
    subst e
    -- what stays true of the iterator's objects through the loop
    have stat : ∀ {H' : Hp}, (∀ b ∈ fp, H' b = none) → ∀ b ∈ fp, FpOk X pins H' b := fun hn b hb => ⟨hn b hb, (f2 b hb).2⟩
    refine codeAny_forLoop_any (fun n s' => ∃ i σ' H', Inv X pins σ' H' s' ∧ tn i s'.heap ∧ (∀ b ∈ fp, H' b = none) ∧ W i n σ' H') ?_ m0 ⟨0, σ, H2, I2, st2, fun b hb => (f2 b hb).1, w0⟩
    rintro n s3 ⟨i, σ3, H3, I3, st3, fr3, w3⟩
    rcases turn i n σ3 H3 w3 with ⟨stop, qn⟩ | ⟨go, N, hN, step⟩
    · refine wpAny_passesOwn hp (thn (T.done X rfl rfl rfl hc i pins s3 σ3 H3 X.xe I3 (stat fr3) st3 stop) fun r s4 ⟨hr, I4⟩ => ?_)
      subst hr
      exact wpAny_execs_nil ⟨σ3, H3, I4, qn⟩
    · refine wpAny_passesOwn hp (thn (T.item X rfl rfl rfl hc i pins s3 σ3 H3 X.xe I3 (stat fr3) st3 go) fun r s4 ⟨u, hr, h4⟩ => ?_)
      subst hr
      refine wpAny_passesOwn hp (thn h4 fun _ s5 ⟨x, H5, I5, r5, y5, st5, fr5⟩ => ?_)
      have I5' := I5.pinned (stat fr5) (T.obj _ _ st5)
      refine wpAny_passesOwn hp (thn (hg _ s5 σ3 H5 x u _ I5' r5 (step x H5 y5)) fun _ s6 ⟨σ6, H6, I6, q6⟩ => ?_)
      refine wpAny_passesOwn hp (thn (hb _ s6 σ6 H6 _ I6 q6) fun f s7 q7 => ?_)
      have again : ∀ {σ7 : St} {H7 : Hp}, Inv X (pins ++ pinsAt fp s5.heap) σ7 H7 s7 → N σ7 H7 → ∃ m, m < n ∧ ∃ i σ' H', Inv X pins σ' H' s7 ∧ tn i s7.heap ∧ (∀ b ∈ fp, H' b = none) ∧ W i m σ' H' := fun {σ7 H7} I7 n7 => by
        obtain ⟨m', hm, w7⟩ := hN σ7 H7 n7
        refine ⟨m', hm, i + 1, σ7, H7, I7.unpinned, T.keep _ _ _ st5 fun b hb o e => (I7.pin (b, o) (List.mem_append_right _ (List.mem_append_right _ (mem_pinsAt hb e)))).1, fun b hb => ?_, w7⟩
        obtain ⟨o, e, d⟩ := T.obj _ _ st5 b hb
        exact (I7.pin (b, o) (List.mem_append_right _ (List.mem_append_right _ (mem_pinsAt hb e)))).2.1
      cases f with
      | next => obtain ⟨σ7, H7, I7, n7⟩ := q7; exact again I7 n7
      | cont => obtain ⟨σ7, H7, I7, n7⟩ := q7; exact again I7 n7
      | brk => obtain ⟨σ7, H7, I7, q7⟩ := q7; exact ⟨σ7, H7, I7.unpinned, q7⟩
      | ret v => obtain ⟨x7, σ7, H7, I7, r7, q7⟩ := q7; exact ⟨x7, σ7, H7, I7.unpinned, r7, q7⟩

end

/-! ### the forms one uses -/
/-- over a list that the body leaves as it is -/
theorem for_list {K : PySem.W.Frag} {a : Addr} {xs : List V} {g : TG} {tb : TS} {D : Ends} {σ : St} {H : Hp} (Pv : Nat → St → Hp → Prop) (h0 : Pv 0 σ H) (hl : ∀ i σ H, i ≤ xs.length → Pv i σ H → SqL K H a xs)
    (hs : ∀ i x σ H, xs[i]? = some x → Pv i σ H → g x σ H fun σ2 H2 => tb { D with nx := Pv (i + 1), ct := Pv (i + 1), bk := D.nx } σ2 H2) (hd : ∀ σ H, Pv xs.length σ H → D.nx σ H) :
    ∃ W : Nat → Nat → St → Hp → Prop, (∃ m, W 0 m σ H) ∧ ∀ i m σ H, W i m σ H →
      ((Itl K a).stop i H ∧ D.nx σ H) ∨ ((Itl K a).go i H ∧ ∃ N : St → Hp → Prop, (∀ σ' H', N σ' H' → ∃ m', m' < m ∧ W (i + 1) m' σ' H') ∧ ∀ x H', (Itl K a).yld i H x H' → g x σ H' fun σ2 H2 => tb { D with nx := N, ct := N, bk := D.nx } σ2 H2) := by
  refine ⟨fun i m σ H => m = xs.length - i ∧ i ≤ xs.length ∧ Pv i σ H, ⟨xs.length, by simp, Nat.zero_le _, h0⟩, ?_⟩
  rintro i m σ H ⟨rfl, hi, p⟩
  have q := hl i σ H hi p
  by_cases hlt : i < xs.length
  · refine .inr ⟨⟨xs, xs[i], q, by simp [hlt]⟩, Pv (i + 1), fun σ' H' p' => ⟨xs.length - (i + 1), by omega, rfl, hlt, p'⟩, fun x H' y => ?_⟩
    obtain ⟨e, y⟩ := y
    subst e
    exact hs i x σ _ (y xs q) p
  · have e : i = xs.length := by omega
    subst e
    exact .inl ⟨⟨xs, q, Nat.le_refl _⟩, hd σ H p⟩
theorem for_range {lo : Int} {n : Nat} {g : TG} {tb : TS} {D : Ends} {σ : St} {H : Hp} (Pv : Nat → St → Hp → Prop) (h0 : Pv 0 σ H)
    (hs : ∀ i σ H, i < n → Pv i σ H → g (.int (lo + i)) σ H fun σ2 H2 => tb { D with nx := Pv (i + 1), ct := Pv (i + 1), bk := D.nx } σ2 H2) (hd : ∀ σ H, Pv n σ H → D.nx σ H) :
    ∃ W : Nat → Nat → St → Hp → Prop, (∃ m, W 0 m σ H) ∧ ∀ i m σ H, W i m σ H →
      ((Itr lo n).stop i H ∧ D.nx σ H) ∨ ((Itr lo n).go i H ∧ ∃ N : St → Hp → Prop, (∀ σ' H', N σ' H' → ∃ m', m' < m ∧ W (i + 1) m' σ' H') ∧ ∀ x H', (Itr lo n).yld i H x H' → g x σ H' fun σ2 H2 => tb { D with nx := N, ct := N, bk := D.nx } σ2 H2) := by
  refine ⟨fun i m σ H => m = n - i ∧ i ≤ n ∧ Pv i σ H, ⟨n, by simp, Nat.zero_le _, h0⟩, ?_⟩
  rintro i m σ H ⟨rfl, hi, p⟩
  by_cases hlt : i < n
  · refine .inr ⟨hlt, Pv (i + 1), fun σ' H' p' => ⟨n - (i + 1), by omega, rfl, hlt, p'⟩, fun x H' y => ?_⟩
    obtain ⟨e, y⟩ := y
    subst e y
    exact hs i σ _ hlt p
  · have e : i = n := by omega
    subst e
    exact .inl ⟨Nat.le_refl _, hd σ H p⟩
end L2

namespace L2
open PySem PySem.Spec PyProof.Rows

abbrev R2 := V → V → Hp → VK → Prop
/-- a two-place operation on values: f is binaryOp op, inplaceOp op or compareOp op -/
@[irreducible] def OpR (X : Cx) (f : Value → Value → Sem Value) (r : R2) : Prop :=
  ∀ (pins : List (Addr × Obj)) (s : Shared) (σ : St) (H : Hp) (x y : V) (v u : Value) (Q : VK), Inv X pins σ H s → RelV x v → RelV y u → r x y H Q →
    wpAny (model X.prog X.w) X.A (f v u) (EP X pins σ Q) X.xe s
/-- a one-place operation -/
@[irreducible] def UnR (X : Cx) (f : Value → Sem Value) (r : V → Hp → VK → Prop) : Prop :=
  ∀ (pins : List (Addr × Obj)) (s : Shared) (σ : St) (H : Hp) (x : V) (v : Value) (Q : VK), Inv X pins σ H s → RelV x v → r x H Q →
    wpAny (model X.prog X.w) X.A (f v) (EP X pins σ Q) X.xe s
/-- a call of a value that is known (a builtin, a type) with values -/
@[irreducible] def CallR (X : Cx) (f : Value) (r : List V → Hp → VK → Prop) : Prop :=
  ∀ (pins : List (Addr × Obj)) (s : Shared) (σ : St) (H : Hp) (xs : List V) (us : List Value) (Q : VK), Inv X pins σ H s → Vals xs us → r xs H Q →
    wpAny (model X.prog X.w) X.A (call f us) (EP X pins σ Q) X.xe s
/-- a value's truth -/
@[irreducible] def TruR (X : Cx) (r : V → Hp → (Bool → Hp → Prop) → Prop) : Prop :=
  ∀ (pins : List (Addr × Obj)) (s : Shared) (σ : St) (H : Hp) (x : V) (v : Value) (Q : Bool → Hp → Prop), Inv X pins σ H s → RelV x v → r x H Q →
    wpAny (model X.prog X.w) X.A (truthy v) (TP X pins σ Q) X.xe s

def tOp (r : R2) (ta tb : TE) : TE := fun σ H Q => ta σ H fun x H1 => tb σ H1 fun y H2 => r x y H2 Q
def tUn (r : V → Hp → VK → Prop) (ta : TE) : TE := fun σ H Q => ta σ H fun x H1 => r x H1 Q
/-- ints in, under C, and a value out -/
def rI (C : Int → Int → Prop) (g : Int → Int → V) : R2 := fun x y H Q => ∃ i j, x = .int i ∧ y = .int j ∧ C i j ∧ Q (g i j) H
def rI0 (g : Int → Int → V) : R2 := fun x y H Q => ∃ i j, x = .int i ∧ y = .int j ∧ Q (g i j) H
def rU (g : Int → V) : V → Hp → VK → Prop := fun x H Q => ∃ i, x = .int i ∧ Q (g i) H

section
variable {X : Cx} {a b c : Expr} {ta tb tc : TE} {pos : Pos}

theorem binT (ha : PE X a ta) (hb : PE X b tb) {pins : List (Addr × Obj)} {s : Shared} {σ : St} {H : Hp} {R : V → V → Hp → Prop} (I : Inv X pins σ H s)
    (h : ta σ H fun x H1 => tb σ H1 fun y H2 => R x y H2) {Q : Value → Shared → Prop} {f : Value → Value → Sem Value}
    (hf : ∀ v u s2 x y H2, Inv X pins σ H2 s2 → RelV x v → RelV y u → R x y H2 → wpAny (model X.prog X.w) X.A (f v u) Q X.xe s2) :
    wpAny (model X.prog X.w) X.A (eval a X.env) (fun v s₁ => wpAny (model X.prog X.w) X.A (eval b X.env) (fun u s₂ => wpAny (model X.prog X.w) X.A (f v u) Q X.xe s₂) X.xe s₁) X.xe s := by
  unfold PE at *
  exact by
    refine thn (ha pins s σ H _ I h) fun v s1 ⟨x, H1, I1, r1, q1⟩ => ?_
    refine thn (hb pins s1 σ H1 _ I1 q1) fun u s2 ⟨y, H2, I2, r2, q2⟩ => ?_
    exact hf v u s2 x y H2 I2 r1 r2 q2

theorem pe_op {op : Operator} {r : R2} (ho : OpR X (binaryOp op) r) (ha : PE X a ta) (hb : PE X b tb) : PE X (.BinOp a op b pos) (tOp r ta tb) := by
  unfold PE; unfold OpR at ho
  exact by
    intro pins s σ H Q I h
    exact wpAny_BinOp (binT ha hb I h fun v u s2 x y H2 I2 rx ry q => ho pins s2 σ H2 x y v u Q I2 rx ry q)

theorem pe_un {op : UnaryOp} {r : V → Hp → VK → Prop} (ho : UnR X (unaryOp op) r) (ha : PE X a ta) : PE X (.UnaryOp op a pos) (tUn r ta) := by
  unfold PE at *; unfold UnR at *
  exact by
    intro pins s σ H Q I h
    exact UnaryOp_ (thn (ha pins s σ H _ I h) fun v s1 ⟨x, H1, I1, r1, q1⟩ => ho pins s1 σ H1 x v Q I1 r1 q1)

/-! ### ints -/
theorem opI {f : Value → Value → Sem Value} {C : Int → Int → Prop} {g : Int → Int → Int}
    (rule : ∀ (i j : Int) (t u : Tok) (s : Shared) (Q : Value → Shared → Prop) (E : Value → Shared → Prop), C i j → Q (.int (g i j) s.toks) { s with toks := s.toks + 1 } → wpAny (model X.prog X.w) X.A (f (.int i t) (.int j u)) Q E s) :
    OpR X f (rI C fun i j => .int (g i j)) := by
  unfold OpR at *
  exact by
    intro pins s σ H x y v u Q I rx ry h
    obtain ⟨i, j, rfl, rfl, hc, q⟩ := h
    obtain ⟨t, rfl⟩ := rx
    obtain ⟨t', rfl⟩ := ry
    exact rule i j t t' s _ _ hc ⟨.int (g i j), H, I.tok _, ⟨_, rfl⟩, q⟩

theorem opI0 {f : Value → Value → Sem Value} {g : Int → Int → Int}
    (rule : ∀ (i j : Int) (t u : Tok) (s : Shared) (Q : Value → Shared → Prop) (E : Value → Shared → Prop), Q (.int (g i j) s.toks) { s with toks := s.toks + 1 } → wpAny (model X.prog X.w) X.A (f (.int i t) (.int j u)) Q E s) :
    OpR X f (rI0 fun i j => .int (g i j)) := by
  unfold OpR at *
  exact by
    intro pins s σ H x y v u Q I rx ry h
    obtain ⟨i, j, rfl, rfl, q⟩ := h
    obtain ⟨t, rfl⟩ := rx
    obtain ⟨t', rfl⟩ := ry
    exact rule i j t t' s _ _ ⟨.int (g i j), H, I.tok _, ⟨_, rfl⟩, q⟩

theorem opB0 {f : Value → Value → Sem Value} {g : Int → Int → Bool}
    (rule : ∀ (i j : Int) (t u : Tok) (s : Shared) (Q : Value → Shared → Prop) (E : Value → Shared → Prop), Q (.bool (g i j)) s → wpAny (model X.prog X.w) X.A (f (.int i t) (.int j u)) Q E s) :
    OpR X f (rI0 fun i j => .bl (g i j)) := by
  unfold OpR at *
  exact by
    intro pins s σ H x y v u Q I rx ry h
    obtain ⟨i, j, rfl, rfl, q⟩ := h
    obtain ⟨t, rfl⟩ := rx
    obtain ⟨t', rfl⟩ := ry
    exact rule i j t t' s _ _ ⟨.bl (g i j), H, I, rfl, q⟩

def CDiv (i j : Int) : Prop := 0 < j ∧ j < 1073741824
def CPow (i j : Int) : Prop := 0 ≤ j ∧ j ≤ 1000000 ∧ i.natAbs < 2 ^ 64
def CMul (i j : Int) : Prop := (-(2 ^ 64) < i ∧ i < 2 ^ 64) ∨ (-(2 ^ 64) < j ∧ j < 2 ^ 64)
theorem CMul.ok {i j : Int} (h : CMul i j) : IntMulOk i j := by
  rcases h with ⟨h1, h2⟩ | ⟨h1, h2⟩
  · exact .of_left (intBits_le_64 h1 h2)
  · exact .of_right (intBits_le_64 h1 h2)
theorem op_add : OpR X (binaryOp .Add) (rI0 fun i j => .int (i + j)) := by
  first
  | exact (opI0 fun _ _ _ _ _ _ _ q => add_int q)
  | (unfold OpR at *; exact (opI0 fun _ _ _ _ _ _ _ q => add_int q))

theorem op_mul : OpR X (binaryOp .Mult) (rI CMul fun i j => .int (i * j)) := by
  first
  | exact (opI fun _ _ _ _ _ _ _ hc q => mul_int q hc.ok)
  | (unfold OpR at *; exact (opI fun _ _ _ _ _ _ _ hc q => mul_int q hc.ok))

/-- // by a positive divisor -/
theorem op_fdiv : OpR X (binaryOp .FloorDiv) (rI CDiv fun i j => .int (i / j)) := opI fun i j _ _ _ _ _ hc q => by
  have h1 : (0 : Int) < j := hc.1
  have h2 : j < 1073741824 := hc.2
  exact floordiv_int (by omega) (by rw [Int.fdiv_eq_ediv_of_nonneg i (by omega)]; exact q) (.inl (PyProof.noPylong_small (by omega)))
/-- % by a positive divisor of any size -/
theorem op_mod : OpR X (binaryOp .Mod) (rI (fun _ j => 0 < j) fun i j => .int (i % j)) := opI fun i j _ _ _ _ _ hc q => by
  have h1 : (0 : Int) < j := hc
  exact mod_int' (by omega) (by rw [Int.fmod_eq_emod_of_nonneg i (by omega)]; exact q)
theorem op_pow : OpR X (binaryOp .Pow) (rI CPow fun i j => .int (i ^ j.toNat)) := by
  first
  | exact (opI fun _ _ _ _ _ _ _ hc q => pow_int_small hc.1 hc.2.1 hc.2.2 q)
  | (unfold OpR at *; exact (opI fun _ _ _ _ _ _ _ hc q => pow_int_small hc.1 hc.2.1 hc.2.2 q))

theorem unI {f : Value → Sem Value} {g : Int → Int}
    (rule : ∀ (i : Int) (t : Tok) (s : Shared) (Q : Value → Shared → Prop) (E : Value → Shared → Prop), Q (.int (g i) s.toks) { s with toks := s.toks + 1 } → wpAny (model X.prog X.w) X.A (f (.int i t)) Q E s) :
    UnR X f (rU fun i => .int (g i)) := by
  unfold UnR at *
  exact by
    intro pins s σ H x v Q I rx h
    obtain ⟨i, rfl, q⟩ := h
    obtain ⟨t, rfl⟩ := rx
    exact rule i t s _ _ ⟨.int (g i), H, I.tok _, ⟨_, rfl⟩, q⟩

theorem un_neg : UnR X (unaryOp .USub) (rU fun i => .int (-i)) := by
  first
  | exact (unI fun _ _ _ _ _ q => neg_int q)
  | (unfold UnR at *; exact (unI fun _ _ _ _ _ q => neg_int q))

/-! ### bools among ints: n += (a < b) -/
end

/-! ### comparisons -/
/-- the scalars that == tells apart as data does -/
def scal : V → V → Bool
  | .non, .non => true | .non, .int _ => true | .int _, .non => true | .non, .bl _ => true | .bl _, .non => true | .non, .str _ => true | .str _, .non => true
  | .int _, .int _ => true | .bl _, .bl _ => true | .str _, .str _ => true | .byt _, .byt _ => true
  | .int _, .str _ => true | .str _, .int _ => true | .bl _, .str _ => true | .str _, .bl _ => true
  | _, _ => false
def rEq : R2 := fun x y H Q => scal x y = true ∧ Q (.bl (decide (x = y))) H
def rNe : R2 := fun x y H Q => scal x y = true ∧ Q (.bl (!decide (x = y))) H

theorem dec_int {i j : Int} : decide (V.int i = V.int j) = (i == j) := by
  rw [Bool.eq_iff_iff]
  simp
theorem dec_bl {i j : Bool} : decide (V.bl i = V.bl j) = (i == j) := by
  rw [Bool.eq_iff_iff]
  simp
theorem dec_str {i j : Str} : decide (V.str i = V.str j) = (i == j) := by
  rw [Bool.eq_iff_iff]
  simp
theorem dec_byt {i j : Array UInt8} : decide (V.byt i = V.byt j) = (i.toList == j.toList) := by
  rw [Bool.eq_iff_iff]
  cases i
  cases j
  simp

section
variable {X : Cx} {a b c : Expr} {ta tb tc : TE} {pos : Pos}
theorem fin_bl {pins : List (Addr × Obj)} {σ : St} {H : Hp} {s : Shared} {Q : VK} {k k' : Bool} (I : Inv X pins σ H s) (q : Q (.bl k) H) (e : k = k') : EP X pins σ Q (.bool k') s := by
  subst e
  exact ⟨.bl k, H, I, rfl, q⟩
theorem op_eq : OpR X (compareOp .Eq) rEq := by
  unfold OpR at *
  exact by
    intro pins s σ H x y v u Q I rx ry h
    obtain ⟨hs, q⟩ := h
    cases x with
    | non =>
      cases rx
      cases y with
      | non => cases ry; exact PySem.EqNone.eq_none_none (fin_bl I q (by simp))
      | bl j => cases ry; exact PySem.EqNone.eq_none_bool (fin_bl I q (by simp))
      | int j => obtain ⟨t', rfl⟩ := ry; exact PySem.EqNone.eq_none_int (fin_bl I q (by simp))
      | str j => obtain ⟨t', rfl⟩ := ry; exact PySem.EqNone.eq_none_str (fin_bl I q (by simp))
      | _ => exact absurd (show false = true from hs) Bool.false_ne_true
    | bl i =>
      cases rx
      cases y with
      | non => cases ry; exact PySem.EqNone.eq_bool_none (fin_bl I q (by simp))
      | bl j => cases ry; exact eq_bool (fin_bl I q dec_bl)
      | str j => obtain ⟨t', rfl⟩ := ry; exact PySem.EqMixed.eq_bool_str (fin_bl I q (by simp))
      | _ => exact absurd (show false = true from hs) Bool.false_ne_true
    | int i =>
      obtain ⟨t, rfl⟩ := rx
      cases y with
      | non => cases ry; exact PySem.EqNone.eq_int_none (fin_bl I q (by simp))
      | int j => obtain ⟨t', rfl⟩ := ry; exact eq_int (fin_bl I q dec_int)
      | str j => obtain ⟨t', rfl⟩ := ry; exact PySem.EqMixed.eq_int_str (fin_bl I q (by simp))
      | _ => exact absurd (show false = true from hs) Bool.false_ne_true
    | str i =>
      obtain ⟨t, rfl⟩ := rx
      cases y with
      | non => cases ry; exact PySem.EqNone.eq_str_none (fin_bl I q (by simp))
      | bl j => cases ry; exact PySem.EqMixed.eq_str_bool (fin_bl I q (by simp))
      | int j => obtain ⟨t', rfl⟩ := ry; exact PySem.EqMixed.eq_str_int (fin_bl I q (by simp))
      | str j => obtain ⟨t', rfl⟩ := ry; exact eq_str (fin_bl I q dec_str)
      | _ => exact absurd (show false = true from hs) Bool.false_ne_true
    | byt i =>
      obtain ⟨t, rfl⟩ := rx
      cases y with
      | byt j => obtain ⟨t', rfl⟩ := ry; exact PySem.W.eq_bytes (fin_bl I q dec_byt)
      | _ => exact absurd (show false = true from hs) Bool.false_ne_true
    | _ => cases y <;> exact absurd (show false = true from hs) Bool.false_ne_true

theorem op_ne : OpR X (compareOp .NotEq) rNe := by
  unfold OpR at *
  exact by
    intro pins s σ H x y v u Q I rx ry h
    obtain ⟨hs, q⟩ := h
    cases x with
    | non =>
      cases rx
      cases y with
      | non => cases ry; exact PySem.EqNone.ne_none_none (fin_bl I q (by simp))
      | bl j => cases ry; exact PySem.EqNone.ne_none_bool (fin_bl I q (by simp))
      | int j => obtain ⟨t', rfl⟩ := ry; exact PySem.EqNone.ne_none_int (fin_bl I q (by simp))
      | str j => obtain ⟨t', rfl⟩ := ry; exact PySem.EqNone.ne_none_str (fin_bl I q (by simp))
      | _ => exact absurd (show false = true from hs) Bool.false_ne_true
    | bl i =>
      cases rx
      cases y with
      | non => cases ry; exact PySem.EqNone.ne_bool_none (fin_bl I q (by simp))
      | bl j => cases ry; exact ne_bool (fin_bl I q (congrArg not dec_bl))
      | str j => obtain ⟨t', rfl⟩ := ry; exact PySem.EqMixed.ne_bool_str (fin_bl I q (by simp))
      | _ => exact absurd (show false = true from hs) Bool.false_ne_true
    | int i =>
      obtain ⟨t, rfl⟩ := rx
      cases y with
      | non => cases ry; exact PySem.EqNone.ne_int_none (fin_bl I q (by simp))
      | int j => obtain ⟨t', rfl⟩ := ry; exact ne_int (fin_bl I q (congrArg not dec_int))
      | str j => obtain ⟨t', rfl⟩ := ry; exact PySem.EqMixed.ne_int_str (fin_bl I q (by simp))
      | _ => exact absurd (show false = true from hs) Bool.false_ne_true
    | str i =>
      obtain ⟨t, rfl⟩ := rx
      cases y with
      | non => cases ry; exact PySem.EqNone.ne_str_none (fin_bl I q (by simp))
      | bl j => cases ry; exact PySem.EqMixed.ne_str_bool (fin_bl I q (by simp))
      | int j => obtain ⟨t', rfl⟩ := ry; exact PySem.EqMixed.ne_str_int (fin_bl I q (by simp))
      | str j => obtain ⟨t', rfl⟩ := ry; exact ne_str (fin_bl I q (congrArg not dec_str))
      | _ => exact absurd (show false = true from hs) Bool.false_ne_true
    | byt i =>
      obtain ⟨t, rfl⟩ := rx
      cases y with
      | byt j => obtain ⟨t', rfl⟩ := ry; exact PySem.W.ne_bytes (fin_bl I q (congrArg not dec_byt))
      | _ => exact absurd (show false = true from hs) Bool.false_ne_true
    | _ => cases y <;> exact absurd (show false = true from hs) Bool.false_ne_true

theorem op_le : OpR X (compareOp .LtE) (rI0 fun i j => .bl (decide (i ≤ j))) := by
  first
  | exact (opB0 fun _ _ _ _ _ _ _ q => le_int q)
  | (unfold OpR at *; exact (opB0 fun _ _ _ _ _ _ _ q => le_int q))

theorem op_gt : OpR X (compareOp .Gt) (rI0 fun i j => .bl (decide (j < i))) := by
  first
  | exact (opB0 fun _ _ _ _ _ _ _ q => gt_int q)
  | (unfold OpR at *; exact (opB0 fun _ _ _ _ _ _ _ q => gt_int q))

theorem nomark (b : Expr) {op : CmpOp} (h : op ≠ .In := by decide) (h2 : op ≠ .NotIn := by decide) : behindInMarks op b = false := by
  have e1 : (op == CmpOp.In) = false := by cases op <;> first | rfl | exact absurd rfl h
  have e2 : (op == CmpOp.NotIn) = false := by cases op <;> first | rfl | exact absurd rfl h2
  cases b <;> simp [behindInMarks, e1, e2]
/-- a comparison as a value; hm: nomark b, or (for in, not in) by with_unfolding_all rfl -/
theorem pe_cmpR {op : CmpOp} {r : R2} (ho : OpR X (compareOp op) r) (ha : PE X a ta) (hb : PE X b tb) (hm : behindInMarks op b = false) : PE X (.Compare a [op] [b] pos) (tOp r ta tb) := by
  unfold PE; unfold OpR at ho
  exact by
    intro pins s σ H Q I h
    exact wpAny_Compare1 (binT ha hb I h fun v u s2 x y H2 I2 rx ry q => ho pins s2 σ H2 x y v u Q I2 rx ry q) hm

/-- a reading of a value as a test -/
def tTest (t : TE) : TT := fun σ H Q => t σ H fun x H' => ∃ k, x = .bl k ∧ Q k H'
theorem pt_cmpR {op : CmpOp} {r : R2} (ho : OpR X (compareOp op) r) (ha : PE X a ta) (hb : PE X b tb) (hm : behindInMarks op b = false) : PT X (.Compare a [op] [b] pos) (tTest (tOp r ta tb)) := by
  unfold PE at *; unfold PT at *; unfold OpR at *
  exact by
    intro pins s σ H Q I h
    refine wpAny_isTrue_Compare1 (thn (ha pins s σ H _ I h) fun v s1 ⟨x, H1, I1, r1, q1⟩ => thn (hb pins s1 σ H1 _ I1 q1) fun u s2 ⟨y, H2, I2, r2, q2⟩ =>
      thn (ho pins s2 σ H2 x y v u _ I2 r1 r2 q2) fun c s3 ⟨z, H3, I3, r3, k, e, q3⟩ => ?_) hm
    subst e
    cases r3
    exact wpAny_truthy_bool ⟨H3, I3, q3⟩

/-- a op1 b op2 c -/
def tChain (r r' : R2) (ta tb tc : TE) : TE := fun σ H Q => ta σ H fun x H1 => tb σ H1 fun y H2 => r x y H2 fun z H3 => ∃ k, z = .bl k ∧
  (if k = true then tc σ H3 fun w' H4 => r' y w' H4 Q else Q (.bl false) H3)
theorem pe_chain {op op' : CmpOp} {r r' : R2} (ho : OpR X (compareOp op) r) (ho' : OpR X (compareOp op') r') (ha : PE X a ta) (hb : PE X b tb) (hc : PE X c tc)
    (hm : lastMarks [op, op'] [b, c] = false := by with_unfolding_all rfl) : PE X (.Compare a [op, op'] [b, c] pos) (tChain r r' ta tb tc) := by
  unfold PE at *; unfold OpR at *
  exact by
    intro pins s σ H Q I h
    refine Compare_chain (thn (ha pins s σ H _ I h) fun v s1 ⟨x, H1, I1, r1, q1⟩ => chain_link (thn (hb pins s1 σ H1 _ I1 q1) fun u s2 ⟨y, H2, I2, r2, q2⟩ =>
      thn (ho pins s2 σ H2 x y v u _ I2 r1 r2 q2) fun d s3 ⟨z, H3, I3, r3, k, e, q3⟩ => ?_)) hm
    subst e
    cases r3
    refine wpAny_truthy_bool ?_
    cases k with
    | false => exact ite_ff ⟨.bl false, H3, I3, rfl, q3⟩
    | true => exact ite_tt (chain_last (thn (hc pins s3 σ H3 _ I3 q3) fun w' s4 ⟨z', H4, I4, r4, q4⟩ => ho' pins s4 σ H4 y z' u w' Q I4 r2 r4 q4))

/-! ### truth -/
/-- a value's truth by the abstract heap -/
def TruV (K : PySem.W.Frag) (x : V) (H : Hp) (k : Bool) : Prop :=
  match x with
  | .non => k = false
  | .bl b => k = b
  | .int i => k = (i != 0)
  | .str y => y.length ≤ sizeLine ∧ k = ((y.length : Int) != 0)
  | .byt y => y.size ≤ sizeLine ∧ k = ((y.size : Int) != 0)
  | .ref p => (∃ xs, SqL K H p xs ∧ k = !xs.isEmpty) ∨ (∃ xs, SqT K H p xs ∧ k = !xs.isEmpty) ∨ ∃ kvs, H p = some (.dK kvs) ∧ k = !kvs.isEmpty
  | _ => False
theorem isEmpty_kv {κ : Type} {kvs : List (κ × V)} {vs : List (κ × Value)} (r : KV kvs vs) : (!vs.isEmpty) = !kvs.isEmpty := by
  cases r <;> rfl
theorem isEmpty_of {xs : List V} {its : List Value} (r : Vals xs its) : (!its.toArray.isEmpty) = !xs.isEmpty := by
  cases r <;> simp
theorem line63 : (sizeLine : Nat) < 2 ^ 63 := by rw [sizeLine_eq]; decide
theorem tru_ok : TruR X (fun x H Q => ∃ k, TruV X.K x H k ∧ Q k H) := by
  unfold TruR at *
  exact by
    intro pins s σ H x v Q I rx h
    obtain ⟨k, e, q⟩ := h
    have hl := line63
    have hs : sizeLine = 16777216 := sizeLine_eq
    cases x with
    | non =>
      cases rx
      have e' : k = false := e
      subst e'
      exact truthy_none ⟨H, I, q⟩
    | bl b =>
      cases rx
      have e' : k = b := e
      subst e'
      exact wpAny_truthy_bool ⟨H, I, q⟩
    | int i =>
      obtain ⟨t, rfl⟩ := rx
      have e' : k = (i != 0) := e
      subst e'
      exact PySem.P.truthy_int ⟨H, I, q⟩
    | str y =>
      obtain ⟨t, rfl⟩ := rx
      obtain ⟨hy, e'⟩ : y.length ≤ sizeLine ∧ k = ((y.length : Int) != 0) := e
      subst e'
      exact PySem.P.truthy_str (by omega) ⟨H, I.tok _, q⟩
    | byt y =>
      obtain ⟨t, rfl⟩ := rx
      obtain ⟨hy, e'⟩ : y.size ≤ sizeLine ∧ k = ((y.size : Int) != 0) := e
      subst e'
      exact PySem.W.truthy_bytes (by omega) ⟨H, I.tok _, q⟩
    | ref p =>
      cases rx
      have e' : (∃ xs, SqL X.K H p xs ∧ k = !xs.isEmpty) ∨ (∃ xs, SqT X.K H p xs ∧ k = !xs.isEmpty) ∨ ∃ kvs, H p = some (.dK kvs) ∧ k = !kvs.isEmpty := e
      rcases e' with ⟨xs, hx, e'⟩ | ⟨xs, hx, e'⟩ | ⟨kvs, hx, e'⟩
      · subst e'
        obtain ⟨its, r, pl, hz⟩ := I.list hx
        have hlen := r.length
        exact wpAny_truthy_list pl.isList (by simp only [List.size_toArray]; omega) ⟨H, I.tok _, by rw [isEmpty_of r]; exact q⟩
      · subst e'
        obtain ⟨its, r, pl, hz⟩ := I.tuple hx
        have hlen := r.length
        exact truthy_tuple pl (by simp only [List.size_toArray]; omega) ⟨H, I.tok _, by rw [isEmpty_of r]; exact q⟩
      · subst e'
        obtain ⟨hz, hS, vs, r, m⟩ : kvs.length ≤ sizeLine ∧ (p == sysModules) = false ∧ ∃ vs, KV kvs vs ∧ s.heap.DictOf (mixKind X.prog X.w) p vs := I.hok p _ hx
        have hlen : kvs.length = vs.length := Paired.length r
        exact wpAny_truthy_dict hS m (by omega) ⟨H, I.tok _, by rw [isEmpty_kv r]; exact q⟩
    | _ => exact (show False from e).elim

/-- any expression whose test is its value's truth (a name, a call, a subscript, a field ..: he by fun _ => rfl) -/
theorem pt_truth (ha : PE X a ta) (he : ∀ whole, isTrue a X.env whole = (do let v ← whole; standAt a.pos; holding [v] (truthy v))) :
    PT X a (fun σ H Q => ta σ H fun x H' => ∃ k, TruV X.K x H' k ∧ Q k H') := by
  unfold PE at *; unfold PT at *; have tru_ok := tru_ok (X := X); unfold TruR at tru_ok
  exact by
    intro pins s σ H Q I h
    exact isTrue_plain (thn (ha pins s σ H _ I h) fun v s1 ⟨x, H1, I1, r1, q1⟩ => tru_ok pins s1 σ H1 x v Q I1 r1 q1) (he _)

/-! ### strs and bytes -/
/-! ### scalar builtins, by CallR -/
theorem vals1 {x : V} {us : List Value} (r : Vals [x] us) : ∃ u, us = [u] ∧ RelV x u := by
  cases r with
  | cons r1 r2 => cases r2; exact ⟨_, rfl, r1⟩
theorem vals2 {x y : V} {us : List Value} (r : Vals [x, y] us) : ∃ u w', us = [u, w'] ∧ RelV x u ∧ RelV y w' := by
  cases r with
  | cons r1 r2 =>
    cases r2 with
    | cons r3 r4 => cases r4; exact ⟨_, _, rfl, r1, r3⟩
theorem call_min2 (hc : X.calm = true) : CallR X (.builtin "min") (fun xs H Q => ∃ i j, xs = [.int i, .int j] ∧ Q (.int (if j < i then j else i)) H) := by
  unfold CallR at *
  exact by
    intro pins s σ H xs us Q I r h
    obtain ⟨i, j, rfl, q⟩ := h
    obtain ⟨u, w', rfl, ⟨t, rfl⟩, ⟨t', rfl⟩⟩ := vals2 r
    refine min_two_ints (I.ok.hd hc) fun h' tk k => ⟨_, H, I.kept k, ?_, q⟩
    by_cases hj : j < i
    · rw [if_pos hj, if_pos hj]; exact ⟨_, rfl⟩
    · rw [if_neg hj, if_neg hj]; exact ⟨_, rfl⟩

end
end L2

namespace L2
open PySem PySem.Spec PyProof.Rows

/-! ### an instance, its attributes a map -/
structure ObjM (h : Heap) (x dx C : Addr) (mA : Str → Option Value) : Prop where
  obj : h.get? x = some (PySem.W.instObj C dx)
  ns : h.Ns1 dx mA
  ne : dx ≠ x

theorem lookIn_ns {h : Heap} {dx : Addr} {mA : Str → Option Value} (n : h.Ns1 dx mA) : ∃ od, h.get? dx = some od ∧ ∀ name, PySem.W.lookIn name od = some (mA name) := by
  obtain ⟨o, es, ep, ho, hd, hk, _, hm⟩ := n
  refine ⟨o, ho, fun name => ?_⟩
  have e := hm name
  unfold nsFind findBy at e
  rw [← Array.find?_toList] at e
  unfold PySem.W.lookIn
  rw [hd]
  dsimp only
  split
  · rename_i y q
    rw [q] at e
    exact congrArg some e
  · rename_i q
    rw [q] at e
    have a : es.toList.any (·.refKey) = false := by
      rw [List.any_eq_false]
      intro y hy
      obtain ⟨z, t, hkey⟩ := hk y (Array.mem_toList_iff.mp hy)
      simp [DictEntry.refKey, hkey]
    have a' : ¬ es.toList.any (·.refKey) = true := by rw [a]; exact Bool.false_ne_true
    rw [if_neg a']
    exact congrArg some e

theorem ObjM.look {h : Heap} {x dx C : Addr} {mA : Str → Option Value} (I : ObjM h x dx C mA) : ∃ od, PySem.W.InstAt h x (PySem.W.instObj C dx) C (some od) ∧ ∀ name, PySem.W.lookIn name od = some (mA name) :=
  let ⟨od, ho, hl⟩ := lookIn_ns I.ns
  ⟨od, ⟨I.obj, rfl, rfl, ho⟩, hl⟩

section
variable {prog : Program} {w : World} {A : Around} {E : Value → Shared → Prop} {s : Shared} {K : PySem.W.Frag} {x dx C f : Addr} {mA : Str → Option Value} {name : Str} {v : Value}

end

/-! ### the attributes as a list of pairs -/
section
variable {P : Program} {w : World} {H H' : Hp} {h h' : Heap} {a C dx : Addr} {fs fs' : List (Str × V)}
theorem ins_get (hok : HOk P w H h) (e : H a = some (.ins C dx fs)) : ∃ mA, ObjM h a dx C mA ∧ (∀ f, RelO (fs.lookup f) (mA f)) ∧ PySem.Within mA (fs.map (·.1)) ∧ fs.length ≤ 1000 ∧ H dx = some (.own a) := by
  obtain ⟨d, z, ne, ob, mA, n, r, q⟩ := (show ObjOk P w H h a (.ins C dx fs) from hok a _ e)
  exact ⟨mA, ⟨ob, n, ne⟩, r, q, z, d⟩
end

/-! ### what of the text a class must have -/
structure Cls (K : PySem.W.Frag) (C : Addr) : Prop where
  pg : PySem.W.plainGet K C Str.empty = true
  hd : PySem.W.hasDictIn K C = true
  po : PySem.W.plainOver K C = true
  sa : PySem.W.findIn K (.ref C) "__setattr__" = some (some (.builtin "object.__setattr__"))
theorem Cls.get {K : PySem.W.Frag} {C : Addr} (c : Cls K C) (f : Str) : PySem.W.plainGet K C f = true := c.pg
section
variable {X : Cx} {pins : List (Addr × Obj)} {σ : St} {H : Hp} {s : Shared} {a C dx : Addr} {fs : List (Str × V)} {f : Str} {v : V} {A : Around} {E : Value → Shared → Prop}

end

/-! ### readings and rules -/
section
variable {X : Cx} {o e value : Expr} {f : Str} {pos pos' tpos : Pos} {ta tv : TE}
end

/-! ### isinstance -/
section
variable {X : Cx} {pins : List (Addr × Obj)} {σ : St} {H : Hp} {s : Shared} {A : Around} {E : Value → Shared → Prop} {Q : Value → Shared → Prop} {c : Value} {b : Bool}
/-- the type of a value, as the fragment's deciders take it; for an instance its class -/
inductive TyOf (K : PySem.W.Frag) (H : Hp) : V → Value → Prop where
  | non : TyOf K H .non (.type "NoneType")
  | bl (x : Bool) : TyOf K H (.bl x) (.type "bool")
  | int (i : Int) : TyOf K H (.int i) (.type "int")
  | str (x : Str) : TyOf K H (.str x) (.type "str")
  | flt (x : UInt64) : TyOf K H (.flt x) (.type "float")
  | lst {a : Addr} {xs : List V} (e : H a = some (.lst xs)) : TyOf K H (.ref a) (.type "list")
  | frz {a : Addr} {o : Obj} {xs : List V} (e : H a = some (.frz o (.lst xs))) : TyOf K H (.ref a) (.type "list")
  | tup {a : Addr} {xs : List V} (e : H a = some (.tup xs)) : TyOf K H (.ref a) (.type "tuple")
  | dK {a : Addr} {kvs : List (Key × V)} (e : H a = some (.dK kvs)) : TyOf K H (.ref a) (.type "dict")
  | dT {a : Addr} {kvs : List (List Key × V)} (e : H a = some (.dT kvs)) : TyOf K H (.ref a) (.type "dict")
  | ins {a C dx : Addr} {fs : List (Str × V)} (e : H a = some (.ins C dx fs)) (cl : Cls K C) (ha : PySem.W.findIn K (.ref C) "__class__" = some (some (.builtin "object.__class__")))
      (hn : PySem.W.specialIn K (.builtin "object.__class__") "__get__" = some (some (.builtin "getset_descriptor.__get__"))) (htk : PySem.W.takesIn K (.builtin "object.__class__") = some true)
      (hm : PySem.W.mroIn K C (.type "object") = some true) : TyOf K H (.ref a) (.ref C)
/-- isinstance(x, c) for one class c, a built-in or an own one: kitOne's answer -/
theorem isinst_ok {x : V} {u t : Value} (I : Inv X pins σ H s) (rx : RelV x u) (ty : TyOf X.K H x t) (e : PySem.W.kitOne X.K t c = some b) (h : ∀ tk, Q (.bool b) { s with toks := tk }) :
    wpAny (model X.prog X.w) A (call (.builtin "isinstance") [u, c]) Q E s := by
  cases ty with
  | non => cases (show u = Value.none from rx); exact PySem.W.kia_one PySem.W.kitx_none I.kIn True.intro e (fun z => nomatch z) h
  | bl y => cases (show u = Value.bool y from rx); exact PySem.W.kia_one PySem.W.kitx_bool I.kIn True.intro e (fun z => nomatch z) h
  | int i => obtain ⟨t, q⟩ := (show ∃ t, u = Value.int i t from rx); cases q; exact PySem.W.kia_one PySem.W.kitx_int I.kIn True.intro e (fun z => nomatch z) h
  | str y => obtain ⟨t, q⟩ := (show ∃ t, u = Value.str y t from rx); cases q; exact PySem.W.kia_one PySem.W.kitx_str I.kIn True.intro e (fun z => nomatch z) h
  | flt y => obtain ⟨t, q⟩ := (show ∃ t, u = Value.float y t from rx); cases q; exact PySem.W.kia_one PySem.W.kitx_float I.kIn True.intro e (fun z => nomatch z) h
  | @lst a xs ea =>
    cases (show u = Value.ref a from rx)
    obtain ⟨_, _, n, _, h1⟩ := (show ObjOk X.prog X.w H s.heap a (.lst xs) from I.hok a _ ea)
    exact PySem.W.kia_one PySem.W.kitx_list I.kIn ⟨_, h1, rfl⟩ e (fun z => nomatch z) h
  | @frz a ob xs ea =>
    cases (show u = Value.ref a from rx)
    obtain ⟨_, _, _, n, _, h1⟩ := (show ObjOk X.prog X.w H s.heap a (.frz ob (.lst xs)) from I.hok a _ ea)
    exact PySem.W.kia_one PySem.W.kitx_list I.kIn ⟨_, h1, rfl⟩ e (fun z => nomatch z) h
  | @tup a xs ea =>
    cases (show u = Value.ref a from rx)
    obtain ⟨_, _, _, p⟩ := (show ObjOk X.prog X.w H s.heap a (.tup xs) from I.hok a _ ea)
    obtain ⟨o, h1, h2, _⟩ := p
    exact PySem.W.kia_one PySem.W.kitx_tuple I.kIn ⟨o, h1, h2⟩ e (fun z => nomatch z) h
  | @dK a kvs ea =>
    cases (show u = Value.ref a from rx)
    obtain ⟨_, _, vs, _, p⟩ := (show ObjOk X.prog X.w H s.heap a (.dK kvs) from I.hok a _ ea)
    obtain ⟨o, es, ep, h1, h2, _⟩ := p
    exact PySem.W.kia_one PySem.W.kitx_dict I.kIn ⟨o, h1, h2.1⟩ e (fun z => nomatch z) h
  | @dT a kvs ea =>
    cases (show u = Value.ref a from rx)
    obtain ⟨_, _, xs, _, o, es, ep, h1, h2, _⟩ := (show ObjOk X.prog X.w H s.heap a (.dT kvs) from I.hok a _ ea)
    exact PySem.W.kia_one PySem.W.kitx_dict I.kIn ⟨o, h1, h2.1⟩ e (fun z => nomatch z) h
  | @ins a C dx fs ea cl ha hn htk hm =>
    cases (show u = Value.ref a from rx)
    obtain ⟨mA, O, _⟩ := ins_get I.hok ea
    obtain ⟨od, J, _⟩ := O.look
    exact PySem.W.kia_one (PySem.W.kitx_own (cl.get _) cl.hd ha hn htk hm) I.kIn J e (fun z => nomatch z) h
end
end L2

namespace L2
open PySem PySem.Spec PyProof.Rows

/-! ### room -/
structure Room (k : Nat) (A : Around) : Prop where
  hd : A.handled = none
  dp : A.depth + 3 * k + 5 < recursionLimit
  un : A.units + 16 * k + 200 < cLine
theorem Room.mono {j k : Nat} {A : Around} (r : Room k A) (h : j ≤ k) : Room j A := ⟨r.hd, by have := r.dp; omega, by have := r.un; omega⟩
theorem Room.deeper {k : Nat} {A : Around} (r : Room (k + 1) A) (env : Env) : Room k (A.deeper env) :=
  ⟨r.hd, by have := r.dp; show A.depth + 1 + 3 * k + 5 < _; omega, by have := r.un; show A.units + 3 + 16 * k + 200 < _; omega⟩
theorem Room.depth {k : Nat} {A : Around} (r : Room k A) : A.depth < recursionLimit := by have := r.dp; omega
theorem Room.units {k : Nat} {A : Around} (r : Room k A) : A.units + 64 < cLine := by have := r.un; omega
/-! ### argument lists and displays -/
def tNil : TA := fun _ H Q => Q [] H
def tCons (ta : TE) (tr : TA) : TA := fun σ H Q => ta σ H fun x H1 => tr σ H1 fun xs H2 => Q (x :: xs) H2
section
variable {X : Cx} {e : Expr} {es : List Expr} {te : TE} {t : TA} {pos : Pos}
theorem pa_nil : PA X [] tNil := by
  first
  | exact (fun _ _ _ _ H Q I h => Calls.spliced_nil ⟨[], H, I, .nil, h⟩)
  | (unfold PA at *; exact (fun _ _ _ _ H Q I h => Calls.spliced_nil ⟨[], H, I, .nil, h⟩))

theorem pa_cons (ha : PE X e te) (hr : PA X es t) (hs : starEach (e :: es) X.env = (false, eval e X.env) :: starEach es X.env := by rfl) : PA X (e :: es) (tCons te t) := by
  unfold PE at *; unfold PA at *
  exact by
    intro pos pins s σ H Q I h
    rw [hs]
    show wpAny _ _ (spliced ((false, eval e X.env) :: backTo pos (starEach es X.env))) _ _ s
    refine Calls.spliced_cons (thn (ha pins s σ H _ I h) fun u s1 ⟨x, H1, I1, r1, q1⟩ => ?_)
    exact thn (hr pos pins s1 σ H1 _ I1 q1) fun us s2 ⟨xs, H2, I2, r2, q2⟩ => ⟨x :: xs, H2, I2, .cons r1 r2, q2⟩

/-- a tuple, a list of written items -/
def tTup (t : TA) : TE := fun σ H Q => t σ H fun xs H1 => xs.length ≤ sizeLine ∧ ∀ p, H1 p = none → Q (.ref p) (upd H1 p (.tup xs))
def tLst (t : TA) : TE := fun σ H Q => t σ H fun xs H1 => xs.length ≤ sizeLine ∧ ∀ p, H1 p = none → Q (.ref p) (upd H1 p (.lst xs))
theorem pe_tup {x1} (h : PA X es t) : PE X (.Tuple es x1 pos) (tTup t) := by
  unfold PE at *; unfold PA at *
  exact by
    intro pins s σ H Q I hq
    refine wpAny_Tuple_spliced (thn (h pos pins s σ H _ I hq) fun us s1 ⟨xs, H1, I1, r, z, q⟩ => ⟨by rw [← r.length]; exact z, ?_⟩)
    have hf : H1 s1.heap.objs.size = none := I1.hok.fresh (Nat.le_refl _)
    refine ⟨.ref s1.heap.objs.size, upd H1 s1.heap.objs.size (.tup xs), I1.laid (t' := s1.toks) (fun b u e => Heap.get?_push_of_some _ e) (Nat.le_refl _) ?_, rfl, q _ hf⟩
    exact ⟨z, us, r, ⟨_, Heap.get?_push_size _ rfl, rfl, _, rfl⟩⟩

theorem pe_lst (h : PA X es t) : PE X (.List es pos) (tLst t) := by
  unfold PE at *; unfold PA at *
  exact by
    intro pins s σ H Q I hq
    refine wpAny_List_spliced (thn (h pos pins s σ H _ I hq) fun us s1 ⟨xs, H1, I1, r, z, q⟩ => ⟨by rw [← r.length]; exact z, ?_⟩)
    have hf : H1 s1.heap.objs.size = none := I1.hok.fresh (Nat.le_refl _)
    refine ⟨.ref s1.heap.objs.size, upd H1 s1.heap.objs.size (.lst xs), I1.laid (t' := s1.toks) (fun b u e => Heap.get?_push_of_some _ e) (Nat.le_refl _) ?_, rfl, q _ hf⟩
    exact ⟨z, us, 0, r, Heap.get?_push_size _ rfl⟩

end

/-! ### what a def promises -/
/-- a def's promise: the bound arguments in the parameters' order, the heap, the wanted end, the wanted exception -/
abbrev Sp := List V → Hp → VK → XK → Prop
/-- how an exception lies behind a call (file 08 gives it): the callers' frames, abstract heap and state ahead of the call, the wish, the exception, the state -/
abbrev CXT := List Env → Hp → Shared → XK → Value → Shared → Prop

/-- the state at a call -/
structure Env0 (P : Program) (w : World) (K : PySem.W.Frag) (mg : Str → Option Value) (base : Heap) (A : Around) (outer : List Env) (s : Shared) (H : Hp) : Prop where
  frames : A.frames = some outer
  mod : Mod K mg base
  bs : ∀ b o, base.get? b = some o → s.heap.get? b = some o ∧ H b = none
  bsz : base.objs.size ≤ s.heap.objs.size
  funs : s.heap.FunFrames base outer
  frf : ∀ b ∈ frs outer, H b = none
  hok : HOk P w H s.heap
  bare : AllBare s.gens
/-- a call's end -/
def CE (outer : List Env) (P : Program) (w : World) (H : Hp) (s : Shared) (Q : VK) (u : Value) (s' : Shared) : Prop :=
  ∃ v H', s'.os = s.os ∧ AllBare s'.gens ∧ Un (frs outer) [] H H' s.heap s'.heap ∧ HOk P w H' s'.heap ∧ RelV v u ∧ Q v H'
def CR (CX : CXT) (outer : List Env) (P : Program) (w : World) (H : Hp) (s : Shared) (Q : VK) (E : XK) (r : Result) (s' : Shared) : Prop :=
  match r with
  | .ok (.ret u) => CE outer P w H s Q u s'
  | .ok _ => False
  | .error e => CX outer H s E e s'
structure FnOk (P : Program) (w : World) (K : PySem.W.Frag) (mg : Str → Option Value) (base : Heap) (CX : CXT) (k : Nat) (f : Addr) (fd : FuncData) (ps : List Str) (sp : Sp) : Prop where
  len : ∀ vs H Q E, sp vs H Q E → vs.length = ps.length
  run : ∀ (A : Around) (outer : List Env) (s : Shared) (H : Hp) (args : Args) (us : List Value) (vs : List V) (Q : VK) (E : XK), Room k A → Env0 P w K mg base A outer s H → BindsTo s fd args (ps.zip us) → Vals vs us → sp vs H Q E →
    codeAny (model P w) A (.call (.ref f) args) (CR CX outer P w H s Q E) s
section
variable {X : Cx} {pins : List (Addr × Obj)} {σ : St} {H : Hp} {s s' : Shared}
/-- from a body: what a callee wants -/
theorem Inv.env0 (I : Inv X pins σ H s) : Env0 X.prog X.w X.K X.mg X.base X.A X.stack s H :=
  ⟨I.ok.frames, I.ok.mod, I.bs, Nat.le_trans I.ok.bsz I.sz, I.stack, I.stkFree, I.hok, I.bare⟩
/-- behind a call -/
theorem Inv.after {Q : VK} {u : Value} (I : Inv X pins σ H s) (h : CE X.stack X.prog X.w H s Q u s') : EP X pins σ Q u s' := by
  obtain ⟨v, H', os, bare, un, hok, r, q⟩ := h
  obtain ⟨hh, g, d, t, os'⟩ := s'
  obtain rfl : os' = s.os := os
  exact ⟨v, H', I.call (h' := hh) (g' := g) (d' := d) (t' := t) (ch := []) un hok bare (fun b z => absurd z (by simp)), r, q⟩
end

/-! ### calls -/
/-- f(..): the written arguments, then the defaults dvs; E: what is wanted of an exception -/
def tCall (sp : Sp) (dvs : List V) (E : XK) (t : TA) : TE := fun σ H Q => t σ H fun vs H1 => sp (vs ++ dvs) H1 Q E
/-- how the parameters are bound: us the positional arguments, kw the keywords' values by name, ds the defaults that fill up -/
def Binds (K : PySem.W.Frag) (fd : FuncData) (ps : List Str) (ds : List Value) : Prop :=
  ∀ (s : Shared) (us : List Value), K.In s.heap → (us ++ ds).length = ps.length → BindsTo s fd ⟨us, []⟩ (ps.zip (us ++ ds))
/-- every parameter is given -/
theorem Binds.all {K : PySem.W.Frag} {fd : FuncData} {ps : List Str} (h : ∀ us : List Value, us.length = ps.length → bindArgs fd ⟨us, []⟩ = pure (ps.zip us)) : Binds K fd ps [] := fun s us _ hl => by
  rw [List.append_nil] at hl ⊢
  exact .of_eq (h us hl)

/-- an exception of a callee reaches what this body wants of exceptions -/
def Passes (CX : CXT) (X : Cx) (E : XK) : Prop := ∀ (pins : List (Addr × Obj)) (σ : St) (H : Hp) (s : Shared) (e : Value) (s' : Shared), Inv X pins σ H s → CX X.stack H s E e s' → X.xe e s'

section
variable {X : Cx} {CX : CXT} {k : Nat} {f C : Addr} {fd : FuncData} {ps : List Str} {sp : Sp} {dvs : List V} {ds : List Value} {E : XK} {x m : Str} {p pos apos : Pos} {e o : Expr} {es : List Expr} {ta : TE} {t : TA}

/-- the callee runs -/
theorem run_fn {pins : List (Addr × Obj)} {σ : St} {H : Hp} {s : Shared} {Q : VK} {us : List Value} {vs : List V} (F : FnOk X.prog X.w X.K X.mg X.base CX k f fd ps sp) (hr : Room k X.A) (hb : Binds X.K fd ps ds) (hd : Vals dvs ds) (hx : Passes CX X E)
    (I : Inv X pins σ H s) (r : Vals vs us) (h : sp (vs ++ dvs) H Q E) : wpAny (model X.prog X.w) X.A (call (.ref f) us) (EP X pins σ Q) X.xe s := by
  have r2 : Vals (vs ++ dvs) (us ++ ds) := r.append hd
  have hl : (us ++ ds).length = ps.length := by rw [← r2.length]; exact F.len _ _ _ _ h
  refine wpAny_call (codeAny_mono (F.run X.A X.stack s H ⟨us, []⟩ (us ++ ds) (vs ++ dvs) Q E hr I.env0 (hb s us I.kIn hl) r2 h) fun r s' hq => ?_)
  cases r with
  | error e => exact hx pins σ H s e s' I hq
  | ok fl =>
    cases fl with
    | ret u => exact I.after hq
    | next => exact False.elim hq
    | brk => exact False.elim hq
    | cont => exact False.elim hq

theorem pe_call (F : FnOk X.prog X.w X.K X.mg X.base CX k f fd ps sp) (hr : Room k X.A) (hg : Gl X x) (hm : X.mg x = some (.ref f)) (hk : PySem.W.keepIn X.K (.ref f) = true) (hb : Binds X.K fd ps ds) (hd : Vals dvs ds) (hx : Passes CX X E)
    (ha : PA X (e :: es) t) (hdb : (x == ("__debug__" : Str)) = false := by decide) (he : starEach (e :: es) X.env = (false, eval e X.env) :: starEach es X.env := by rfl) (hpl : (backTo pos (starEach es X.env)).any (·.1) = false := by rfl) :
    PE X (.Call (.Name x p) (e :: es) [] pos) (tCall sp dvs E t) := by
  unfold PE at *; unfold PA at *
  exact by
    intro pins s σ H Q I h
    refine wpAny_Call_Name_kw (ld_glob I hg hm ?_ hdb)
    refine PySem.W.callWith_K (h₀ := X.base) I.ok.mod.kin hk (thn (ha pos pins s σ H _ I h) fun us s1 ⟨vs, H1, I1, r, q⟩ => ⟨I1.kIn, ?_⟩) he hpl
    exact run_fn F hr hb hd hx I1 r q

end

/-! ### keywords -/
section
variable {X : Cx} {CX : CXT} {k : Nat} {f C : Addr} {fd : FuncData} {ps ks : List Str} {sp : Sp} {E : XK} {x m : Str} {p pos apos kpos : Pos} {e o : Expr} {es : List Expr} {kws : List Keyword} {te ta : TE} {t tk : TA} {nm : Option Str}
variable {g : List Value → List Value → List Value} {gV : List V → List V → List V}
end

/-! ### a def's body keeps its promise -/
/-- names: the parameters first -/
structure FnScope (N P : List Str) (sc : Scope) : Prop where
  kind : sc.kind = .function
  co : sc.isCoroutine = false
  gen : sc.isGenerator = false
  nd : N.Nodup
  pre : N.take P.length = P
  par : ∀ x ∈ P, sc.names.lookup x = some .local ∨ sc.names.lookup x = some .cell
  nofree : ∀ y ∈ sc.names, y.2 ≠ .free

theorem bindL_out {kindOf : Str → Option NameKind} {x : Str} : ∀ {binds : List (Str × Value)} {m : Str → Option Value}, (∀ v, (x, v) ∉ binds) → bindL kindOf binds m x = m x
  | [], _, _ => rfl
  | (n, v) :: r, m, h => by
    unfold bindL
    rw [bindL_out fun w hw => h w (List.mem_cons_of_mem _ hw)]
    split
    · have : x ≠ n := by rintro rfl; exact h v List.mem_cons_self
      simp [this]
    · rfl
theorem bindC_out {kindOf : Str → Option NameKind} {x : Str} : ∀ {binds : List (Str × Value)} {m : Str → Option Value}, (∀ v, (x, v) ∉ binds) → bindC kindOf binds m x = m x
  | [], _, _ => rfl
  | (n, v) :: r, m, h => by
    unfold bindC
    rw [bindC_out fun w hw => h w (List.mem_cons_of_mem _ hw)]
    split
    · rfl
    · have : x ≠ n := by rintro rfl; exact h v List.mem_cons_self
      simp [this]
theorem bindL_get {kindOf : Str → Option NameKind} {x : Str} {v : Value} : ∀ {P : List Str} {vs : List Value} {i : Nat} {m : Str → Option Value}, P.Nodup → P[i]? = some x → vs[i]? = some v → kindOf x = some .local →
    bindL kindOf (P.zip vs) m x = some v
  | [], _, _, _, _, h, _, _ => by simp at h
  | _ :: _, [], _, _, _, _, h, _ => by simp at h
  | p :: P, w :: vs, 0, m, nd, h1, h2, hk => by
    simp at h1 h2; subst h1; subst h2
    show bindL kindOf ((p, w) :: P.zip vs) m p = _
    unfold bindL
    rw [bindL_out fun v hv => (List.nodup_cons.mp nd).1 (List.of_mem_zip hv).1, if_pos hk]
    simp
  | p :: P, w :: vs, i + 1, m, nd, h1, h2, hk => by
    show bindL kindOf ((p, w) :: P.zip vs) m x = _
    unfold bindL
    exact bindL_get (i := i) (List.nodup_cons.mp nd).2 (by simpa using h1) (by simpa using h2) hk
theorem bindC_get {kindOf : Str → Option NameKind} {x : Str} {v : Value} : ∀ {P : List Str} {vs : List Value} {i : Nat} {m : Str → Option Value}, P.Nodup → P[i]? = some x → vs[i]? = some v → kindOf x ≠ some .local →
    bindC kindOf (P.zip vs) m x = some v
  | [], _, _, _, _, h, _, _ => by simp at h
  | _ :: _, [], _, _, _, _, h, _ => by simp at h
  | p :: P, w :: vs, 0, m, nd, h1, h2, hk => by
    simp at h1 h2; subst h1; subst h2
    show bindC kindOf ((p, w) :: P.zip vs) m p = _
    unfold bindC
    rw [bindC_out fun v hv => (List.nodup_cons.mp nd).1 (List.of_mem_zip hv).1, if_neg hk]
    simp
  | p :: P, w :: vs, i + 1, m, nd, h1, h2, hk => by
    show bindC kindOf ((p, w) :: P.zip vs) m x = _
    unfold bindC
    exact bindC_get (i := i) (List.nodup_cons.mp nd).2 (by simpa using h1) (by simpa using h2) hk

/-- the names' values at the entry -/
def start (N : List Str) (vs : List V) : St := vs.map some ++ List.replicate (N.length - vs.length) none

/-- the context of a def's body, at its entry; an exception leaves the frame, then lies as CX says -/
def cxOf (CX : CXT) (P : Program) (w : World) (K : PySem.W.Frag) (mg : Str → Option Value) (base : Heap) (N : List Str) (qual : Str) (scope : Scope) (f : Addr) (cd : Value) (A : Around) (outer : List Env) (s : Shared) (H : Hp) (E : XK) : Cx where
  prog := P
  w := w
  K := K
  mg := mg
  base := base
  A := A.deeper (envOfC qual scope s.heap.objs.size f cd)
  N := N
  s₀ := s
  H₀ := H
  env := envOfC qual scope s.heap.objs.size f cd
  outer := outer
  stack := envOfC qual scope s.heap.objs.size f cd :: outer
  ex := []
  calm := true
  fn := fun _ => true
  pn := []
  xe := fun e s' => wpAny (model P w) (A.deeper (envOfC qual scope s.heap.objs.size f cd)) (leaving (envOfC qual scope s.heap.objs.size f cd) e) (fun _ s'' => CX outer H s E e s'') (fun e' s'' => CX outer H s E e' s'') s'

theorem cell_has {sc : Scope} {n : Nat} {x : Str} (h : sc.names.lookup x = some .cell) : ∃ c, (cellsFrom n sc.names []).lookup x = some c := by
  have q := PySem.W.cellsFrom_some sc.names n [] (.inl h)
  exact Option.isSome_iff_exists.mp q

theorem inv_start {CX : CXT} {P : Program} {w : World} {K : PySem.W.Frag} {mg : Str → Option Value} {base : Heap} {N ps : List Str} {qual : Str} {scope : Scope} {f : Addr} {cd : Value} {A : Around} {outer : List Env} {s s1 : Shared} {H : Hp} {E : XK} {us : List Value} {vs : List V}
    (S : FnScope N ps scope) (hd : A.handled = none) (e0 : Env0 P w K mg base A outer s H) (hl : vs.length = ps.length) (r : Vals vs us)
    (x : InCallC s s.heap.objs.size (bindL (envOfC qual scope s.heap.objs.size f cd).kindOf (ps.zip us) fun _ => none) (cellsFrom (s.heap.objs.size + 1) scope.names []) (bindC (envOfC qual scope s.heap.objs.size f cd).kindOf (ps.zip us) fun _ => none) s1) :
    Inv (cxOf CX P w K mg base N qual scope f cd A outer s H E) [] (start N vs) H s1 := by
  have hpl : ps.length ≤ N.length := by have := congrArg List.length S.pre; rw [List.length_take] at this; omega
  obtain ⟨h1, tk, rfl, hk⟩ := x.done
  have noA : ∀ b : Addr, b ∉ (cxOf CX P w K mg base N qual scope f cd A outer s H E).ex := fun b z => absurd (show b ∈ ([] : List Addr) from z) (by simp)
  refine ⟨⟨e0.mod, S.kind, rfl, rfl, Nat.le_refl _, fun y z c h1 h2 => ?_, fun y hy => ?_, fun y c _ h => ?_, fun _ => hd, Around.frames_deeper e0.frames, .inr ⟨rfl, rfl⟩, fun b z => absurd z (noA b), e0.bs, e0.bsz, fun b _ _ => noA b, fun b z => absurd z (noA b), e0.funs, e0.frf⟩,
    rfl, e0.bare, Un.kept hk, ⟨_, x.toInCall.ns, fun i y v h1 h2 h3 => ?_⟩, fun y c h => ⟨_, x.cell y c h⟩, e0.hok.fresh (Nat.le_refl _), fun y c h => ?_, fun p hp => absurd (show p ∈ ([] : List (Addr × Obj)) from hp) (by simp), e0.hok.kept hk, ?_⟩
  · exact name_of_addr x.apart (PySem.mem_of_lookup h1) (PySem.mem_of_lookup h2)
  · have hy : scope.names.lookup y = some .cell ∨ scope.names.lookup y = some .free := hy
    rcases hy with hy | hy
    · exact cell_has hy
    · exact absurd rfl (S.nofree _ (PySem.mem_of_lookup hy))
  · exact Nat.le_of_lt (x.above y c (PySem.mem_of_lookup h))
  · have hi : i < vs.length := by
      unfold start at h2
      by_cases hi : i < vs.length
      · exact hi
      · rw [List.getElem?_append_right (by simpa using hi)] at h2
        rw [List.getElem?_replicate] at h2
        split at h2 <;> cases h2
    have ha : vs[i]? = some v := by
      unfold start at h2
      rw [List.getElem?_append_left (by simpa using hi), List.getElem?_map] at h2
      cases e : vs[i]? with
      | none => rw [e] at h2; cases h2
      | some a => rw [e] at h2; cases h2; rfl
    obtain ⟨u, hu, rv⟩ := r.get ha
    have hp : ps[i]? = some y := by
      rw [← S.pre, List.getElem?_take_of_lt (by omega)]; exact h1
    have ndP : ps.Nodup := by rw [← S.pre]; exact S.nd.sublist (List.take_sublist _ _)
    refine ⟨u, rv, ?_⟩
    rcases S.par y (List.mem_of_getElem? hp) with k | k
    · exact .inl ⟨k, bindL_get ndP hp hu k⟩
    · obtain ⟨c, e⟩ := cell_has (n := s.heap.objs.size + 1) k
      refine .inr ⟨.inl k, c, e, ?_⟩
      have q := x.cell y c e
      rw [bindC_get ndP hp hu (by show scope.names.lookup y ≠ _; rw [k]; decide)] at q
      exact q
  · exact e0.hok.fresh (Nat.le_of_lt (x.above y c (PySem.mem_of_lookup h)))
  · unfold start
    show _ = N.length
    rw [List.length_append, List.length_map, List.length_replicate]
    omega

/-- THE RULE: a def (or a method) of the text, by its body. The body's reading t is chosen for each entry; it is run at the parameters' values -/
theorem fn_of {CX : CXT} {P : Program} {w : World} {K : PySem.W.Frag} {mg : Str → Option Value} {base : Heap} {k : Nat} {f : Addr} {name qual : Str} {params : Arguments} {body : List Stmt} {scope : Scope} {dV kV doc pm cdv ct oc : Value} {an od : Option Addr}
    {osl : Array (Option Value)} {N ps : List Str} {sp : Sp} (lk : K.lookup f = some ⟨oc, od, .func (PySem.W.fnOf name qual params body scope dV kV doc pm an cdv ct), osl⟩) (hcd : PySem.W.codeIn K cdv qual = true) (S : FnScope N ps scope)
    (len : ∀ vs H Q E, sp vs H Q E → vs.length = ps.length)
    (hbody : ∀ (A : Around) (outer : List Env) (s : Shared) (H : Hp) (vs : List V) (Q : VK) (E : XK), Room k (A.deeper (envOfC qual scope s.heap.objs.size f cdv)) → sp vs H Q E →
      ∃ t, PSs (cxOf CX P w K mg base N qual scope f cdv A outer s H E) body t ∧ t { nx := fun _ H' => Q .non H', rt := Q } (start N vs) H) :
    FnOk P w K mg base CX (k + 1) f (PySem.W.fnOf name qual params body scope dV kV doc pm an cdv ct) ps sp := by
  unfold PSs at *
  exact by
    refine ⟨len, fun A outer s H args us vs Q E hr e0 hb r hsp => ?_⟩
    have hl := len _ _ _ _ hsp
    have KX : K.In s.heap := e0.mod.kin.keeps fun b o e => (e0.bs b o e).1
    have lim : s.heap.NoLimit := e0.mod.nolimit.keeps fun b o e => (e0.bs b o e).1
    have hkind : ∀ y ∈ ps.zip us, scope.names.lookup y.1 = some .local ∨ (scope.names.lookup y.1 = some .cell ∧ ((cellsFrom (s.heap.objs.size + 1) scope.names []).lookup y.1).isSome = true) := fun ⟨n, v⟩ hy => by
      rcases S.par n (List.of_mem_zip hy).1 with q | q
      · exact .inl q
      · exact .inr ⟨q, PySem.W.cellsFrom_some _ _ _ (.inl q)⟩
    refine codeAny_call_function hr.depth (KX _ _ lk) rfl S.co S.gen rfl (PySem.W.codeRec_of KX hcd) (hb _ _ _ _ ?_)
    refine wpAny_newFunctionEnv_cells S.kind hkind fun env he s1 x => ?_
    subst he
    refine ⟨lim.keeps x.toInCall.keep, codeAny_func ?_⟩
    obtain ⟨t, ht, hq⟩ := hbody A outer s H vs Q E (hr.deeper _) hsp
    have I : Inv (cxOf CX P w K mg base N qual scope f cdv A outer s H E) [] (start N vs) H s1 := inv_start S hr.hd e0 hl r x
    refine wpAny_mono (ht [] s1 (start N vs) H _ I hq) (fun fl s' hs => ?_) fun e s' hs => hs
    have fin : ∀ {σ' : St} {H' : Hp} {v : V} {u : Value}, Inv (cxOf CX P w K mg base N qual scope f cdv A outer s H E) [] σ' H' s' → RelV v u → Q v H' → CE outer P w H s Q u s' :=
      fun {σ' H' v u} J rv q => ⟨v, H', J.os, J.bare, J.base, J.hok, rv, q⟩
    cases fl with
    | ret u =>
      obtain ⟨v, σ', H', J, rv, q⟩ := hs
      exact fin J rv q
    | next =>
      obtain ⟨σ', H', J, q⟩ := hs
      exact fin (v := V.non) (u := Value.none) J rfl q
    | brk =>
      obtain ⟨_, _, _, q⟩ := hs
      exact False.elim q
    | cont =>
      obtain ⟨_, _, _, q⟩ := hs
      exact False.elim q

end L2

namespace L2
open PySem PySem.Spec PyProof.Rows
section
variable {X : Cx} {x : Str} {p pos : Pos} {e : Expr} {es : List Expr} {t : TA} {id T : String} {r : List V → Hp → VK → Prop}

def tCB (r : List V → Hp → VK → Prop) (t : TA) : TE := fun σ H Q => t σ H fun vs H1 => r vs H1 Q
/-- f(e, ..), f a built-in function -/
theorem pe_callB (hc : CallR X (.builtin id) r) (hg : Gl X x) (hm : X.mg x = none) (hv : bootBuiltins x = some (.builtin id)) (ha : PA X (e :: es) t) (hn : x ≠ "__name__" := by decide) (hdb : (x == ("__debug__" : Str)) = false := by decide)
    (he : starEach (e :: es) X.env = (false, eval e X.env) :: starEach es X.env := by rfl) (hpl : (backTo pos (starEach es X.env)).any (·.1) = false := by rfl) : PE X (.Call (.Name x p) (e :: es) [] pos) (tCB r t) := by
  unfold PE at *; unfold PA at *; unfold CallR at *
  exact by
    intro pins s σ H Q I h
    refine wpAny_Call_Name_kw (ld_blt I hg hm hv ?_ hn hdb)
    exact PyProof.Rows.callWith_builtin1 (thn (ha pos pins s σ H _ I h) fun us s1 ⟨vs, H1, I1, r1, q1⟩ => hc pins s1 σ H1 vs us Q I1 r1 q1) he hpl

/-- T(e, ..), T a built-in type -/
theorem pe_callTy (hc : CallR X (.type T) r) (hg : Gl X x) (hm : X.mg x = none) (hv : bootBuiltins x = some (.type T)) (ha : PA X (e :: es) t) (hn : x ≠ "__name__" := by decide) (hdb : (x == ("__debug__" : Str)) = false := by decide)
    (he : starEach (e :: es) X.env = (false, eval e X.env) :: starEach es X.env := by rfl) (hpl : (backTo pos (starEach es X.env)).any (·.1) = false := by rfl) : PE X (.Call (.Name x p) (e :: es) [] pos) (tCB r t) := by
  unfold PE at *; unfold PA at *; unfold CallR at *
  exact by
    intro pins s σ H Q I h
    refine wpAny_Call_Name_kw (ld_blt I hg hm hv ?_ hn hdb)
    exact PyProof.Rows.callWith_type1 (thn (ha pos pins s σ H _ I h) fun us s1 ⟨vs, H1, I1, r1, q1⟩ => hc pins s1 σ H1 vs us Q I1 r1 q1) he hpl

end
end L2

namespace HT
open PySem PyProof.Rows

section
open PySem.SeqAt
open PySem.AutoSeq1 (wpAny_loadPart')
open PySem.MeetsSeq PySem.MeetsSeq2 PySem.MeetsSeq3

end

section
variable {prog : Program} {w : World} {A : Around} {E : Value → Shared → Prop} {s : Shared}

/-- t + u, t not empty -/
theorem cat_tup {t b : Addr} {vs ws : List Value} {Q : Value → Shared → Prop} (ht : IsTup s.heap t vs.toArray) (hb : IsTup s.heap b ws.toArray) (hv : vs ≠ [])
    (h1 : ws = [] → Q (.ref t) s) (h2 : ws ≠ [] → Q (.ref s.heap.objs.size) { s with heap := s.heap.push { cls := .type "tuple", data := .seq (vs ++ ws).toArray } })
    (hsz : vs.length + ws.length ≤ sizeLine) : wpAny (model prog w) A (binaryOp .Add (.ref t) (.ref b)) Q E s := by
  obtain ⟨⟨cls, dd, data, sl⟩, ho, hc, n, hd⟩ := id ht
  obtain ⟨⟨cls2, dd2, data2, sl2⟩, ho2, hc2, n2, hd2⟩ := id hb
  simp only at hc hd hc2 hd2
  subst hc hd hc2 hd2
  have e : vs.toArray ++ ws.toArray = (vs ++ ws).toArray := by simp
  by_cases hw : ws = []
  · exact concat_meets ⟨_, ho, rfl⟩ ⟨_, ho2, rfl⟩ noFill_tuple_add seq_tuple_add PySem.F.slot_tuple_add PySem.F.entry_tuple_add (PySem.F.args_tuple_add_2 _ _)
      (tuple_addW1 t b vs.toArray ws.toArray n n2 dd dd2 sl sl2 (by simpa using hv) (by simp [hw])) ⟨ho, ho2, h1 hw⟩
  · refine concat_meets ⟨_, ho, rfl⟩ ⟨_, ho2, rfl⟩ noFill_tuple_add seq_tuple_add PySem.F.slot_tuple_add PySem.F.entry_tuple_add (PySem.F.args_tuple_add_2 _ _)
      (tuple_addW2 t b vs.toArray ws.toArray n n2 dd dd2 sl sl2 (by simpa using hv) (by simpa using hw) (by rw [List.size_toArray, List.size_toArray]; exact hsz)) ⟨ho, ho2, ?_⟩
    rw [e]
    exact h2 hw

/-! ### t[a:b], not the whole -/
end
end HT

namespace L2
open PySem PySem.Spec PyProof.Rows

/-! ### the parts of a slice -/
abbrev TO := St → Hp → (Option Int → Hp → Prop) → Prop
section
variable {X : Cx} {e : Expr} {te : TE} {lo hi : Option Expr} {tl th : TO} {pos p2 : Pos}

/-! ### t < u, t + u -/
/-- t + u, t not empty: u empty gives t itself -/
def rCatT (K : PySem.W.Frag) : R2 := fun x y H Q => ∃ a b xs ys, x = .ref a ∧ y = .ref b ∧ SqT K H a xs ∧ SqT K H b ys ∧ xs ≠ [] ∧ xs.length + ys.length ≤ sizeLine ∧
  (ys = [] → Q (.ref a) H) ∧ (ys ≠ [] → ∀ p, H p = none → Q (.ref p) (upd H p (.tup (xs ++ ys))))
theorem Vals.nil_iff {xs : List V} {us : List Value} (r : Vals xs us) : us = [] ↔ xs = [] := by
  cases r with
  | nil => simp
  | cons _ _ => simp
theorem op_catT : OpR X (binaryOp .Add) (rCatT X.K) := by
  unfold OpR at *
  exact by
    intro pins s σ H x y v u Q I rx ry h
    obtain ⟨a, b, xs, ys, rfl, rfl, ha, hb, hx, hz, q1, q2⟩ := h
    cases rx
    cases ry
    obtain ⟨its, r1, p1, _⟩ := I.tuple ha
    obtain ⟨its2, r2, p2, _⟩ := I.tuple hb
    refine HT.cat_tup p1 p2 (fun z => hx (r1.nil_iff.mp z)) (fun z => ⟨.ref a, H, I, rfl, q1 (r2.nil_iff.mp z)⟩) (fun z => ?_) (by rw [← r1.length, ← r2.length]; exact hz)
    refine ⟨.ref s.heap.objs.size, _, I.laid (t' := s.toks) (o := .tup (xs ++ ys)) (fun b ob q => Heap.get?_push_of_some _ q) (Nat.le_refl _) ?_, rfl, q2 (fun w => z (r2.nil_iff.mpr w)) _ (I.hok.fresh (Nat.le_refl _))⟩
    exact ⟨by rw [List.length_append]; exact hz, _, r1.append r2, IsTup.new _ _⟩

end
end L2

namespace L2
open PySem PySem.Spec PyProof.Rows

/-! ### places -/
/-- the place that an index of any sign means -/
def ixN (n : Nat) (i : Int) : Option Nat := if 0 ≤ i then (if i < n then some i.toNat else none) else if -(n : Int) ≤ i then some (i + n).toNat else none
def atI {α : Type} (xs : List α) (i : Int) : Option α := (ixN xs.length i).bind fun j => xs[j]?
theorem ixN_seq {n : Nat} {i : Int} {j : Nat} (h : ixN n i = some j) : seqIndex? i n = some j ∧ j < n ∧ -(n : Int) ≤ i ∧ i < n := by
  unfold ixN at h
  by_cases h0 : 0 ≤ i
  · rw [if_pos h0] at h
    by_cases h1 : i < n
    · rw [if_pos h1] at h
      have e : i.toNat = j := Option.some.inj h
      exact ⟨by rw [seqIndex_of h0 h1, e], by omega, by omega, h1⟩
    · rw [if_neg h1] at h; cases h
  · rw [if_neg h0] at h
    by_cases h1 : -(n : Int) ≤ i
    · rw [if_pos h1] at h
      have e : (i + n).toNat = j := Option.some.inj h
      exact ⟨by rw [seqIndex_neg (by omega) h1, e], by omega, h1, by omega⟩
    · rw [if_neg h1] at h; cases h
theorem atI_get {α : Type} {xs : List α} {i : Int} {v : α} (h : atI xs i = some v) : ∃ j, seqIndex? i xs.length = some j ∧ xs[j]? = some v ∧ j < xs.length ∧ -(xs.length : Int) ≤ i ∧ i < xs.length := by
  unfold atI at h
  cases e : ixN xs.length i with
  | none => rw [e] at h; cases h
  | some j =>
    rw [e] at h
    obtain ⟨h1, h2, h3, h4⟩ := ixN_seq e
    exact ⟨j, h1, h, h2, h3, h4⟩
theorem atI_nat {α : Type} {xs : List α} {j : Nat} {v : α} (h : xs[j]? = some v) : atI xs (j : Int) = some v := by
  have hj : j < xs.length := (List.getElem?_eq_some_iff.mp h).1
  have e : ixN xs.length (j : Int) = some j := by
    unfold ixN
    rw [if_pos (by omega), if_pos (by omega)]; simp
  unfold atI; rw [e]; exact h
theorem atI_last {α : Type} (xs : List α) (v : α) : atI (xs ++ [v]) (-1) = some v := by
  have hl : (xs ++ [v]).length = xs.length + 1 := by simp
  have e : ixN (xs ++ [v]).length (-1) = some xs.length := by
    unfold ixN
    rw [hl, if_neg (by decide), if_pos (by omega)]
    congr 1
    omega
  unfold atI
  rw [e]
  show (xs ++ [v])[xs.length]? = some v
  simp

/-! ### what may be subscripted -/
/-- what stands as an index of a plain subscript -/
def PlainIx (b : Expr) : Prop := ∀ o i, subscripted b false o i = operate [o, i] (getItem o i)
/-- a subscript by values -/
@[irreducible] def IxR (X : Cx) (r : R2) : Prop :=
  ∀ (value slice : Expr) (pins : List (Addr × Obj)) (s : Shared) (σ : St) (H : Hp) (x y : V) (v u : Value) (Q : VK), Inv X pins σ H s → RelV x v → RelV y u → r x y H Q →
    subscripted slice false v u = operate [v, u] (getItem v u) → wpAny (model X.prog X.w) X.A (subscriptTail value slice v u) (EP X pins σ Q) X.xe s
/-- a call of a builtin's method by values: the receiver, the arguments -/
@[irreducible] def MtR (X : Cx) (id : String) (r : V → List V → Hp → VK → Prop) : Prop :=
  ∀ (pins : List (Addr × Obj)) (s : Shared) (σ : St) (H : Hp) (x : V) (xs : List V) (v : Value) (us : List Value) (Q : VK), Inv X pins σ H s → RelV x v → Vals xs us → r x xs H Q →
    wpAny (model X.prog X.w) X.A (call (.builtin id) (v :: us)) (EP X pins σ Q) X.xe s
section
variable {X : Cx} {a b : Expr} {ta tb : TE} {pos : Pos}
/-- a[b] -/
theorem pe_ix {r : R2} (hr : IxR X r) (ha : PE X a ta) (hb : PE X b tb) (hs : PlainIx b) : PE X (.Subscript a b pos) (tOp r ta tb) := by
  unfold PE; unfold IxR at hr
  exact by
    intro pins s σ H Q I h
    exact Subscript_ (binT ha hb I h fun v u s2 x y H2 I2 rx ry q => hr a b pins s2 σ H2 x y v u Q I2 rx ry q (hs _ _))

def rIxL (K : PySem.W.Frag) : R2 := fun x y H Q => ∃ p xs i v, x = .ref p ∧ y = .int i ∧ SqL K H p xs ∧ atI xs i = some v ∧ Q v H
theorem ix_list : IxR X (rIxL X.K) := by
  unfold IxR at *
  exact by
    intro value slice pins s σ H x y v u Q I rx ry h hs
    obtain ⟨p, xs, i, z, rfl, rfl, hq, he, q⟩ := h
    cases rx
    obtain ⟨t, rfl⟩ := ry
    obtain ⟨its, r, pl, hz⟩ := I.list hq
    obtain ⟨j, h1, h2, h3, h4, h5⟩ := atI_get he
    obtain ⟨w, ew, rw'⟩ := r.get h2
    have hl := r.length
    have hn := line63
    have fin : EP X pins σ Q w s := ⟨z, H, I, rw', q⟩
    by_cases h0 : 0 ≤ i
    · have hj : i.toNat = j := by
        rw [seqIndex_of h0 h5] at h1
        exact Option.some.inj h1
      exact item_listR pl.isList h0 (by omega) (by rw [hj]; simpa using ew) fin hs
    · have hj : (i + (its.toArray.size : Int)).toNat = j := by
        rw [seqIndex_neg (by omega) h4] at h1
        rw [List.size_toArray, ← hl]
        exact Option.some.inj h1
      exact subscriptTail_builtinR (x := w) pl.isList.typeIs slot_list_getitem.lookup
        (wpAny_getItem_list_neg (Q := fun r s' => r = w ∧ EP X pins σ Q r s') pl.isList (by omega) (by rw [List.size_toArray] <;> omega) (by omega) (by rw [hj]; simpa using ew) ⟨rfl, fin⟩) hs

/-! ### xs[i] = v, any sign -/
/-- the list's object behind a store -/
theorem mapSeq_set (its : List Value) (n j : Nat) (u : Value) : Obj.mapSeq (·.setIfInBounds j u) { cls := .type "list", data := .seq its.toArray n } = { cls := .type "list", data := .seq (its.set j u).toArray n } := by
  simp [Obj.mapSeq]
theorem Inv.lst {pins : List (Addr × Obj)} {σ : St} {H : Hp} {s : Shared} {p : Addr} {xs : List V} (I : Inv X pins σ H s) (h : H p = some (.lst xs)) :
    ∃ (its : List Value) (n : Nat), Vals xs its ∧ s.heap.get? p = some { cls := .type "list", data := .seq its.toArray n } ∧ xs.length ≤ sizeLine := by
  obtain ⟨z, its, n, r, e⟩ := I.hok p _ h
  exact ⟨its, n, r, e, z⟩
/-- the list at p is written by an update of its object -/
theorem Inv.lstUpd {pins : List (Addr × Obj)} {σ : St} {H : Hp} {s : Shared} {p : Addr} {xs ys : List V} {its its' : List Value} {n n' : Nat} {f : Obj → Obj} (I : Inv X pins σ H s) (h : H p = some (.lst xs))
    (ho : s.heap.get? p = some { cls := .type "list", data := .seq its.toArray n }) (hf : f { cls := .type "list", data := .seq its.toArray n } = { cls := .type "list", data := .seq its'.toArray n' }) (r : Vals ys its') (hz : ys.length ≤ sizeLine) (t : Nat) :
    Inv X pins σ (upd H p (.lst ys)) { s with heap := s.heap.update p f, toks := t } := by
  have e : (s.heap.update p f).get? p = some { cls := .type "list", data := .seq its'.toArray n' } := by
    rw [Heap.get?_update_self f ho (by rw [hf] <;> rfl), hf]
  refine I.write (x := p) (e := p) (by rw [h]; trivial) (.inl rfl) (fun b u hb q => (Heap.get?_update_other _ _ (Ne.symm hb)).trans q) ⟨_, e⟩ ?_
  exact ⟨hz, its', n', r, e⟩
def rSetL : V → V → V → Hp → (Hp → Prop) → Prop := fun o i v H Q => ∃ p xs k j, o = .ref p ∧ i = .int k ∧ H p = some (.lst xs) ∧ ixN xs.length k = some j ∧ Q (upd H p (.lst (xs.set j v)))
theorem set_list : PSet X rSetL := by
  unfold PSet at *
  exact by
    intro pins s σ H o i v ov iv u Q I ro ri rv h
    obtain ⟨p, xs, k, j, rfl, rfl, hp, hj, q⟩ := h
    cases ro
    obtain ⟨t, rfl⟩ := ri
    obtain ⟨its, n, r, ho, hz⟩ := I.lst hp
    obtain ⟨h1, h2, h3, h4⟩ := ixN_seq hj
    have hl := r.length
    have hn := line63
    have I' : Inv X pins σ (upd H p (.lst (xs.set j v))) { s with heap := s.heap.update p (Obj.mapSeq (·.setIfInBounds j u)) } :=
      I.lstUpd hp ho (mapSeq_set its n j u) (r.set rv j) (by rw [List.length_set]; exact hz) s.toks
    by_cases h0 : 0 ≤ k
    · have hk : k.toNat = j := by
        rw [seqIndex_of h0 h4] at h1
        exact Option.some.inj h1
      exact PySem.W.ki_setAt ho h0 (by omega) (by rw [List.size_toArray, ← hl]; exact h4) (by rw [hk]; exact ⟨_, I', q⟩)
    · have hk : (k + (its.toArray.size : Int)).toNat = j := by
        rw [seqIndex_neg (by omega) h3] at h1
        rw [List.size_toArray, ← hl]
        exact Option.some.inj h1
      exact PySem.W.ki_setBack ho (by omega) (by rw [List.size_toArray, ← hl]; exact h3) (by omega) (by rw [hk]; exact ⟨_, I', q⟩)

/-! ### slices -/
/-! ### in, not in: flat items -/
def flatV : V → Bool
  | .non => true
  | .bl _ => true
  | .int _ => true
  | .str _ => true
  | _ => false
/-- == of flat values -/
def eqV : V → V → Bool
  | .non, .non => true
  | .bl a, .bl b => a == b
  | .bl a, .int b => (if a then 1 else 0) == b
  | .int a, .bl b => a == (if b then 1 else 0)
  | .int a, .int b => a == b
  | .str a, .str b => a == b
  | _, _ => false
theorem eqAt_V {A : Around} {s : Shared} {y x : V} {u v : Value} (ry : RelV y u) (rx : RelV x v) (fy : flatV y = true) (fx : flatV x = true) : SeqAt.EqAt A s u v (eqV y x) := by
  cases y with
  | non =>
    cases ry
    cases x with
    | non => cases rx; exact SeqAt.EqAt.same _
    | bl b => cases rx; exact SeqAt.EqAt.none_bool b
    | int b => obtain ⟨t, rfl⟩ := rx; exact SeqAt.EqAt.none_int b t
    | str b => obtain ⟨t, rfl⟩ := rx; exact SeqAt.EqAt.none_str b t
    | _ => exact absurd (show false = true from fx) Bool.false_ne_true
  | bl a =>
    cases ry
    cases x with
    | non => cases rx; exact SeqAt.EqAt.bool_none a
    | bl b => cases rx; exact SeqAt.EqAt.bool_bool a b
    | int b => obtain ⟨t, rfl⟩ := rx; exact SeqAt.EqAt.bool_int a b t
    | str b => obtain ⟨t, rfl⟩ := rx; exact SeqAt.EqAt.bool_str a b t
    | _ => exact absurd (show false = true from fx) Bool.false_ne_true
  | int a =>
    obtain ⟨t', rfl⟩ := ry
    cases x with
    | non => cases rx; exact SeqAt.EqAt.int_none a t'
    | bl b => cases rx; exact SeqAt.EqAt.int_bool a t' b
    | int b => obtain ⟨t, rfl⟩ := rx; exact SeqAt.EqAt.int_int a t' b t
    | str b => obtain ⟨t, rfl⟩ := rx; exact SeqAt.EqAt.int_str a t' b t
    | _ => exact absurd (show false = true from fx) Bool.false_ne_true
  | str a =>
    obtain ⟨t', rfl⟩ := ry
    cases x with
    | non => cases rx; exact SeqAt.EqAt.str_none a t'
    | bl b => cases rx; exact SeqAt.EqAt.str_bool a t' b
    | int b => obtain ⟨t, rfl⟩ := rx; exact SeqAt.EqAt.str_int a t' b t
    | str b => obtain ⟨t, rfl⟩ := rx; exact SeqAt.EqAt.str_str a t' b t
    | _ => exact absurd (show false = true from fx) Bool.false_ne_true
  | _ => exact absurd (show false = true from fy) Bool.false_ne_true
/-- the items' answers, read off the values (a value's own answer does not lean on its token) -/
def eqU (x : V) (u : Value) : Bool := match u with
  | .none => eqV .non x
  | .bool b => eqV (.bl b) x
  | .int i _ => eqV (.int i) x
  | .str z _ => eqV (.str z) x
  | _ => false
theorem eqU_of {x y : V} {u : Value} (r : RelV y u) (f : flatV y = true) : eqU x u = eqV y x := by
  cases y with
  | non => cases r; rfl
  | bl b => cases r; rfl
  | int i => obtain ⟨t, rfl⟩ := r; rfl
  | str z => obtain ⟨t, rfl⟩ := r; rfl
  | _ => exact absurd (show false = true from f) Bool.false_ne_true
theorem any_eqU {x : V} : ∀ {xs : List V} {us : List Value}, Vals xs us → xs.all flatV = true → us.any (eqU x) = xs.any fun y => eqV y x
  | _, _, .nil, _ => rfl
  | y :: xs, u :: us, .cons r t, f => by
    rw [List.all_cons, Bool.and_eq_true] at f
    rw [List.any_cons, List.any_cons, eqU_of r f.1, any_eqU t f.2]
theorem mem_eqAt {A : Around} {s : Shared} {x : V} {v : Value} (rx : RelV x v) (fx : flatV x = true) : ∀ {xs : List V} {us : List Value}, Vals xs us → xs.all flatV = true → ∀ u ∈ us, SeqAt.EqAt A s u v (eqU x u)
  | _, _, .nil, _ => fun u hu => by cases hu
  | y :: xs, u :: us, .cons r t, f => fun u' hu => by
    rw [List.all_cons, Bool.and_eq_true] at f
    rcases List.mem_cons.mp hu with rfl | hu
    · rw [eqU_of r f.1]; exact eqAt_V r rx f.1 fx
    · exact mem_eqAt rx fx t f.2 u' hu
def inV (x : V) (xs : List V) : Bool := xs.any fun y => eqV y x
/-- x in a list or tuple of flat items -/
def rIn (K : PySem.W.Frag) (neg : Bool) : R2 := fun x y H Q => ∃ p xs, y = .ref p ∧ (SqL K H p xs ∨ SqT K H p xs) ∧ flatV x = true ∧ xs.all flatV = true ∧ Q (.bl (if neg then !inV x xs else inV x xs)) H
theorem op_in_seq : OpR X (compareOp .In) (rIn X.K false) := by
  unfold OpR at *
  exact by
    intro pins s σ H x y v u Q I rx ry h
    obtain ⟨p, xs, rfl, hq, fx, fs, q⟩ := h
    cases ry
    rcases hq with hq | hq
    · obtain ⟨its, r, pl, hz⟩ := I.list hq
      refine SeqAt.in_listAt (eqU x) pl.isList (fun w hw => mem_eqAt rx fx r fs w (by simpa using hw)) ⟨.bl _, H, I, rfl, ?_⟩
      rw [show its.toArray.any (eqU x) = its.any (eqU x) by simp, any_eqU r fs]
      exact q
    · obtain ⟨its, r, pl, hz⟩ := I.tuple hq
      refine SeqAt.in_tupleAt (eqU x) pl (fun w hw => mem_eqAt rx fx r fs w (by simpa using hw)) ⟨.bl _, H, I, rfl, ?_⟩
      rw [show its.toArray.any (eqU x) = its.any (eqU x) by simp, any_eqU r fs]
      exact q

/-! ### len, list(x), tuple(x) of any list or tuple that is read -/
theorem call_len_seq : CallR X (.builtin "len") (fun xs H Q => ∃ p ys, xs = [.ref p] ∧ (SqL X.K H p ys ∨ SqT X.K H p ys) ∧ Q (.int ys.length) H) := by
  unfold CallR at *
  exact by
    intro pins s σ H xs us Q I r h
    obtain ⟨p, ys, rfl, hq, q⟩ := h
    obtain ⟨u, rfl, rx⟩ := vals1 r
    cases rx
    have hn := line63
    rcases hq with hq | hq
    · obtain ⟨its, r', pl, hz⟩ := I.list hq
      have hlen := r'.length
      exact Calls.call_len_list pl.isList (by simp only [List.size_toArray] <;> omega) ⟨.int ys.length, H, I.tok _, ⟨s.toks + 1, by rw [List.size_toArray, hlen]⟩, q⟩
    · obtain ⟨its, r', pl, hz⟩ := I.tuple hq
      have hlen := r'.length
      exact len_tuple pl (by simp only [List.size_toArray] <;> omega) ⟨.int ys.length, H, I.tok _, ⟨s.toks + 1, by rw [List.size_toArray, hlen]⟩, q⟩

theorem CallR.or {f : Value} {r r' : List V → Hp → VK → Prop} (h : CallR X f r) (h' : CallR X f r') : CallR X f (fun xs H Q => r xs H Q ∨ r' xs H Q) := by
  unfold CallR at *
  exact by
    intro pins s σ H xs us Q I rs q
    rcases q with q | q
    · exact h pins s σ H xs us Q I rs q
    · exact h' pins s σ H xs us Q I rs q

theorem call_list_of : CallR X (.type "list") (fun xs H Q => ∃ p ys, xs = [.ref p] ∧ (SqL X.K H p ys ∨ SqT X.K H p ys) ∧ ∀ l, H l = none → Q (.ref l) (upd H l (.lst ys))) := by
  unfold CallR at *
  exact by
    intro pins s σ H xs us Q I r h
    obtain ⟨p, ys, rfl, hq, q⟩ := h
    obtain ⟨u, rfl, rx⟩ := vals1 r
    cases rx
    have fin : ∀ (its : List Value), Vals ys its → ys.length ≤ sizeLine → ∀ (h' : Heap) (c' : Nat), (∀ b o', s.heap.get? b = some o' → h'.get? b = some o') →
        h'.get? s.heap.objs.size = some { cls := .type "list", dict := none, data := .seq its.toArray c', slots := #[] } → EP X pins σ Q (.ref s.heap.objs.size) { s with heap := h' } := fun its r' hz h' c' kp e =>
      ⟨.ref s.heap.objs.size, _, I.laid (t' := s.toks) kp (Nat.le_refl _) (show ObjOk X.prog X.w _ h' _ (.lst ys) from ⟨hz, its, c', r', e⟩), rfl, q _ (I.hok.fresh (Nat.le_refl _))⟩
    rcases hq with hq | hq
    · obtain ⟨its, r', pl, hz⟩ := I.list hq
      have hlen := r'.length
      obtain ⟨o, ho, hc, n, hd⟩ := pl.isList
      exact call_list_seq p (.inl rfl) ho hc hd (fun h' c' kp e => fin its r' hz h' c' kp e) (by simp only [List.size_toArray] <;> omega)
    · obtain ⟨its, r', pl, hz⟩ := I.tuple hq
      have hlen := r'.length
      obtain ⟨o, ho, hc, n, hd⟩ := pl
      exact call_list_seq p (.inr rfl) ho hc hd (fun h' c' kp e => fin its r' hz h' c' kp e) (by simp only [List.size_toArray] <;> omega)

/-! ### the call of a builtin's method: o.m(..) -/
/-- the value is of that builtin type -/
def tyV (K : PySem.W.Frag) (T : String) (x : V) (H : Hp) : Prop := match x with
  | .str _ => T = "str"
  | .int _ => T = "int"
  | .ref p => (T = "list" ∧ ∃ xs, SqL K H p xs) ∨ (T = "tuple" ∧ ∃ o, K.lookup p = some o ∧ o.cls = .type "tuple" ∧ o.dict = none) ∨
      (T = "dict" ∧ ((∃ kvs, H p = some (.dK kvs)) ∨ ∃ kvs, H p = some (.dT kvs))) ∨ (T = "set" ∧ ∃ S n, H p = some (.set S n))
  | _ => False
theorem tyV_is {pins : List (Addr × Obj)} {σ : St} {H : Hp} {s : Shared} {T : String} {x : V} {v : Value} (I : Inv X pins σ H s) (r : RelV x v) (ty : tyV X.K T x H) :
    s.TypeIs v T ∧ ∀ a, v = .ref a → ∃ ob, s.heap.get? a = some ob ∧ ob.dict = none := by
  cases x with
  | str z =>
    obtain ⟨t, rfl⟩ := r
    cases (show T = "str" from ty)
    exact ⟨typeIs_str s z t, fun _ e => nomatch e⟩
  | int i =>
    obtain ⟨t, rfl⟩ := r
    cases (show T = "int" from ty)
    exact ⟨typeIs_int s i t, fun _ e => nomatch e⟩
  | ref p =>
    cases r
    rcases ty with ⟨rfl, xs, hq⟩ | ⟨rfl, o, hk, hc, hd⟩ | ⟨rfl, hk⟩ | ⟨rfl, S, n, hk⟩
    · obtain ⟨its, _, pl, _⟩ := I.list hq
      refine ⟨pl.isList.typeIs, fun a e => ?_⟩
      cases e
      obtain ⟨o, n, e, c, hd, _⟩ := pl
      exact ⟨o, e, hd⟩
    · refine ⟨⟨o, I.kIn p o hk, hc⟩, fun a e => ?_⟩
      cases e
      exact ⟨o, I.kIn _ o hk, hd⟩
    · have z : ∃ o, s.heap.get? p = some o ∧ o.ExactDict := by
        rcases hk with ⟨kvs, hk⟩ | ⟨kvs, hk⟩
        · obtain ⟨_, _, _, _, o, _, _, e, ex, _⟩ := I.hok p _ hk
          exact ⟨o, e, ex⟩
        · obtain ⟨_, _, _, _, o, _, _, e, ex, _⟩ := I.hok p _ hk
          exact ⟨o, e, ex⟩
      obtain ⟨o, e, ex⟩ := z
      refine ⟨⟨o, e, ex.1⟩, fun a e2 => ?_⟩
      cases e2
      exact ⟨o, e, ex.2.1⟩
    · obtain ⟨o, _, _, _, e, ex, _⟩ := I.hok p _ hk
      refine ⟨⟨o, e, ex.1⟩, fun a e2 => ?_⟩
      cases e2
      exact ⟨o, e, ex.2.1⟩
  | _ => exact False.elim ty
def tBM (K : PySem.W.Frag) (T : String) (r : V → List V → Hp → VK → Prop) (to : TE) (t : TA) : TE := fun σ H Q => to σ H fun x H1 => tyV K T x H1 ∧ t σ H1 fun xs H2 => r x xs H2 Q
variable {o e : Expr} {es : List Expr} {to : TE} {t : TA} {name : Str} {apos cpos : Pos} {T id : String} {r : V → List V → Hp → VK → Prop}
theorem pe_bm (pa : PlainAttrs T) (slot : Slot T name id) (hty : typeOf (.builtin id) = pure (.type "method_descriptor")) (hm : MtR X id r) (ho : PE X o to) (ha : PA X (e :: es) t)
    (hbase : attributeBase o name X.env (eval o X.env) = eval o X.env := by rfl)
    (hfew : ((backTo cpos (starEach (e :: es) X.env)).all (fun x => !x.1) && (backToKw cpos (keywordEach [] X.env)).all (fun x => x.1.isSome)
      && decide ((e :: es).length + ([] : List Keyword).length + (if ([] : List Keyword).isEmpty then 0 else 1) < 30)) = true := by rfl)
    (hline : (apos.endLine == cpos.line) = true := by rfl) (hs : starEach (e :: es) X.env = (false, eval e X.env) :: starEach es X.env := by rfl) (hplain : (backTo cpos (starEach es X.env)).any (·.1) = false := by rfl) :
    PE X (.Call (.Attribute o name apos) (e :: es) [] cpos) (tBM X.K T r to t) := by
  unfold PE at *; unfold PA at *; unfold MtR at *
  exact by
    intro pins s σ H Q I h
    refine wpAny_Call_method_late hbase hfew hline rfl (thn (ho pins s σ H _ I h) fun v s1 ⟨x, H1, I1, r1, ty, q1⟩ => ?_)
    obtain ⟨h1, h2⟩ := tyV_is I1 r1 ty
    refine ⟨T, id, pa, slot, hty, h1, h2, ?_⟩
    have hA := ha cpos pins s1 σ H1 _ I1 q1
    rw [hs] at hA ⊢
    refine Calls.callWith_builtin (by show (false || (backTo cpos (starEach es X.env)).any (·.1)) = false; rw [hplain] <;> rfl) (Calls.evalArgs_plain ?_)
    exact thn hA fun us s2 ⟨vs, H2, I2, r2, q2⟩ => hm pins s2 σ H2 x vs v us Q I2 r1 r2 q2

/- xs.append(e), list.index on a module's tuple .. are MtR facts of 06m -/
end
end L2

namespace L2
open PySem PySem.Spec PyProof.Rows

@[irreducible] def MtM (X : Cx) (id : String) (r : V → List V → Hp → VK → Prop) : Prop :=
  ∀ (pins : List (Addr × Obj)) (s : Shared) (σ : St) (H : Hp) (x : V) (xs : List V) (v : Value) (us : List Value) (Q : VK), Inv X pins σ H s → RelV x v → Vals xs us → r x xs H Q →
    wpAny (model X.prog X.w) X.A (call (.builtin id) (v :: us)) (EP X pins σ Q) X.xe s

/-! ### lists of values -/
theorem Vals.one : ∀ {x : V} {us : List Value}, Vals [x] us → ∃ u, us = [u] ∧ RelV x u
  | _, _, .cons r .nil => ⟨_, rfl, r⟩
theorem Vals.two : ∀ {x y : V} {us : List Value}, Vals [x, y] us → ∃ u v, us = [u, v] ∧ RelV x u ∧ RelV y v
  | _, _, _, .cons r (.cons q .nil) => ⟨_, _, rfl, r, q⟩
section
variable {X : Cx} {pins : List (Addr × Obj)} {σ : St} {H : Hp} {s : Shared} {l b : Addr} {xs ys zs : List V}

/-! ### the two steps: a tracked list is rewritten, a new list is laid -/
theorem Inv.lset {its its' : List Value} {n : Nat} {f : Array Value → Array Value} {t' : Nat} (I : Inv X pins σ H s) (hH : H l = some (.lst xs))
    (e : s.heap.get? l = some { cls := .type "list", data := .seq its.toArray n }) (hf : f its.toArray = its'.toArray) (hv : Vals ys its') (hz : ys.length ≤ sizeLine) :
    Inv X pins σ (upd H l (.lst ys)) { s with heap := s.heap.update l (Obj.mapSeq f), toks := t' } := by
  have q := PySem.IsL.update e f
  rw [hf] at q
  refine I.write (x := l) (e := l) (by rw [hH]; exact trivial) (.inl rfl) (fun b' u hb hu => (Heap.get?_update_other s.heap (Obj.mapSeq f) (Ne.symm hb)).trans hu) ⟨_, q⟩ ?_
  exact ⟨hz, its', _, hv, q⟩
theorem Inv.lnew {its : List Value} {t' : Nat} (I : Inv X pins σ H s) (hv : Vals ys its) (hz : ys.length ≤ sizeLine) :
    Inv X pins σ (upd H s.heap.objs.size (.lst ys)) { s with heap := s.heap.push { cls := .type "list", data := .seq its.toArray }, toks := t' } :=
  I.laid (fun _ _ q => Heap.get?_push_of_some _ q) (Nat.le_refl _) ⟨hz, its, 0, hv, Heap.get?_push_size _ rfl⟩
theorem Inv.fresh (I : Inv X pins σ H s) : H s.heap.objs.size = none := I.hok.fresh (Nat.le_refl _)
theorem Inv.lstM (I : Inv X pins σ H s) (hH : H l = some (.lst xs)) : xs.length ≤ sizeLine ∧ ∃ (its : List Value) (n : Nat), Vals xs its ∧ xs.length = its.length ∧ s.heap.get? l = some { cls := .type "list", data := .seq its.toArray n } := by
  obtain ⟨z, its, n, r, e⟩ := I.hok l _ hH
  exact ⟨z, its, n, r, r.length, e⟩

theorem notLongL {n : Nat} (h : n ≤ sizeLine) : Builtin.List.listTooLong n = false := by
  unfold Builtin.List.listTooLong
  exact decide_eq_false (by omega)
end

section
variable {X : Cx}

/-! ### methods -/
def rAppend : V → List V → Hp → VK → Prop := fun x vs H Q => ∃ l xs y, x = .ref l ∧ vs = [y] ∧ H l = some (.lst xs) ∧ xs.length < sizeLine ∧ Q .non (upd H l (.lst (xs ++ [y])))
theorem mt_append : MtM X "list.append" rAppend := by
  unfold MtM at *
  exact by
    intro pins s σ H x vs v us Q I rx rv h
    obtain ⟨l, xs, y, rfl, rfl, hH, hz, q⟩ := h
    cases rx
    obtain ⟨u, rfl, ru⟩ := rv.one
    obtain ⟨z, its, n, r, hl, e⟩ := I.lstM hH
    refine call_meets F.slot_list_append ⟨_, e, rfl⟩ F.entry_list_append (F.args_list_append_2 _ _) (PySem.list_append l its.toArray n u (by rw [List.size_toArray]; omega)) ⟨e, ?_⟩
    refine ⟨.non, _, I.lset (its' := its ++ [u]) hH e (by simp) (r.append (.cons ru .nil)) ?_, rfl, q⟩
    rw [List.length_append, List.length_singleton]
    omega

def rExtend : V → List V → Hp → VK → Prop := fun x vs H Q => ∃ l b xs zs, x = .ref l ∧ vs = [.ref b] ∧ H l = some (.lst xs) ∧ H b = some (.lst zs) ∧ xs.length + zs.length ≤ sizeLine ∧ Q .non (upd H l (.lst (xs ++ zs)))
theorem mt_extend : MtM X "list.extend" rExtend := by
  unfold MtM at *
  exact by
    intro pins s σ H x vs v us Q I rx rv h
    obtain ⟨l, b, xs, zs, rfl, rfl, hH, hB, hz, q⟩ := h
    cases rx
    obtain ⟨u, rfl, ru⟩ := rv.one
    cases ru
    obtain ⟨z, its, n, r, hl, e⟩ := I.lstM hH
    obtain ⟨z2, its2, n2, r2, hl2, e2⟩ := I.lstM hB
    have hsz : its.toArray.size + its2.toArray.size ≤ sizeLine := by rw [List.size_toArray, List.size_toArray]; omega
    have hlong : ¬ (!its.toArray.isEmpty && Builtin.List.listTooLong (its.toArray.size + its2.toArray.size)) = true := by
      rw [notLongL hsz, Bool.and_false]
      exact Bool.false_ne_true
    refine call_meets F.slot_list_extend ⟨_, e, rfl⟩ F.entry_list_extend (F.args_list_extend_2 _ _)
      (AutoSeq1.list_extend_list_list_0 l its.toArray n b its2.toArray n2 hlong (by rw [List.size_toArray]; omega) (by omega)) ⟨e, e2, ?_⟩
    refine ⟨.non, _, I.lset (its' := its ++ its2) hH e (by simp) (r.append r2) ?_, rfl, q⟩
    rw [List.length_append]
    omega

/-! ### list + list, list += list, list * int -/
def rCat : R2 := fun x y H Q => ∃ l b xs zs, x = .ref l ∧ y = .ref b ∧ H l = some (.lst xs) ∧ H b = some (.lst zs) ∧ xs.length + zs.length ≤ sizeLine ∧ ∀ p, H p = none → Q (.ref p) (upd H p (.lst (xs ++ zs)))
theorem op_cat : OpR X (binaryOp .Add) rCat := by
  unfold OpR at *
  exact by
    intro pins s σ H x y v u Q I rx ry h
    obtain ⟨l, b, xs, zs, rfl, rfl, hH, hB, hz, q⟩ := h
    cases rx
    cases ry
    obtain ⟨z, its, n, r, hl, e⟩ := I.lstM hH
    obtain ⟨z2, its2, n2, r2, hl2, e2⟩ := I.lstM hB
    refine PySem.P.add_list e e2 ?_ (by rw [List.size_toArray, List.size_toArray]; omega)
    have ea : its.toArray ++ its2.toArray = (its ++ its2).toArray := by simp
    rw [ea]
    exact ⟨.ref _, _, I.lnew (t' := s.toks) (r.append r2) (by rw [List.length_append]; omega), rfl, q _ I.fresh⟩

/-! ### del xs[i] -/
end

/-! ### xs[a:b] = ys -/
section
variable {prog : Program} {w : World} {A : Around} {E : Value → Shared → Prop} {s : Shared}
set_option maxRecDepth 100000 in
end

section
variable {X : Cx}
end
end L2


namespace L2
open PySem PySem.Spec PyProof.Rows

/-! ### lists of pairs as tables -/
section
variable {κ : Type} [DecidableEq κ]
def valV (kvs : List (κ × V)) (k : κ) : Option V := (kvs.find? fun kv => decide (kv.1 = k)).map (·.2)
/-- in its place, or at the end -/
def putK (kvs : List (κ × V)) (k : κ) (v : V) : List (κ × V) :=
  if (kvs.any fun kv => decide (kv.1 = k)) = true then kvs.map (fun kv => if kv.1 = k then (kv.1, v) else kv) else kvs ++ [(k, v)]
theorem valV_nil {k : κ} : valV ([] : List (κ × V)) k = none := rfl
theorem valV_pos {p : κ × V} {r : List (κ × V)} {k : κ} (e : p.1 = k) : valV (p :: r) k = some p.2 := by simp [valV, List.find?_cons, e]
theorem valV_neg {p : κ × V} {r : List (κ × V)} {k : κ} (e : ¬ p.1 = k) : valV (p :: r) k = valV r k := by simp [valV, List.find?_cons, e]
theorem valV_any (k : κ) : ∀ kvs : List (κ × V), (kvs.any fun kv => decide (kv.1 = k)) = (valV kvs k).isSome
  | [] => rfl
  | p :: r => by
    rw [List.any_cons]
    by_cases e : p.1 = k
    · simp only [valV_pos e, decide_eq_true e, Bool.true_or, Option.isSome_some]
    · rw [valV_neg e, decide_eq_false e, Bool.false_or]; exact valV_any k r
theorem valV_map (k j : κ) (y : V) : ∀ kvs : List (κ × V), valV (kvs.map fun kv => if kv.1 = k then (kv.1, y) else kv) j = (valV kvs j).map fun x => if j = k then y else x
  | [] => rfl
  | p :: r => by
    have ih := valV_map k j y r
    rw [List.map_cons]
    by_cases h : p.1 = k
    · rw [if_pos h]
      by_cases e : p.1 = j
      · rw [valV_pos (p := (p.1, y)) e, valV_pos e, Option.map_some, if_pos (e.symm.trans h)]
      · rw [valV_neg (p := (p.1, y)) e, valV_neg e, ih]
    · rw [if_neg h]
      by_cases e : p.1 = j
      · rw [valV_pos (p := p) e, valV_pos e, Option.map_some, if_neg (fun z => h (e.trans z))]
      · rw [valV_neg (p := p) e, valV_neg e, ih]
theorem valV_snoc (k j : κ) (y : V) : ∀ kvs : List (κ × V), valV kvs k = none → valV (kvs ++ [(k, y)]) j = if j = k then some y else valV kvs j
  | [], _ => by
    by_cases e : k = j
    · rw [if_pos e.symm]; exact valV_pos (p := (k, y)) e
    · rw [if_neg (fun z => e z.symm)]; exact valV_neg (p := (k, y)) e
  | p :: r, hn => by
    rw [List.cons_append]
    have hk : ¬ p.1 = k := fun z => by rw [valV_pos z] at hn; cases hn
    rw [valV_neg hk] at hn
    have ih := valV_snoc k j y r hn
    by_cases e : p.1 = j
    · rw [valV_pos e, valV_pos e, if_neg (fun z => hk (e.trans z))]
    · rw [valV_neg e, valV_neg e, ih]
theorem valV_put (kvs : List (κ × V)) (k j : κ) (y : V) : valV (putK kvs k y) j = if j = k then some y else valV kvs j := by
  unfold putK
  by_cases a : (kvs.any fun kv => decide (kv.1 = k)) = true
  · rw [if_pos a, valV_map]
    rw [valV_any] at a
    by_cases e : j = k
    · obtain ⟨x, hx⟩ := Option.isSome_iff_exists.mp a
      rw [if_pos e, e, hx, Option.map_some, if_pos rfl]
    · rw [if_neg e]
      cases valV kvs j with
      | none => rfl
      | some x => rw [Option.map_some, if_neg e]
  · rw [if_neg a]
    refine valV_snoc k j y kvs ?_
    rw [valV_any] at a
    cases q : valV kvs k with
    | none => rfl
    | some x => rw [q] at a; exact (a rfl).elim
theorem length_putK (kvs : List (κ × V)) (k : κ) (v : V) : (putK kvs k v).length ≤ kvs.length + 1 := by
  unfold putK
  split
  · rw [List.length_map]; omega
  · rw [List.length_append, List.length_cons, List.length_nil]; omega
theorem RelO.isSome_eq {o : Option V} {u : Option Value} (r : RelO o u) : o.isSome = u.isSome := by
  cases o with
  | none => cases u with
    | none => rfl
    | some _ => exact (show False from r).elim
  | some _ => cases u with
    | none => exact (show False from r).elim
    | some _ => rfl
/-- raw tables of the same keys -/
theorem KV.val {kvs : List (κ × V)} {vs : List (κ × Value)} (r : KV kvs vs) (k : κ) : RelO (valV kvs k) (valueAt vs k) := by
  unfold KV at r
  induction r with
  | nil => exact True.intro
  | @cons p q ps qs h t ih =>
    obtain ⟨h1, h2⟩ := h
    by_cases e : p.1 = k
    · have e' : q.1 = k := h1.symm.trans e
      have b : valueAt (q :: qs) k = some q.2 := by simp [valueAt, List.find?_cons, e']
      rw [valV_pos e, b]; exact h2
    · have e' : ¬ q.1 = k := fun z => e (h1.trans z)
      have b : valueAt (q :: qs) k = valueAt qs k := by simp [valueAt, List.find?_cons, e']
      rw [valV_neg e, b]; exact ih
theorem KV.any {kvs : List (κ × V)} {vs : List (κ × Value)} (r : KV kvs vs) (k : κ) : (kvs.any fun kv => decide (kv.1 = k)) = vs.any fun kv => decide (kv.1 = k) := by
  unfold KV at r
  induction r with
  | nil => rfl
  | cons h t ih => rw [List.any_cons, List.any_cons, ih, h.1]
theorem KV.repl {kvs : List (κ × V)} {vs : List (κ × Value)} (r : KV kvs vs) (k : κ) {y : V} {u : Value} (ry : RelV y u) :
    KV (kvs.map fun kv => if kv.1 = k then (kv.1, y) else kv) (vs.map fun kv => if kv.1 = k then (kv.1, u) else kv) := by
  unfold KV at r ⊢
  induction r with
  | nil => exact .nil
  | @cons p q ps qs h t ih =>
    rw [List.map_cons, List.map_cons]
    refine .cons ?_ ih
    obtain ⟨h1, h2⟩ := h
    by_cases e : p.1 = k
    · rw [if_pos e, if_pos (h1.symm.trans e)]; exact ⟨h1, ry⟩
    · rw [if_neg e, if_neg (fun z => e (h1.trans z))]; exact ⟨h1, h2⟩
theorem KV.put {kvs : List (κ × V)} {vs : List (κ × Value)} (r : KV kvs vs) (k : κ) {y : V} {u : Value} (ry : RelV y u) : KV (putK kvs k y) (stored vs k u) := by
  unfold putK stored
  rw [r.any k]
  by_cases e : (vs.any fun kv => decide (kv.1 = k)) = true
  · rw [if_pos e, if_pos e]; exact r.repl k ry
  · rw [if_neg e, if_neg e]; exact Paired.snoc r ⟨rfl, ry⟩
theorem KV.length {kvs : List (κ × V)} {vs : List (κ × Value)} (r : KV kvs vs) : kvs.length = vs.length := Paired.length r
end


/-! ### a tracked dict, its keys ints and texts or tuples of these -/
theorem kV_is {P : Program} {w : World} {k : Key} {u : Value} (r : RelV (kV k) u) : (mixKind P w).is k u = true := by
  cases k with
  | inl i => obtain ⟨t, e⟩ := (show ∃ t, u = Value.int i t from r); subst e; exact mixKind_int P w i t
  | inr x => obtain ⟨t, e⟩ := (show ∃ t, u = Value.str x t from r); subst e; exact mixKind_str P w x t
theorem items_are {P : Program} {w : World} : ∀ {ks : List Key} {us : List Value}, Vals (ks.map kV) us → ItemsAre (mixKind P w) ks us
  | [], _, r => by rw [List.map_nil] at r; cases r; exact .nil
  | k :: ks, _, r => by
    rw [List.map_cons] at r
    cases r with
    | cons h t => exact .cons (kV_is h) (items_are t)

/-- raw entries of a dict with tuple keys -/
abbrev KT (H : Hp) : List (List Key × V) → List (List Key × Addr × Value) → Prop := Paired fun p q => p.1 = q.1 ∧ H q.2.1 = some (.tup (p.1.map kV)) ∧ RelV p.2 q.2.2
theorem KT.val {H : Hp} {kvs : List (List Key × V)} {xs : List (List Key × Addr × Value)} (r : KT H kvs xs) (k : List Key) : RelO (valV kvs k) ((atKey xs k).map (·.2)) := by
  induction r with
  | nil => exact True.intro
  | @cons p q ps qs h t ih =>
    obtain ⟨h1, _, h2⟩ := h
    by_cases e : p.1 = k
    · have e' : q.1 = k := h1.symm.trans e
      have b : atKey (q :: qs) k = some q.2 := by simp [atKey, List.find?_cons, e']
      rw [valV_pos e, b]; exact h2
    · have e' : ¬ q.1 = k := fun z => e (h1.trans z)
      have b : atKey (q :: qs) k = atKey qs k := by simp [atKey, List.find?_cons, e']
      rw [valV_neg e, b]; exact ih
theorem KT.repl {H : Hp} {kvs : List (List Key × V)} {xs : List (List Key × Addr × Value)} (r : KT H kvs xs) (k : List Key) {y : V} {u : Value} (ry : RelV y u) :
    KT H (kvs.map fun kv => if kv.1 = k then (kv.1, y) else kv) (xs.map (putAt k u)) := by
  induction r with
  | nil => exact .nil
  | @cons p q ps qs h t ih =>
    rw [List.map_cons, List.map_cons]
    refine .cons ?_ ih
    obtain ⟨h1, h2, h3⟩ := h
    unfold putAt
    by_cases e : p.1 = k
    · rw [if_pos e, if_pos (h1.symm.trans e)]; exact ⟨h1, h2, ry⟩
    · rw [if_neg e, if_neg (fun z => e (h1.trans z))]; exact ⟨h1, h2, h3⟩
theorem KT.put {H : Hp} {kvs : List (List Key × V)} {xs : List (List Key × Addr × Value)} (r : KT H kvs xs) (k : List Key) {b : Addr} {y : V} {u : Value} (hb : H b = some (.tup (k.map kV))) (ry : RelV y u) :
    KT H (putK kvs k y) (storedH xs k b u) := by
  have e : (kvs.any fun kv => decide (kv.1 = k)) = (atKey xs k).isSome := by
    rw [valV_any, (r.val k).isSome_eq, Option.isSome_map]
  unfold putK storedH
  rw [e]
  by_cases q : (atKey xs k).isSome = true
  · rw [if_pos q, if_pos q]; exact r.repl k ry
  · rw [if_neg q, if_neg q]; exact Paired.snoc r ⟨rfl, hb, ry⟩
theorem KT.keeps {H H' : Hp} {kvs : List (List Key × V)} {xs : List (List Key × Addr × Value)} (r : KT H kvs xs) (ht : ∀ b ys, H b = some (.tup ys) → H' b = some (.tup ys)) : KT H' kvs xs :=
  Paired.mapP r fun _ _ z => ⟨z.1, ht _ _ z.2.1, z.2.2⟩

section
variable {P : Program} {w : World} {H : Hp} {h : Heap} {a : Addr}
theorem rd_of {u : HO} (ok : HOk P w H h) (e : Rd H a u) : ObjOk P w H h a u := e.ok ok
theorem dk_rd {kvs : List (Key × V)} (ok : HOk P w H h) (e : Rd H a (.dK kvs)) : kvs.length ≤ sizeLine ∧ (a == sysModules) = false ∧ ∃ vs, KV kvs vs ∧ h.DictOf (mixKind P w) a vs :=
  show ObjOk P w H h a (.dK kvs) from rd_of ok e
theorem dk_of {kvs : List (Key × V)} (ok : HOk P w H h) (e : H a = some (.dK kvs)) : kvs.length ≤ sizeLine ∧ (a == sysModules) = false ∧ ∃ vs, KV kvs vs ∧ h.DictOf (mixKind P w) a vs := dk_rd ok (.inl e)
/-- a tracked tuple of ints and texts is a key -/
theorem key_of {ks : List Key} (ok : HOk P w H h) (e : H a = some (.tup (ks.map kV))) : (tupleKind (mixKind P w)).is h ks a := by
  obtain ⟨_, its, r, o, h1, h2, n, h3⟩ := (show ObjOk P w H h a (.tup (ks.map kV)) from ok a _ e)
  exact ⟨o, its.toArray, n, h1, h2, h3, by simpa using items_are r⟩
theorem dt_rd {kvs : List (List Key × V)} (ok : HOk P w H h) (e : Rd H a (.dT kvs)) : kvs.length ≤ sizeLine ∧ (a == sysModules) = false ∧
    ∃ xs, KT H kvs xs ∧ h.DictOfH (tupleKind (mixKind P w)) a xs := by
  obtain ⟨z, y, xs, r, o, es, ep, h1, h2, h3, h4, h5⟩ := (show ObjOk P w H h a (.dT kvs) from rd_of ok e)
  refine ⟨z, y, xs, r, o, es, ep, h1, h2, h3, h4, fun x hx => ?_, h5⟩
  have all : ∀ {l : List (List Key × V)} {m : List (List Key × Addr × Value)}, KT H l m → ∀ x ∈ m, (tupleKind (mixKind P w)).is h x.1 x.2.1 := by
    intro l m q
    induction q with
    | nil => intro x hx; exact nomatch hx
    | @cons p q ps qs hq t ih =>
      intro x hx
      rcases List.mem_cons.mp hx with e | hx
      · subst e
        exact key_of ok (by rw [← hq.1]; exact hq.2.1)
      · exact ih x hx
  exact all r x hx
theorem dt_of {kvs : List (List Key × V)} (ok : HOk P w H h) (e : H a = some (.dT kvs)) : kvs.length ≤ sizeLine ∧ (a == sysModules) = false ∧
    ∃ xs, KT H kvs xs ∧ h.DictOfH (tupleKind (mixKind P w)) a xs := dt_rd ok (.inl e)
end

/-- what the dict at a holds at the key y -/
def DGet (H : Hp) (a : Addr) (y : V) (r : Option V) : Prop :=
  (∃ kvs k, Rd H a (.dK kvs) ∧ y = kV k ∧ r = valV kvs k) ∨ ∃ kvs k b, Rd H a (.dT kvs) ∧ y = .ref b ∧ H b = some (.tup (k.map kV)) ∧ r = valV kvs k
/-- the heap behind a[y] = v -/
def DPut (H : Hp) (a : Addr) (y v : V) (H' : Hp) : Prop :=
  (∃ kvs k, H a = some (.dK kvs) ∧ y = kV k ∧ kvs.length < sizeLine ∧ H' = upd H a (.dK (putK kvs k v))) ∨
  ∃ kvs k b, H a = some (.dT kvs) ∧ y = .ref b ∧ H b = some (.tup (k.map kV)) ∧ kvs.length < sizeLine ∧ H' = upd H a (.dT (putK kvs k v))
theorem DGet.k {H : Hp} {a : Addr} {kvs : List (Key × V)} {k : Key} (e : H a = some (.dK kvs)) : DGet H a (kV k) (valV kvs k) := .inl ⟨kvs, k, .inl e, rfl, rfl⟩
theorem DPut.k {H : Hp} {a : Addr} {kvs : List (Key × V)} {k : Key} {v : V} (e : H a = some (.dK kvs)) (hl : kvs.length < sizeLine) : DPut H a (kV k) v (upd H a (.dK (putK kvs k v))) := .inl ⟨kvs, k, e, rfl, hl, rfl⟩
section
variable {X : Cx} {pins : List (Addr × Obj)} {σ : St} {H : Hp} {s : Shared} {a : Addr} {y v : V} {u r : Value} {o : Option V} {A : Around} {E : Value → Shared → Prop}

theorem Inv.big (I : Inv X pins σ H s) : sysModules < s.heap.objs.size := by
  have h : mainGlobals < s.heap.objs.size := (I.mod.glob.keeps I.bk).lt
  exact Nat.lt_trans (by decide) h

/-- y in d -/
theorem d_in {Q : Value → Shared → Prop} (hu : A.units + 1 < cLine) (I : Inv X pins σ H s) (g : DGet H a y o) (ry : RelV y u) (h : ∀ s', Inv X pins σ H s' → Q (.bool o.isSome) s') :
    wpAny (model X.prog X.w) A (compareOp .In u (.ref a)) Q E s := by
  rcases g with ⟨kvs, k, e, ey, l⟩ | ⟨kvs, k, b, e, ey, eb, l⟩
  · subst ey
    obtain ⟨z, hd, vs, rel, dd⟩ := dk_rd I.hok e
    refine wpAny_in_of (kV_is ry) hd dd.mapOf ?_
    rw [← (rel.val k).isSome_eq, ← l]
    exact h _ (I.tok _)
  · subst ey
    cases (show u = Value.ref b from ry)
    obtain ⟨z, hd, xs, rel, dd⟩ := dt_rd I.hok e
    refine wpAny_in_heap (tupleKind_room_in1 hu) (key_of I.hok eb) hd dd ?_
    have q := (rel.val k).isSome_eq
    rw [Option.isSome_map] at q
    rw [← q, ← l]
    exact h _ (I.tok _)
/-- a dict's object is replaced -/
theorem d_write {h' : Heap} {t' : Nat} {ob : HO} (I : Inv X pins σ H s) (mu : Mut (H a)) (hs : Heap.SameBut a s.heap h') (he : ∃ q, h'.get? a = some q) (new : ObjOk X.prog X.w (upd H a ob) h' a ob) :
    Inv X pins σ (upd H a ob) { s with heap := h', toks := t' } :=
  I.write (x := a) (e := a) mu (.inl rfl) (fun b q hb z => (hs.2 b hb).trans z) he new
theorem dk_new {P : Program} {w : World} {H' : Hp} {h' : Heap} {kvs : List (Key × V)} {vs : List (Key × Value)} (z : kvs.length ≤ sizeLine) (hd : (a == sysModules) = false) (rel : KV kvs vs) (dd : h'.DictOf (mixKind P w) a vs) :
    ObjOk P w H' h' a (.dK kvs) := ⟨z, hd, vs, rel, dd⟩
/-- d[y] = v -/
theorem d_setItem {H' : Hp} {Q : Unit → Shared → Prop} (hu : A.units + 1 < cLine) (I : Inv X pins σ H s) (g : DPut H a y v H') (ry : RelV y u) (rv : RelV v r) (h : ∀ s', Inv X pins σ H' s' → Q () s') :
    wpAny (model X.prog X.w) A (setItem (.ref a) u r) Q E s := by
  rcases g with ⟨kvs, k, e, ey, l, eH⟩ | ⟨kvs, k, b, e, ey, eb, l, eH⟩
  · subst ey eH
    obtain ⟨z, hd, vs, rel, dd⟩ := dk_of I.hok e
    have hz : vs.length ≤ sizeLine := by rw [← rel.length]; exact z
    have hl : (putK kvs k v).length ≤ sizeLine := by have := length_putK kvs k v; omega
    refine wpAny_setItem_pairs (hsz := hz) (kV_is ry) dd fun h' dd' hs => h _ ?_
    have he : ∃ q, h'.get? a = some q := let ⟨q, _, _, hq, _⟩ := dd'; ⟨q, hq⟩
    exact d_write I (by rw [e]; exact True.intro) hs he (dk_new hl hd (rel.put k rv) dd')
  · subst ey eH
    cases (show u = Value.ref b from ry)
    obtain ⟨z, hd, xs, rel, dd⟩ := dt_of I.hok e
    have hz : xs.length ≤ sizeLine := by rw [← Paired.length rel]; exact z
    have hl : (putK kvs k v).length ≤ sizeLine := by have := length_putK kvs k v; omega
    refine wpAny_setItem_heap (hsz := hz) (tupleKind_room_in1 hu) (key_of I.hok eb) dd fun h' dd' hs => h _ ?_
    obtain ⟨q, es, ep, hq, h2, h3, h4, _, h5⟩ := dd'
    refine d_write I (by rw [e]; exact True.intro) hs ⟨q, hq⟩ ⟨hl, hd, _, (rel.put k eb rv).keeps fun c ys ec => ?_, q, es, ep, hq, h2, h3, h4, h5⟩
    rw [upd_ne (ne_of ec e (fun z => nomatch z))]
    exact ec
end

section
variable {X : Cx} {pins : List (Addr × Obj)} {σ : St} {H : Hp} {s : Shared} {a : Addr} {kvs : List (Key × V)} {k : Key} {u : Value} {A : Around} {E : Value → Shared → Prop}
end


/-! ### readings and rules -/
/-- y in d, y not in d -/
def tDIn (ty td : TE) : TE := fun σ H Q => ty σ H fun y H1 => td σ H1 fun x H2 => ∃ a o, x = .ref a ∧ DGet H2 a y o ∧ Q (.bl o.isSome) H2
/-- d[y] = v -/
def sDPut (td ty tv : TE) : TS := fun D σ H => tv σ H fun v H1 => td σ H1 fun x H2 => ty σ H2 fun y H3 => ∃ a H4, x = .ref a ∧ DPut H3 a y v H4 ∧ D.nx σ H4
section
variable {X : Cx} {o i e value : Expr} {pos pos' tpos : Pos} {td ty tv : TE}
theorem pc_din (hu : X.A.units + 1 < cLine) (hi : PE X i ty) (ho : PE X o td) : PC X .In i o (tDIn ty td) := by
  unfold PE at *; unfold PC at *
  exact by
    intro pins s σ H Q I h
    refine thn (hi pins s σ H _ I h) fun iv s1 ⟨y, H1, I1, ry, q1⟩ => thn (ho pins s1 σ H1 _ I1 q1) fun u s2 ⟨x, H2, I2, rx, a, ov, ex, g, q2⟩ => ?_
    subst ex
    obtain rfl : u = Value.ref a := rx
    exact d_in hu I2 g ry fun s3 I3 => ⟨.bl ov.isSome, H2, I3, rfl, q2⟩

theorem ps_dput (hu : X.A.units + 1 < cLine) (ho : PE X o td) (hi : PE X i ty) (hv : PE X value tv) (hs : swapsWith value (some (.Subscript o i pos')) pos.line X.env = pure false) :
    PS X (.Assign [.Subscript o i pos'] value pos) (sDPut td ty tv) := by
  unfold PE at *; unfold PS at *
  exact by
    intro pins s σ H D I h
    refine wpAny_Assign_Subscript (thn (hv pins s σ H _ I h) fun r s1 ⟨v, H1, I1, rv, q1⟩ => thn (ho pins s1 σ H1 _ I1 q1) fun u s2 ⟨x, H2, I2, rx, q2⟩ => thn (hi pins s2 σ H2 _ I2 q2) fun iv s3 ⟨y, H3, I3, ry, a, H4, ex, g, q3⟩ => ?_) hs
    subst ex
    obtain rfl : u = Value.ref a := rx
    exact d_setItem hu I3 g ry rv fun s4 I4 => ⟨σ, H4, I4, q3⟩

end


/-! ### displays -/
theorem dk_empty {P : Program} {w : World} {H : Hp} (h : Heap) (hb : sysModules < h.objs.size) : ObjOk P w H (h.push { cls := .type "dict", data := .dict #[] }) h.objs.size (.dK []) :=
  ⟨Nat.zero_le _, beq_eq_false_iff_ne.mpr (Ne.symm (Nat.ne_of_lt hb)), [], .nil, Heap.DictOf.new h⟩
/-- {}, to be a dict of the kind that is wanted -/
def tDNewK : TE := fun _ H Q => ∀ p, H p = none → Q (.ref p) (upd H p (.dK []))
section
variable {X : Cx} {pos : Pos}
theorem pe_dnewK : PE X (.Dict [] [] pos) tDNewK := by
  unfold PE at *
  exact (fun pins s σ H Q I h =>
    wpAny_Dict_empty ⟨.ref s.heap.objs.size, _, I.laid (a := s.heap.objs.size) (o := .dK []) (t' := s.toks) (fun _ _ q => Heap.get?_push_of_some _ q) (Nat.le_refl _) (dk_empty s.heap I.big), rfl, h _ (I.hok.fresh (Nat.le_refl _))⟩)

end

/-! ### methods -/
section
variable {X : Cx} {pins : List (Addr × Obj)} {σ : St} {H : Hp} {s : Shared} {a : Addr} {y d : V} {u r : Value} {o : Option V} {A : Around} {E : Value → Shared → Prop}
end

section
variable {X : Cx} {o e f : Expr} {apos cpos : Pos} {td ty tx : TE}
end

/-! ### dict(d): a copy -/
section
variable {X : Cx} {pins : List (Addr × Obj)} {σ : St} {H : Hp} {s : Shared} {a : Addr} {kvs : List (Key × V)} {A : Around} {E : Value → Shared → Prop}
end


section
variable {X : Cx} {pins : List (Addr × Obj)} {σ : St} {H : Hp} {s : Shared} {a : Addr} {y : V} {u : Value} {A : Around} {E : Value → Shared → Prop}
end
end L2

namespace Att
open PySem PySem.W PySem.Calls PyProof.Rows

/-! ### the script -/
theorem ints_of_wellAll {P : Params} {h : Heap} : ∀ (ns : List Int) (vs : List Value), WellAll P h vs (ns.map WData.int) → IntsAre vs ns := by
  intro ns
  induction ns with
  | nil =>
    intro vs w
    rw [List.map_nil] at w
    cases w
    exact .nil
  | cons n ns ih =>
    intro vs w
    rw [List.map_cons] at w
    cases w with
    | cons a b =>
      cases a
      exact .cons _ _ (ih _ b)

theorem script_of {l : OpenLaw} {n : Nat} (hn : l.most = some n) {P : Params} {h : Heap} {args : List WData} {vals : List Value}
    (hpre : l.row.toRowW.claim.pre args = true) (hwl : WellAll P h vals args) :
    ∃ a vs ns, vals = [Value.ref a] ∧ args = [WData.list (ns.map WData.int)] ∧ h.get? a = some { cls := .type "list", data := .seq vs.toArray } ∧ IntsAre vs ns ∧ ns.length ≤ n := by
  have hsh : WShape.hasAll [] args [.list .int] = true := (pre_splitW hpre).1
  have hc : l.pre.holds [] { args := args } = true := (pre_splitW hpre).2
  obtain ⟨d, r, rfl, h1, h2⟩ := hasAllW_cons hsh
  obtain rfl := hasAllW_nil h2
  obtain ⟨xs, rfl, h3⟩ := hasW_list h1
  obtain ⟨ns, rfl⟩ := items_int h3
  have hlen : ns.length ≤ n := by
    unfold OpenLaw.pre at hc
    have h4 : (WTm.not (.lt (.lit (.int (n : Int))) (.len (.arg 0)))).holds [] { args := [.list (ns.map .int)] } = true := by
      have h4 := (holds_andW hc).1
      rw [hn] at h4
      exact h4
    have h5 := condW_of h4 (w_not (w_lt w_lit (w_len_list (w_arg rfl))))
    rw [List.length_map] at h5
    refine Nat.le_of_not_lt fun q => ?_
    have q' : (n : Int) < ((ns.length : Nat) : Int) := by omega
    first
      | (rw [decide_eq_true q'] at h5; exact absurd h5 (by decide))
      | (simp at h5; omega)
  cases hwl with
  | cons w1 w2 =>
    cases w2
    cases w1 with
    | list ho hall => exact ⟨_, _, ns, rfl, rfl, ho, ints_of_wellAll ns _ hall, hlen⟩

theorem post_true (l : OpenLaw) (args : List WData) : l.row.toRowW.claim.post args (.bool true) args = true :=
  postW_of (r := l.row.toRowW) (X := (true == true))
    (show WShape.has [] (.bool true) .bool = true by first | rfl | decide | simp [WShape.has, WShape.arms, WShape.armsAll])
    (show (WTm.eq .res (.lit (.bool true))).value [] { args := args, res := some (.bool true), after := args } = some (.bool (true == true)) from w_eq_bool (w_res rfl) w_lit) rfl

/-! ### the attachment: holds_open's last premise (the goal 'hc' behind k_head) from a wpAny of the law's body -/
/-- the same from a codeAny of the CALL (for a layer whose function contracts speak of calls) -/
theorem attach_call {l : OpenLaw} {n : Nat} {q : Program} {loose : List Str} {XP : (Str → Option Value) → Heap → Prop} {YP : World → Heap → Prop} {d : DefRec}
    (hn : l.most = some n) (hdf : d.params.defaults = [])
    (call : ∀ (w : World) (s₀ s₁ : Shared) (mg mb : Str → Option Value) (fa : Addr) (o : Obj) (pm cd doc : Value) (a : Addr) (vs : List Value) (ns : List Int),
      Ground q loose [] XP w s₀ mg mb s₁.heap → YP w s₁.heap →
      s₁.heap.get? fa = some o → o.data = .func (docDef d.name d.params d.body d.scope pm cd doc) → s₁.heap.CodeRec cd d.name → mg d.name = some (.ref fa) →
      s₁.heap.get? a = some { cls := .type "list", data := .seq vs.toArray } → IntsAre vs ns → ns.length ≤ n → s₁.gens = #[] →
      codeAny (model l.prog w) callerA (.call (.ref fa) ⟨[.ref a], []⟩) (fun r s' => r = .ok (.ret (.bool true)) ∧ OldK s₁.heap s'.heap ∧ s'.os = s₁.os ∧ AllBare s'.gens) s₁) :
    WalkO q loose XP YP l.row.toRowW d [] (fun f vs => PySem.call f vs) := by
  intro w s₀ s₁ mg mb G Y fa o pm cd doc dV kV ho hd hcd hD hmg hg args vals as hpre hlay hrd hwl hlo
  obtain rfl : dV = .none := Dflts.none hD hdf
  obtain rfl : kV = .none := Dflts.noKw hD
  obtain ⟨a, vs, ns, rfl, rfl, hobj, hints, hlen⟩ := script_of hn hpre hwl
  refine enter_call (codeAny_mono (call w s₀ s₁ mg mb fa o pm cd doc a vs ns G Y ho (fd_plain hd) hcd hmg hobj hints hlen hg) fun r s' hq => ?_)
  obtain ⟨rfl, h2, h3, h4⟩ := hq
  exact ⟨.inl ⟨.bool true, .bool true, [], rfl, fun _ => rfl, .bool true, post_true l _, fun _ => ⟨List.Pairwise.nil, fun _ hm => (nomatch hm)⟩⟩, h2, h3, h4⟩

/-! ### rules over ANY heap (no ledger) from facts about the written part K: the library's own take a ledger (News) for what they write -/
section
variable {prog : Program} {w : World} {A : Around} {E : Value → Shared → Prop} {s : Shared} {K : Frag}

/-! the whole heap as the ledger: makes every rule that writes through a ledger a rule over any heap -/
def ledger (h : Heap) (L d : Addr) : List (Addr × Obj) := (List.range h.objs.size).filterMap fun a => if a = L ∨ a = d then none else (h.get? a).map fun o => (a, o)
end
end Att

namespace L2
open PySem PySem.Spec PyProof.Rows

theorem vals_ints : ∀ {vs : List Value} {ns : List Int}, IntsAre vs ns → Vals (ns.map V.int) vs
  | _, _, .nil => .nil
  | _, _, .cons n t h => .cons ⟨t, rfl⟩ (vals_ints h)

/-- nothing is tracked but the script, known to the object (or it is an object of the module) -/
def Only (H : Hp) : Prop := ∀ b, H b = none ∨ ∃ o xs, H b = some (.frz o (.lst xs))

/-- THE HEAD: the law's promise, at the heap behind the top. F, the promise of the law's def, may use that base is part of the heap (so K.In base, base.Ns mainGlobals mg stand in Mod) -/
theorem law_call {P : Program} {w : World} {K : PySem.W.Frag} {mg mb : Str → Option Value} {CX : CXT} {k : Nat} {fa a : Addr} {fd : FuncData} {x : Str} {sp : Sp} {s₁ : Shared} {vs : List Value} {ns : List Int}
    (KX : K.In s₁.heap) (hns : s₁.heap.Ns mainGlobals mg) (hb : s₁.heap.Ns builtinsNs mb) (hbb : ∀ x : Str, x ≠ "__name__" → mb x = bootBuiltins x) (hlim : s₁.heap.NoLimit) (hg : s₁.gens = #[])
    (ha : s₁.heap.get? a = some { cls := .type "list", data := .seq vs.toArray }) (hi : IntsAre vs ns) (hl : ns.length ≤ sizeLine) (hr : Room k callerA)
    (F : ∀ base : Heap, K.In base → base.Ns mainGlobals mg → FnOk P w K mg base CX k fa fd [x] sp) (hbind : ∀ (s : Shared) (u : Value), BindsTo s fd ⟨[u], []⟩ [(x, u)])
    (hsp : ∀ H : Hp, Only H → SqL K H a (ns.map V.int) → sp [.ref a] H (fun v _ => v = .bl true) fun _ _ _ => False)
    (hCX : ∀ H e s', CX [] H s₁ (fun _ _ _ => False) e s' → False) :
    codeAny (model P w) callerA (.call (.ref fa) ⟨[.ref a], []⟩) (fun r s' => r = .ok (.ret (.bool true)) ∧ OldK s₁.heap s'.heap ∧ s'.os = s₁.os ∧ AllBare s'.gens) s₁ := by
  have rv := vals_ints hi
  have lenV := hi.length
  -- from an abstract heap in which nothing but the script may be tracked
  have core : ∀ H : Hp, Only H → SqL K H a (ns.map V.int) → HOk P w H s₁.heap → (∀ b, H b ≠ none → b = a) → (H a ≠ none → K.lookup a = none) →
      codeAny (model P w) callerA (.call (.ref fa) ⟨[.ref a], []⟩) (fun r s' => r = .ok (.ret (.bool true)) ∧ OldK s₁.heap s'.heap ∧ s'.os = s₁.os ∧ AllBare s'.gens) s₁ := by
    intro H hO hS hok hA hK
    have base_of : ∀ {b : Addr} {o : Obj}, s₁.heap.get? b = some o → H b = none → (hidT s₁.heap H).get? b = some o := fun e n => hidT_get e n
    have noA : ∀ {b : Addr} {o : Obj} {es : Array DictEntry} {ep : Nat}, s₁.heap.get? b = some o → o.data = .dict es ep → H b = none := fun {b o es ep} e d => by
      cases q : H b with
      | none => rfl
      | some u =>
        have e' : b = a := hA b (by rw [q]; simp)
        subst e'
        rw [ha] at e; cases e
        have d' : Data.seq vs.toArray _ = Data.dict es ep := d
        cases d'
    have nsK : ∀ {b : Addr} {m : Str → Option Value}, s₁.heap.Ns b m → (hidT s₁.heap H).Ns b m := fun {b m} ⟨o, es, ep, e, d, r⟩ => ⟨o, es, ep, base_of e (noA e d), d, r⟩
    have hKb : K.In (hidT s₁.heap H) := fun b o e => base_of (KX b o e) (by
      cases q : H b with
      | none => rfl
      | some u =>
        have e' : b = a := hA b (by rw [q]; simp)
        subst e'
        rw [hK (by rw [q]; simp)] at e; cases e)
    have hM : Mod K mg (hidT s₁.heap H) := ⟨hKb, nsK hns, ⟨mb, nsK hb, hbb⟩, let ⟨mc, h1, h2⟩ := hlim; ⟨mc, nsK h1, h2⟩⟩
    have e0 : Env0 P w K mg (hidT s₁.heap H) callerA [] s₁ H := ⟨rfl, hM, fun b o e => of_hidT e, Nat.le_of_eq (hidT_size _ _), trivial, fun b hb => absurd (show b ∈ ([] : List Addr) from hb) (by simp), hok, .of_eq hg⟩
    refine codeAny_mono ((F _ hKb (nsK hns)).run callerA [] s₁ H ⟨[.ref a], []⟩ [.ref a] [.ref a] _ _ hr e0 (hbind s₁ (.ref a)) (.cons rfl .nil) (hsp H hO hS)) fun r s' h => ?_
    cases r with
    | error e => exact (hCX H e s' h).elim
    | ok fl =>
      cases fl with
      | next => exact False.elim h
      | brk => exact False.elim h
      | cont => exact False.elim h
      | ret u =>
        obtain ⟨v, H', os, bare, un, hok', r', q⟩ := h
        have q' : v = .bl true := q
        subst q'
        obtain rfl : u = Value.bool true := r'
        refine ⟨rfl, OldK.of_keep fun b o e => ?_, os, bare⟩
        cases q : H b with
        | none => exact un.keep b o e q (by intro z; exact absurd (show b ∈ ([] : List Addr) from z) (by simp)) (by simp)
        | some u =>
          rcases hO b with z | ⟨ob, xs, z⟩
          · rw [q] at z; cases z
          · have z2 := un.frzs b ob _ z
            obtain ⟨e1, _⟩ := hok b _ z
            obtain ⟨e2, _⟩ := hok' b _ z2
            rw [e] at e1; cases e1
            exact e2
  cases hk : K.lookup a with
  | some o =>
    -- the script is one of the module's own objects
    have e := KX a o hk
    rw [ha] at e
    cases e
    refine core (fun _ => none) (fun _ => .inl rfl) (.inr ⟨_, vs.toArray, _, hk, rfl, rfl, rfl, by rw [List.size_toArray, lenV]; exact hl, by simpa using rv⟩) (fun b u z => by have z' : (none : Option HO) = some u := z; cases z') (fun b z => absurd rfl z) fun z => absurd rfl z
  | none =>
    refine core (fun b => if b = a then some (.frz { cls := .type "list", data := .seq vs.toArray } (.lst (ns.map V.int))) else none) (fun b => ?_) (.inl (.inr ⟨{ cls := .type "list", data := .seq vs.toArray }, if_pos rfl⟩)) (fun b u z => ?_) (fun b z => ?_) fun _ => hk
    · by_cases hb : b = a
      · exact .inr ⟨_, _, if_pos hb⟩
      · exact .inl (if_neg hb)
    · by_cases hb : b = a
      · have z' := (if_pos hb).symm.trans z
        cases z'
        subst hb
        exact ⟨ha, by rw [List.length_map]; exact hl, vs, _, rv, ha⟩
      · have z' := (if_neg hb).symm.trans z
        cases z'
    · by_cases hb : b = a
      · exact hb
      · exact absurd (if_neg hb) z
end L2

namespace L2
open PySem PySem.Spec PyProof.Rows

/-- the goal that k_head leaves (case hc), from the law's promise. F gives the function object fd (K's own) once, then the promise over every base -/
theorem walk_of {l : PySem.W.OpenLaw} {n k : Nat} {q : Program} {loose : List Str} {XP : (Str → Option Value) → Heap → Prop} {YP : World → Heap → Prop} {d : DefRec} {K : Params → PySem.W.Frag} {CX : World → CXT} {sp : World → Sp} {x : Str}
    (hn : l.most = some n) (hn2 : n ≤ sizeLine) (hdf : d.params.defaults = []) (hr : Room k callerA)
    (hY : ∀ (w : World) (h : Heap), YP w h → (K w.params).In h)
    (F : ∀ (w : World) (mg : Str → Option Value) (fa : Addr) (h : Heap), (K w.params).In h → h.Ns mainGlobals mg → mg d.name = some (.ref fa) →
      ∃ fd : FuncData, (∀ (s : Shared) (u : Value), BindsTo s fd ⟨[u], []⟩ [(x, u)]) ∧
        ∀ base : Heap, (K w.params).In base → base.Ns mainGlobals mg → FnOk l.prog w (K w.params) mg base (CX w) k fa fd [x] (sp w))
    (hsp : ∀ (w : World) (H : Hp) (a : Addr) (ns : List Int), ns.length ≤ n → Only H → SqL (K w.params) H a (ns.map V.int) → sp w [.ref a] H (fun v _ => v = .bl true) fun _ _ _ => False)
    (hCX : ∀ (w : World) (H : Hp) (s : Shared) (e : Value) (s' : Shared), CX w [] H s (fun _ _ _ => False) e s' → False) :
    PySem.W.WalkO q loose XP YP l.row.toRowW d [] (fun f vs => PySem.call f vs) := by
  refine Att.attach_call hn hdf fun w s₀ s₁ mg mb fa o pm cd doc a vs ns G Y ho hd hcd hmg hobj hints hlen hg => ?_
  have KX := hY w _ Y
  obtain ⟨fd, hb, hF⟩ := F w mg fa _ KX G.T.g hmg
  exact law_call KX G.T.g G.T.b G.T.builtins G.T.nolimit hg hobj hints (Nat.le_trans hlen hn2) hr hF hb (fun H hO hS => hsp w H a ns hlen hO hS) fun H e s' => hCX w H s₁ e s'
/-- the same where the promise hangs on the written part alone: (sp := My.sp_law), no hole under a binder -/
theorem walk_ofK {l : PySem.W.OpenLaw} {n k : Nat} {q : Program} {loose : List Str} {XP : (Str → Option Value) → Heap → Prop} {YP : World → Heap → Prop} {d : DefRec} {K : Params → PySem.W.Frag} {CX : CXT} {sp : PySem.W.Frag → Sp} {x : Str}
    (hn : l.most = some n) (hn2 : n ≤ sizeLine) (hdf : d.params.defaults = []) (hr : Room k callerA)
    (hY : ∀ (w : World) (h : Heap), YP w h → (K w.params).In h)
    (F : ∀ (w : World) (mg : Str → Option Value) (fa : Addr) (h : Heap), (K w.params).In h → h.Ns mainGlobals mg → mg d.name = some (.ref fa) →
      ∃ fd : FuncData, (∀ (s : Shared) (u : Value), BindsTo s fd ⟨[u], []⟩ [(x, u)]) ∧
        ∀ base : Heap, (K w.params).In base → base.Ns mainGlobals mg → FnOk l.prog w (K w.params) mg base CX k fa fd [x] (sp (K w.params)))
    (hsp : ∀ (K : PySem.W.Frag) (H : Hp) (a : Addr) (ns : List Int), ns.length ≤ n → Only H → SqL K H a (ns.map V.int) → sp K [.ref a] H (fun v _ => v = .bl true) fun _ _ _ => False)
    (hCX : ∀ (H : Hp) (s : Shared) (e : Value) (s' : Shared), CX [] H s (fun _ _ _ => False) e s' → False) :
    PySem.W.WalkO q loose XP YP l.row.toRowW d [] (fun f vs => PySem.call f vs) :=
  walk_of (K := K) (CX := fun _ => CX) (sp := fun w => sp (K w.params)) hn hn2 hdf hr hY F (fun w H a ns h1 h2 h3 => hsp (K w.params) H a ns h1 h2 h3) fun _ H s e s' => hCX H s e s'
end L2

/- THE LAST THEOREM (shape; LID, My.* are yours):
   My.Adr: a structure of the addresses that your layer names (classes, functions); My.Txt K t: a structure (Prop) of the equations over K;
   My.txt_mk : {K} {implicit addresses ..} (e1 : nsIn K mainGlobals "law" = some (some (.ref f))) (e2 : K.lookup f = some ⟨oc, od, .func (fnOf "law" "law" params body scope dV kV doc pm an cdv ct), sl⟩) (e3 : codeIn K cdv "law" = true) .. : ∃ t, My.Txt K t

set_option maxRecDepth 100000 in
set_option maxHeartbeats 0 in
(the tactic k_is has no namespace: write k_is) -/

/-! SHORT WORDS over the layer: a def of the text, its body, what a loop and a test want. -/
namespace L2
open PySem PySem.Spec PyProof.Rows

/-! ### the text by places -/
def defArgs (s : Stmt) : Arguments := match s with
  | .FunctionDef _ a _ _ _ _ _ _ _ _ => a
  | _ => { posonlyargs := [], args := [], vararg := none, kwonlyargs := [], kw_defaults := [], kwarg := none, defaults := [] }
def defBody (s : Stmt) : List Stmt := match s with
  | .FunctionDef _ _ b _ _ _ _ _ _ _ => b
  | _ => []
def defScope (s : Stmt) : Scope := match s with
  | .FunctionDef _ _ _ _ _ _ sc _ _ _ => sc
  | _ => { kind := .function, names := [], isGenerator := false, isCoroutine := false }

/-! ### no exception leaves a def -/
abbrev CX0 : CXT := fun _ _ _ _ _ _ => False
abbrev E0 : XK := fun _ _ _ => False
theorem pass0 {X : Cx} : Passes CX0 X E0 := fun _ _ _ _ _ _ _ h => h.elim

/-! ### a def (or method) of the text as it stands behind the top -/
structure Fun (K : PySem.W.Frag) (x qual : Str) (st : Stmt) (f : Addr) (fd : FuncData) : Prop where
  ex : ∃ (oc : Value) (od : Option Addr) (kV doc pm : Value) (an : Option Addr) (cdv ct : Value) (osl : Array (Option Value)),
    fd = PySem.W.fnOf x qual (defArgs st) (defBody st) (defScope st) .none kV doc pm an cdv ct ∧ K.lookup f = some ⟨oc, od, .func fd, osl⟩ ∧ PySem.W.codeIn K cdv qual = true
  kp : PySem.W.keepIn K (.ref f) = true
section
variable {P : Program} {w : World} {K : PySem.W.Frag} {mg : Str → Option Value} {base : Heap}
/-- THE RULE for a def: its body as a term of rules, and the reading of that term -/
theorem Fun.ok {x qual : Str} {st : Stmt} {f : Addr} {fd : FuncData} {N ps : List Str} {k : Nat} {sp : Sp} (F : Fun K x qual st f fd) (S : FnScope N ps (defScope st)) (len : ∀ vs H Q E, sp vs H Q E → vs.length = ps.length)
    (hbody : ∀ (cdv : Value) (A : Around) (outer : List Env) (s : Shared) (H : Hp) (vs : List V) (Q : VK) (E : XK), Room k (A.deeper (envOfC qual (defScope st) s.heap.objs.size f cdv)) → sp vs H Q E →
      ∃ t, PSs (cxOf CX0 P w K mg base N qual (defScope st) f cdv A outer s H E).nox (defBody st) t ∧ t { nx := fun _ H' => Q .non H', rt := Q } (start N vs) H) : FnOk P w K mg base CX0 (k + 1) f fd ps sp := by
  obtain ⟨oc, od, kV, doc, pm, an, cdv, ct, osl, rfl, lk, hcd⟩ := F.ex
  refine fn_of lk hcd S len fun A outer s H vs Q E hr hsp => ?_
  obtain ⟨t, h, q⟩ := hbody cdv A outer s H vs Q E hr hsp
  exact ⟨t, h.nox, q⟩
/-- how its arguments bind (no defaults): h is «fun _ _ _ _ _ _ us hl => match us, hl with | [_, _], _ => rfl», one _ a parameter -/
theorem Fun.binds {x qual : Str} {st : Stmt} {f : Addr} {fd : FuncData} {ps : List Str} (F : Fun K x qual st f fd)
    (h : ∀ (kV doc pm : Value) (an : Option Addr) (cdv ct : Value) (us : List Value), us.length = ps.length → bindArgs (PySem.W.fnOf x qual (defArgs st) (defBody st) (defScope st) .none kV doc pm an cdv ct) ⟨us, []⟩ = pure (ps.zip us)) : Binds K fd ps [] := by
  obtain ⟨oc, od, kV, doc, pm, an, cdv, ct, osl, rfl, lk, hcd⟩ := F.ex
  exact .all (h kV doc pm an cdv ct)
theorem fun_mk {x qual : Str} {st : Stmt} {f : Addr} {oc : Value} {od an : Option Addr} {osl : Array (Option Value)} {kV doc pm cdv ct : Value} (l : K.lookup f = some ⟨oc, od, .func (PySem.W.fnOf x qual (defArgs st) (defBody st) (defScope st) .none kV doc pm an cdv ct), osl⟩)
    (c : PySem.W.codeIn K cdv qual = true) (k : PySem.W.keepIn K (.ref f) = true) : Fun K x qual st f (PySem.W.fnOf x qual (defArgs st) (defBody st) (defScope st) .none kV doc pm an cdv ct) := ⟨⟨oc, od, kV, doc, pm, an, cdv, ct, osl, rfl, l, c⟩, k⟩
end
theorem hu_of {A : Around} {k : Nat} (hr : Room k A) : A.units + 1 < cLine := Nat.lt_of_le_of_lt (Nat.add_le_add_left (by decide : 1 ≤ 64) _) hr.units
/-! ### expressions in short: the name that stands in the i-th slot -/
section
variable {X : Cx}
theorem pv (i : Nat) {x : Str} {pos : Pos} (hN : X.N[i]? = some x := by rfl) (hv : Vis X.env.scope x := by first | exact Or.inl rfl | exact Or.inr (Or.inl rfl) | exact Or.inr (Or.inr rfl)) (hd : (x == ("__debug__" : Str)) = false := by decide)
    (hcd : (x == ("__classdict__" : Str)) = false := by decide) : PE X (.Name x pos) (tVar i) := by
  first
  | exact (pe_var hN hv hd hcd)
  | (unfold PE at *; exact (pe_var hN hv hd hcd))

end

/-! ### tests -/
theorem iteF {A B : Prop} (h : B) : if false = true then A else B := by
  rw [if_neg Bool.false_ne_true]
  exact h
theorem iteT {A B : Prop} (h : A) : if true = true then A else B := by
  rw [if_pos rfl]
  exact h
theorem ite2 {c A B : Prop} [Decidable c] (h1 : c → A) (h2 : ¬ c → B) : if c then A else B := by
  by_cases h : c
  · rw [if_pos h]
    exact h1 h
  · rw [if_neg h]
    exact h2 h
/-! ### heaps -/
/-- all that was tracked is as it was -/
def Same (H H' : Hp) : Prop := ∀ b o, H b = some o → H' b = some o
theorem Same.refl (H : Hp) : Same H H := fun _ _ h => h
theorem Same.trans {H H1 H2 : Hp} (a : Same H H1) (b : Same H1 H2) : Same H H2 := fun c o h => b c o (a c o h)
theorem Same.free {H H' : Hp} (e : Same H H') {l : Addr} (h : H' l = Option.none) : H l = Option.none := by
  cases q : H l with
  | none => rfl
  | some o =>
    rw [e l o q] at h
    cases h
theorem Same.seq {K : PySem.W.Frag} {H H' : Hp} {a : Addr} {xs : List V} (e : Same H H') (h : SqL K H a xs) : SqL K H' a xs := by
  rcases h with (h | ⟨o, h⟩) | h
  · exact .inl (.inl (e _ _ h))
  · exact .inl (.inr ⟨o, e _ _ h⟩)
  · exact .inr h

/-! ### a dict's pairs: keys that differ -/
section
variable {κ : Type} [DecidableEq κ]
end
end L2


set_option maxHeartbeats 4000000
namespace L2
open PySem PySem.Spec PyProof.Rows

/-! ### small rules of my own: isinstance, is True, len of any -/
section
variable {X : Cx} {a b c : Expr} {ta tb tc : TE} {pos : Pos}
/-- a class as a value -/
inductive ClsV : V → Value → Prop where
  | ty (n : String) : ClsV (.ty n) (.type n)
  | own (C : Addr) : ClsV (.ref C) (.ref C)
def rIsi (K : PySem.W.Frag) : List V → Hp → VK → Prop := fun xs H Q => ∃ x c cv t b, xs = [x, c] ∧ ClsV c cv ∧ TyOf K H x t ∧ PySem.W.kitOne K t cv = some b ∧ Q (.bl b) H
theorem call_isi : CallR X (.builtin "isinstance") (rIsi X.K) := by
  unfold CallR at *
  exact by
    intro pins s σ H xs us Q I rv h
    obtain ⟨x, c, cv, t, b, rfl, hc, ty, e, q⟩ := h
    obtain ⟨u, cu, rfl, ru, rc⟩ := rv.two
    have ec : cu = cv := by cases hc <;> exact rc
    subst ec
    exact isinst_ok I ru ty e fun tk => ⟨.bl b, H, I.tok tk, rfl, q⟩

end
end L2

namespace L2
open PySem PySem.Spec PyProof.Rows

/-! ### list comprehensions (own work over the hand layer) -/
/- what a block's context hangs on: the closure's cells, the state and abstract heap ahead of the block, the iterator's records -/
set_option genInjectivity false in
set_option genSizeOfSpec false in
set_option genSizeOf false in
structure Bk where
  cl : List (Str × Addr)
  s2 : Shared
  H2 : Hp
  fp : List Addr
def cxComp (X : Cx) (scope : Scope) (N' : List Str) (B : Bk) : Cx :=
  { X with N := N', s₀ := B.s2, H₀ := B.H2, env := compEnvC scope B.cl B.s2.heap.objs.size X.env, outer := X.stack, stack := X.stack, ex := B.fp, fn := fun _ => false, pn := [], xe := fun _ _ => False }
/-- the block's names: its own (none), and those it captures (some j: the slot j of the def) -/
def capS (js : List (Option Nat)) (σ : St) : St := js.map fun o => o.bind fun j => (σ[j]?).join
structure Cap (X : Cx) (scope : Scope) (N' : List Str) (js : List (Option Nat)) : Prop where
  len : js.length = N'.length
  ok : ∀ (i j : Nat) (x : Str), js[i]? = some (some j) → N'[i]? = some x → X.N[j]? = some x ∧ scope.names.lookup x = some .free ∧ (X.env.kindOf x = some .cell ∨ X.env.kindOf x = some .free)

theorem closure_go {env : Env} : ∀ (names : List (Str × NameKind)) (cs : List (Str × Addr)), (∀ x ∈ names, x.2 = .free → ∃ c, env.cells.lookup x.1 = some c) → (∀ x c, cs.lookup x = some c → env.cells.lookup x = some c) →
    ∃ cl, (forIn names cs (fun (x : Str × NameKind) (r : List (Str × Addr)) => match x with
      | (name, kind) => if (kind == NameKind.free) = true then (do let y ← cellOf env name; pure (ForInStep.yield ((name, y) :: r))) else pure (ForInStep.yield r)) : Sem (List (Str × Addr))) = pure cl ∧
      (∀ x c, cl.lookup x = some c → env.cells.lookup x = some c) ∧ (∀ x c, cs.lookup x = some c → ∃ c', cl.lookup x = some c') ∧ ∀ x, (x, NameKind.free) ∈ names → ∃ c, cl.lookup x = some c := by
  intro names
  induction names with
  | nil => intro cs _ h2; exact ⟨cs, rfl, h2, fun x c e => ⟨c, e⟩, fun x hx => absurd hx (by simp)⟩
  | cons y r ih =>
    intro cs h1 h2
    obtain ⟨n, k⟩ := y
    have h1r : ∀ x ∈ r, x.2 = .free → ∃ c, env.cells.lookup x.1 = some c := fun x hx => h1 x (List.mem_cons_of_mem _ hx)
    by_cases hk : k = .free
    · subst hk
      obtain ⟨c, hc⟩ := h1 (n, .free) List.mem_cons_self rfl
      have h2' : ∀ x d, List.lookup x ((n, c) :: cs) = some d → env.cells.lookup x = some d := fun x d e => by
        by_cases hx : x = n
        · subst hx
          simp only [List.lookup_cons, beq_self_eq_true] at e
          rw [hc]; exact e
        · have hb : (x == n) = false := by simpa using hx
          simp only [List.lookup_cons, hb] at e
          exact h2 x d e
      obtain ⟨cl, e1, e2, e3, e4⟩ := ih ((n, c) :: cs) h1r h2'
      refine ⟨cl, ?_, e2, fun x d e => ?_, fun x hx => ?_⟩
      · rw [List.forIn_cons]
        have q : cellOf env n = pure c := by unfold cellOf; rw [hc]
        show ((if (NameKind.free == NameKind.free) = true then (do let y ← cellOf env n; pure (ForInStep.yield ((n, y) :: cs))) else pure (ForInStep.yield cs)) >>= _) = _
        rw [if_pos (by decide), q]
        exact e1
      · by_cases hx : x = n
        · exact e3 x c (by subst hx; simp [List.lookup_cons])
        · exact e3 x d (by have hb : (x == n) = false := by simpa using hx
                           simp only [List.lookup_cons, hb]; exact e)
      · rcases List.mem_cons.mp hx with z | z
        · injection z with z1 _
          exact e3 x c (by subst z1; simp [List.lookup_cons])
        · exact e4 x z
    · obtain ⟨cl, e1, e2, e3, e4⟩ := ih cs h1r h2
      refine ⟨cl, ?_, e2, e3, fun x hx => ?_⟩
      · rw [List.forIn_cons]
        have hb : (k == NameKind.free) = false := by simpa using hk
        show ((if (k == NameKind.free) = true then _ else pure (ForInStep.yield cs)) >>= _) = _
        rw [if_neg (by rw [hb]; decide)]
        exact e1
      · rcases List.mem_cons.mp hx with z | z
        · injection z with _ z2
          exact absurd z2.symm hk
        · exact e4 x z
theorem closure_of {scope : Scope} {env : Env} (h : ∀ x ∈ scope.names, x.2 = .free → ∃ c, env.cells.lookup x.1 = some c) :
    ∃ cl, closureFor scope env = pure cl ∧ (∀ x c, cl.lookup x = some c → env.cells.lookup x = some c) ∧ ∀ x, (x, NameKind.free) ∈ scope.names → ∃ c, cl.lookup x = some c := by
  obtain ⟨cl, e1, e2, _, e4⟩ := closure_go (env := env) scope.names [] h (fun x c e => by simp at e)
  refine ⟨cl, ?_, e2, e4⟩
  have q : closureFor scope env = (forIn scope.names [] (fun (x : Str × NameKind) (r : List (Str × Addr)) => match x with
      | (name, kind) => if (kind == NameKind.free) = true then (do let y ← cellOf env name; pure (ForInStep.yield ((name, y) :: r))) else pure (ForInStep.yield r)) : Sem (List (Str × Addr))) >>= fun r => pure r := rfl
  rw [q, e1]
  rfl

theorem relabel_free {env : Env} : ∀ {names : List (Str × NameKind)} {x : Str}, names.lookup x = some .free →
    (names.map fun (n, k) => if (k == NameKind.free && env.scope.kind == .function && env.kindOf n == some .cell) then (n, NameKind.cell) else (n, k)).lookup x = some .cell ∨
    (names.map fun (n, k) => if (k == NameKind.free && env.scope.kind == .function && env.kindOf n == some .cell) then (n, NameKind.cell) else (n, k)).lookup x = some .free
  | [], _, h => by simp at h
  | (n, k) :: r, x, h => by
    have ih := @relabel_free env r x
    simp only [List.map_cons]
    cases hx : x == n with
    | true =>
      simp only [List.lookup_cons, hx] at h
      cases h
      by_cases hc : (NameKind.free == NameKind.free && env.scope.kind == .function && env.kindOf n == some .cell) = true
      · rw [if_pos hc]; left; simp only [List.lookup_cons, hx]
      · rw [if_neg hc]; right; simp only [List.lookup_cons, hx]
    | false =>
      simp only [List.lookup_cons, hx] at h
      by_cases hc : (k == NameKind.free && env.scope.kind == .function && env.kindOf n == some .cell) = true
      · rw [if_pos hc]; simp only [List.lookup_cons, hx]; exact ih h
      · rw [if_neg hc]; simp only [List.lookup_cons, hx]; exact ih h
theorem relabel_inv {env : Env} : ∀ {names : List (Str × NameKind)} {x : Str},
    ((names.map fun (n, k) => if (k == NameKind.free && env.scope.kind == .function && env.kindOf n == some .cell) then (n, NameKind.cell) else (n, k)).lookup x = some .cell ∨
    (names.map fun (n, k) => if (k == NameKind.free && env.scope.kind == .function && env.kindOf n == some .cell) then (n, NameKind.cell) else (n, k)).lookup x = some .free) →
    names.lookup x = some .cell ∨ names.lookup x = some .free
  | [], _, h => by simp at h
  | (n, k) :: r, x, h => by
    have ih := @relabel_inv env r x
    simp only [List.map_cons] at h
    cases hx : x == n with
    | true =>
      simp only [List.lookup_cons, hx]
      by_cases hc : (k == NameKind.free && env.scope.kind == .function && env.kindOf n == some .cell) = true
      · right
        have : k = .free := by
          simp only [Bool.and_eq_true] at hc
          simpa using hc.1.1
        rw [this]
      · rw [if_neg hc] at h
        simp only [List.lookup_cons, hx] at h
        exact h
    | false =>
      simp only [List.lookup_cons, hx]
      apply ih
      by_cases hc : (k == NameKind.free && env.scope.kind == .function && env.kindOf n == some .cell) = true
      · rw [if_pos hc] at h; simp only [List.lookup_cons, hx] at h; exact h
      · rw [if_neg hc] at h; simp only [List.lookup_cons, hx] at h; exact h

theorem comp_start {X : Cx} {pins : List (Addr × Obj)} {σ : St} {H2 : Hp} {s2 : Shared} {scope : Scope} {cl : List (Str × Addr)} {N' : List Str} {js : List (Option Nat)} {fp : List Addr} {h' : Heap} {t' : Nat} {m0 : Str → Option Value}
    (I : Inv X pins σ H2 s2) (hk : scope.kind = .function) (hcell : ∀ y ∈ scope.names, y.2 ≠ .cell)
    (hf : ∀ b ∈ fp, FpOk X pins H2 b) (ho : ∀ b ∈ fp, ∃ o, s2.heap.get? b = some o)
    (c1 : ∀ x c, cl.lookup x = some c → X.env.cells.lookup x = some c) (c2 : ∀ x, (x, NameKind.free) ∈ scope.names → ∃ c, cl.lookup x = some c)
    (cap : Cap X scope N' js) (ns : h'.Ns s2.heap.objs.size m0) (sb : ∀ b o, s2.heap.get? b = some o → h'.get? b = some o) :
    Inv (cxComp X scope N' ⟨cl, s2, H2, fp⟩) [] (capS js σ) H2 { s2 with heap := h', toks := t' } := by
  have isc : ∀ c v, s2.heap.IsCell c v → h'.IsCell c v := fun c v ⟨o, e, d⟩ => ⟨o, sb _ _ e, d⟩
  refine ⟨⟨I.ok.mod, hk, I.ok.glob, I.ok.blt, Nat.le_refl _, fun x y c h1 h2 => I.ok.inj x y c (c1 x c h1) (c1 y c h2), fun x hx => ?_, fun x c h => absurd h (by simp [cxComp]), I.ok.hd, I.ok.frames, .inl rfl, fun b hb => ⟨?_, fun x c e => ?_⟩, I.bs, Nat.le_trans I.ok.bsz I.sz,
    fun b o e hb => ?_, fun b hb hs => ?_, I.stack, I.stkFree⟩, rfl, I.bare, Un.kept sb, ⟨m0, ns, fun i x v e1 e2 e3 => ?_⟩, fun x c e => ?_, I.hok.fresh (Nat.le_refl _), fun x c e => I.freeC x c (c1 x c e), fun p hp => absurd hp (by simp [cxComp]), I.hok.kept sb, ?_⟩
  · have hx' := relabel_inv (env := X.env) (names := scope.names) (x := x) hx
    rcases hx' with z | z
    · exact absurd rfl (hcell _ (PySem.mem_of_lookup z))
    · exact c2 x (PySem.mem_of_lookup z)
  · obtain ⟨o, e⟩ := ho b hb
    exact Nat.ne_of_lt (Heap.lt_size e)
  · exact (hf b hb).2.2.2.2.1 x c (c1 x c e)
  · rcases (hf b hb).2.2.2.1 with z | z
    · exact I.ok.noex b o e z
    · exact absurd (Nat.lt_of_lt_of_le (Heap.lt_size e) (Nat.le_trans I.ok.bsz z)) (Nat.lt_irrefl _)
  · rcases List.mem_cons.mp (I.stkSub b hs) with z | z
    · exact (hf b hb).2.1 z
    · exact (hf b hb).2.2.1 z
  · have e2' : ((js.map fun o => o.bind fun j => (σ[j]?).join) : St)[i]? = some (some v) := e2
    rw [List.getElem?_map] at e2'
    cases q : js[i]? with
    | none => rw [q] at e2'; cases e2'
    | some o =>
      rw [q] at e2'
      cases o with
      | none => simp at e2'
      | some j =>
        have q2 : (σ[j]?).join = some v := by simpa using e2'
        have q3 : σ[j]? = some (some v) := by
          cases z : σ[j]? with
          | none => rw [z] at q2; cases q2
          | some w => rw [z] at q2; exact congrArg some q2
        obtain ⟨n1, n2, n3⟩ := cap.ok i j x q e1
        obtain ⟨m, hm, hl⟩ := I.loc
        obtain ⟨u, r, l⟩ := hl j x v n1 q3 (.inr n3)
        refine ⟨u, r, .inr ⟨relabel_free (env := X.env) n2, ?_⟩⟩
        obtain ⟨c, hc⟩ := c2 x (PySem.mem_of_lookup n2)
        refine ⟨c, hc, ?_⟩
        rcases l with ⟨l, _⟩ | ⟨_, c', e', z'⟩
        · rcases n3 with n3 | n3 <;> (rw [n3] at l; cases l)
        · have := c1 x c hc
          rw [e'] at this; cases this
          exact isc _ _ z'
  · obtain ⟨v, z⟩ := I.cell x c (c1 x c e)
    exact ⟨v, isc _ _ z⟩
  · show (js.map _).length = N'.length
    rw [List.length_map]; exact cap.len

/-- a comprehension's tests -/
@[irreducible] def PIfs (X : Cx) (ifs : List Expr) (t : TT) : Prop :=
  ∀ (pins : List (Addr × Obj)) (s : Shared) (σ : St) (H : Hp) (Q : Bool → Hp → Prop), Inv X pins σ H s → t σ H Q →
    wpAny (model X.prog X.w) X.A (forIn ifs true fun c r => if r = true then do let ok ← isTrue c X.env (eval c X.env); pure (ForInStep.yield ok) else pure (ForInStep.yield r)) (TP X pins σ Q) X.xe s
def tAll : TT := fun _ H Q => Q true H
theorem pifs_nil {X : Cx} : PIfs X [] tAll := by
  first
  | exact (fun _ _ _ H _ I h => wpAny_tests_nil ⟨H, I, h⟩)
  | (unfold PIfs at *; exact (fun _ _ _ H _ I h => wpAny_tests_nil ⟨H, I, h⟩))

theorem pifs_one {X : Cx} {c : Expr} {t : TT} (hc : PT X c t) : PIfs X [c] t := by
  first
  | exact (fun pins s σ H Q I h => wpAny_tests_one (hc pins s σ H Q I h))
  | (unfold PT at *; unfold PIfs at *; exact (fun pins s σ H Q I h => wpAny_tests_one (hc pins s σ H Q I h)))

section
variable {prog : Program} {w : World} {A : Around} {R : Result → Shared → Prop} {s : Shared}
theorem compLoop_go {elt target iter : Expr} {ifs : List Expr} {scope : Scope} {pos : Pos} {it acc : Value} {env : Env} (I : Nat → Shared → Prop)
    (turn : ∀ n s, I n s → wpAny (model prog w) A (pyNext it) (fun r s₁ => match r with
      | none => R (.ok .next) s₁
      | some v => wpAny (model prog w) A (letOwnedTupleGo target it v) (fun _ s₁ => wpAny (model prog w) A (assign target env v) (fun _ s₂ =>
          wpAny (model prog w) A (forIn ifs true fun c r => if r = true then do let ok ← isTrue c env (eval c env); pure (ForInStep.yield ok) else pure (ForInStep.yield r)) (fun ok s₃ =>
            if ok = true then wpAny (model prog w) A (eval elt env) (fun x s₄ =>
              wpAny (model prog w) A (call (.builtin "list.append") [acc, x]) (fun _ s₅ => ∃ m, m < n ∧ I m s₅) (fun _ _ => False) s₄) (fun _ _ => False) s₃
            else ∃ m, m < n ∧ I m s₃) (fun _ _ => False) s₂) (fun _ _ => False) s₁) (fun _ _ => False) s₁) (fun _ _ => False) s)
    (n : Nat) (h : I n s) :
    codeAny (model prog w) A (.compLoop (.ListComp elt [⟨target, iter, ifs, 0⟩] scope pos) 0 it acc env) R s := by
  refine codeAny_loop rfl I (fun n s hI => ?_) n h
  show wpAny _ A ((compTurn (.ListComp elt [⟨target, iter, ifs, 0⟩] scope pos) 0 it acc env).onRaise (fun x => do noteFrame x env; theTreesLotGoes x)) _ _ s
  refine wpAny_noted ?_
  rw [compTurn_list]
  refine wpAny_bind (wpAny_standAt (wpAny_bind (wpAny_mono (turn n s hI) (fun r s₁ h₁ => ?_) fun _ _ h' => h'.elim)))
  cases r with
  | none => exact wpAny_pure h₁
  | some v =>
    refine wpAny_bind (wpAny_mono h₁ (fun _ s₁ h₁ => ?_) fun _ _ h' => h'.elim)
    refine wpAny_bind (wpAny_mono h₁ (fun _ s₂ h₂ => wpAny_bind (wpAny_mono h₂ (fun ok s₃ h₃ => ?_) fun _ _ h' => h'.elim)) fun _ _ h' => h'.elim)
    cases ok with
    | false => exact wpAny_pure ⟨rfl, h₃⟩
    | true =>
      exact wpAny_bind (wpAny_bind (wpAny_mono h₃ (fun x s₄ h₄ => wpAny_bind (wpAny_mono h₄ (fun _ s₅ h₅ => wpAny_pure (wpAny_pure ⟨rfl, h₅⟩)) fun _ _ h' => h'.elim)) fun _ _ h' => h'.elim))
end

/-- the reading of a comprehension's loop: W by the turn, a measure, the block's names, the list so far, the heap -/
def tLoop (J : It) (l : Addr) (g : TG) (tc : TT) (te : TE) (σ : St) (H : Hp) (Q : VK) : Prop :=
  ∃ W : Nat → Nat → St → List V → Hp → Prop, (∃ m, W 0 m σ [] H) ∧ ∀ i m σ acc H, W i m σ acc H → H l = some (.lst acc) ∧ ((J.stop i H ∧ Q (.ref l) H) ∨
    (J.go i H ∧ acc.length < sizeLine ∧ ∀ x H', J.yld i H x H' → g x σ H' fun σ2 H2 => tc σ2 H2 fun b H3 => if b = true then
      te σ2 H3 fun v H4 => H4 l = some (.lst acc) ∧ ∃ m', m' < m ∧ W (i + 1) m' σ2 (acc ++ [v]) (upd H4 l (.lst (acc ++ [v])))
      else ∃ m', m' < m ∧ W (i + 1) m' σ2 acc H3))
def tComp (js : List (Option Nat)) (wi : TI) (g : Bk → TG) (tc : Bk → TT) (te : Bk → TE) : TE := fun σ H Q => wi σ H fun J H1 => ∀ l B, H1 l = none → tLoop J l (g B) (tc B) (te B) (capS js σ) (upd H1 l (.lst [])) Q

section
variable {X : Cx} {elt tg iter : Expr} {ifs : List Expr} {scope : Scope} {pos : Pos} {N' : List Str} {js : List (Option Nat)} {wi : TI} {g : Bk → TG} {tc : Bk → TT} {te : Bk → TE}
theorem comp_block {pins : List (Addr × Obj)} {σ : St} {H1 : Hp} {s1 : Shared} {it : Addr} {fp : List Addr} {tn : Nat → Heap → Prop} {J : It} {cl : List (Str × Addr)} {Q : VK} {RR : Value → Addr → Result → Shared → Prop}
    (hc : X.calm = true) (hk : scope.kind = .function) (hcell : ∀ y ∈ scope.names, y.2 ≠ .cell) (cap : Cap X scope N' js)
    (blk : ∀ B, PG (cxComp X scope N' B) tg (g B) ∧ PIfs (cxComp X scope N' B) ifs (tc B) ∧ PE (cxComp X scope N' B) elt (te B))
    (c1 : ∀ x c, cl.lookup x = some c → X.env.cells.lookup x = some c) (c2 : ∀ x, (x, NameKind.free) ∈ scope.names → ∃ c, cl.lookup x = some c)
    (I : Inv X pins σ H1 s1) (T : Turn X.prog X.w X.K tg J fp it tn) (st : tn 0 s1.heap) (hf : ∀ b ∈ fp, FpOk X pins H1 b)
    (h : ∀ l B, H1 l = none → tLoop J l (g B) (tc B) (te B) (capS js σ) (upd H1 l (.lst [])) Q)
    (hRR : ∀ l C H' s' (m' : Str → Option Value), Inv X pins σ H' s' → Q (.ref l) H' → s'.heap.Ns C m' → H' C = none → C ≠ X.env.locals → (∀ x c, X.env.cells.lookup x = some c → c ≠ C) → C ∉ X.fs → X.s₀.heap.objs.size ≤ C → (∀ p ∈ X.pn ++ pins, p.1 ≠ C) →
      RR (.ref l) C (.ok .next) s') :
    wpAny (model X.prog X.w) X.A (newList []) (fun acc s₃ => wpAny (model X.prog X.w) X.A (newFunctionEnv scope X.env.globals cl [] X.env.qual none .none (some X.env)) (fun cenv s₄ =>
      codeAny (model X.prog X.w) X.A (.compStart (.ListComp elt [⟨tg, iter, ifs, 0⟩] scope pos) 0 (.ref it) acc { cenv with scope := relabel scope X.env }) (RR acc cenv.locals) s₄) X.xe s₃) X.xe s1 := by
  unfold PE at *; unfold PG at *; unfold PIfs at *
  exact by
    refine wpAny_newObj_type ?_
    have I2 : Inv X pins σ (upd H1 s1.heap.objs.size (.lst [])) { s1 with heap := s1.heap.push { cls := .type "list", data := .seq ([] : List Value).toArray } } := I.lnew (t' := s1.toks) .nil (Nat.zero_le _)
    have hl : H1 s1.heap.objs.size = none := I.fresh
    generalize es2 : ({ s1 with heap := s1.heap.push { cls := .type "list", data := .seq ([] : List Value).toArray } } : Shared) = s2 at I2 ⊢
    generalize el : s1.heap.objs.size = l at *
    have ne_fp : ∀ b ∈ fp, b ≠ l := fun b hb => by
      obtain ⟨o, e, _⟩ := T.obj _ _ st b hb
      rw [← el]
      exact Nat.ne_of_lt (Heap.lt_size e)
    have hf2 : ∀ b ∈ fp, FpOk X pins (upd H1 l (.lst [])) b := fun b hb => ⟨by rw [upd_ne (ne_fp b hb)]; exact (hf b hb).1, (hf b hb).2⟩
    have kp : ∀ b o, s1.heap.get? b = some o → s2.heap.get? b = some o := fun b o e => by rw [← es2]; exact Heap.get?_push_of_some _ e
    have st2 : tn 0 s2.heap := T.keep _ _ _ st fun b _ o e => kp b o e
    refine wpAny_newFunctionEnv hcell (by intro y hy; simp at hy) (fun h' ns sb => ?_) hk
    have kp2 : ∀ b o, s2.heap.get? b = some o → h'.get? b = some o := fun b o e => (sb.2 b (Nat.ne_of_lt (Heap.lt_size e))).trans (Heap.get?_push_of_some _ e)
    have st3 : tn 0 h' := T.keep _ _ _ st2 fun b _ o e => kp2 b o e
    have I3 := comp_start (t' := s2.toks + ([] : List (Str × Value)).length) (m0 := fun x => ([] : List (Str × Value)).reverse.lookup x) I2 hk hcell hf2 (fun b hb => by obtain ⟨o, e, _⟩ := T.obj _ _ st2 b hb; exact ⟨o, e⟩) c1 c2 cap ns kp2
    obtain ⟨pg, pif, pel⟩ := blk ⟨cl, s2, upd H1 l (.lst []), fp⟩
    obtain ⟨W, ⟨m0, w0⟩, turn⟩ := h l ⟨cl, s2, upd H1 l (.lst []), fp⟩ hl
    have fpY : ∀ {H' : Hp}, (∀ b ∈ fp, H' b = none) → ∀ b ∈ fp, FpOk (cxComp X scope N' ⟨cl, s2, upd H1 l (.lst []), fp⟩) [] H' b := fun {H'} hn b hb =>
      ⟨hn b hb, (I3.ok.exf b hb).1, I3.ok.exfs b hb, .inl hb, (I3.ok.exf b hb).2, fun p hp => absurd hp (by simp [cxComp])⟩
    have loop : codeAny (model X.prog X.w) X.A (.compLoop (.ListComp elt [⟨tg, iter, ifs, 0⟩] scope pos) 0 (.ref it) (.ref l) (compEnvC scope cl s2.heap.objs.size X.env)) (RR (.ref l) s2.heap.objs.size) { s2 with heap := h', toks := s2.toks + ([] : List (Str × Value)).length } := by
      refine compLoop_go (fun n s' => ∃ i σ' acc H', Inv (cxComp X scope N' ⟨cl, s2, upd H1 l (.lst []), fp⟩) [] σ' H' s' ∧ tn i s'.heap ∧ (∀ b ∈ fp, H' b = none) ∧ W i n σ' acc H') ?_ m0 ⟨0, _, _, _, I3, st3, fun b hb => (hf2 b hb).1, w0⟩
      rintro n s3 ⟨i, σ3, acc, H3, J3, t3, f3, w3⟩
      obtain ⟨hacc, alt⟩ := turn i n σ3 acc H3 w3
      rcases alt with ⟨stop, q⟩ | ⟨go, hz, step⟩
      · refine thn (T.done (cxComp X scope N' ⟨cl, s2, upd H1 l (.lst []), fp⟩) rfl rfl rfl hc i [] s3 σ3 H3 (fun _ _ => False) J3 (fpY f3) t3 stop) fun r s4 ⟨hr, J4⟩ => ?_
        subst hr
        have IX : Inv X pins σ H3 s4 := I2.call' (ch := fp) J4.os J4.base J4.hok J4.bare fun b hb => ⟨(hf2 b hb).2.2.2.1, (hf2 b hb).2.1, (hf2 b hb).2.2.2.2.1, (hf2 b hb).2.2.2.2.2⟩
        obtain ⟨m', hn', _⟩ := J4.loc
        refine hRR l s2.heap.objs.size H3 s4 m' IX q hn' J4.free (Nat.ne_of_gt I2.lt) (fun x c e => ?_) (I2.nofs (Nat.le_refl _)) I2.sz fun p hp => Nat.ne_of_lt (Heap.lt_size (I2.pin p hp).1)
        obtain ⟨v, z⟩ := I2.cell x c e
        exact Nat.ne_of_lt z.lt
      · refine thn (T.item (cxComp X scope N' ⟨cl, s2, upd H1 l (.lst []), fp⟩) rfl rfl rfl hc i [] s3 σ3 H3 (fun _ _ => False) J3 (fpY f3) t3 go) fun r s4 ⟨u, hr, h4⟩ => ?_
        subst hr
        refine thn h4 fun _ s5 ⟨x, H5, J5, r5, y5, t5, f5⟩ => ?_
        have J5' := J5.pinned (fpY f5) (T.obj _ _ t5)
        refine thn (pg _ s5 σ3 H5 x u _ J5' r5 (step x H5 y5)) fun _ s6 ⟨σ6, H6, J6, q6⟩ => ?_
        refine thn (pif _ s6 σ6 H6 _ J6 q6) fun ok s7 ⟨H7, J7, q7⟩ => ?_
        have again : ∀ {σ8 : St} {H8 : Hp} {s8 : Shared} {acc8 : List V}, Inv (cxComp X scope N' ⟨cl, s2, upd H1 l (.lst []), fp⟩) ([] ++ pinsAt fp s5.heap) σ8 H8 s8 → (∃ m', m' < n ∧ W (i + 1) m' σ8 acc8 H8) →
            ∃ m, m < n ∧ ∃ i σ' acc H', Inv (cxComp X scope N' ⟨cl, s2, upd H1 l (.lst []), fp⟩) [] σ' H' s8 ∧ tn i s8.heap ∧ (∀ b ∈ fp, H' b = none) ∧ W i m σ' acc H' := fun {σ8 H8 s8 acc8} J8 hw => by
          obtain ⟨m', hm, w8⟩ := hw
          refine ⟨m', hm, i + 1, σ8, acc8, H8, J8.unpinned, T.keep _ _ _ t5 fun b hb o e => (J8.pin (b, o) (List.mem_append_right _ (List.mem_append_right _ (mem_pinsAt hb e)))).1, fun b hb => ?_, w8⟩
          obtain ⟨o, e, d⟩ := T.obj _ _ t5 b hb
          exact (J8.pin (b, o) (List.mem_append_right _ (List.mem_append_right _ (mem_pinsAt hb e)))).2.1
        cases ok with
        | false => exact again J7 q7
        | true =>
          refine thn (pel _ s7 σ6 H7 _ J7 q7) fun xv s8 ⟨v, H8, J8, r8, hl8, m', hm, w8⟩ => ?_
          have mtq := mt_append (X := cxComp X scope N' ⟨cl, s2, upd H1 l (.lst []), fp⟩)
          unfold MtM at mtq
          refine thn (mtq _ s8 σ6 H8 (.ref l) [v] (.ref l) [xv] (fun _ H9 => H9 = upd H8 l (.lst (acc ++ [v]))) J8 rfl (.cons r8 .nil) ⟨l, acc, v, rfl, rfl, hl8, hz, rfl⟩) fun _ s9 ⟨v9, H9, J9, _, e9⟩ => ?_
          subst e9
          exact again J9 ⟨m', hm, w8⟩
    exact codeAny_compStart_list loop (T.self X.A 0 _ _ _ st3 loop)

theorem pe_comp (hc : X.calm = true) (hk : scope.kind = .function) (hcell : ∀ y ∈ scope.names, y.2 ≠ .cell) (hnames : ∀ y ∈ scope.names, y.2 = .local → scope.names.lookup y.1 = some .local)
    (hfree : ∀ y ∈ scope.names, y.2 = .free → (X.env.kindOf y.1 = some .cell ∨ X.env.kindOf y.1 = some .free)) (cap : Cap X scope N' js) (hi : PI X tg iter wi)
    (blk : ∀ B, PG (cxComp X scope N' B) tg (g B) ∧ PIfs (cxComp X scope N' B) ifs (tc B) ∧ PE (cxComp X scope N' B) elt (te B))
    (hs : ∀ x, foldedSetIterable iter X.env x = pure x := by intro _; rfl) : PE X (.ListComp elt [⟨tg, iter, ifs, 0⟩] scope pos) (tComp js wi g tc te) := by
  unfold PE; unfold PI at hi
  exact by
    intro pins s σ H Q I h
    obtain ⟨cl, hcl, c1, c2⟩ := closure_of (scope := scope) (env := X.env) fun x hx hxf => I.ok.has x.1 (hfree x hx hxf)
    rw [eval_ListComp]
    refine wpAny_comprehension_free (use := none) rfl hs hcl hk hnames (thn (hi pins s σ H _ I h) fun v s1 h1 => thn h1 fun itv s2 h2 => ?_)
    obtain ⟨it, fp, tn, J, H2, e, I2, T, st2, f2, hloop⟩ := h2
    subst e
    refine comp_block (RR := fun acc C => compPost (model X.prog X.w) X.A X.xe none (EP X pins σ Q) acc C) hc hk hcell cap blk c1 c2 I2 T st2 f2 hloop ?_
    intro l C H' s' m' I' q ns fC hL hcl' hfs hs0 hpin
    exact ⟨m', ns, fun h'' sb => ⟨.ref l, H', I'.turned (t' := s'.toks) (fun b o hb e => (sb.2 b hb).trans e) fC hL (.inr hs0) hcl' hpin, rfl, q⟩⟩

/-- name = [..] on one line: stored ahead of the block's end -/
theorem ps_setComp {i : Nat} {y : Str} {py spos : Pos} (hN : X.N.Nodup) (hy : X.N[i]? = some y) (hyk : X.env.kindOf y = some .local) (hc : X.calm = true) (hk : scope.kind = .function) (hcell : ∀ y ∈ scope.names, y.2 ≠ .cell)
    (hnames : ∀ y ∈ scope.names, y.2 = .local → scope.names.lookup y.1 = some .local)
    (hfree : ∀ y ∈ scope.names, y.2 = .free → (X.env.kindOf y.1 = some .cell ∨ X.env.kindOf y.1 = some .free)) (cap : Cap X scope N' js) (hi : PI X tg iter wi)
    (blk : ∀ B, PG (cxComp X scope N' B) tg (g B) ∧ PIfs (cxComp X scope N' B) ifs (tc B) ∧ PE (cxComp X scope N' B) elt (te B))
    (hsw : swapsWith (.ListComp elt [⟨tg, iter, ifs, 0⟩] scope pos) (some (.Name y py)) spos.line X.env = pure true := by rfl)
    (hs : ∀ x, foldedSetIterable iter X.env x = pure x := by intro _; rfl) : PS X (.Assign [.Name y py] (.ListComp elt [⟨tg, iter, ifs, 0⟩] scope pos) spos) (tAsg (tComp js wi g tc te) (gName i)) := by
  unfold PS; unfold PI at hi
  exact by
    intro pins s σ H D I h
    obtain ⟨cl, hcl, c1, c2⟩ := closure_of (scope := scope) (env := X.env) fun x hx hxf => I.ok.has x.1 (hfree x hx hxf)
    rw [exec_Assign_Name_used _ _ _ _ hsw]
    refine wpAny_bind (wpAny_standAt (wpAny_bind ?_))
    show wpAny _ X.A (do let _ ← comprehension (.ListComp elt [⟨tg, iter, ifs, 0⟩] scope pos) scope X.env _ (newList []) false (eval iter X.env) (some (assign (.Name y py) X.env))) _ _ s
    refine wpAny_bind (wpAny_mono (wpAny_comprehension_free (use := some (assign (.Name y py) X.env)) (Q := fun _ s' => SP X pins D .next s') rfl hs hcl hk hnames
      (thn (hi pins s σ H _ I h) fun v s1 h1 => thn h1 fun itv s2 h2 => ?_)) (fun _ s' hq => wpAny_pure (wpAny_pure hq)) fun _ _ e => e)
    obtain ⟨it, fp, tn, J, H2, e, I2, T, st2, f2, hloop⟩ := h2
    subst e
    refine comp_block (RR := fun acc C => compPost (model X.prog X.w) X.A X.xe (some (assign (.Name y py) X.env)) (fun _ s' => SP X pins D .next s') acc C) hc hk hcell cap blk c1 c2 I2 T st2 f2 hloop ?_
    intro l C H' s' m' I' q ns fC hL hcl' hfs hs0 hpin
    show wpAny _ X.A (assign (.Name y py) X.env (.ref l)) _ _ _
    refine wpAny_assign_Name (store_ok2 (v := .ref l) I' hN hy (.inl hyk) rfl (fun s'' I'' sb => ?_) (.inr hyk))
    obtain ⟨a, sb, ha⟩ := sb
    have hCa : C ≠ a := by
      rcases ha with z | z
      · rw [z]; exact hL
      · exact fun z' => hcl' y a z z'.symm
    refine ⟨m', ns.sameBut sb hCa, fun h'' sb2 => ?_⟩
    exact ⟨σ.set i (some (.ref l)), H', I''.turned (t' := s''.toks) (fun b o hb e => (sb2.2 b hb).trans e) fC hL (.inr hs0) hcl' hpin, q⟩

end

/-! ### the forms one uses -/
end L2

namespace L2
open PySem PySem.Spec PyProof.Rows

/-! ### exceptions (own work over the hand layer): a flight is told by the exception's own record and its newest trace -/
theorem ObjOk.there {P : Program} {w : World} {H : Hp} {h : Heap} {a : Addr} {o : HO} (x : ObjOk P w H h a o) : ∃ ob, h.get? a = some ob := by
  cases o with
  | lst xs => obtain ⟨_, _, _, _, e⟩ := x; exact ⟨_, e⟩
  | tup xs => obtain ⟨_, _, _, ob, e, _⟩ := x; exact ⟨_, e⟩
  | dK kvs => obtain ⟨_, _, _, _, o, _, _, e, _⟩ := x; exact ⟨_, e⟩
  | dT kvs => obtain ⟨_, _, _, _, o, _, _, e, _⟩ := x; exact ⟨_, e⟩
  | set S n => obtain ⟨o, _, _, _, e, _⟩ := x; exact ⟨_, e⟩
  | ins C dx fs => obtain ⟨_, _, _, e, _⟩ := x; exact ⟨_, e⟩
  | own y => obtain ⟨_, e⟩ := x; exact ⟨_, e⟩
  | xd fs => obtain ⟨_, ⟨_, _, _, e, _⟩, _⟩ := x; exact ⟨_, e⟩
  | rng lo hi => obtain ⟨_, _, _, e⟩ := x; exact ⟨_, e⟩
  | frz ob u => obtain ⟨e, _⟩ := x; exact ⟨_, e⟩
  | tbl ps => exact ⟨_, (show h.get? a = some _ from x)⟩
  | met f y => exact ⟨_, (show h.get? a = some _ from x)⟩
  | ext φ => obtain ⟨_, ⟨_, e⟩, _⟩ := x; exact ⟨_, e⟩
/-- tracked objects (and their dicts) stay: held still -/
theorem HOk.track {P : Program} {w : World} {H : Hp} {h h' : Heap} (x : HOk P w H h) (k : ∀ b u o, H b = some u → h.get? b = some o → h'.get? b = some o) : HOk P w H h' := fun a o e =>
  (x a o e).stay (fun b u hb q => by
    rcases hb with z | z
    · subst z; exact k _ _ _ e q
    · exact k _ _ _ z q) (fun _ q => q) fun _ _ q => q
theorem dict_mapF (o : Obj) (f : Array Value → Array Value) : (Obj.mapFields f o).dict = o.dict := by
  obtain ⟨c, d, dt, sl⟩ := o
  cases dt <;> rfl

/-- the exception at e: its class, its dict, its record (the trace in place 1 is t1) -/
def ExAt (h : Heap) (e : Addr) (C : Value) (dd : Option Addr) (t1 : Value) : Prop := ∃ oe vs, h.get? e = some oe ∧ oe.cls = C ∧ oe.dict = dd ∧ oe.data = .fields vs ∧ vs[1]? = some t1
/-- a trace's record, in flight at fl -/
def TrAt (h : Heap) (T : Addr) (fl : Value) : Prop := ∃ oT ts, h.get? T = some oT ∧ oT.data = .fields ts ∧ ts[3]? = some fl
/-- what changed: the exception, its old trace T0, the frames' slots -/
structure Moved (fs : List Addr) (e : Addr) (T0 : Option Addr) (h h' : Heap) : Prop where
  keep : ∀ b o, b ≠ e → some b ≠ T0 → b ∉ fs → h.get? b = some o → h'.get? b = some o
  slot : ∀ b o, b ∈ fs → h.get? b = some o → ∃ sl, h'.get? b = some { o with slots := sl }
  there : ∀ b o, h.get? b = some o → ∃ o', h'.get? b = some o'

section
variable {M : Model} {A : Around} {E : Value → Shared → Prop} {s : Shared}
theorem up_self {h : Heap} {a : Addr} {o : Obj} {vs : Array Value} {f : Array Value → Array Value} (e : h.get? a = some o) (hd : o.data = .fields vs) : (h.update a (Obj.mapFields f)).get? a = some (Obj.mapFields f o) :=
  Heap.get?_update_self _ e (Obj.isFreed_of_fields (Obj.data_mapFields hd _))
theorem note_new {base : Heap} {env : Env} {outer : List Env} {L e : Addr} {C : Value} {dd : Option Addr} {t1 head : Value} {hadNext : Bool} {Q : Unit → Shared → Prop}
    (hfr : A.frames = some (env :: outer)) (hl : s.heap.FunFrames base (env :: outer)) (hf : env.frame = some L) (X : ExAt s.heap e C dd t1)
    (h : ∀ h' T, ExAt h' e C dd (.ref T) → TrAt h' T (rawInt L) → s.heap.objs.size ≤ T → T ≠ e → Moved (frs (env :: outer)) e none s.heap h' → Q () { s with heap := h' }) :
    wpAny M A (do let a ← frameOf env; let pl ← entryPlaceOf L hadNext; let b ← EntryCells.newEntry head a .none (rawInt L) .none pl; setField (.ref e) 1 b) Q E s := by
  obtain ⟨oe, vs, he, hC, hdd, hd, h1⟩ := X
  have ne : e ∉ frs (env :: outer) := fun hm => by
    obtain ⟨_, o, ho, hnf⟩ := hl.mem hm
    rw [he] at ho; cases ho
    exact hnf vs hd
  refine wpAny_bind (wpAny_frameOf_fun hfr hl hf fun g so => ?_)
  refine wpAny_bind (wpAny_entryPlaceOf fun pl hpl => ?_)
  unfold EntryCells.newEntry newFields
  refine wpAny_bind (wpAny_newObj_type ?_ (hpl.sizeOk5 _ _ _ _ _))
  have hg : g.get? e = some oe := (so.2.1 e ne).trans he
  have hsz := (Array.getElem?_eq_some_iff.mp h1).1
  refine wpAny_setField (Heap.get?_push_of_some _ hg) hd hsz ?_
  have nT : g.objs.size ≠ e := Nat.ne_of_gt (Heap.lt_size hg)
  refine h _ g.objs.size ⟨_, _, up_self (Heap.get?_push_of_some _ hg) hd, (Obj.cls_mapFields _ _).trans hC, (dict_mapF _ _).trans hdd, Obj.data_mapFields hd _, by simp [hsz]⟩
    ⟨_, _, (Heap.get?_update_other _ _ (Ne.symm nT)).trans (Heap.get?_push_size g rfl), rfl, ?_⟩ (Nat.le_of_eq so.1.symm) nT ⟨fun b o h1 _ h3 q => ?_, fun b o hb q => ?_, fun b o q => ?_⟩
  · rcases hpl with rfl | ⟨_, _, _, _, _, _, _, rfl⟩ <;> simp
  · rw [Heap.get?_update_other _ _ (Ne.symm h1)]
    exact Heap.get?_push_of_some _ ((so.2.1 b h3).trans q)
  · obtain ⟨sl, z⟩ := so.2.2 b o q
    refine ⟨sl, ?_⟩
    rw [Heap.get?_update_other _ _ (fun k => ne (by rw [k]; exact hb))]
    exact Heap.get?_push_of_some _ z
  · by_cases k : b = e
    · rw [k]; exact ⟨_, up_self (Heap.get?_push_of_some _ hg) hd⟩
    · obtain ⟨sl, z⟩ := so.2.2 b o q
      exact ⟨_, by rw [Heap.get?_update_other _ _ (Ne.symm k)]; exact Heap.get?_push_of_some _ z⟩

/-- a flight is noted in a frame: T0 its trace so far (none: it was just raised) -/
theorem note_fly {base : Heap} {env : Env} {outer : List Env} {L e : Addr} {C : Value} {dd : Option Addr} {T0 : Option Addr} {Q : Unit → Shared → Prop}
    (hfr : A.frames = some (env :: outer)) (hl : s.heap.FunFrames base (env :: outer)) (hf : env.frame = some L) (X : ExAt s.heap e C dd (T0.elim .none Value.ref)) (hT : ∀ T, T0 = some T → TrAt s.heap T .none ∧ T ≠ e)
    (h : ∀ h' T, ExAt h' e C dd (.ref T) → TrAt h' T (rawInt L) → s.heap.objs.size ≤ T → T ≠ e → Moved (frs (env :: outer)) e T0 s.heap h' → Q () { s with heap := h' }) :
    wpAny M A (noteFrame (.ref e) env) Q E s := by
  obtain ⟨oe, vs, he, hC, hdd, hd, h1⟩ := id X
  unfold noteFrame
  simp only [hf]
  refine wpAny_bind (wpAny_field he hd h1 ?_)
  cases T0 with
  | none =>
    rw [if_neg (by decide)]
    exact note_new hfr hl hf X h
  | some T =>
    obtain ⟨⟨oT, ts, hT, hdT, h3⟩, hne⟩ := hT T rfl
    show wpAny M A (if (Value.ref T != Value.none) = true then _ else _) Q E s
    rw [if_pos (by simp)]
    refine wpAny_bind (wpAny_field hT hdT h3 ?_)
    rw [if_neg (by simp [rawInt])]
    refine wpAny_bind (wpAny_setField hT hdT (Array.getElem?_eq_some_iff.mp h3).1 ?_)
    have oth : ∀ b, b ≠ T → (s.heap.update T (Obj.mapFields (·.setIfInBounds 3 Value.none))).get? b = s.heap.get? b := fun b hb => Heap.get?_update_other _ _ (Ne.symm hb)
    have nfr : ∀ b o, b ∈ frs (env :: outer) → s.heap.get? b = some o → b ≠ T := fun b o hb q z => by
      obtain ⟨_, o', ho', hnf⟩ := hl.mem hb
      rw [z, hT] at ho'; cases ho'
      exact hnf _ hdT
    have hl2 : (s.heap.update T (Obj.mapFields (·.setIfInBounds 3 Value.none))).FunFrames base (env :: outer) := hl.of_keeps fun b o hb hnf => ⟨o, (oth b fun z => by rw [z, hT] at hb; cases hb; exact hnf _ hdT).trans hb, rfl⟩
    refine note_new (s := { s with heap := s.heap.update T (Obj.mapFields (·.setIfInBounds 3 Value.none)) }) hfr hl2 hf ⟨oe, vs, (oth e (Ne.symm hne)).trans he, hC, hdd, hd, h1⟩ fun h' T2 x1 x2 x3 x4 mv => ?_
    have goneT : s.heap.objs.size ≤ T2 := Nat.le_trans (Nat.le_of_eq (Heap.size_after_update ..).symm) x3
    refine h h' T2 x1 x2 goneT x4 ⟨fun b o k1 k2 k3 q => mv.keep b o k1 (by simp) k3 ((oth b fun z => k2 (by rw [z])).trans q), fun b o hb q => mv.slot b o hb ((oth b (nfr b o hb q)).trans q), fun b o q => ?_⟩
    by_cases k : b = T
    · exact mv.there b _ (by rw [k]; exact up_self hT hdT)
    · exact mv.there b o ((oth b k).trans q)

/-- .. and comes to rest -/
theorem rest_fly {e T : Addr} {C : Value} {dd : Option Addr} {fl : Value} {Q : Unit → Shared → Prop} (X : ExAt s.heap e C dd (.ref T)) (hT : TrAt s.heap T fl) (hne : T ≠ e)
    (h : ∀ h', ExAt h' e C dd (.ref T) → TrAt h' T .none → (∀ b o, b ≠ T → s.heap.get? b = some o → h'.get? b = some o) → (∀ b o, s.heap.get? b = some o → ∃ o', h'.get? b = some o') → Q () { s with heap := h' }) :
    wpAny M A (setFlight (.ref e) none) Q E s := by
  obtain ⟨oe, vs, he, hC, hdd, hd, h1⟩ := X
  obtain ⟨oT, ts, hT, hdT, h3⟩ := hT
  have hsz := (Array.getElem?_eq_some_iff.mp h3).1
  unfold setFlight
  refine wpAny_bind (wpAny_field he hd h1 ?_)
  rw [if_pos (by simp)]
  have oth : ∀ b, b ≠ T → (s.heap.update T (Obj.mapFields (·.setIfInBounds 3 ((none : Option Addr).elim Value.none fun f => rawInt f)))).get? b = s.heap.get? b := fun b hb => Heap.get?_update_other _ _ (Ne.symm hb)
  refine wpAny_setField hT hdT hsz (h _ ⟨oe, vs, (oth e (Ne.symm hne)).trans he, hC, hdd, hd, h1⟩ ⟨_, _, up_self hT hdT, Obj.data_mapFields hdT _, by simp [hsz]⟩ (fun b o k q => (oth b k).trans q) fun b o q => ?_)
  by_cases k : b = T
  · rw [k]; exact ⟨_, up_self hT hdT⟩
  · exact ⟨o, (oth b k).trans q⟩
end

/-- an exception that flies behind a call -/
def CXx (P : Program) (w : World) : CXT := fun outer H s E u s' => ∃ (e : Addr) (C : Value) (dd : Option Addr) (T : Addr) (H' : Hp), u = .ref e ∧ s'.os = s.os ∧ AllBare s'.gens ∧ Un (frs outer) [] H H' s.heap s'.heap ∧ HOk P w H' s'.heap ∧
  ExAt s'.heap e C dd (.ref T) ∧ TrAt s'.heap T .none ∧ T ≠ e ∧ H' e = none ∧ H' T = none ∧ s.heap.get? e = none ∧ s.heap.get? T = none ∧ E C dd H'
/-- an exception of a callee, by the names' values at the call -/
def PassesS (CX : CXT) (X : Cx) (Ez : St → XK) : Prop := ∀ (pins : List (Addr × Obj)) (σ : St) (H : Hp) (s : Shared) (e : Value) (s' : Shared), Inv X pins σ H s → CX X.stack H s (Ez σ) e s' → X.xe e s'

/-- a flight through one frame, as the frames below see it. l: the frames that ran; s: the entry; g: the state ahead of the step -/
theorem un_moved {l l' : List Env} {H H' : Hp} {h g h' : Heap} {e : Addr} {T0 : Option Addr} (u : Un (frs l') [] H H' h g) (mv : Moved (frs l) e T0 g h') (hsub : ∀ b ∈ frs l', b ∈ frs l) (hnew : ∀ b o, h.get? b = some o → b ∈ frs l → b ∈ frs l')
    (he : h.get? e = none) (hT : ∀ T, T0 = some T → h.get? T = none) : Un (frs l') [] H H' h h' := by
  have k1 : ∀ b o, h.get? b = some o → b ≠ e := fun b o q z => by rw [z, he] at q; cases q
  have k2 : ∀ b o, h.get? b = some o → some b ≠ T0 := fun b o q z => by rw [hT b z.symm] at q; cases q
  refine ⟨fun b o q n hb hx => ?_, fun b o q n hb hx => ?_, u.free, fun b o q hx => ?_, u.tups, u.frzs, u.tbls⟩
  · exact mv.keep b o (k1 b o q) (k2 b o q) (fun z => hb (hnew b o q z)) (u.keep b o q n hb hx)
  · obtain ⟨sl, q1⟩ := u.slot b o q n hb hx
    obtain ⟨sl2, q2⟩ := mv.slot b _ (hsub b hb) q1
    exact ⟨sl2, q2⟩
  · obtain ⟨o1, q1⟩ := u.there b o q hx
    exact mv.there b o1 q1

section
variable {P : Program} {w : World} {K : PySem.W.Frag} {mg : Str → Option Value} {base : Heap} {N : List Str} {qual : Str} {scope : Scope} {f : Addr} {cd : Value} {A : Around} {outer : List Env} {s₀ : Shared} {H₀ : Hp} {E : XK}
theorem frs_cons {env : Env} {outer : List Env} {L : Addr} (h : env.frame = some L) : frs (env :: outer) = L :: frs outer := by
  unfold frs
  rw [List.filterMap_cons, h]

/-- both steps of a flight out of a frame -/
theorem leave_fly {M : Model} {A : Around} {E : Value → Shared → Prop} {s : Shared} {base : Heap} {env : Env} {outer : List Env} {L e : Addr} {C : Value} {dd : Option Addr} {T0 : Option Addr} {Q : Unit → Shared → Prop}
    (hfr : A.frames = some (env :: outer)) (hl : s.heap.FunFrames base (env :: outer)) (hf : env.frame = some L) (X : ExAt s.heap e C dd (T0.elim .none Value.ref)) (hT : ∀ T, T0 = some T → TrAt s.heap T .none ∧ T ≠ e)
    (h : ∀ h' T, ExAt h' e C dd (.ref T) → TrAt h' T .none → s.heap.objs.size ≤ T → T ≠ e → Moved (frs (env :: outer)) e T0 s.heap h' → Q () { s with heap := h' }) :
    wpAny M A (noteFrame (.ref e) env) (fun _ s2 => wpAny M A (setFlight (.ref e) none) Q E s2) E s := by
  refine note_fly hfr hl hf X hT fun h1 T x1 x2 x3 x4 mv => ?_
  refine rest_fly (s := { s with heap := h1 }) x1 x2 x4 fun h2 y1 y2 k1 k2 => h h2 T y1 y2 x3 x4 ?_
  have nT : ∀ b o, s.heap.get? b = some o → b ≠ T := fun b o q z => absurd (Heap.lt_size q) (by rw [z]; exact Nat.not_lt.mpr x3)
  refine ⟨fun b o z1 z2 z3 q => k1 b o (nT b o q) (mv.keep b o z1 z2 z3 q), fun b o hb q => ?_, fun b o q => ?_⟩
  · obtain ⟨sl, q1⟩ := mv.slot b o hb q
    exact ⟨sl, k1 b _ (nT b o q) q1⟩
  · obtain ⟨o1, q1⟩ := mv.there b o q
    exact k2 b o1 q1

theorem funFrames_un {base h h' : Heap} : ∀ {l : List Env}, h.FunFrames base l → (∀ b o, b ∈ frs l → h.get? b = some o → ∃ sl, h'.get? b = some { o with slots := sl }) → h'.FunFrames base l
  | [], _, _ => trivial
  | env :: r, hl, k => by
    obtain ⟨hk, ⟨L, o, hf, hn, ho, hd⟩, hr⟩ := hl
    have e := frs_cons (outer := r) hf
    obtain ⟨sl, z⟩ := k L o (by rw [e]; exact List.mem_cons_self) ho
    exact ⟨hk, ⟨L, _, hf, hn, z, hd⟩, funFrames_un hr fun b o' hb q => k b o' (by rw [e]; exact List.mem_cons_of_mem _ hb) q⟩
/-- a call's change as the callers see it -/
theorem un_enter {fs : List Addr} {L : Addr} {H H1 H2 : Hp} {h h1 h2 : Heap} (a : Un fs [] H H1 h h1) (b : Un (L :: fs) [] H1 H2 h1 h2) (hL : h.get? L = none) : Un fs [] H H2 h h2 where
  keep := fun c o q n hc hx => b.keep c o (a.keep c o q n hc hx) (a.free c o q n hx) (fun z => (List.mem_cons.mp z).elim (fun y => by rw [y, hL] at q; cases q) hc) (by simp)
  slot := fun c o q n hc hx => by
    obtain ⟨sl, q1⟩ := a.slot c o q n hc hx
    obtain ⟨sl2, q2⟩ := b.slot c _ q1 (a.free c o q n hx) (List.mem_cons_of_mem _ hc) (by simp)
    exact ⟨sl2, q2⟩
  free := fun c o q n hx => by
    obtain ⟨o1, q1⟩ := a.there c o q hx
    exact b.free c o1 q1 (a.free c o q n hx) (by simp)
  there := fun c o q hx => by
    obtain ⟨o1, q1⟩ := a.there c o q hx
    exact b.there c o1 q1 (by simp)
  tups := fun c xs q => b.tups c xs (a.tups c xs q)
  frzs := fun c o xs q => b.frzs c o xs (a.frzs c o xs q)
  tbls := fun c ps q => by
    obtain ⟨m1, e1⟩ := a.tbls c ps q
    obtain ⟨m2, e2⟩ := b.tbls c _ e1
    exact ⟨m1 ++ m2, by rw [e2, Array.append_assoc]⟩

theorem pass_def : PassesS (CXx P w) (cxOf (CXx P w) P w K mg base N qual scope f cd A outer s₀ H₀ E) (fun _ => E) := by
  intro pins σ H s u s' I h
  obtain ⟨e, C, dd, T, H', rfl, os, bare, un, hok, x1, x2, x3, f1, f2, n1, n2, hE⟩ := h
  have fe : frs (envOfC qual scope s₀.heap.objs.size f cd :: outer) = s₀.heap.objs.size :: frs outer := frs_cons rfl
  have un' : Un (s₀.heap.objs.size :: frs outer) [] H H' s.heap s'.heap := by rw [← fe]; exact un
  have ib : Un (frs outer) [] H₀ H s₀.heap s.heap := I.base
  have nL : s₀.heap.get? s₀.heap.objs.size = none := Heap.get?_none_of_le (Nat.le_refl _)
  have um := un_enter ib un' nL
  have hfun : s'.heap.FunFrames base (envOfC qual scope s₀.heap.objs.size f cd :: outer) := funFrames_un I.stack fun b o hb q => un.slot b o q (I.stkFree b hb) hb (by simp)
  have ntr : ∀ b u, H' b = some u → b ∉ frs (envOfC qual scope s₀.heap.objs.size f cd :: outer) := fun b u q hb => by
    obtain ⟨_, o, ho, _⟩ := I.stack.mem hb
    have := un.free b o ho (I.stkFree b hb) (by simp)
    rw [q] at this; cases this
  show wpAny _ _ (leaving _ (.ref e)) _ _ s'
  unfold leaving
  refine wpAny_bind (leave_fly (T0 := some T) (L := s₀.heap.objs.size) I.ok.frames hfun rfl x1 (fun T' z => by cases z; exact ⟨x2, x3⟩) fun h' T2 y1 y2 y3 y4 mv => ?_)
  have none_of : ∀ b, s.heap.get? b = none → s₀.heap.get? b = none := fun b hb => by
    cases q : s₀.heap.get? b with
    | none => rfl
    | some o => obtain ⟨o1, q1⟩ := ib.there b o q (by simp); rw [hb] at q1; cases q1
  refine ⟨e, C, dd, T2, H', rfl, os.trans I.os, bare, un_moved (l := envOfC qual scope s₀.heap.objs.size f cd :: outer) um mv (fun b hb => by rw [fe]; exact List.mem_cons_of_mem _ hb) (fun b o q hb => ?_) (none_of e n1) (fun T' z => by cases z; exact none_of T n2),
    hok.track fun b u o q1 q2 => mv.keep b o (fun z => by rw [z, f1] at q1; cases q1) (fun z => by cases z; rw [f2] at q1; cases q1) (ntr b u q1) q2, y1, y2, y4, f1, ?_, none_of e n1, ?_, hE⟩
  · rw [fe] at hb
    rcases List.mem_cons.mp hb with z | z
    · rw [z, nL] at q; cases q
    · exact z
  · cases q : H' T2 with
    | none => rfl
    | some u => obtain ⟨ob, hob⟩ := (hok T2 u q).there; exact absurd (Heap.lt_size hob) (Nat.not_lt.mpr y3)
  · cases q : s₀.heap.get? T2 with
    | none => rfl
    | some o => obtain ⟨o1, q1⟩ := um.there T2 o q (by simp); exact absurd (Heap.lt_size q1) (Nat.not_lt.mpr y3)

/-- what a raise asks of its context: the exception's class, its dict -/
def Rz (X : Cx) (E : XK) : Prop := ∀ (pins : List (Addr × Obj)) (σ : St) (H : Hp) (s : Shared) (h' : Heap) (e : Addr) (C : Value) (vs : List Value), Inv X pins σ H s → Heap.MadeExcOf s.heap h' e C vs → E C none H → X.xe (.ref e) { s with heap := h' }
theorem rz_def : Rz (cxOf (CXx P w) P w K mg base N qual scope f cd A outer s₀ H₀ E) E := by
  intro pins σ H s h1 e C vs I mx hE
  obtain ⟨t, he, htn, ht⟩ := mx.there
  have fe : frs (envOfC qual scope s₀.heap.objs.size f cd :: outer) = s₀.heap.objs.size :: frs outer := frs_cons rfl
  have ib : Un (frs outer) [] H₀ H s₀.heap s.heap := I.base
  have nL : s₀.heap.get? s₀.heap.objs.size = none := Heap.get?_none_of_le (Nat.le_refl _)
  have um : Un (frs outer) [] H₀ H s₀.heap h1 := ib.trans (Un.kept mx.keeps)
  have hfun : h1.FunFrames base (envOfC qual scope s₀.heap.objs.size f cd :: outer) := funFrames_un I.stack fun b o hb q => ⟨o.slots, mx.keeps b o q⟩
  have ntr : ∀ b u, H b = some u → b ∉ frs (envOfC qual scope s₀.heap.objs.size f cd :: outer) := fun b u q hb => by
    have := I.stkFree b hb
    rw [q] at this; cases this
  have hok1 : HOk P w H h1 := I.hok.kept mx.keeps
  have fE : H e = none := by
    cases q : H e with
    | none => rfl
    | some u => obtain ⟨ob, hob⟩ := (I.hok e u q).there; rw [mx.new] at hob; cases hob
  have none_of : ∀ b, s.heap.get? b = none → s₀.heap.get? b = none := fun b hb => by
    cases q : s₀.heap.get? b with
    | none => rfl
    | some o => obtain ⟨o1, q1⟩ := ib.there b o q (by simp); rw [hb] at q1; cases q1
  show wpAny _ _ (leaving _ (.ref e)) _ _ { s with heap := h1 }
  unfold leaving
  refine wpAny_bind (leave_fly (s := { s with heap := h1 }) (T0 := none) (L := s₀.heap.objs.size) (C := C) (dd := none) I.ok.frames hfun rfl ⟨_, _, he, rfl, rfl, rfl, rfl⟩ (fun T' z => by cases z) fun h' T2 y1 y2 y3 y4 mv => ?_)
  refine ⟨e, C, none, T2, H, rfl, I.os, I.bare, un_moved (l := envOfC qual scope s₀.heap.objs.size f cd :: outer) um mv (fun b hb => by rw [fe]; exact List.mem_cons_of_mem _ hb) (fun b o q hb => ?_) (none_of e mx.new) (fun T' z => by cases z),
    hok1.track fun b u o q1 q2 => mv.keep b o (fun z => by rw [z, fE] at q1; cases q1) (by simp) (ntr b u q1) q2, y1, y2, y4, fE, ?_, none_of e mx.new, ?_, hE⟩
  · rw [fe] at hb
    rcases List.mem_cons.mp hb with z | z
    · rw [z, nL] at q; cases q
    · exact z
  · cases q : H T2 with
    | none => rfl
    | some u => obtain ⟨ob, hob⟩ := (hok1 T2 u q).there; exact absurd (Heap.lt_size hob) (Nat.not_lt.mpr y3)
  · cases q : s₀.heap.get? T2 with
    | none => rfl
    | some o => obtain ⟨o1, q1⟩ := um.there T2 o q (by simp); exact absurd (Heap.lt_size q1) (Nat.not_lt.mpr y3)
end

/-! ### calls whose exceptions are looked at -/
def tCallS (sp : Sp) (dvs : List V) (Ez : St → XK) (t : TA) : TE := fun σ H Q => t σ H fun vs H1 => sp (vs ++ dvs) H1 Q (Ez σ)
section
variable {X : Cx} {CX : CXT} {k : Nat} {f C : Addr} {fd : FuncData} {ps : List Str} {sp : Sp} {dvs : List V} {ds : List Value} {Ez : St → XK} {x m : Str} {p pos apos : Pos} {e o : Expr} {es : List Expr} {ta : TE} {t : TA}
theorem run_fnS {pins : List (Addr × Obj)} {σ : St} {H : Hp} {s : Shared} {Q : VK} {us : List Value} {vs : List V} (F : FnOk X.prog X.w X.K X.mg X.base CX k f fd ps sp) (hr : Room k X.A) (hb : Binds X.K fd ps ds) (hd : Vals dvs ds) (hx : PassesS CX X Ez)
    (I : Inv X pins σ H s) (r : Vals vs us) (h : sp (vs ++ dvs) H Q (Ez σ)) : wpAny (model X.prog X.w) X.A (call (.ref f) us) (EP X pins σ Q) X.xe s := by
  have r2 : Vals (vs ++ dvs) (us ++ ds) := r.append hd
  have hl : (us ++ ds).length = ps.length := by rw [← r2.length]; exact F.len _ _ _ _ h
  refine wpAny_call (codeAny_mono (F.run X.A X.stack s H ⟨us, []⟩ (us ++ ds) (vs ++ dvs) Q (Ez σ) hr I.env0 (hb s us I.kIn hl) r2 h) fun r s' hq => ?_)
  cases r with
  | error e => exact hx pins σ H s e s' I hq
  | ok fl =>
    cases fl with
    | ret u => exact I.after hq
    | next => exact False.elim hq
    | brk => exact False.elim hq
    | cont => exact False.elim hq
theorem pe_callS (F : FnOk X.prog X.w X.K X.mg X.base CX k f fd ps sp) (hr : Room k X.A) (hg : Gl X x) (hm : X.mg x = some (.ref f)) (hk : PySem.W.keepIn X.K (.ref f) = true) (hb : Binds X.K fd ps ds) (hd : Vals dvs ds) (hx : PassesS CX X Ez)
    (ha : PA X (e :: es) t) (hdb : (x == ("__debug__" : Str)) = false := by decide) (he : starEach (e :: es) X.env = (false, eval e X.env) :: starEach es X.env := by rfl) (hpl : (backTo pos (starEach es X.env)).any (·.1) = false := by rfl) :
    PE X (.Call (.Name x p) (e :: es) [] pos) (tCallS sp dvs Ez t) := by
  unfold PE at *; unfold PA at *
  exact by
    intro pins s σ H Q I h
    refine wpAny_Call_Name_kw (ld_glob I hg hm ?_ hdb)
    refine PySem.W.callWith_K (h₀ := X.base) I.ok.mod.kin hk (thn (ha pos pins s σ H _ I h) fun us s1 ⟨vs, H1, I1, r, q⟩ => ⟨I1.kIn, ?_⟩) he hpl
    exact run_fnS F hr hb hd hx I1 r q

end
end L2

namespace L2
open PySem PySem.Spec PyProof.Rows

/-! ### raise C(..): an own error class over ValueError, without an __init__ -/
def vmro : List Value := [.type "ValueError", .type "Exception", .type "BaseException", .type "object"]
def NsK (K : PySem.W.Frag) (N : Addr) (es : Array DictEntry) : Prop := ∃ c d ep sl, K.lookup N = some ⟨c, d, .dict es ep, sl⟩ ∧ StrKeys es
theorem NsK.ns {K : PySem.W.Frag} {N : Addr} {es : Array DictEntry} {h : Heap} (x : NsK K N es) (X : K.In h) : h.Ns N (nsFind es) := by
  obtain ⟨c, d, ep, sl, lk, sk⟩ := x
  exact ⟨_, es, ep, X _ _ lk, rfl, sk, fun _ => rfl⟩
inductive TailK (K : PySem.W.Frag) : List Value → Prop
  | base : TailK K vmro
  | own {A : Addr} {c0 : Value} {dd : Option Addr} {cd : ClassData} {sl : Array (Option Value)} {tl : List Value} {es : Array DictEntry} :
      K.lookup A = some { cls := c0, dict := dd, data := .cls cd, slots := sl } → NsK K cd.ns es → nsFind es "__init__" = none → TailK K tl → TailK K (.ref A :: tl)
theorem TailK.own' {K : PySem.W.Frag} {h : Heap} {bm : List Value} (t : TailK K bm) (X : K.In h) : OwnTail h vmro bm := by
  induction t with
  | base => exact .base
  | own l n i _ ih => exact .own (X _ _ l) (n.ns X) i ih
structure XCls (K : PySem.W.Frag) (C : Addr) : Prop where
  ex : ∃ nm q N bs bm hdct sn sub ab col dd k0 k1 k2 k3 k5 es, K.lookup C = some (excClassObj nm q C N bs bm hdct sn sub ab col dd k0 k1 k2 k3 k5 "ValueError.__new__") ∧ NsK K N es ∧ nsFind es "__init__" = none ∧ TailK K bm
def tRaise (t : TA) (C : Value) (E : XK) : TS := fun _ σ H => t σ H fun vs H1 => vs.length ≤ sizeLine ∧ E C none H1
theorem ps_raise {X : Cx} {C : Addr} {x : Str} {np cpos pos : Pos} {e₀ : Expr} {rest : List Expr} {t : TA} {E : XK} (xc : XCls X.K C) (hc : X.calm = true) (hg : Gl X x) (hm : X.mg x = some (.ref C)) (hz : Rz X E) (ha : PA X (e₀ :: rest) t)
    (hdb : (x == ("__debug__" : Str)) = false := by decide) (he : starEach (e₀ :: rest) X.env = (false, eval e₀ X.env) :: starEach rest X.env := by rfl) (hpl : (backTo cpos (starEach rest X.env)).any (·.1) = false := by rfl) :
    PS X (.Raise (some (.Call (.Name x np) (e₀ :: rest) [] cpos)) none pos) (tRaise t (.ref C) E) := by
  unfold PA at *; unfold PS at *
  exact by
    intro pins s σ H D I h
    obtain ⟨nm, q, N, bs, bm, hdct, sn, sub, ab, col, dd, k0, k1, k2, k3, k5, es, lk, nk, ni, tl⟩ := xc.ex
    refine wpAny_Raise_call_subT (C := C) (nm := nm) (q := q) (N := N) (bs := bs) (bm := bm) (hdct := hdct) (sn := sn) (sub := sub) (ab := ab) (col := col) (dd := dd) (k0 := k0) (k1 := k1) (k2 := k2) (k3 := k3) (k5 := k5)
      F.excBase_ValueError (mN := nsFind es) ((tl.own' I.kIn).hasType F.excBase_ValueError.hasBase) (I.ok.hd hc) ?_ ni (ld_glob I hg hm ⟨rfl, ?_⟩ hdb)
    · rw [he]
      show (false || (backTo cpos (starEach rest X.env)).any (·.1)) = false
      rw [hpl]; rfl
    · have hA := ha cpos pins s σ H _ I h
      rw [he] at hA ⊢
      refine Calls.evalArgs_plain (wpAny_mono hA (fun us s2 ⟨vs, H1, I1, r, z, hE⟩ => ?_) fun _ _ y => y)
      exact ⟨rfl, by rw [← r.length]; exact z, I1.kIn _ _ lk, nk.ns I1.kIn, tl.own' I1.kIn, fun h' e mx => hz pins σ H1 s2 h' e (.ref C) us I1 mx hE⟩

/-! ### a def whose exceptions are looked at -/
theorem Fun.okx {P : Program} {w : World} {K : PySem.W.Frag} {mg : Str → Option Value} {base : Heap} {x qual : Str} {st : Stmt} {f : Addr} {fd : FuncData} {N ps : List Str} {k : Nat} {sp : Sp} (F : Fun K x qual st f fd) (S : FnScope N ps (defScope st)) (len : ∀ vs H Q E, sp vs H Q E → vs.length = ps.length)
    (hbody : ∀ (cdv : Value) (A : Around) (outer : List Env) (s : Shared) (H : Hp) (vs : List V) (Q : VK) (E : XK), Room k (A.deeper (envOfC qual (defScope st) s.heap.objs.size f cdv)) → sp vs H Q E →
      ∃ t, PSs (cxOf (CXx P w) P w K mg base N qual (defScope st) f cdv A outer s H E) (defBody st) t ∧ t { nx := fun _ H' => Q .non H', rt := Q } (start N vs) H) : FnOk P w K mg base (CXx P w) (k + 1) f fd ps sp := by
  obtain ⟨oc, od, kV, doc, pm, an, cdv, ct, osl, rfl, lk, hcd⟩ := F.ex
  exact fn_of lk hcd S len fun A outer s H vs Q E hr hsp => hbody cdv A outer s H vs Q E hr hsp

/-! ### try: .. except C as n: .. -/
section
variable {X : Cx} {pins pins' : List (Addr × Obj)} {σ : St} {H : Hp} {s : Shared} {W : Value → Shared → Prop}
/-- an untracked object of our own becomes tracked -/
theorem Inv.adopt {e : Addr} {o : HO} (I : Inv X pins σ H s) (hn : H e = none) (h0 : X.s₀.heap.get? e = none) (hL : e ≠ X.env.locals) (hc : ∀ x c, X.env.cells.lookup x = some c → c ≠ e) (hp : ∀ p ∈ X.pn ++ pins, p.1 ≠ e)
    (new : ObjOk X.prog X.w (upd H e o) s.heap e o) : Inv X pins σ (upd H e o) s := by
  have ne : ∀ b u, H b = some u → b ≠ e := fun b u q z => by rw [z, hn] at q; cases q
  refine ⟨I.ok, I.os, I.bare, ⟨I.base.keep, I.base.slot, fun b ob q n hx => ?_, I.base.there, fun b xs q => ?_, fun b ob u q => ?_, fun b ps q => ?_⟩, I.loc, I.cell, ?_, fun x c q => ?_, fun p hq => ?_, fun b u q => ?_, I.len⟩
  · rw [upd_ne (fun z => by rw [z, h0] at q; cases q)]
    exact I.base.free b ob q n hx
  · have q1 := I.base.tups b xs q
    rw [upd_ne (ne b _ q1)]; exact q1
  · have q1 := I.base.frzs b ob u q
    rw [upd_ne (ne b _ q1)]; exact q1
  · obtain ⟨m, q1⟩ := I.base.tbls b ps q
    exact ⟨m, by rw [upd_ne (ne b _ q1)]; exact q1⟩
  · rw [upd_ne (Ne.symm hL)]; exact I.free
  · rw [upd_ne (hc x c q)]; exact I.freeC x c q
  · obtain ⟨a1, a2, a3, a4, a5⟩ := I.pin p hq
    exact ⟨a1, by rw [upd_ne (hp p hq)]; exact a2, a3, a4, a5⟩
  · by_cases hb : b = e
    · subst hb; rw [upd_same] at q; cases q; exact new
    · rw [upd_ne hb] at q
      exact (I.hok b u q).stay (fun _ _ _ z => z) (fun c z => by rw [upd_ne (ne c _ z)]; exact z) fun c xs z => by rw [upd_ne (ne c _ z)]; exact z

end

/-- a caught exception: its class, its dict -/
def exO (C : Value) (dd : Option Addr) (e : Addr) : HO := .ext fun h => ∃ oe vs, h.get? e = some oe ∧ oe.cls = C ∧ oe.dict = dd ∧ oe.data = .fields vs
section
variable {X : Cx}
end
end L2

namespace L2
open PySem PySem.Spec PyProof.Rows PySem.W

/-! ### isinstance of a caught exception -/
section
variable {prog : Program} {w : World} {A : Around} {E : Value → Shared → Prop} {s : Shared} {K : Frag} {e C : Addr} {oe : Obj}
theorem findX {a g : Value} {name : Str} (hc : (clsIn K C).isSome = true) (ha : findIn K (.ref C) name = some (some a)) (hg : specialIn K a "__get__" = some (some g)) (ht : takesIn K a = some true) : findObj K C none name = some (.bind g a) := by
  obtain ⟨cd, hc⟩ := Option.isSome_iff_exists.mp hc
  unfold findObj
  rw [hc, Option.bind_some, ha, Option.bind_some]
  simp [hg, ht]
/-- what of the text an own error class must have to be asked -/
structure XAsk (K : Frag) (C : Addr) : Prop where
  cs : (clsIn K C).isSome = true
  ga : findIn K (.ref C) "__getattribute__" = some (some (.builtin "BaseException.__getattribute__"))
  gt : findIn K (.ref C) "__getattr__" = some none
  ca : findIn K (.ref C) "__class__" = some (some (.builtin "object.__class__"))
  gg : specialIn K (.builtin "object.__class__") "__get__" = some (some (.builtin "getset_descriptor.__get__"))
  tk : takesIn K (.builtin "object.__class__") = some true
  mo : mroIn K C (.type "object") = some true
  sb : subIn K (.ref C) (.type "BaseException") = some true
theorem xcheck {nameV : Value} {Q : Unit → Shared → Prop} (U : XAsk K C) (X : K.In s.heap) (I : InstAt s.heap e oe C none) (hq : Q () s) :
    wpAny (model prog w) A (checkBuiltinCall "BaseException.__getattribute__" ⟨[.ref e, nameV], []⟩) Q E s := by
  have hk : builtinKind "BaseException.__getattribute__" = some .slot := by decide +kernel
  have hsplit : splitId "BaseException.__getattribute__" = some ("BaseException", "__getattribute__") := by decide +kernel
  have L0 := I.type (M := model prog w)
  have L1 := looks_subIn (M := model prog w) X U.sb
  have LI : Looks (model prog w) s.heap (isInstance (.ref e) (.type "BaseException")) true := L0.andThen L1
  have ha := F.args_bexc_ga (.ref e) nameV
  simp only [checkBuiltinCall, hk, hsplit]
  refine wpAny_bind (LI.at ?_)
  rw [if_neg (by decide)]
  exact wpAny_of_eq ha hq
theorem xentry {tk : Tok} {Q : Fin → Shared → Prop} (U : XAsk K C) (X : K.In s.heap) (I : InstAt s.heap e oe C none) (hq : Q (.done (.ret (.ref C))) s) :
    wpAny (model prog w) A (Builtin.«object.__getattribute__» ⟨[.ref e, .str "__class__" tk], []⟩) Q E s := by
  obtain ⟨hh, g, d, t, os⟩ := s
  have L0 := I.type (M := model prog w)
  have L3 := looks_find (M := model prog w) X I (findX U.cs U.ca U.gg U.tk)
  unfold Builtin.«object.__getattribute__»
  refine wpAny_bind (wpAny_of_eq (show slotArgs "__getattribute__" 1 ⟨[.ref e, .str "__class__" tk], []⟩ = pure (.ref e, [.str "__class__" tk]) from rfl) ?_)
  refine wpAny_bind (wpAny_of_eq (show Builtin.ObjectAttr.attrName (.str "__class__" tk) = pure ("__class__" : Str) from rfl) ?_)
  refine wpAny_bind (L0.at (wpAny_bind (L3.at ?_)))
  show wpAny _ _ (Builtin.ObjectAttr.bindTo (.builtin "getset_descriptor.__get__") (.builtin "object.__class__") (.ref e) (.ref C)) _ _ _
  show wpAny _ _ (holding [.builtin "object.__class__"] (call (.builtin "getset_descriptor.__get__") [.builtin "object.__class__", .ref e, .ref C]) >>= ret) _ _ _
  exact wpAny_bind (wpAny_holding (wpAny_call (class_get X I U.mo (wpAny_pure hq))))
theorem xclass {Q : Option Value → Shared → Prop} (U : XAsk K C) (X : K.In s.heap) (I : InstAt s.heap e oe C none) (h : Q (some (.ref C)) { s with toks := s.toks + 1 }) : wpAny (model prog w) A (getAttr? (.ref e) "__class__") Q E s := by
  obtain ⟨hh, g, d, t, os⟩ := s
  have L0 := I.type (M := model prog w)
  have L1 := looks_findIn (M := model prog w) X U.ga
  have L2 := looks_findIn (M := model prog w) X U.gt
  have L3 := looks_find (M := model prog w) X I (findX U.cs U.ca U.gg U.tk)
  unfold getAttr? getAttrBy? getAttrBy
  refine wpAny_bind (wpAny_mkText (wpAny_bind (wpAny_attempt (wpAny_holding (wpAny_bind (L0.at (wpAny_bind (L1.at ?_))))))))
  show wpAny _ _ (getAttrByItsOwn (.ref e) _ (.ref C) (.builtin "BaseException.__getattribute__") false false) _ _ _
  unfold getAttrByItsOwn
  refine wpAny_bind ?_
  show wpAny _ _ (typeLookup (.ref C) "__getattr__") _ _ _
  refine L2.at ?_
  refine wpAny_bind (wpAny_attempt (wpAny_holding ?_))
  show wpAny _ _ (boundAndCalled (.builtin "BaseException.__getattribute__") (.ref e) _) _ _ _
  unfold boundAndCalled
  refine wpAny_bind (wpAny_of_eq (F.attr_ValueError.ga.bind (.ref e)) ?_)
  refine wpAny_call (codeAny_call_builtin F.attr_ValueError.ga.plain F.entry_bexc_ga (xcheck U X I (xentry U X I ?_)))
  exact wpAny_pure (wpAny_pure h)
theorem kitx_exc (U : XAsk K C) : KitX K (.ref e) (.ref C) (fun h => ∃ oe, InstAt h e oe C none) where
  ty := fun M h _ ⟨_, I⟩ => I.type
  it := fun _ _ X _ => by
    obtain ⟨cd, hc⟩ := Option.isSome_iff_exists.mp U.cs
    unfold clsIn at hc
    split at hc
    · rename_i c' d' cd' sl' ho
      intro A' Q' E' s' k q
      unfold isType loadHead
      exact wpAny_bind (wpAny_loadPart (k _ _ (X _ _ ho)) (wpAny_pure q))
    · cases hc
  ne := fun h tp dd its n sl X htp => by
    obtain ⟨cd, hc⟩ := Option.isSome_iff_exists.mp U.cs
    refine Bool.eq_false_iff.mpr fun q => ?_
    have z : C = tp := Value.ref.inj (beq_iff_eq.mp q)
    subst z
    unfold clsIn at hc
    split at hc
    · rename_i c' d' cd' sl' ho
      have z := (X _ _ ho).symm.trans htp
      cases z
    · cases hc
  ca := fun X ⟨_, I⟩ k => xclass U X I k
end
theorem exO_inst {P : Program} {w : World} {H : Hp} {h : Heap} {e C : Addr} (ok : HOk P w H h) (q : H e = some (exO (.ref C) none e)) : ∃ oe, InstAt h e oe C none := by
  obtain ⟨⟨oe, vs, he, hC, hdd, hd⟩, _⟩ := ok e _ q
  refine ⟨oe, he, hC, ?_, ?_⟩
  · obtain ⟨a, b, c, d⟩ := oe
    have hd' : c = .fields vs := hd
    subst hd'
    rfl
  · rw [hdd]
    trivial
section
variable {X : Cx}
def rIsiX (K : Frag) : List V → Hp → VK → Prop := fun xs H Q => ∃ e c cv C b, xs = [.ref e, c] ∧ ClsV c cv ∧ H e = some (exO (.ref C) none e) ∧ XAsk K C ∧ kitOne K (.ref C) cv = some b ∧ Q (.bl b) H
theorem call_isiX : CallR X (.builtin "isinstance") (rIsiX X.K) := by
  unfold CallR at *
  exact by
    intro pins s σ H xs us Q I rv h
    obtain ⟨e, c, cv, C, b, rfl, hc, he, U, k, q⟩ := h
    obtain ⟨u, cu, rfl, ru, rc⟩ := rv.two
    have ec : cu = cv := by cases hc <;> exact rc
    subst ec
    cases (show u = Value.ref e from ru)
    exact kia_one (kitx_exc U) I.kIn (exO_inst I.hok he) k (fun z => nomatch z) fun tk => ⟨.bl b, H, I.tok tk, rfl, q⟩

def rIsiA (K : Frag) : List V → Hp → VK → Prop := fun xs H Q => rIsi K xs H Q ∨ rIsiX K xs H Q
theorem call_isiA : CallR X (.builtin "isinstance") (rIsiA X.K) := by
  first
  | exact (call_isi.or call_isiX)
  | (unfold CallR at *; exact (call_isi.or call_isiX))

end
end L2

namespace L2
open PySem PySem.Spec PyProof.Rows

/-! ### names of Python's own; small facts -/
theorem bt_len : bootBuiltins "len" = some (.builtin "len") := by decide +kernel
theorem bt_isinstance : bootBuiltins "isinstance" = some (.builtin "isinstance") := by decide +kernel
theorem bt_int : bootBuiltins "int" = some (.type "int") := by decide +kernel
theorem bt_bool : bootBuiltins "bool" = some (.type "bool") := by decide +kernel
theorem bt_list : bootBuiltins "list" = some (.type "list") := by decide +kernel
theorem bt_min : bootBuiltins "min" = some (.builtin "min") := by decide +kernel
theorem rel_int {n : Int} {t : Tok} : RelV (.int n) (.int n t) := ⟨_, rfl⟩
theorem Same.new {H : Hp} {p : Addr} {o : HO} (h : H p = none) : Same H (upd H p o) := fun b u q => by
  rw [upd_ne (ne_of_none q h)]
  exact q
theorem Same.seqT {K : PySem.W.Frag} {H H' : Hp} {a : Addr} {xs : List V} (e : Same H H') (h : SqT K H a xs) : SqT K H' a xs := by
  rcases h with (h | ⟨o, h⟩) | h
  · exact .inl (.inl (e _ _ h))
  · exact .inl (.inr ⟨o, e _ _ h⟩)
  · exact .inr h
theorem atI_in {α : Type} {xs : List α} {i : Int} (h0 : 0 ≤ i) (h1 : i < xs.length) : ∃ v, atI xs i = some v ∧ v ∈ xs := by
  have e : ((i.toNat : Nat) : Int) = i := Int.toNat_of_nonneg h0
  have hl : i.toNat < xs.length := by omega
  refine ⟨xs[i.toNat], ?_, List.getElem_mem hl⟩
  have q := atI_nat (xs := xs) (List.getElem?_eq_getElem hl)
  rw [e] at q
  exact q
theorem atI_toNat {α : Type} {xs : List α} {i : Int} {v : α} (h0 : 0 ≤ i) (h : xs[i.toNat]? = some v) : atI xs i = some v := by
  have q := atI_nat (xs := xs) h
  rw [Int.toNat_of_nonneg h0] at q
  exact q
theorem TyOf.same {K : PySem.W.Frag} {H H' : Hp} {x : V} {t : Value} (e : Same H H') (h : TyOf K H x t) : TyOf K H' x t := by
  cases h with
  | non => exact .non
  | bl b => exact .bl b
  | int i => exact .int i
  | str x => exact .str x
  | flt x => exact .flt x
  | lst q => exact .lst (e _ _ q)
  | frz q => exact .frz (e _ _ q)
  | tup q => exact .tup (e _ _ q)
  | dK q => exact .dK (e _ _ q)
  | dT q => exact .dT (e _ _ q)
  | ins q a b c d f => exact .ins (e _ _ q) a b c d f
/-- a thing of one of Python's own kinds -/
def Own (K : PySem.W.Frag) (H : Hp) (x : V) : Prop := ∃ n, TyOf K H x (.type n)
theorem Own.same {K : PySem.W.Frag} {H H' : Hp} {x : V} (e : Same H H') (h : Own K H x) : Own K H' x := let ⟨n, t⟩ := h; ⟨n, t.same e⟩
theorem Own.non {K : PySem.W.Frag} {H : Hp} : Own K H .non := ⟨_, .non⟩
theorem Own.bl {K : PySem.W.Frag} {H : Hp} {b : Bool} : Own K H (.bl b) := ⟨_, .bl b⟩
theorem Own.int {K : PySem.W.Frag} {H : Hp} {i : Int} : Own K H (.int i) := ⟨_, .int i⟩
theorem Own.str {K : PySem.W.Frag} {H : Hp} {x : Str} : Own K H (.str x) := ⟨_, .str x⟩
/-- isinstance(x, int), (x, bool), (x, str) .. of such things -/
def isInt : V → Bool
  | .int _ => true
  | .bl _ => true
  | _ => false
def isBool : V → Bool
  | .bl _ => true
  | _ => false
theorem kit_int {K : PySem.W.Frag} {H : Hp} {x : V} {n : String} (ty : TyOf K H x (.type n)) : PySem.W.kitOne K (.type n) (.type "int") = some (isInt x) := by
  cases ty <;> rfl
theorem kit_bool {K : PySem.W.Frag} {H : Hp} {x : V} {n : String} (ty : TyOf K H x (.type n)) : PySem.W.kitOne K (.type n) (.type "bool") = some (isBool x) := by
  cases ty <;> rfl
theorem rIsiA.own {K : PySem.W.Frag} {H : Hp} {x : V} {c : String} {Q : VK} {b : Bool} (h : Own K H x) (k : ∀ n, TyOf K H x (.type n) → PySem.W.kitOne K (.type n) (.type c) = some b) (q : Q (.bl b) H) : rIsiA K [x, .ty c] H Q := by
  obtain ⟨n, t⟩ := h
  exact .inl ⟨x, .ty c, _, _, _, rfl, .ty c, t, k n t, q⟩
theorem rIsiA.int {K : PySem.W.Frag} {H : Hp} {x : V} {Q : VK} (h : Own K H x) (q : Q (.bl (isInt x)) H) : rIsiA K [x, .ty "int"] H Q := rIsiA.own h (fun _ => kit_int) q
theorem rIsiA.bool {K : PySem.W.Frag} {H : Hp} {x : V} {Q : VK} (h : Own K H x) (q : Q (.bl (isBool x)) H) : rIsiA K [x, .ty "bool"] H Q := rIsiA.own h (fun _ => kit_bool) q
theorem iteB {b : Bool} {A B : Prop} (h1 : b = true → A) (h2 : b = false → B) : if b = true then A else B := by
  cases b
  · exact iteF (h2 rfl)
  · exact iteT (h1 rfl)
theorem le_ble {a b : Nat} (h : Nat.ble a b = true) : a ≤ b := Nat.le_of_ble_eq_true h
end L2

namespace L2
open PySem PySem.Spec PyProof.Rows

/-! ### more iterators: a text's signs, enumerate of a list; comprehensions without a word on monotony; all, any -/
section
variable {X : Cx} {pins : List (Addr × Obj)} {σ : St} {H H' : Hp} {s : Shared} {h' : Heap}
/-- untracked records of ours have turned -/
theorem Inv.turns {t' : Nat} {wr : List Addr} (I : Inv X pins σ H s) (k : ∀ b o, b ∉ wr → s.heap.get? b = some o → h'.get? b = some o) (hw : ∀ b ∈ wr, FpOk X pins H b) : Inv X pins σ H { s with heap := h', toks := t' } := by
  have nit : ∀ b u, H b = some u → b ∉ wr := fun b u e z => by rw [(hw b z).1] at e; cases e
  refine I.step (g' := s.gens) (d' := s.drawn) (ch := wr) (fun b hb => ?_) (fun b o _ _ hc e _ => k b o hc e) (fun b o _ _ hc e _ => ⟨o.slots, k b o hc e⟩) (fun _ _ _ _ n => n)
    (fun b o hc e => ⟨o, k b o hc e⟩) (fun _ _ e => e) (fun _ _ _ e => e) (fun b ps e => ⟨#[], by rw [e]; simp⟩) (fun m hm => ?_) (fun b u e => ?_) I.bare
  · obtain ⟨_, f1, _, f3, f4, f5⟩ := hw b hb
    exact ⟨f3, f1, f4, f5⟩
  · obtain ⟨o, es, ep, ho, r⟩ := hm
    exact ⟨o, es, ep, k _ o (fun z => (hw _ z).2.1 rfl) ho, r⟩
  · refine (I.hok b u e).stay (fun c v hc q => k c v ?_ q) (fun _ q => q) fun _ _ q => q
    rcases hc with z | z
    · rw [z]; exact nit b u e
    · exact nit c _ z
end

/-- enumerate of the list at a -/
def Ite (K : PySem.W.Frag) (a : Addr) : It :=
  ⟨fun i H => ∃ xs x, SqL K H a xs ∧ xs[i]? = some x, fun i H v H' => ∃ T x, v = .ref T ∧ H T = none ∧ H' = upd H T (.tup [.int i, x]) ∧ ∀ xs, SqL K H a xs → xs[i]? = some x, fun i H => ∃ xs, SqL K H a xs ∧ xs.length = i⟩
theorem turn_enum {P : Program} {w : World} {K : PySem.W.Frag} {es : List Expr} {k : Nat} {pos : Pos} (a e it : Addr) (hei : e ≠ it) :
    Turn P w K (.Tuple es k pos) (Ite K a) [e, it] e (fun i h => (∃ old, IsEnum h e it i old) ∧ h.IsListIter it a i) where
  mem := by simp
  obj := fun i h st b hb => by
    obtain ⟨⟨old, he⟩, o, ho, hc, hd⟩ := st
    rcases List.mem_cons.mp hb with rfl | hb
    · exact ⟨_, he, fun v z => by cases z⟩
    · have e : b = it := by simpa using hb
      subst e
      exact ⟨o, ho, fun v z => by rw [hd] at z; cases z⟩
  keep := fun i h h' st k => by
    obtain ⟨⟨old, he⟩, hi⟩ := st
    exact ⟨⟨old, k e (by simp) _ he⟩, hi.at fun o x => k it (by simp) o x⟩
  item := by
    intro X hP hw hK hc i pins s σ H E I hf st hg
    subst hP hw hK
    obtain ⟨xs, x, hq, hx⟩ := hg
    obtain ⟨its, rv, p, hz⟩ := I.list hq
    obtain ⟨u, hu, ru⟩ := rv.get hx
    obtain ⟨he, hi⟩ := st
    have hlt : i < its.toArray.size := by
      obtain ⟨hl, _⟩ := List.getElem?_eq_some_iff.mp hu
      simpa using hl
    have na : ∀ b ∈ [e, it], a ≠ b := fun b hb z => by
      obtain ⟨o, ho, _⟩ := id p.isList
      subst z
      rcases List.mem_cons.mp hb with rfl | hb
      · obtain ⟨old, he⟩ := he
        have l1 := p.isList
        obtain ⟨o, ho, hc, n, hd⟩ := l1
        rw [he] at ho; cases ho; exact absurd (show Value.type "enumerate" = Value.type "list" from hc) (by decide)
      · have e' : a = it := by simpa using hb
        subst e'
        obtain ⟨o, ho, hc, n, hd⟩ := p.isList
        obtain ⟨o', ho', hc', hd'⟩ := hi
        rw [ho] at ho'; cases ho'
        rw [hc] at hc'; exact absurd hc' (by decide)
    have W := WalksT.enumerate (prog := X.prog) (w := X.w) (I.ok.hd hc) e it a hei (na e (by simp)) (na it (by simp)) its.toArray
    refine W.item i s _ _ hlt ⟨he, hi, p.isList⟩ fun T vals h1 tk hp hT hIs hm hk => ?_
    obtain ⟨t, y, hy, rfl⟩ := hp
    have ey : y = u := by
      have : its.toArray[i]? = some u := by simpa using hu
      rw [this] at hy
      exact (Option.some.inj hy).symm
    subst ey
    refine ⟨_, rfl, W.go es k pos i T _ _ _ hm fun h2 st2 hk2 => ?_⟩
    have hTn : H T = none := I.hok.fresh hT
    have hap := W.apart i T h1 hm
    have I1 : Inv X pins σ H { s with heap := h2, toks := tk } := I.turns (t' := tk) (fun b o hb e => hk2 b o hb (hk b o hb e)) hf
    have hT2 : h2.IsTuple T #[.int i t, y] := by
      obtain ⟨o, ho, r⟩ := hIs
      exact ⟨o, hk2 T o hap ho, r⟩
    have fT : ∀ b ∈ [e, it], upd H T (.tup [.int i, x]) b = none := fun b hb => by
      rw [upd_ne (fun z => hap (by rw [← z]; exact hb))]
      exact (hf b hb).1
    have hs0 : X.s₀.heap.objs.size ≤ T := Nat.le_trans I.sz hT
    have I2 : Inv X pins σ (upd H T (.tup [.int i, x])) { s with heap := h2, toks := tk } := by
      refine I1.adopt hTn (Heap.get?_none_of_le hs0) (Nat.ne_of_gt (Nat.lt_of_lt_of_le I.lt hT)) (fun z c e q => ?_) (fun p hp q => ?_) ⟨le_ble rfl, [.int i t, y], .cons ⟨t, rfl⟩ (.cons ru .nil), hT2⟩
      · obtain ⟨v, q1⟩ := I.cell z c e
        exact absurd (Nat.lt_of_lt_of_le q1.lt (by rw [q]; exact hT)) (Nat.lt_irrefl _)
      · exact absurd (Nat.lt_of_lt_of_le (Heap.lt_size (I.pin p hp).1) (by rw [q]; exact hT)) (Nat.lt_irrefl _)
    exact ⟨.ref T, _, I2, rfl, ⟨T, x, rfl, hTn, rfl, fun ys hy => by rw [I.list_inj hy hq]; exact hx⟩, ⟨st2.1, st2.2.1⟩, fT⟩
  done := by
    intro X hP hw hK hc i pins s σ H E I hf st hg
    subst hP hw hK
    obtain ⟨xs, hq, hx⟩ := hg
    obtain ⟨its, rv, p, hz⟩ := I.list hq
    obtain ⟨⟨old, he⟩, hi⟩ := st
    have D := Draws.list (prog := X.prog) (w := X.w) (A := X.A.in1) (I.ok.hd hc) it a (fun z => by
      subst z
      obtain ⟨o, ho, hc, n, hd⟩ := p.isList
      obtain ⟨o', ho', hc', hd'⟩ := hi
      rw [ho] at ho'; cases ho'
      rw [hc] at hc'; exact absurd hc' (by decide)) its.toArray
    have en : its.toArray.size = i := by rw [List.size_toArray, ← rv.length]; exact hx
    refine wpAny_pyNext_enum_endD D he (by rw [en]; exact ⟨hi, p.isList⟩) fun h' hx' => ⟨rfl, ?_⟩
    exact I.turns (t' := s.toks) (wr := [e, it]) (fun b o hb q => hx' b o (fun z => hb (by simp [z])) q) hf
  self := fun A i s Q E st h => by
    obtain ⟨⟨old, he⟩, _⟩ := st
    exact wpAny_pyIter_enum he h
theorem bt_enumerate : bootBuiltins "enumerate" = some (.type "enumerate") := by decide +kernel
def iEnum (K : PySem.W.Frag) (ta : TA) : TI := fun σ H R => ta σ H fun vs H1 => ∃ a, vs = [.ref a] ∧ (∃ xs, SqL K H1 a xs) ∧ R (Ite K a) H1
theorem pi_enum {X : Cx} {es : List Expr} {k : Nat} {tpos p pos : Pos} {a : Expr} {ta : TA} (hg : Gl X "enumerate") (hm : X.mg "enumerate" = none) (ha : PA X [a] ta)
    (he : starEach [a] X.env = [(false, eval a X.env)] := by rfl) : PI X (.Tuple es k tpos) (.Call (.Name "enumerate" p) [a] [] pos) (iEnum X.K ta) := by
  unfold PA at *; unfold PI at *
  exact by
    intro pins s σ H R I h
    refine wpAny_Call_Name_kw (ld_blt I hg hm bt_enumerate ?_ (by decide) (by decide))
    refine PyProof.Rows.callWith_type1 (thn (ha pos pins s σ H _ I h) fun us s1 ⟨vs, H1, I1, r, q⟩ => ?_) he (by rfl)
    obtain ⟨b, rfl, ⟨xs, hq⟩, q⟩ := q
    obtain ⟨u, rfl, ru⟩ := vals1 r
    cases ru
    obtain ⟨its, rv, pl, hz⟩ := I1.list hq
    refine call_enumerate_list pl.isList fun h' he hi hsz hk => ?_
    refine wpAny_pyIter_enum he ?_
    have I2 : Inv X pins σ H1 { s1 with heap := h' } := I1.kept (t' := s1.toks) hk
    refine ⟨s1.heap.objs.size + 1, [s1.heap.objs.size + 1, s1.heap.objs.size], _, _, H1, rfl, I2, turn_enum b _ _ (Nat.succ_ne_self _), ⟨⟨_, he⟩, hi⟩, fun c hc => ?_, q⟩
    have hle : s1.heap.objs.size ≤ c := by
      rcases List.mem_cons.mp hc with e | hc
      · rw [e]; exact Nat.le_succ _
      · have e : c = s1.heap.objs.size := by simpa using hc
        rw [e]; exact Nat.le_refl _
    exact I1.fpOk hle (I1.hok.fresh hle)

/-- the next turn, n - i turns ahead of the end -/
def Nx (n i : Nat) (P : Prop) : Prop := ∃ m', m' < n - i ∧ m' = n - (i + 1) ∧ i + 1 ≤ n ∧ P
theorem Nx.mk {n i : Nat} {P : Prop} (hi : i < n) (p : P) : Nx n i P := ⟨n - (i + 1), by omega, rfl, hi, p⟩
/-- a comprehension's loop of n turns -/
theorem loop_by {J : It} {l : Addr} {g : TG} {tc : TT} {te : TE} {σ : St} {H : Hp} {Q : VK} (n : Nat) (Pv : Nat → St → List V → Hp → Prop) (hsz : n ≤ sizeLine) (h0 : Pv 0 σ [] H)
    (hl : ∀ i σ acc H, i ≤ n → Pv i σ acc H → H l = some (.lst acc) ∧ acc.length ≤ i)
    (hgo : ∀ i σ acc H, i < n → Pv i σ acc H → J.go i H)
    (hs : ∀ i x σ acc H H', i < n → Pv i σ acc H → J.yld i H x H' → g x σ H' fun σ2 H2 => tc σ2 H2 fun b H3 => if b = true then
      te σ2 H3 fun v H4 => H4 l = some (.lst acc) ∧ Nx n i (Pv (i + 1) σ2 (acc ++ [v]) (upd H4 l (.lst (acc ++ [v])))) else Nx n i (Pv (i + 1) σ2 acc H3))
    (hd : ∀ σ acc H, Pv n σ acc H → J.stop n H ∧ Q (.ref l) H) : tLoop J l g tc te σ H Q := by
  refine ⟨fun i m σ acc H => m = n - i ∧ i ≤ n ∧ Pv i σ acc H, ⟨n, by simp, Nat.zero_le _, h0⟩, ?_⟩
  rintro i m σ acc H ⟨rfl, hi, p⟩
  obtain ⟨q1, q2⟩ := hl i σ acc H hi p
  refine ⟨q1, ?_⟩
  by_cases hlt : i < n
  · exact .inr ⟨hgo i σ acc H hlt p, by omega, fun x H' y => hs i x σ acc H H' hlt p y⟩
  · have e : i = n := by omega
    subst e
    exact .inl (hd σ acc H p)
/-- a for over enumerate of a list -/
theorem for_enum {K : PySem.W.Frag} {a : Addr} {xs : List V} {g : TG} {tb : TS} {D : Ends} {σ : St} {H : Hp} (Pv : Nat → St → Hp → Prop) (h0 : Pv 0 σ H) (hl : ∀ i σ H, i ≤ xs.length → Pv i σ H → SqL K H a xs)
    (hs : ∀ (i : Nat) x σ H T, xs[i]? = some x → Pv i σ H → H T = none → g (.ref T) σ (upd H T (.tup [.int i, x])) fun σ2 H2 => tb { D with nx := Pv (i + 1), ct := Pv (i + 1), bk := D.nx } σ2 H2) (hd : ∀ σ H, Pv xs.length σ H → D.nx σ H) :
    ∃ W : Nat → Nat → St → Hp → Prop, (∃ m, W 0 m σ H) ∧ ∀ i m σ H, W i m σ H →
      ((Ite K a).stop i H ∧ D.nx σ H) ∨ ((Ite K a).go i H ∧ ∃ N : St → Hp → Prop, (∀ σ' H', N σ' H' → ∃ m', m' < m ∧ W (i + 1) m' σ' H') ∧ ∀ v H', (Ite K a).yld i H v H' → g v σ H' fun σ2 H2 => tb { D with nx := N, ct := N, bk := D.nx } σ2 H2) := by
  refine ⟨fun i m σ H => m = xs.length - i ∧ i ≤ xs.length ∧ Pv i σ H, ⟨xs.length, by simp, Nat.zero_le _, h0⟩, ?_⟩
  rintro i m σ H ⟨rfl, hi, p⟩
  have q := hl i σ H hi p
  by_cases hlt : i < xs.length
  · refine .inr ⟨⟨xs, xs[i], q, by simp [hlt]⟩, Pv (i + 1), fun σ' H' p' => ⟨xs.length - (i + 1), by omega, rfl, hlt, p'⟩, fun v H' y => ?_⟩
    obtain ⟨T, x, rfl, hT, rfl, hx⟩ := y
    exact hs i x σ H T (hx xs q) p hT
  · have e : i = xs.length := by omega
    subst e
    exact .inl ⟨⟨xs, q, rfl⟩, hd σ H p⟩
end L2

namespace L2
open PySem PySem.Spec PyProof.Rows

/-! ### texts: <=, slices -/
section
variable {X : Cx}
end

/-! ### == of things that hold things: lists and tuples, by depth -/
/-- by lists and tuples whose items answer by R -/
inductive SeqEq (K : PySem.W.Frag) (H : Hp) (R : V → V → Bool → Prop) : V → V → Bool → Prop where
  | list {a b : Addr} {xs ys : List V} {e : Nat → Bool} (ha : SqL K H a xs) (hb : SqL K H b ys) (hl : xs.length = ys.length) (he : ∀ i x y, xs[i]? = some x → ys[i]? = some y → R x y (e i)) : SeqEq K H R (.ref a) (.ref b) ((List.range xs.length).all e)
  | listN {a b : Addr} {xs ys : List V} (ha : SqL K H a xs) (hb : SqL K H b ys) (hl : xs.length ≠ ys.length) : SeqEq K H R (.ref a) (.ref b) false
  | tup {a b : Addr} {xs ys : List V} {e : Nat → Bool} (ha : SqT K H a xs) (hb : SqT K H b ys) (he : ∀ i x y, xs[i]? = some x → ys[i]? = some y → R x y (e i)) : SeqEq K H R (.ref a) (.ref b) ((List.range (min xs.length ys.length)).all e && xs.length == ys.length)
/-- an item's answer: flat things, one object twice, lists and tuples within -/
def EqD (K : PySem.W.Frag) (H : Hp) : Nat → V → V → Bool → Prop
  | 0, x, y, b => (flatV x = true ∧ flatV y = true ∧ b = eqV x y) ∨ ∃ a, x = .ref a ∧ y = .ref a ∧ b = true
  | n + 1, x, y, b => ((flatV x = true ∧ flatV y = true ∧ b = eqV x y) ∨ ∃ a, x = .ref a ∧ y = .ref a ∧ b = true) ∨ SeqEq K H (EqD K H n) x y b
theorem eqV_self {x : V} (h : flatV x = true) : eqV x x = true := by
  cases x <;> simp_all [flatV, eqV]
section
variable {X : Cx} {pins : List (Addr × Obj)} {σ : St} {H : Hp} {s : Shared}
theorem all_range {n : Nat} {e : Nat → Bool} (h : ∀ i, i < n → e i = true) : (List.range n).all e = true := by
  rw [List.all_eq_true]
  exact fun i hi => h i (List.mem_range.mp hi)
theorem EqD.self (I : Inv X pins σ H s) : ∀ {n : Nat} {x : V} {b : Bool}, EqD X.K H n x x b → b = true := by
  intro n
  induction n with
  | zero =>
    intro x b h
    rcases h with ⟨h1, _, h2⟩ | ⟨_, _, _, h⟩
    · rw [h2]; exact eqV_self h1
    · exact h
  | succ n ih =>
    intro x b h
    rcases h with (⟨h1, _, h2⟩ | ⟨_, _, _, h⟩) | h
    · rw [h2]; exact eqV_self h1
    · exact h
    · cases h with
      | @list a _ xs ys e ha hb hl he =>
        have q := I.list_inj ha hb
        subst q
        exact all_range fun i hi => ih (he i xs[i] xs[i] (by simp [hi]) (by simp [hi]))
      | listN ha hb hl => exact absurd (congrArg List.length (I.list_inj ha hb)) hl
      | @tup a _ xs ys e ha hb he =>
        have q := I.tuple_inj ha hb
        subst q
        rw [Nat.min_self, all_range fun i hi => ih (he i xs[i] xs[i] (by simp [hi]) (by simp [hi]))]
        simp
theorem SeqEq.rc {A : Around} {R : V → V → Bool → Prop} {x y : V} {b : Bool} {u v : Value} (I : Inv X pins σ H s) (h : SeqEq X.K H R x y b) (rx : RelV x u) (ry : RelV y v) (hu : A.units < cLine)
    (hR : ∀ x y b u v, R x y b → RelV x u → RelV y v → SeqAt.EqAt A.in1 s u v b) : SeqAt.RcAt A s u v b := by
  cases h with
  | @list a c xs ys e ha hb hl he =>
    cases rx; cases ry
    obtain ⟨its, r1, p1, z1⟩ := I.list ha
    obtain ⟨jts, r2, p2, z2⟩ := I.list hb
    have l1 := r1.length
    have l2 := r2.length
    have q := SeqAt.RcAt.lists (A := A) (s := s) (e := e) p1.isList p2.isList (by simp only [List.size_toArray]; omega) hu fun j h1 h2 => ?_
    · rw [List.size_toArray, ← l1] at q
      exact q
    · simp only [List.size_toArray] at h1 h2
      have g1 : xs[j]? = some xs[j] := by simp
      have g2 : ys[j]? = some ys[j] := by simp
      obtain ⟨w1, k1, rr1⟩ := r1.get g1
      obtain ⟨w2, k2, rr2⟩ := r2.get g2
      have e1 : its.toArray[j] = w1 := by
        have := List.getElem?_eq_some_iff.mp k1
        obtain ⟨_, this⟩ := this
        simpa using this
      have e2 : jts.toArray[j] = w2 := by
        have := List.getElem?_eq_some_iff.mp k2
        obtain ⟨_, this⟩ := this
        simpa using this
      rw [e1, e2]
      exact hR _ _ _ _ _ (he j _ _ g1 g2) rr1 rr2
  | @listN a c xs ys ha hb hl =>
    cases rx; cases ry
    obtain ⟨its, r1, p1, z1⟩ := I.list ha
    obtain ⟨jts, r2, p2, z2⟩ := I.list hb
    have l1 := r1.length
    have l2 := r2.length
    exact SeqAt.RcAt.lists_lengths p1.isList p2.isList (by simp only [List.size_toArray, bne_iff_ne]; omega) hu
  | @tup a c xs ys e ha hb he =>
    cases rx; cases ry
    obtain ⟨its, r1, p1, z1⟩ := I.tuple ha
    obtain ⟨jts, r2, p2, z2⟩ := I.tuple hb
    have l1 := r1.length
    have l2 := r2.length
    have q := SeqAt.RcAt.tuples (A := A) (s := s) (e := e) p1 p2 hu fun j h1 h2 => ?_
    · rw [List.size_toArray, List.size_toArray, ← l1, ← l2] at q
      exact q
    · simp only [List.size_toArray] at h1 h2
      have g1 : xs[j]? = some xs[j] := by simp
      have g2 : ys[j]? = some ys[j] := by simp
      obtain ⟨w1, k1, rr1⟩ := r1.get g1
      obtain ⟨w2, k2, rr2⟩ := r2.get g2
      have e1 : its.toArray[j] = w1 := by
        have := List.getElem?_eq_some_iff.mp k1
        obtain ⟨_, this⟩ := this
        simpa using this
      have e2 : jts.toArray[j] = w2 := by
        have := List.getElem?_eq_some_iff.mp k2
        obtain ⟨_, this⟩ := this
        simpa using this
      rw [e1, e2]
      exact hR _ _ _ _ _ (he j _ _ g1 g2) rr1 rr2
theorem EqD.at (I : Inv X pins σ H s) : ∀ (n : Nat) (A : Around) (x y : V) (b : Bool) (u v : Value), A.units + n < cLine → EqD X.K H n x y b → RelV x u → RelV y v → SeqAt.EqAt A s u v b := by
  intro n
  induction n with
  | zero =>
    intro A x y b u v hu h rx ry
    rcases h with ⟨h1, h2, rfl⟩ | ⟨a, rfl, rfl, rfl⟩
    · exact eqAt_V rx ry h1 h2
    · cases rx; cases ry
      exact SeqAt.EqAt.same _
  | succ n ih =>
    intro A x y b u v hu h rx ry
    rcases h with (⟨h1, h2, rfl⟩ | ⟨a, rfl, rfl, rfl⟩) | h
    · exact eqAt_V rx ry h1 h2
    · cases rx; cases ry
      exact SeqAt.EqAt.same _
    · have rc := SeqEq.rc (A := A) I h rx ry (by omega) fun x y b u v hd r1 r2 => ih A.in1 x y b u v (by show A.units + 1 + n < cLine; omega) hd r1 r2
      have refs : ∃ a c, x = .ref a ∧ y = .ref c := by cases h <;> exact ⟨_, _, rfl, rfl⟩
      obtain ⟨a, c, rfl, rfl⟩ := refs
      cases rx; cases ry
      by_cases hac : a = c
      · subst hac
        have hb : b = true := EqD.self (n := n + 1) I (.inr h)
        subst hb
        exact SeqAt.EqAt.same _
      · exact SeqAt.EqAt.of_refs hac rc
def rEqD (K : PySem.W.Frag) (neg : Bool) : R2 := fun x y H Q => ∃ n b, n ≤ 60 ∧ SeqEq K H (EqD K H n) x y b ∧ Q (.bl (if neg then !b else b)) H
theorem op_eqD (hu : X.A.units + 62 < cLine) : OpR X (compareOp .Eq) (rEqD X.K false) := by
  unfold OpR at *
  exact by
    intro pins s σ H x y v u Q I rx ry h
    obtain ⟨n, b, hn, he, q⟩ := h
    exact SeqEq.rc (A := X.A) I he rx ry (by omega) (fun x y b u v hd r1 r2 => EqD.at I n X.A.in1 x y b u v (by show X.A.units + 1 + n < cLine; omega) hd r1 r2) X.prog X.w _ _ (fin_bl I q rfl)

end
end L2

namespace L2
open PySem PySem.Spec PyProof.Rows

/-! ### written tuples and dicts of the text's top -/
end L2

namespace L2
open PySem PySem.Spec PyProof.Rows

/-! ### exception classes of the text; a law whose defs raise -/
def strKeysB (es : Array DictEntry) : Bool := es.all fun e => match e.key with | .str _ _ => true | _ => false
theorem strKeys_of {es : Array DictEntry} (h : strKeysB es = true) : StrKeys es := by
  intro e he
  have q := Array.all_eq_true_iff_forall_mem.mp h e he
  split at q
  · rename_i n t hk
    exact ⟨n, t, hk⟩
  · cases q
/-- class C(B): pass, class B(ValueError): pass -/
theorem XCls.mk2 {K : PySem.W.Frag} {C N A : Addr} {nm q : Str} {bs : List Value} {hdct : Bool} {sn : List Str} {sub : List Value} {ab : Bool} {col : Option Bool} {dd : Option Addr} {k0 k1 k2 k3 k5 : Option Value} {es : Array DictEntry} {c d ep sl}
    {c0 : Value} {dd' : Option Addr} {cd : ClassData} {sl0 : Array (Option Value)} {es' : Array DictEntry} {c' d' ep' sl'}
    (l : K.lookup C = some (excClassObj nm q C N bs (.ref A :: vmro) hdct sn sub ab col dd k0 k1 k2 k3 k5 "ValueError.__new__")) (ln : K.lookup N = some ⟨c, d, .dict es ep, sl⟩) (sk : strKeysB es = true) (ni : nsFind es "__init__" = none)
    (la : K.lookup A = some { cls := c0, dict := dd', data := .cls cd, slots := sl0 }) (lna : K.lookup cd.ns = some ⟨c', d', .dict es' ep', sl'⟩) (ska : strKeysB es' = true) (nia : nsFind es' "__init__" = none) : XCls K C :=
  ⟨nm, q, N, bs, _, hdct, sn, sub, ab, col, dd, k0, k1, k2, k3, k5, es, l, ⟨c, d, ep, sl, ln, strKeys_of sk⟩, ni, .own la ⟨c', d', ep', sl', lna, strKeys_of ska⟩ nia .base⟩
theorem hu62 {A : Around} {k : Nat} (hr : Room k A) : A.units + 62 < cLine := by have := hr.un; omega
theorem cap_nil {X : Cx} {scope : Scope} {N' : List Str} {js : List (Option Nat)} (hl : js.length = N'.length) (h : js.all Option.isNone = true) : Cap X scope N' js :=
  ⟨hl, fun i j x h1 _ => by
    have q := List.all_eq_true.mp h _ (List.mem_of_getElem? h1)
    cases q⟩
theorem free_nil {X : Cx} {scope : Scope} (h : (scope.names.all fun y => match y.2 with | .free => false | _ => true) = true) : ∀ y ∈ scope.names, y.2 = .free → (X.env.kindOf y.1 = some .cell ∨ X.env.kindOf y.1 = some .free) := fun y hy e => by
  have q := List.all_eq_true.mp h y hy
  rw [e] at q
  cases q
/-- what never flies may be handed on anywhere -/
theorem passE0 {P : Program} {w : World} {X : Cx} : PassesS (CXx P w) X (fun _ => E0) := by
  intro pins σ H s e s' I h
  obtain ⟨_, _, _, _, _, _, _, _, _, _, _, _, _, _, _, _, _, h⟩ := h
  exact h.elim
end L2

namespace L2
open PySem PySem.Spec PyProof.Rows

/-! ### defs with defaults; C(..) with keywords whose __init__ may raise -/
section
variable {X : Cx} {CX : CXT} {k : Nat} {f C : Addr} {fd : FuncData} {ps ks : List Str} {sp : Sp} {Ez : St → XK} {x : Str} {p pos : Pos} {e : Expr} {es : List Expr} {kws : List Keyword} {t tk : TA} {na : Nat} {g : List Value → List Value → List Value} {gV : List V → List V → List V}
end
theorem free_of {X : Cx} {scope : Scope} (l : List Str) (h : (scope.names.all fun y => match y.2 with | .free => l.contains y.1 | _ => true) = true) (hl : ∀ x ∈ l, X.env.kindOf x = some .cell ∨ X.env.kindOf x = some .free) :
    ∀ y ∈ scope.names, y.2 = .free → (X.env.kindOf y.1 = some .cell ∨ X.env.kindOf y.1 = some .free) := fun y hy e => by
  have q := List.all_eq_true.mp h y hy
  rw [e] at q
  exact hl _ (List.contains_iff_mem.mp q)
/-- a statement, then what holds behind it, then the rest -/
def tCut (t u : TS) : TS := fun D σ H => ∃ Mid : St → Hp → Prop, t { D with nx := Mid } σ H ∧ ∀ σ' H', Mid σ' H' → u D σ' H'
theorem pss_cut {X : Cx} {st : Stmt} {rest : List Stmt} {t u : TS} (h1 : PS X st t) (h2 : PSs X rest u) : PSs X (st :: rest) (tCut t u) := by
  unfold PS at *; unfold PSs at *
  exact by
    intro pins s σ H D I h
    obtain ⟨Mid, h, hm⟩ := h
    refine wpAny_execs_cons (thn (h1 pins s σ H { D with nx := Mid } I h) fun f s1 q => ?_)
    cases f with
    | next =>
      obtain ⟨σ', H', I', q⟩ := q
      exact h2 pins s1 σ' H' D I' (hm σ' H' q)
    | ret v => exact q
    | brk => exact q
    | cont => exact q

theorem lenS {α : Type} {n : Nat} : ∀ {us : List α}, us.length = n + 1 → ∃ a r, us = a :: r ∧ r.length = n
  | a :: r, h => ⟨a, r, rfl, by simpa using h⟩
theorem len0 {α : Type} : ∀ {us : List α}, us.length = 0 → us = []
  | [], _ => rfl
theorem fm_nil {α : Type} {p : α → Prop} : ∀ x ∈ ([] : List α), p x := fun _ h => nomatch h
theorem fm_cons {α : Type} {p : α → Prop} {a : α} {l : List α} (h : p a) (r : ∀ x ∈ l, p x) : ∀ x ∈ a :: l, p x := fun x hx => by
  rcases List.mem_cons.mp hx with e | e
  · subst e; exact h
  · exact r x e
/-- a comprehension that captures names of the def -/
theorem cap_of {X : Cx} {scope : Scope} {N' : List Str} {js : List (Option Nat)} (hl : js.length = N'.length)
    (h : ∀ p ∈ js.zip N', ∀ j, p.1 = some j → X.N[j]? = some p.2 ∧ scope.names.lookup p.2 = some .free ∧ (X.env.kindOf p.2 = some .cell ∨ X.env.kindOf p.2 = some .free)) : Cap X scope N' js :=
  ⟨hl, fun i j x h1 h2 => h (some j, x) (List.mem_of_getElem? (i := i) (by rw [List.getElem?_zip_eq_some]; exact ⟨h1, h2⟩)) j rfl⟩
end L2

namespace L2
open PySem PySem.Spec PyProof.Rows

/-! ### int(text), text.find(text), digits -/
section
variable {X : Cx}
end
end L2

namespace L2
open PySem PySem.Spec PyProof.Rows

/-! ### sorted of a list of ints -/
section
variable {X : Cx}
theorem ints_are : ∀ {ns : List Int} {us : List Value}, Vals (ns.map V.int) us → IntsAre us ns
  | [], _, .nil => .nil
  | _ :: _, _, .cons ⟨_, h⟩ r => by
    subst h
    exact .cons _ _ (ints_are r)
theorem ints_vals : ∀ {ns : List Int} {us : List Value}, IntsAre us ns → Vals (ns.map V.int) us
  | [], _, .nil => .nil
  | _ :: _, _, .cons _ _ r => .cons ⟨_, rfl⟩ (ints_vals r)
theorem call_sorted (hc : X.calm = true) : CallR X (.builtin "sorted") (fun xs H Q => ∃ (a : Addr) (ns : List Int), xs = [.ref a] ∧ SqL X.K H a (ns.map V.int) ∧ ns.length < 64 ∧
    ∀ (l : Addr) (ms : List Int), H l = none → ms.Perm ns → ms.Pairwise (· ≤ ·) → Q (.ref l) (upd H l (.lst (ms.map V.int)))) := by
  unfold CallR at *
  exact by
    intro pins s σ H xs us Q I r h
    obtain ⟨a, ns, rfl, hq, hl, q⟩ := h
    obtain ⟨u, rfl, rx⟩ := vals1 r
    cases rx
    obtain ⟨its, r', pl, hz⟩ := I.list hq
    have hlen := r'.length
    rw [List.length_map] at hlen
    refine sorted_ints pl.isList (ints_are r') (by omega) fun out ns' a1 a2 a3 => ?_
    obtain ⟨e, he⟩ := sortedAll_at s.heap its out
    have hn := a2.length_eq
    have h64 : 64 ≤ sizeLine := le_ble rfl
    exact ⟨.ref (s.heap.objs.size + 1), _, I.laid (t' := s.toks) (fun _ _ => sortedAll_old) (Nat.le_succ _) (show ObjOk X.prog X.w _ _ _ (.lst (ns'.map V.int)) from ⟨by rw [List.length_map]; omega, out.toList, e, ints_vals a1, he⟩), rfl, q _ _ (I.hok.fresh (Nat.le_succ _)) a2 a3⟩

end
/-- // by a large positive divisor -/
structure CDivB (i j : Int) : Prop where
  lo : 0 < j
  hi : j < 2 ^ 200
theorem op_fdivB {X : Cx} : OpR X (binaryOp .FloorDiv) (rI CDivB fun i j => .int (i / j)) := opI fun i j _ _ _ _ _ hc q => by
  have h1 : (0 : Int) < j := hc.lo
  have h2 : j < 2 ^ 200 := hc.hi
  refine floordiv_int (by omega) (by rw [Int.fdiv_eq_ediv_of_nonneg i (by omega)]; exact q) (.inl (PyProof.noPylong_of_log2 ?_))
  have h3 : j.natAbs < 2 ^ 200 := by omega
  have h4 := (Nat.log2_lt (n := j.natAbs) (k := 200) (by omega)).mpr h3
  omega
/-- a loop in a def whose exceptions are looked at -/
theorem own_def {P : Program} {w : World} {K : PySem.W.Frag} {mg : Str → Option Value} {base : Heap} {N : List Str} {qual : Str} {scope : Scope} {f : Addr} {cd : Value} {A : Around} {outer : List Env} {s₀ : Shared} {H₀ : Hp} {E : XK} {CX : CXT} :
    PassesOwn (model P w) (cxOf CX P w K mg base N qual scope f cd A outer s₀ H₀ E).A (cxOf CX P w K mg base N qual scope f cd A outer s₀ H₀ E).env (cxOf CX P w K mg base N qual scope f cd A outer s₀ H₀ E).xe := PassesOwn.leaving
theorem MtM.r {X : Cx} {id : String} {r : V → List V → Hp → VK → Prop} (h : MtM X id r) : MtR X id r := by
  first
  | exact (h)
  | (unfold MtR at *; unfold MtM at *; exact (h))

theorem bt_sorted : bootBuiltins "sorted" = some (.builtin "sorted") := by decide +kernel
end L2

namespace L2
open PySem PySem.Spec PyProof.Rows

/-- a comprehension's loop over a list -/
theorem loop_lst {K : PySem.W.Frag} {a l : Addr} {xs : List V} {g : TG} {tc : TT} {te : TE} {σ : St} {H : Hp} {Q : VK} (Pv : Nat → St → List V → Hp → Prop) (hsz : xs.length ≤ sizeLine) (h0 : Pv 0 σ [] H)
    (hl : ∀ i σ acc H, i ≤ xs.length → Pv i σ acc H → H l = some (.lst acc) ∧ SqL K H a xs ∧ acc.length ≤ i)
    (hs : ∀ i x σ acc H, xs[i]? = some x → Pv i σ acc H → g x σ H fun σ2 H2 => tc σ2 H2 fun b H3 => if b = true then
      te σ2 H3 fun v H4 => H4 l = some (.lst acc) ∧ Nx xs.length i (Pv (i + 1) σ2 (acc ++ [v]) (upd H4 l (.lst (acc ++ [v])))) else Nx xs.length i (Pv (i + 1) σ2 acc H3))
    (hd : ∀ σ acc H, Pv xs.length σ acc H → Q (.ref l) H) : tLoop (Itl K a) l g tc te σ H Q :=
  loop_by xs.length Pv hsz h0 (fun i σ acc H hi p => ⟨(hl i σ acc H hi p).1, (hl i σ acc H hi p).2.2⟩)
    (fun i σ acc H hi p => ⟨xs, xs[i], (hl i σ acc H (Nat.le_of_lt hi) p).2.1, List.getElem?_eq_getElem hi⟩)
    (fun i x σ acc H H' hi p y => by
      obtain ⟨e, y⟩ := y
      subst e
      exact hs i x σ acc _ (y xs (hl i σ acc _ (Nat.le_of_lt hi) p).2.1) p)
    (fun σ acc H p => ⟨⟨xs, (hl _ σ acc H (Nat.le_refl _) p).2.1, Nat.le_refl _⟩, hd σ acc H p⟩)

/-! ### lists within lists of ints, in the heap: read (AtR), owned (At: o tells each list's place), new (New) -/
def Tr : Nat → Type
  | 0 => Int
  | n + 1 => List (Tr n)
/-- as a list -/
abbrev ls {n : Nat} (ts : Tr (n + 1)) : List (Tr n) := ts
abbrev Ow := Addr → Option (List Nat)
def AtR (H : Hp) : (n : Nat) → V → Tr n → Prop
  | 0, v, i => v = .int i
  | n + 1, v, ts => ∃ a vs, v = .ref a ∧ H a = some (.lst vs) ∧ vs.length = (ls ts).length ∧ ∀ (j : Nat) w t, vs[j]? = some w → (ls ts)[j]? = some t → AtR H n w t
def At (o : Ow) (H : Hp) : (n : Nat) → List Nat → V → Tr n → Prop
  | 0, _, v, i => v = .int i
  | n + 1, p, v, ts => ∃ a vs, v = .ref a ∧ o a = some p ∧ H a = some (.lst vs) ∧ vs.length = (ls ts).length ∧ ∀ (j : Nat) w t, vs[j]? = some w → (ls ts)[j]? = some t → At o H n (j :: p) w t
theorem At.r {o : Ow} {H : Hp} : ∀ {n : Nat} {p : List Nat} {v : V} {t : Tr n}, At o H n p v t → AtR H n v t
  | 0, _, _, _, h => h
  | n + 1, _, _, _, ⟨a, vs, e, _, h, l, k⟩ => ⟨a, vs, e, h, l, fun j w t hw ht => (k j w t hw ht).r⟩
/-- whatever is a list stays -/
theorem AtR.keep {H H' : Hp} (s : ∀ a xs, H a = some (.lst xs) → H' a = some (.lst xs)) : ∀ {n : Nat} {v : V} {t : Tr n}, AtR H n v t → AtR H' n v t
  | 0, _, _, h => h
  | n + 1, _, _, ⟨a, vs, e, h, l, k⟩ => ⟨a, vs, e, s _ _ h, l, fun j w t hw ht => (k j w t hw ht).keep s⟩
theorem AtR.same {H H' : Hp} (s : Same H H') {n : Nat} {v : V} {t : Tr n} (h : AtR H n v t) : AtR H' n v t := h.keep fun a xs e => s a _ e
theorem At.frame {o o' : Ow} {H H' : Hp} : ∀ {n : Nat} {p : List Nat} {v : V} {t : Tr n}, At o H n p v t → (∀ a r xs, o a = some r → p <:+ r → H a = some (.lst xs) → H' a = some (.lst xs) ∧ o' a = some r) → At o' H' n p v t
  | 0, _, _, _, h, _ => h
  | n + 1, p, _, _, ⟨a, vs, e, ho, h, l, k⟩, f =>
    have q := f a p vs ho (List.suffix_refl p) h
    ⟨a, vs, e, q.2, q.1, l, fun j w t hw ht => (k j w t hw ht).frame fun b r xs hb hs hx => f b r xs hb ((List.suffix_cons j p).trans hs) hx⟩
/-- under another place -/
theorem At.under {o : Ow} {H : Hp} (q : List Nat) : ∀ {n : Nat} {p : List Nat} {v : V} {t : Tr n}, At o H n p v t → At (fun a => (o a).map (· ++ q)) H n (p ++ q) v t
  | 0, _, _, _, h => h
  | n + 1, p, _, _, ⟨a, vs, e, ho, h, l, k⟩ => ⟨a, vs, e, (by show (o a).map (· ++ q) = _; rw [ho]; rfl), h, l, fun j w t hw ht => (k j w t hw ht).under q⟩
theorem cons_not_suffix {j : Nat} {p : List Nat} : ¬ (j :: p) <:+ p := fun h => by
  have := h.length_le
  rw [List.length_cons] at this
  omega
theorem cons_ne_suffix {j i : Nat} {p r : List Nat} (h : (j :: p) <:+ r) (h' : (i :: p) <:+ r) : j = i := by
  have e1 : (j :: p) = r.drop (r.length - (j :: p).length) := List.suffix_iff_eq_drop.mp h
  have e2 : (i :: p) = r.drop (r.length - (i :: p).length) := List.suffix_iff_eq_drop.mp h'
  rw [List.length_cons] at e1 e2
  rw [← e2] at e1
  exact (List.cons.inj e1).1
/-- the list itself gets another item at its end -/
theorem At.app {o o' : Ow} {H H' : Hp} {n : Nat} {p : List Nat} {a : Addr} {ts : Tr (n + 1)} {vs : List V} {w : V} {t : Tr n} (h : At o H (n + 1) p (.ref a) ts) (hv : H a = some (.lst vs)) (hf : ∀ b r xs, o b = some r → b ≠ a → H b = some (.lst xs) → H' b = some (.lst xs))
    (ho : ∀ b r, o b = some r → o' b = some r) (e : H' a = some (.lst (vs ++ [w]))) (hw : At o' H' n ((ls ts).length :: p) w t) : At o' H' (n + 1) p (.ref a) (ls ts ++ [t] : List (Tr n)) := by
  obtain ⟨a', vs', ea, ho', h', l, k⟩ := h
  cases ea
  rw [hv] at h'
  cases h'
  refine ⟨a, _, rfl, ho _ _ ho', e, by show (vs ++ [w]).length = (ls ts ++ [t]).length; rw [List.length_append, List.length_append, l]; rfl, fun j x u hx hu => ?_⟩
  have hu : (ls ts ++ [t])[j]? = some u := hu
  rcases Nat.lt_trichotomy j vs.length with q | q | q
  · rw [List.getElem?_append_left q] at hx
    rw [List.getElem?_append_left (by omega)] at hu
    refine (k j x u hx hu).frame fun b r xs hb hs hx => ?_
    have hne : b ≠ a := fun z => by
      subst z
      rw [ho'] at hb
      cases hb
      exact cons_not_suffix hs
    exact ⟨hf b r xs hb hne hx, ho b r hb⟩
  · subst q
    rw [List.getElem?_append_right (Nat.le_refl _), Nat.sub_self] at hx
    rw [List.getElem?_append_right (by omega), show vs.length - (ls ts).length = 0 by omega] at hu
    cases hx
    cases hu
    rw [l]
    exact hw
  · rw [List.getElem?_append_right (by omega)] at hx
    have : [w].length ≤ j - vs.length := by rw [List.length_singleton]; omega
    rw [List.getElem?_eq_none this] at hx
    cases hx
/-- an item of it has changed, in its own place or by another one put there -/
theorem At.put {o o' : Ow} {H H' : Hp} {n : Nat} {p : List Nat} {a : Addr} {ts : Tr (n + 1)} {vs : List V} {i : Nat} {w : V} {t : Tr n} (h : At o H (n + 1) p (.ref a) ts) (hv : H a = some (.lst vs)) (hi : i < vs.length)
    (hf : ∀ b r xs, o b = some r → b ≠ a → ¬ (i :: p) <:+ r → H b = some (.lst xs) → H' b = some (.lst xs)) (ho : ∀ b r, o b = some r → ¬ (i :: p) <:+ r → o' b = some r)
    (e : H' a = some (.lst (vs.set i w))) (hw : At o' H' n (i :: p) w t) : At o' H' (n + 1) p (.ref a) ((ls ts).set i t : List (Tr n)) := by
  obtain ⟨a', vs', ea, ho', h', l, k⟩ := h
  cases ea
  rw [hv] at h'
  cases h'
  refine ⟨a, _, rfl, ho _ _ ho' cons_not_suffix, e, by show (vs.set i w).length = ((ls ts).set i t).length; rw [List.length_set, List.length_set, l], fun j x u hx hu => ?_⟩
  have hu : ((ls ts).set i t)[j]? = some u := hu
  by_cases q : i = j
  · subst q
    rw [List.getElem?_set_self (by omega)] at hx
    rw [List.getElem?_set_self (by omega)] at hu
    cases hx
    cases hu
    exact hw
  · rw [List.getElem?_set_ne q] at hx hu
    refine (k j x u hx hu).frame fun b r xs hb hs hx => ?_
    have hne : b ≠ a := fun z => by
      subst z
      rw [ho'] at hb
      cases hb
      exact cons_not_suffix hs
    have hni : ¬ (i :: p) <:+ r := fun z => q (cons_ne_suffix z hs)
    exact ⟨hf b r xs hb hne hni hx, ho b r hb hni⟩
theorem At.lst {o : Ow} {H : Hp} {n : Nat} {p : List Nat} {v : V} {ts : Tr (n + 1)} (h : At o H (n + 1) p v ts) : ∃ a vs, v = .ref a ∧ o a = some p ∧ H a = some (.lst vs) ∧ vs.length = (ls ts).length :=
  let ⟨a, vs, e, ho, h, l, _⟩ := h
  ⟨a, vs, e, ho, h, l⟩
theorem At.kid {o : Ow} {H : Hp} {n : Nat} {p : List Nat} {a : Addr} {ts : Tr (n + 1)} {vs : List V} {j : Nat} (h : At o H (n + 1) p (.ref a) ts) (hv : H a = some (.lst vs)) (hj : j < vs.length) : ∃ w t, vs[j]? = some w ∧ (ls ts)[j]? = some t ∧ At o H n (j :: p) w t := by
  obtain ⟨a', vs', ea, ho', h', l, k⟩ := h
  cases ea
  rw [hv] at h'
  cases h'
  have h1 : vs[j]? = some vs[j] := List.getElem?_eq_getElem hj
  have hj' : j < (ls ts).length := by omega
  have h2 : (ls ts)[j]? = some (ls ts)[j] := List.getElem?_eq_getElem hj'
  exact ⟨_, _, h1, h2, k j _ _ h1 h2⟩
theorem AtR.kid {H : Hp} {n : Nat} {a : Addr} {ts : Tr (n + 1)} {vs : List V} {j : Nat} (h : AtR H (n + 1) (.ref a) ts) (hv : H a = some (.lst vs)) (hj : j < vs.length) : ∃ w t, vs[j]? = some w ∧ (ls ts)[j]? = some t ∧ AtR H n w t := by
  obtain ⟨a', vs', ea, h', l, k⟩ := h
  cases ea
  rw [hv] at h'
  cases h'
  have h1 : vs[j]? = some vs[j] := List.getElem?_eq_getElem hj
  have hj' : j < (ls ts).length := by omega
  have h2 : (ls ts)[j]? = some (ls ts)[j] := List.getElem?_eq_getElem hj'
  exact ⟨_, _, h1, h2, k j _ _ h1 h2⟩
theorem AtR.lst {H : Hp} {n : Nat} {v : V} {ts : Tr (n + 1)} (h : AtR H (n + 1) v ts) : ∃ a vs, v = .ref a ∧ H a = some (.lst vs) ∧ vs.length = (ls ts).length :=
  let ⟨a, vs, e, h, l, _⟩ := h
  ⟨a, vs, e, h, l⟩
/-- made since H -/
def New (H H' : Hp) (n : Nat) (w : V) (t : Tr n) : Prop := ∃ o, At o H' n [] w t ∧ ∀ a r, o a = some r → H a = none ∧ H' a ≠ none
/-- the items of a list that grows at l -/
def NewL (H H' : Hp) (l : Addr) (n : Nat) (ws : List V) (ts : List (Tr n)) : Prop :=
  ws.length = ts.length ∧ ∃ o : Ow, (∀ (j : Nat) w t, ws[j]? = some w → ts[j]? = some t → At o H' n [j] w t) ∧ ∀ a r, o a = some r → H a = none ∧ H' a ≠ none ∧ a ≠ l ∧ r ≠ []
theorem New.r {H H' : Hp} {n : Nat} {w : V} {t : Tr n} (h : New H H' n w t) : AtR H' n w t := let ⟨_, h, _⟩ := h; h.r
theorem NewL.nil {H H' : Hp} {l : Addr} {n : Nat} : NewL H H' l n [] [] := ⟨rfl, fun _ => none, fun j w t h => (by rw [List.getElem?_nil] at h; cases h), fun a r h => nomatch h⟩
theorem NewL.frame {H H' H'' : Hp} {l : Addr} {n : Nat} {ws : List V} {ts : List (Tr n)} (h : NewL H H' l n ws ts) (f : ∀ a xs, a ≠ l → H a = none → H' a = some (.lst xs) → H'' a = some (.lst xs)) (g : ∀ a, H' a ≠ none → H'' a ≠ none) : NewL H H'' l n ws ts := by
  obtain ⟨e, o, k, d⟩ := h
  exact ⟨e, o, fun j w t hw ht => (k j w t hw ht).frame fun a r xs ho _ hx => ⟨f a xs (d a r ho).2.2.1 (d a r ho).1 hx, ho⟩, fun a r ho => ⟨(d a r ho).1, g a (d a r ho).2.1, (d a r ho).2.2⟩⟩
theorem New.frame {H H' H'' : Hp} {n : Nat} {w : V} {t : Tr n} (h : New H H' n w t) (f : ∀ a xs, H a = none → H' a = some (.lst xs) → H'' a = some (.lst xs)) (g : ∀ a, H' a ≠ none → H'' a ≠ none) : New H H'' n w t := by
  obtain ⟨o, k, d⟩ := h
  exact ⟨o, k.frame fun a r xs ho _ hx => ⟨f a xs (d a r ho).1 hx, ho⟩, fun a r ho => ⟨(d a r ho).1, g a (d a r ho).2⟩⟩
theorem New.same {H H' H'' : Hp} {n : Nat} {w : V} {t : Tr n} (h : New H H' n w t) (s : Same H' H'') : New H H'' n w t := h.frame (fun a xs _ e => s a _ e) fun a e => by
  cases q : H' a with
  | none => exact absurd q e
  | some u => rw [s a u q]; intro z; cases z
theorem New.older {H0 H H' : Hp} {n : Nat} {w : V} {t : Tr n} (h : New H H' n w t) (s : Same H0 H) : New H0 H' n w t := by
  obtain ⟨o, k, d⟩ := h
  exact ⟨o, k, fun a r ho => ⟨s.free (d a r ho).1, (d a r ho).2⟩⟩
theorem New.int {H H' : Hp} {i : Int} : New H H' 0 (.int i) i := ⟨fun _ => none, rfl, fun a r h => nomatch h⟩
/-- one item more: made since H' -/
theorem NewL.snoc {H H' H'' : Hp} {l : Addr} {n : Nat} {ws : List V} {ts : List (Tr n)} {w : V} {t : Tr n} (h : NewL H H' l n ws ts) (hl : H' l ≠ none) (fr : ∀ a, H' a = none → H a = none) (f : ∀ a xs, a ≠ l → H a = none → H' a = some (.lst xs) → H'' a = some (.lst xs)) (g : ∀ a, H' a ≠ none → H'' a ≠ none)
    (hn : New H' H'' n w t) : NewL H H'' l n (ws ++ [w]) (ts ++ [t]) := by
  obtain ⟨e, o, k, d⟩ := h
  obtain ⟨o2, k2, d2⟩ := hn
  have old : ∀ a r, o a = some r → o2 a = none := fun a r ho => by
    cases q : o2 a with
    | none => rfl
    | some r2 => exact absurd (d2 a r2 q).1 (d a r ho).2.1
  refine ⟨by rw [List.length_append, List.length_append, e]; rfl, fun a => match o2 a with | some r => some (r ++ [ws.length]) | none => o a, fun j x u hx hu => ?_, fun a r hr => ?_⟩
  · rcases Nat.lt_trichotomy j ws.length with q | q | q
    · rw [List.getElem?_append_left q] at hx
      rw [List.getElem?_append_left (by omega)] at hu
      refine (k j x u hx hu).frame fun a r xs ho _ hx => ⟨f a xs (d a r ho).2.2.1 (d a r ho).1 hx, ?_⟩
      show (match o2 a with | some r => some (r ++ [ws.length]) | none => o a) = some r
      rw [old a r ho]
      exact ho
    · subst q
      rw [List.getElem?_append_right (Nat.le_refl _), Nat.sub_self] at hx
      rw [List.getElem?_append_right (by omega), show ws.length - ts.length = 0 by omega] at hu
      cases hx
      cases hu
      refine (k2.under [ws.length]).frame fun a r xs ho _ hx => ⟨hx, ?_⟩
      show (match o2 a with | some r => some (r ++ [ws.length]) | none => o a) = some r
      cases q : o2 a with
      | none => rw [q] at ho; cases ho
      | some r2 => rw [q] at ho; exact ho
    · rw [List.getElem?_append_right (by omega)] at hx
      have : [w].length ≤ j - ws.length := by rw [List.length_singleton]; omega
      rw [List.getElem?_eq_none this] at hx
      cases hx
  · have hr : (match o2 a with | some r => some (r ++ [ws.length]) | none => o a) = some r := hr
    cases q : o2 a with
    | none =>
      rw [q] at hr
      exact ⟨(d a r hr).1, g a (d a r hr).2.1, (d a r hr).2.2⟩
    | some r2 =>
      rw [q] at hr
      cases hr
      refine ⟨fr a (d2 a r2 q).1, (d2 a r2 q).2, fun z => ?_, fun z => ?_⟩
      · subst z
        exact hl (d2 a r2 q).1
      · have := congrArg List.length z
        rw [List.length_append] at this
        simp at this
theorem NewL.done {H H' : Hp} {l : Addr} {n : Nat} {ws : List V} {ts : List (Tr n)} (h : NewL H H' l n ws ts) (hl : H l = none) (e : H' l = some (.lst ws)) : New H H' (n + 1) (.ref l) ts := by
  obtain ⟨el, o, k, d⟩ := h
  have nl : o l = none := by
    cases q : o l with
    | none => rfl
    | some r => exact absurd rfl (d l r q).2.2.1
  refine ⟨fun a => if a = l then some [] else o a, ⟨l, ws, rfl, if_pos rfl, e, el, fun j w t hw ht => (k j w t hw ht).frame fun a r xs ho _ hx => ⟨hx, ?_⟩⟩, fun a r hr => ?_⟩
  · show (if a = l then some [] else o a) = some r
    rw [if_neg (d a r ho).2.2.1]
    exact ho
  · have hr : (if a = l then some [] else o a) = some r := hr
    by_cases q : a = l
    · subst q
      exact ⟨hl, by rw [e]; intro z; cases z⟩
    · rw [if_neg q] at hr
      exact ⟨(d a r hr).1, (d a r hr).2.1⟩
/-- all ints in it -/
def flat : (n : Nat) → Tr n → List Int
  | 0, i => [i]
  | n + 1, ts => (ls ts).flatMap (flat n)
/-- no list in it is empty -/
def full : (n : Nat) → Tr n → Prop
  | 0, _ => True
  | n + 1, ts => ls ts ≠ [] ∧ ∀ t ∈ ls ts, full n t
/-- its last lists rise -/
def asc : (n : Nat) → Tr n → Prop
  | 0, _ => True
  | 1, f => List.Pairwise (α := Int) (· < ·) f
  | n + 2, ts => ∀ t ∈ ls ts, asc (n + 1) t
theorem flat_ints (f : Tr 1) : flat 1 f = (f : List Int) := by
  show List.flatMap (fun i => [i]) (f : List Int) = f
  exact List.flatMap_singleton' f
theorem flat_app (n : Nat) (ts us : List (Tr n)) : flat (n + 1) (ts ++ us : List (Tr n)) = flat (n + 1) ts ++ flat (n + 1) us := List.flatMap_append
theorem flat_set (n : Nat) : ∀ (ts : List (Tr n)) (i : Nat) (t t' : Tr n) (s : Int), ts[i]? = some t → (flat n t').Perm (flat n t ++ [s]) → (flat (n + 1) (ts.set i t' : List (Tr n))).Perm (flat (n + 1) ts ++ [s])
  | x :: r, 0, t, t', s, h, p => by
    cases h
    show (flat n t' ++ r.flatMap (flat n)).Perm ((flat n x ++ r.flatMap (flat n)) ++ [s])
    refine (p.append_right _).trans ?_
    rw [List.append_assoc, List.append_assoc]
    exact List.Perm.append_left _ List.perm_append_comm
  | x :: r, i + 1, t, t', s, h, p => by
    have := flat_set n r i t t' s h p
    show (flat n x ++ (r.set i t').flatMap (flat n)).Perm ((flat n x ++ r.flatMap (flat n)) ++ [s])
    rw [List.append_assoc]
    exact List.Perm.append_left _ this
theorem full_set {n : Nat} {ts : List (Tr n)} {i : Nat} {t : Tr n} (h : full (n + 1) ts) (ht : full n t) : full (n + 1) (ts.set i t : List (Tr n)) := by
  refine ⟨fun z => h.1 (List.length_eq_zero_iff.mp (by have := congrArg List.length z; rw [List.length_set] at this; exact this)), fun x hx => ?_⟩
  rcases List.mem_or_eq_of_mem_set hx with q | q
  · exact h.2 x q
  · rw [q]; exact ht
theorem full_app {n : Nat} {ts : List (Tr n)} {t : Tr n} (h : full (n + 1) ts) (ht : full n t) : full (n + 1) (ts ++ [t] : List (Tr n)) := by
  refine ⟨List.append_ne_nil_of_right_ne_nil _ (List.cons_ne_nil _ _), fun x hx => ?_⟩
  rcases List.mem_append.mp hx with q | q
  · exact h.2 x q
  · rw [List.mem_singleton.mp q]; exact ht
theorem asc_set {n : Nat} {ts : List (Tr (n + 1))} {i : Nat} {t : Tr (n + 1)} (h : asc (n + 2) ts) (ht : asc (n + 1) t) : asc (n + 2) (ts.set i t : List (Tr (n + 1))) := fun x hx => by
  rcases List.mem_or_eq_of_mem_set hx with q | q
  · exact h x q
  · rw [q]; exact ht
theorem asc_app {n : Nat} {ts : List (Tr (n + 1))} {t : Tr (n + 1)} (h : asc (n + 2) ts) (ht : asc (n + 1) t) : asc (n + 2) (ts ++ [t] : List (Tr (n + 1))) := fun x hx => by
  rcases List.mem_append.mp hx with q | q
  · exact h x q
  · rw [List.mem_singleton.mp q]; exact ht
theorem rIsiA.ty {K : PySem.W.Frag} {H : Hp} {x : V} {n c : String} {b : Bool} {Q : VK} (t : TyOf K H x (.type n)) (k : PySem.W.kitOne K (.type n) (.type c) = some b) (q : Q (.bl b) H) : rIsiA K [x, .ty c] H Q := .inl ⟨x, .ty c, _, _, _, rfl, .ty c, t, k, q⟩
theorem AtR.ints {H : Hp} {a : Addr} {ns : List Int} (h : AtR H 1 (.ref a) ns) : H a = some (.lst (ns.map V.int)) := by
  obtain ⟨a', vs, e, hv, l, k⟩ := h
  cases e
  have l : vs.length = ns.length := l
  have k : ∀ (j : Nat) w (t : Int), vs[j]? = some w → ns[j]? = some t → w = .int t := k
  have ev : vs = ns.map V.int := by
    refine List.ext_getElem? fun j => ?_
    rcases Nat.lt_or_ge j vs.length with q | q
    · have hj : j < ns.length := by omega
      have h1 : vs[j]? = some vs[j] := List.getElem?_eq_getElem q
      have h2 : ns[j]? = some ns[j] := List.getElem?_eq_getElem hj
      rw [h1, List.getElem?_map, h2, k j _ _ h1 h2]
      rfl
    · rw [List.getElem?_eq_none q, List.getElem?_eq_none (by rw [List.length_map]; omega)]
  rw [hv, ev]
theorem New.ints {H H' : Hp} {l : Addr} {ns : List Int} (hl : H l = none) (h : H' l = some (.lst (ns.map V.int))) : New H H' 1 (.ref l) ns :=
  ⟨fun a => if a = l then some [] else none, ⟨l, _, rfl, if_pos rfl, h, List.length_map .., fun j w t hw ht => by
    have ht : ns[j]? = some t := ht
    rw [List.getElem?_map, ht] at hw
    cases hw
    rfl⟩, fun a r hr => by
    have hr : (if a = l then some [] else none) = some r := hr
    by_cases q : a = l
    · subst q
      exact ⟨hl, by rw [h]; intro z; cases z⟩
    · rw [if_neg q] at hr
      cases hr⟩
theorem flat_split {n : Nat} {ts : List (Tr n)} {i : Nat} {t : Tr n} (h : ts[i]? = some t) : flat (n + 1) ts = flat (n + 1) (ts.take i : List (Tr n)) ++ (flat n t ++ flat (n + 1) (ts.drop (i + 1) : List (Tr n))) := by
  have e : ts = ts.take i ++ t :: ts.drop (i + 1) := by
    obtain ⟨hi, rfl⟩ := List.getElem?_eq_some_iff.mp h
    rw [List.getElem_cons_drop hi, List.take_append_drop]
  have e2 := congrArg (fun z : List (Tr n) => flat (n + 1) z) e
  refine Eq.trans e2 ?_
  show flat (n + 1) (ts.take i ++ t :: ts.drop (i + 1) : List (Tr n)) = _
  rw [flat_app]
  rfl
theorem flat_take {n : Nat} {ts : List (Tr n)} {i : Nat} {t : Tr n} (h : ts[i]? = some t) : flat (n + 1) (ts.take (i + 1) : List (Tr n)) = flat (n + 1) (ts.take i : List (Tr n)) ++ flat n t := by
  have e : ts.take (i + 1) = ts.take i ++ [t] := by rw [List.take_succ, h]; rfl
  rw [e, flat_app]
  show _ ++ (flat n t ++ []) = _
  rw [List.append_nil]
theorem flat_mem {n : Nat} {ts : List (Tr n)} {t : Tr n} {s : Int} (h : t ∈ ts) (hs : s ∈ flat n t) : s ∈ flat (n + 1) ts := List.mem_flatMap.mpr ⟨t, h, hs⟩
theorem flat_nd {n : Nat} {ts : List (Tr n)} {i : Nat} {t : Tr n} (h : ts[i]? = some t) (nd : (flat (n + 1) ts).Nodup) : (flat n t).Nodup ∧ ∀ s ∈ flat n t, s ∉ flat (n + 1) (ts.take i : List (Tr n)) := by
  rw [flat_split h, List.nodup_append, List.nodup_append] at nd
  exact ⟨nd.2.1.1, fun s hs z => nd.2.2 s z s (List.mem_append_left _ hs) rfl⟩
theorem flat_len {n : Nat} {ts : List (Tr n)} {i : Nat} {t : Tr n} (h : ts[i]? = some t) : (flat (n + 1) (ts.take i : List (Tr n))).length + (flat n t).length ≤ (flat (n + 1) ts).length := by
  rw [flat_split h, List.length_append, List.length_append]
  omega
/-- what is owned is there -/
def Dom (o : Ow) (H : Hp) : Prop := ∀ b r, o b = some r → H b ≠ none
/-- o, and what was made from H to H1 -/
structure Ext (o o' : Ow) (H H1 : Hp) : Prop where
  old : ∀ b, H b ≠ none → o' b = o b
  new : ∀ b r, o' b = some r → H b = none → H1 b ≠ none
def ovr (H : Hp) (o oN : Ow) (q : List Nat) : Ow := fun b => match H b with | none => (oN b).map (· ++ q) | some _ => o b
theorem New.put {o : Ow} {H H1 : Hp} {n : Nat} {w : V} {t : Tr n} (nw : New H H1 n w t) (q : List Nat) : ∃ o', Ext o o' H H1 ∧ ∀ H2, (∀ b xs, H b = none → H1 b = some (.lst xs) → H2 b = some (.lst xs)) → At o' H2 n q w t := by
  obtain ⟨oN, k, d⟩ := nw
  refine ⟨ovr H o oN q, ⟨fun b hb => ?_, fun b r hr hb => ?_⟩, fun H2 f => ?_⟩
  · unfold ovr
    cases e : H b with
    | none => exact absurd e hb
    | some u => rfl
  · unfold ovr at hr
    rw [hb] at hr
    cases e : oN b with
    | none =>
      have hr : (oN b).map (· ++ q) = some r := hr
      rw [e] at hr
      cases hr
    | some r' => exact (d b r' e).2
  · refine (k.under q).frame fun b r xs hr _ hx => ?_
    have hr : (oN b).map (· ++ q) = some r := hr
    cases e : oN b with
    | none => rw [e] at hr; cases hr
    | some r' =>
      refine ⟨f b xs (d b r' e).1 hx, ?_⟩
      unfold ovr
      rw [(d b r' e).1]
      exact hr
theorem Ext.dom {o o' : Ow} {H H1 : Hp} (x : Ext o o' H H1) (d : Dom o H) : ∀ b r, o b = some r → o' b = some r := fun b r h => by rw [x.old b (d b r h)]; exact h
theorem some_ne {α : Type} {o : Option α} {x : α} (h : o = some x) : o ≠ none := by rw [h]; intro z; cases z
/-- a.append(w), w new -/
theorem At.appN {o : Ow} {H H1 : Hp} {n : Nat} {p : List Nat} {a : Addr} {ts : Tr (n + 1)} {vs : List V} {w : V} {t : Tr n} (h : At o H (n + 1) p (.ref a) ts) (dm : Dom o H) (hv : H a = some (.lst vs)) (s : Same H H1) (nw : New H H1 n w t) :
    ∃ o', Ext o o' H H1 ∧ At o' (upd H1 a (.lst (vs ++ [w]))) (n + 1) p (.ref a) (ls ts ++ [t] : List (Tr n)) := by
  obtain ⟨o', x, k⟩ := nw.put (o := o) ((ls ts).length :: p)
  refine ⟨o', x, h.app hv (fun b r xs hb nb hx => by rw [upd_ne nb]; exact s b _ hx) (x.dom dm) upd_same (k _ fun b xs hb hx => ?_)⟩
  rw [upd_ne (fun z => by rw [z, hv] at hb; cases hb)]
  exact hx
/-- a[i] = w, w new -/
theorem At.setN {o : Ow} {H H1 : Hp} {n : Nat} {p : List Nat} {a : Addr} {ts : Tr (n + 1)} {vs : List V} {i : Nat} {w : V} {t : Tr n} (h : At o H (n + 1) p (.ref a) ts) (dm : Dom o H) (hv : H a = some (.lst vs)) (hi : i < vs.length) (s : Same H H1) (nw : New H H1 n w t) :
    ∃ o', Ext o o' H H1 ∧ At o' (upd H1 a (.lst (vs.set i w))) (n + 1) p (.ref a) ((ls ts).set i t : List (Tr n)) := by
  obtain ⟨o', x, k⟩ := nw.put (o := o) (i :: p)
  refine ⟨o', x, h.put hv hi (fun b r xs hb nb _ hx => by rw [upd_ne nb]; exact s b _ hx) (fun b r hb _ => x.dom dm b r hb) upd_same (k _ fun b xs hb hx => ?_)⟩
  rw [upd_ne (fun z => by rw [z, hv] at hb; cases hb)]
  exact hx
/-- the list above one that was changed at c -/
theorem At.up {o o' : Ow} {H H1 : Hp} {n : Nat} {p pc : List Nat} {a c : Addr} {ts : Tr (n + 1)} {vs ys : List V} {i : Nat} {w : V} {t : Tr n} (h : At o H (n + 1) p (.ref a) ts) (dm : Dom o H) (hv : H a = some (.lst vs)) (hw : vs[i]? = some w) (s : Same H H1) (x : Ext o o' H H1)
    (hc : o c = some pc) (hp : (i :: p) <:+ pc) (k : At o' (upd H1 c (.lst ys)) n (i :: p) w t) : At o' (upd H1 c (.lst ys)) (n + 1) p (.ref a) ((ls ts).set i t : List (Tr n)) := by
  have hi : i < vs.length := (List.getElem?_eq_some_iff.mp hw).1
  have oa : o a = some p := by
    obtain ⟨a', _, e, oa, _⟩ := h
    cases e
    exact oa
  have nac : a ≠ c := fun z => by
    rw [z, hc] at oa
    cases oa
    exact cons_not_suffix hp
  have es : vs.set i w = vs := by
    obtain ⟨hi, rfl⟩ := List.getElem?_eq_some_iff.mp hw
    exact List.set_getElem_self hi
  refine h.put hv hi (fun b r xs hb _ hs hx => ?_) (fun b r hb _ => x.dom dm b r hb) (by rw [upd_ne nac, es]; exact s a _ hv) k
  rw [upd_ne (fun z => by rw [z, hc] at hb; cases hb; exact hs hp)]
  exact s b _ hx
theorem Ext.after {o o' : Ow} {H H1 : Hp} {c : Addr} {u : HO} (x : Ext o o' H H1) (dm : Dom o H) (s : Same H H1) : Dom o' (upd H1 c u) := fun b r hr => by
  by_cases q : b = c
  · rw [q, upd_same]; intro z; cases z
  · rw [upd_ne q]
    cases e : H b with
    | none => exact x.new b r hr e
    | some v => rw [s b v e]; intro z; cases z
end L2

namespace L2
open PySem PySem.Spec PyProof.Rows

/-! ### zip of two lists; t + u where t may be empty -/
def rCatT1 (K : PySem.W.Frag) : R2 := fun x y H Q => ∃ a b xs ys, x = .ref a ∧ y = .ref b ∧ SqT K H a xs ∧ SqT K H b ys ∧ ys ≠ [] ∧ xs.length + ys.length ≤ sizeLine ∧
  (xs = [] → Q (.ref b) H) ∧ (xs ≠ [] → ∀ p, H p = none → Q (.ref p) (upd H p (.tup (xs ++ ys))))
theorem op_catT1 {X : Cx} : OpR X (binaryOp .Add) (rCatT1 X.K) := by
  unfold OpR at *
  exact by
    intro pins s σ H x y v u Q I rx ry h
    obtain ⟨a, b, xs, ys, rfl, rfl, ha, hb, hy, hz, q1, q2⟩ := h
    cases rx
    cases ry
    by_cases hx : xs = []
    · obtain ⟨its, r1, p1, _⟩ := I.tuple ha
      obtain ⟨its2, r2, p2, _⟩ := I.tuple hb
      have hv : its = [] := r1.nil_iff.mpr hx
      obtain ⟨⟨cls, dd, data, sl⟩, ho, hc, n, hd⟩ := id p1
      obtain ⟨⟨cls2, dd2, data2, sl2⟩, ho2, hc2, n2, hd2⟩ := id p2
      simp only at hc hd hc2 hd2
      subst hc hd hc2 hd2
      exact concat_meets ⟨_, ho, rfl⟩ ⟨_, ho2, rfl⟩ noFill_tuple_add seq_tuple_add PySem.F.slot_tuple_add PySem.F.entry_tuple_add (PySem.F.args_tuple_add_2 _ _)
        (tuple_addW0 a b its.toArray its2.toArray n n2 dd dd2 sl sl2 (by simp [hv])) ⟨ho, ho2, ⟨.ref b, H, I, rfl, q1 hx⟩⟩
    · have op := op_catT (X := X)
      unfold OpR at op
      exact op pins s σ H (.ref a) (.ref b) _ _ Q I rfl rfl ⟨a, b, xs, ys, rfl, rfl, ha, hb, hx, hz, fun e => absurd e hy, fun _ => q2 hx⟩

end L2
namespace L2
open PySem PySem.Spec PyProof.Rows
/-! ### list(d): the keys -/
end L2

namespace L2
open PySem PySem.Spec PyProof.Rows

/-! ### sep.join(list of texts) -/
/-! ### isinstance of own things, by an own class -/
end L2

namespace L2
open PySem PySem.Spec PyProof.Rows
section
variable {X : Cx}
/-- (a, b, ..) = a list of that length -/
def gTupL (K : PySem.W.Frag) (n : Nat) (t : TGs) : TG := fun v σ H Q => ∃ a xs, v = .ref a ∧ SqL K H a xs ∧ xs.length = n ∧ t xs σ H Q
theorem pg_tupL {es : List Expr} {k : Nat} {t : TGs} {n : Nat} {pos : Pos} (hc : X.calm = true) (h : PGs X es t)
    (hn : (assignEach es X.env).length = n := by rfl) (hst : (assignEach es X.env).findIdx? (·.1) = none := by rfl) : PG X (.Tuple es k pos) (gTupL X.K n t) := by
  unfold PG at *; unfold PGs at *
  exact by
    intro pins s σ H v u Q I r hw
    obtain ⟨a, xs, e1, hq, hl, hw⟩ := hw
    subst e1
    cases r
    obtain ⟨its, rv, ht, hz⟩ := I.list hq
    have hs : its.toArray.size = n := by simp [← hl, rv.length]
    rw [assign_Tuple]
    refine wpAny_bind (wpAny_standAt ?_)
    unfold unpack
    rw [hn, hst, ← hs]
    refine wpAny_bind (wpAny_holding (PySem.W.kun_itemsOf (I.ok.hd hc) ht.isList fun h' hx => ?_))
    have I1 : Inv X pins σ H { s with heap := h' } := I.kept (t' := s.toks) fun b o e => hx b o (Nat.ne_of_lt (Heap.lt_size e)) e
    exact h pins _ σ H xs _ Q I1 (by simpa using rv) hw

theorem vals_mem : ∀ {xs : List V} {us : List Value}, Vals xs us → ∀ u ∈ us, ∃ x ∈ xs, RelV x u
  | _, _, .nil, u, hu => nomatch hu
  | x :: xs, u :: us, .cons r t, u', hu => by
    rcases List.mem_cons.mp hu with e | hu
    · subst e
      exact ⟨x, List.mem_cons_self, r⟩
    · obtain ⟨y, hy, ry⟩ := vals_mem t u' hu
      exact ⟨y, List.mem_cons_of_mem _ hy, ry⟩
/-- x in a list where nothing is like x -/
def rInNo (K : PySem.W.Frag) : R2 := fun x y H Q => ∃ p xs n, y = .ref p ∧ SqL K H p xs ∧ n ≤ 60 ∧ (∀ z ∈ xs, EqD K H n z x false) ∧ Q (.bl false) H
theorem op_inNo (hu : X.A.units + 62 < cLine) : OpR X (compareOp .In) (rInNo X.K) := by
  unfold OpR at *
  exact by
    intro pins s σ H x y v u Q I rx ry h
    obtain ⟨p, xs, n, rfl, hq, hn, he, q⟩ := h
    cases ry
    obtain ⟨its, r, pl, hz⟩ := I.list hq
    refine SeqAt.in_listAt (fun _ => false) pl.isList (fun w hw => ?_) ⟨.bl false, H, I, ?_, q⟩
    · obtain ⟨z, hz, rz⟩ := vals_mem r w (by simpa using hw)
      exact EqD.at I n X.A.in1 z x false w v (by show X.A.units + 1 + n < cLine; omega) (he z hz) rz rx
    · rw [show its.toArray.any (fun _ => false) = false by simp]
      rfl

end

/-! ### some items of a new list's, in a new list -/
theorem At.relabel {o o' : Ow} {H H' : Hp} {k j : Nat} (f : ∀ b p xs, o b = some (p ++ [k]) → H b = some (.lst xs) → o' b = some (p ++ [j]) ∧ H' b = some (.lst xs)) : ∀ {n : Nat} {q : List Nat} {v : V} {t : Tr n}, At o H n (q ++ [k]) v t → At o' H' n (q ++ [j]) v t
  | 0, _, _, _, h => h
  | n + 1, q, _, _, ⟨a, vs, e, ho, h, l, kd⟩ => ⟨a, vs, e, (f a q vs ho h).1, (f a q vs ho h).2, l, fun i w t hw ht => At.relabel f (q := i :: q) (kd i w t hw ht)⟩
structure Pk {n : Nat} (ws : List V) (ts : List (Tr n)) (i : Nat) (idx : List Nat) (acc : List V) (us : List (Tr n)) : Prop where
  la : acc.length = idx.length
  lu : us.length = idx.length
  lt : ∀ k ∈ idx, k < i
  nd : idx.Nodup
  at_ : ∀ j k : Nat, idx[j]? = some k → acc[j]? = ws[k]? ∧ us[j]? = ts[k]?
theorem Pk.nil {n : Nat} {ws : List V} {ts : List (Tr n)} : Pk ws ts 0 [] [] [] := ⟨rfl, rfl, fun _ h => (nomatch h), List.nodup_nil, fun _ _ h => (by rw [List.getElem?_nil] at h; cases h)⟩
theorem Pk.drop {n : Nat} {ws : List V} {ts : List (Tr n)} {i : Nat} {idx : List Nat} {acc : List V} {us : List (Tr n)} (h : Pk ws ts i idx acc us) : Pk ws ts (i + 1) idx acc us :=
  ⟨h.la, h.lu, fun k hk => Nat.lt_succ_of_lt (h.lt k hk), h.nd, h.at_⟩
theorem Pk.keep {n : Nat} {ws : List V} {ts : List (Tr n)} {i : Nat} {idx : List Nat} {acc : List V} {us : List (Tr n)} {w : V} {t : Tr n} (h : Pk ws ts i idx acc us) (hw : ws[i]? = some w) (ht : ts[i]? = some t) : Pk ws ts (i + 1) (idx ++ [i]) (acc ++ [w]) (us ++ [t]) := by
  refine ⟨by rw [List.length_append, List.length_append, h.la]; rfl, by rw [List.length_append, List.length_append, h.lu]; rfl, fun k hk => ?_, ?_, fun j k hk => ?_⟩
  · rcases List.mem_append.mp hk with q | q
    · exact Nat.lt_succ_of_lt (h.lt k q)
    · rw [List.mem_singleton.mp q]; exact Nat.lt_succ_self i
  · rw [List.nodup_append]
    exact ⟨h.nd, List.nodup_cons.mpr ⟨List.not_mem_nil, List.nodup_nil⟩, fun x hx y hy e => by rw [e, List.mem_singleton.mp hy] at hx; exact Nat.lt_irrefl _ (h.lt _ hx)⟩
  · by_cases q : j < idx.length
    · rw [List.getElem?_append_left q] at hk
      rw [List.getElem?_append_left (by rw [h.la]; exact q), List.getElem?_append_left (by rw [h.lu]; exact q)]
      exact h.at_ j k hk
    · rw [List.getElem?_append_right (by omega)] at hk
      obtain ⟨h1, e1⟩ := List.getElem?_eq_some_iff.mp hk
      have j0 : j - idx.length = 0 := by simpa using h1
      rw [j0] at hk
      cases (Option.some.inj hk : i = k)
      rw [List.getElem?_append_right (by rw [h.la]; omega), List.getElem?_append_right (by rw [h.lu]; omega), h.la, h.lu, j0]
      exact ⟨hw.symm, ht.symm⟩
theorem idx_at {idx : List Nat} : ∀ (nd : idx.Nodup) (j : Nat) (h : j < idx.length), idx.idxOf idx[j] = j := by
  induction idx with
  | nil => intro _ j h; cases h
  | cons x r ih =>
    intro nd j h
    rw [List.nodup_cons] at nd
    cases j with
    | zero => simp
    | succ j =>
      have hj : j < r.length := by simpa using h
      have e := ih nd.2 j hj
      rw [List.getElem_cons_succ, List.idxOf_cons]
      have ne : (x == r[j]) = false := by
        rw [beq_eq_false_iff_ne]
        intro q
        exact nd.1 (q ▸ List.getElem_mem hj)
      rw [ne, cond_false, e]
theorem NewL.pick {H G G' : Hp} {l r : Addr} {n : Nat} {ws acc : List V} {ts us : List (Tr n)} {idx : List Nat} {i : Nat} (h : NewL H G l n ws ts) (p : Pk ws ts i idx acc us) (hr : G r = none) (hH : H r = none) (s : Same G G') (e : G' r = some (.lst acc)) : New H G' (n + 1) (.ref r) us := by
  obtain ⟨el, o, k, d⟩ := h
  have nr : ∀ b q, o b = some q → b ≠ r := fun b q ho z => (d b q ho).2.1 (by rw [z]; exact hr)
  let o' : Ow := fun b => if b = r then some [] else match o b with | none => none | some q => match q.getLast? with | none => none | some m => if m ∈ idx then some (q.dropLast ++ [idx.idxOf m]) else none
  refine ⟨o', ⟨r, acc, rfl, if_pos rfl, e, by show acc.length = us.length; rw [p.la, p.lu], fun j w t hw ht => ?_⟩, fun b q hq => ?_⟩
  · have hj : j < idx.length := by rw [← p.la]; exact (List.getElem?_eq_some_iff.mp hw).1
    have hm : idx[j]? = some idx[j] := List.getElem?_eq_getElem hj
    obtain ⟨p1, p2⟩ := p.at_ j _ hm
    have ht : us[j]? = some t := ht
    rw [hw] at p1
    rw [ht] at p2
    have ka := k idx[j] w t p1.symm p2.symm
    refine At.relabel (q := []) (fun b q xs ho hx => ⟨?_, s b _ hx⟩) ka
    show (if b = r then some [] else match o b with | none => none | some q => match q.getLast? with | none => none | some m => if m ∈ idx then some (q.dropLast ++ [idx.idxOf m]) else none) = some (q ++ [j])
    rw [if_neg (nr b _ ho), ho]
    show (match (q ++ [idx[j]]).getLast? with | none => none | some m => if m ∈ idx then some ((q ++ [idx[j]]).dropLast ++ [idx.idxOf m]) else none) = some (q ++ [j])
    rw [List.getLast?_append]
    show (if idx[j] ∈ idx then some ((q ++ [idx[j]]).dropLast ++ [idx.idxOf idx[j]]) else none) = some (q ++ [j])
    rw [if_pos (List.getElem_mem hj), List.dropLast_concat, idx_at p.nd j hj]
  · have hq : (if b = r then some [] else match o b with | none => none | some q => match q.getLast? with | none => none | some m => if m ∈ idx then some (q.dropLast ++ [idx.idxOf m]) else none) = some q := hq
    by_cases z : b = r
    · subst z
      exact ⟨hH, by rw [e]; intro q; cases q⟩
    · rw [if_neg z] at hq
      cases e2 : o b with
      | none => rw [e2] at hq; cases hq
      | some q2 =>
        have dd := d b q2 e2
        refine ⟨dd.1, ?_⟩
        cases e3 : G b with
        | none => exact absurd e3 dd.2.1
        | some u => rw [s b u e3]; intro q; cases q
end L2


set_option maxHeartbeats 200000
namespace My
open PySem L2
local macro_rules | `(tactic| walk_at "rd") => `(tactic| repeat (first
  | refine ⟨_, rfl, ?_⟩
  | refine ⟨_, _, rfl, rfl, ?_⟩
  | refine ⟨_, _, rfl, ?_⟩
  | refine ⟨(by show (0 : Int) < _; decide), ?_⟩
  | refine ⟨(⟨by decide, by decide⟩ : CDiv _ _), ?_⟩
  | refine ⟨(⟨by decide, by decide⟩ : CDivB _ _), ?_⟩
  | refine ⟨(⟨by decide, by decide, by decide⟩ : CPow _ _), ?_⟩
  | refine ⟨(.inr ⟨by decide, by decide⟩ : CMul _ _), ?_⟩
  | refine ⟨(.inl ⟨by decide, by decide⟩ : CMul _ _), ?_⟩
  | refine ⟨Own.int, ?_⟩
  | refine ⟨Own.bl, ?_⟩
  | refine ⟨Own.str, ?_⟩
  | refine ⟨Own.non, ?_⟩
  | refine ⟨rfl, ?_⟩))
def isI : V → Bool
  | .int _ => true
  | _ => false
def inR (m : Int) : V → Bool
  | .int i => decide (1 ≤ i) && decide (i ≤ m)
  | _ => false
def spW (K : PySem.W.Frag) : Sp := fun vs H Q _ => ∃ x, vs = [x] ∧ Own K H x ∧ Q (.bl (isI x)) H
def spR (K : PySem.W.Frag) (m : Int) : Sp := fun vs H Q _ => ∃ x, vs = [x] ∧ Own K H x ∧ Q (.bl (inR m x)) H
def FrD (d : Addr) (H H' : Hp) : Prop := ∀ b u, b ≠ d → H b = some u → H' b = some u
def Seen (kvs kv' : List (Key × V)) (ns : List Int) : Prop := kv'.length = kvs.length + ns.length ∧ ∀ s : Int, valV kv' (Sum.inl s) = none ↔ valV kvs (Sum.inl s) = none ∧ s ∉ ns
structure Good (ns : List Int) : Prop where
  inn : ∀ s ∈ ns, inR 1000000000 (.int s) = true
  nd : ns.Nodup
def spSheetList : Sp := fun vs H Q _ => ∃ a d ns kvs, vs = [.ref a, .ref d] ∧ H a = some (.lst (ns.map V.int)) ∧ H d = some (.dK kvs) ∧ Good ns ∧ ns.Pairwise (· < ·) ∧ (∀ s ∈ ns, valV kvs (Sum.inl s) = none) ∧ kvs.length + ns.length ≤ 1000 ∧
  ∀ l kv' H', FrD d H H' → H l = none → H' l = some (.lst (ns.map V.int)) → H' d = some (.dK kv') → Seen kvs kv' ns → Q (.ref l) H'
theorem take_one {α : Type} {l : List α} {i : Nat} {x : α} (h : l[i]? = some x) : l.take (i + 1) = l.take i ++ [x] := by
  rw [List.take_succ, h]; rfl
theorem Seen.nil (kvs : List (Key × V)) : Seen kvs kvs [] := ⟨rfl, fun s => ⟨fun h => ⟨h, List.not_mem_nil⟩, fun h => h.1⟩⟩
theorem Seen.put {kvs kv' : List (Key × V)} {ns : List Int} {s : Int} {v : V} (h : Seen kvs kv' ns) (hs : valV kv' (Sum.inl s) = none) : Seen kvs (putK kv' (Sum.inl s) v) (ns ++ [s]) := by
  refine ⟨?_, fun x => ?_⟩
  · unfold putK
    rw [if_neg (by rw [valV_any, hs]; decide), List.length_append, List.length_append, h.1]
    rfl
  · rw [valV_put, List.mem_append, List.mem_singleton]
    by_cases e : x = s
    · subst e
      rw [if_pos rfl]
      exact ⟨fun z => (nomatch z), fun z => absurd (Or.inr rfl) z.2⟩
    · rw [if_neg (fun z => e (Sum.inl.inj z)), h.2 x]
      exact ⟨fun z => ⟨z.1, fun q => q.elim z.2 e⟩, fun z => ⟨z.1, fun q => z.2 (.inl q)⟩⟩
theorem Seen.more {k0 k1 k2 : List (Key × V)} {ns ms : List Int} (h : Seen k0 k1 ns) (h' : Seen k1 k2 ms) : Seen k0 k2 (ns ++ ms) := by
  refine ⟨by rw [h'.1, h.1, List.length_append, Nat.add_assoc], fun s => ?_⟩
  rw [h'.2 s, h.2 s, List.mem_append]
  exact ⟨fun z => ⟨z.1.1, fun q => q.elim z.1.2 z.2⟩, fun z => ⟨⟨z.1, fun q => z.2 (.inl q)⟩, fun q => z.2 (.inr q)⟩⟩
theorem FrD.refl (d : Addr) (H : Hp) : FrD d H H := fun b u _ h => h
theorem FrD.trans {d : Addr} {H H1 H2 : Hp} (a : FrD d H H1) (b : FrD d H1 H2) : FrD d H H2 := fun c u n h => b c u n (a c u n h)
theorem FrD.lst {d : Addr} {H H' : Hp} {kvs : List (Key × V)} (f : FrD d H H') (hd : H d = some (.dK kvs)) : ∀ a xs, H a = some (.lst xs) → H' a = some (.lst xs) := fun a xs h => f a _ (ne_of h hd (by intro z; cases z)) h
theorem FrD.some {d : Addr} {H H' : Hp} {kvs : List (Key × V)} (f : FrD d H H') (hd : H' d = some (.dK kvs)) : ∀ a, H a ≠ none → H' a ≠ none := fun a h => by
  by_cases e : a = d
  · subst e; rw [hd]; intro z; cases z
  · cases q : H a with
    | none => exact absurd q h
    | some u => rw [f a u e q]; intro z; cases z
/-- what a group is -/
structure Grp (n : Nat) (t : Tr n) : Prop where
  fu : full n t
  as : asc n t
  inn : ∀ s ∈ flat n t, inR 1000000000 (.int s) = true
  nd : (flat n t).Nodup
def spGroupList (n : Nat) : Sp := fun vs H Q _ => ∃ v d, ∃ t : Tr (n + 1), ∃ kvs, vs = [v, .int (3 - (n : Int)), .ref d] ∧ AtR H (n + 1) v t ∧ Grp (n + 1) t ∧ H d = some (.dK kvs) ∧ (∀ s ∈ flat (n + 1) t, valV kvs (Sum.inl s) = none) ∧ kvs.length + (flat (n + 1) t).length ≤ 1000 ∧
  ∀ w kv' H', FrD d H H' → New H H' (n + 1) w t → H' d = some (.dK kv') → Seen kvs kv' (flat (n + 1) t) → Q w H'
structure WF (S : Tr 4) : Prop where
  fu : ∀ g ∈ ls S, full 3 g
  as : asc 4 S
  inn : ∀ s ∈ flat 4 S, inR 1000000000 (.int s) = true
  nd : (flat 4 S).Nodup
theorem WF.grp {S : Tr 4} (h : WF S) {i : Nat} {g : Tr 3} (e : (ls S)[i]? = some g) : Grp 3 g :=
  have hm := List.mem_of_getElem? e
  ⟨h.fu g hm, h.as g hm, fun s hs => h.inn s (flat_mem hm hs), (flat_nd e h.nd).1⟩
theorem Grp.kid {n : Nat} {t : Tr (n + 2)} (h : Grp (n + 2) t) {i : Nat} {g : Tr (n + 1)} (e : (ls t)[i]? = some g) : Grp (n + 1) g :=
  have hm := List.mem_of_getElem? e
  ⟨h.fu.2 g hm, h.as g hm, fun s hs => h.inn s (flat_mem hm hs), (flat_nd e h.nd).1⟩
def spSorting (K : PySem.W.Frag) : Sp := fun vs H Q _ => ∃ v, ∃ S : Tr 4, vs = [v] ∧ AtR H 4 v S ∧ WF S ∧ (flat 4 S).length ≤ 1000 ∧ ∀ w H', Same H H' → New H H' 4 w S → Q w H'
theorem le_k {j k n : Nat} (h : j ≤ k) : j ≤ Nat.add k n := Nat.le_trans h (Nat.le_add_right k n)
theorem flat_pos : ∀ {n : Nat} {t : Tr n}, full n t → 1 ≤ (flat n t).length
  | 0, _, _ => Nat.le_refl 1
  | n + 1, t, h => by
    obtain ⟨x, r, e⟩ := List.exists_cons_of_ne_nil h.1
    have hx := flat_pos (h.2 x (by rw [e]; exact List.mem_cons_self ..))
    have e2 : flat (n + 1) t = flat n x ++ flat (n + 1) (r : List (Tr n)) := congrArg (fun z : List (Tr n) => flat (n + 1) z) e
    rw [e2, List.length_append]
    omega
theorem flat_full {n : Nat} : ∀ {ts : List (Tr n)}, (∀ t ∈ ts, full n t) → ts.length ≤ (flat (n + 1) ts).length
  | [], _ => Nat.zero_le _
  | x :: r, h => by
    have h1 := flat_pos (h x (List.mem_cons_self ..))
    have h2 := flat_full (ts := r) fun t ht => h t (List.mem_cons_of_mem _ ht)
    have e2 : flat (n + 1) (x :: r : List (Tr n)) = flat n x ++ flat (n + 1) (r : List (Tr n)) := rfl
    rw [e2, List.length_append, List.length_cons]
    omega
theorem seqNil {K : PySem.W.Frag} {H : Hp} {n : Nat} {a b : Addr} {xs : List V} (ha : SqL K H a xs) (hb : SqL K H b []) : SeqEq K H (EqD K H n) (.ref a) (.ref b) xs.isEmpty := by
  cases xs with
  | nil => exact .list (e := fun _ => true) ha hb rfl fun i x y h => (by rw [List.getElem?_nil] at h; cases h)
  | cons x r => exact .listN ha hb (by intro z; cases z)
theorem atI_ix {α : Type} {xs : List α} {i : Int} (h0 : 0 ≤ i) (h1 : i < xs.length) : ∃ j v, j < xs.length ∧ xs[j]? = some v ∧ atI xs i = some v ∧ ixN xs.length i = some j := by
  have hj : i.toNat < xs.length := by omega
  refine ⟨i.toNat, xs[i.toNat], hj, List.getElem?_eq_getElem hj, atI_toNat h0 (List.getElem?_eq_getElem hj), ?_⟩
  unfold ixN
  rw [if_pos h0, if_pos h1]
def spCell (K : PySem.W.Frag) : Sp := fun vs H Q _ => ∃ (a : Addr) (k : Int) (ns : List Int), vs = [.ref a, .int k] ∧ 0 ≤ k ∧ SqL K H a (ns.map V.int) ∧ ∀ i, Q (.int i) H
def spDrawn (K : PySem.W.Frag) : Sp := fun vs H Q _ => ∃ (a : Addr) (k : Int) (ns : List Int), vs = [.ref a, .int k] ∧ 0 ≤ k ∧ k < ns.length ∧ ns.length ≤ 63 ∧ SqL K H a (ns.map V.int) ∧ ∀ r, 0 ≤ r → Q (.int r) H
def spSheet : Sp := fun vs H Q _ => ∃ m k, vs = [.int m, .int k] ∧ 1 ≤ k ∧ k < 64 ∧ ∀ r, (r - 1) % 64 = k → inR 1000000000 (.int r) = true → Q (.int r) H
theorem inR_int (m i : Int) : inR m (.int i) = (decide (1 ≤ i) && decide (i ≤ m)) := rfl
theorem inR_of {m i : Int} (h1 : 1 ≤ i) (h2 : i ≤ m) : inR m (.int i) = true := by rw [inR_int, decide_eq_true h1, decide_eq_true h2]; rfl
/-- S with one sheet more -/
structure Put (S : Tr 4) (s : Int) (S' : Tr 4) : Prop where
  p : (flat 4 S').Perm (flat 4 S ++ [s])
  fu : (∀ g ∈ ls S, full 3 g) → ∀ g ∈ ls S', full 3 g
  as : asc 4 S → asc 4 S'
theorem Put.wf {S S' : Tr 4} {s : Int} (h : Put S s S') (w : WF S) (hs : s ∉ flat 4 S) (hr : inR 1000000000 (.int s) = true) : WF S' := by
  refine ⟨h.fu w.fu, h.as w.as, fun x hx => ?_, ?_⟩
  · rcases List.mem_append.mp (h.p.mem_iff.mp hx) with q | q
    · exact w.inn x q
    · rw [List.mem_singleton.mp q]; exact hr
  · rw [h.p.nodup_iff, List.nodup_append]
    exact ⟨w.nd, List.nodup_cons.mpr ⟨List.not_mem_nil, List.nodup_nil⟩, fun x hx y hy e => hs (by rw [← List.mem_singleton.mp hy, ← e]; exact hx)⟩
theorem full_all_set {n : Nat} {ts : List (Tr n)} {i : Nat} {t : Tr n} (h : ∀ g ∈ ts, full n g) (ht : full n t) : ∀ g ∈ ts.set i t, full n g := fun x hx => by
  rcases List.mem_or_eq_of_mem_set hx with q | q
  · exact h x q
  · rw [q]; exact ht
/-- a group with one sheet more -/
structure PutG (n : Nat) (t : Tr (n + 1)) (s : Int) (t' : Tr (n + 1)) : Prop where
  p : (flat (n + 1) t').Perm (flat (n + 1) t ++ [s])
  fu : full (n + 1) t → full (n + 1) t'
  as : asc (n + 1) t → asc (n + 1) t'
theorem PutG.up {n : Nat} {ts : Tr (n + 2)} {i : Nat} {t t' : Tr (n + 1)} {s : Int} (h : PutG n t s t') (e : (ls ts)[i]? = some t) : PutG (n + 1) ts s ((ls ts).set i t' : List (Tr (n + 1))) :=
  have hm := List.mem_of_getElem? e
  ⟨flat_set (n + 1) (ls ts) i t t' s e h.p, fun f => full_set f (h.fu (f.2 t hm)), fun a => asc_set a (h.as (a t hm))⟩
theorem PutG.top {S : Tr 4} {i : Nat} {t t' : Tr 3} {s : Int} (h : PutG 2 t s t') (e : (ls S)[i]? = some t) : Put S s ((ls S).set i t' : List (Tr 3)) :=
  have hm := List.mem_of_getElem? e
  ⟨flat_set 3 (ls S) i t t' s e h.p, fun f => full_all_set f (h.fu (f t hm)), fun a => asc_set a (h.as (a t hm))⟩
/-- a new group with this sheet alone -/
def solo : (n : Nat) → Int → Tr n
  | 0, s => s
  | n + 1, s => ([solo n s] : List (Tr n))
theorem solo_flat : ∀ (n : Nat) (s : Int), flat n (solo n s) = [s]
  | 0, s => rfl
  | n + 1, s => by
    show flat n (solo n s) ++ [] = [s]
    rw [solo_flat n s]
    rfl
theorem solo_full : ∀ (n : Nat) (s : Int), full n (solo n s)
  | 0, _ => trivial
  | n + 1, s => ⟨List.cons_ne_nil _ _, fun t ht => by rw [List.mem_singleton.mp ht]; exact solo_full n s⟩
theorem solo_asc : ∀ (n : Nat) (s : Int), asc n (solo n s)
  | 0, _ => trivial
  | 1, s => List.pairwise_singleton _ _
  | n + 2, s => fun t ht => by rw [List.mem_singleton.mp ht]; exact solo_asc (n + 1) s
theorem PutG.app {n : Nat} (ts : Tr (n + 2)) (s : Int) : PutG (n + 1) ts s (ls ts ++ [solo (n + 1) s] : List (Tr (n + 1))) := by
  refine ⟨?_, fun f => full_app f (solo_full _ s), fun a => asc_app a (solo_asc _ s)⟩
  rw [flat_app]
  have e : flat (n + 2) ([solo (n + 1) s] : List (Tr (n + 1))) = [s] := solo_flat (n + 2) s
  rw [e]
theorem Put.app (S : Tr 4) (s : Int) : Put S s (ls S ++ [solo 3 s] : List (Tr 3)) := by
  refine ⟨?_, fun f x hx => ?_, fun a => asc_app a (solo_asc _ s)⟩
  · rw [flat_app]
    have e : flat 4 ([solo 3 s] : List (Tr 3)) = [s] := solo_flat 4 s
    rw [e]
  · rcases List.mem_append.mp hx with q | q
    · exact f x q
    · rw [List.mem_singleton.mp q]; exact solo_full 3 s
theorem PutG.form {f f' : List Int} {s : Int} (p : f'.Perm (f ++ [s])) (hs : f'.Pairwise (· ≤ ·)) (hn : s ∉ f) : PutG 0 f s f' := by
  refine ⟨(List.Perm.of_eq (flat_ints f')).trans (p.trans (List.Perm.of_eq (congrArg (· ++ [s]) (flat_ints f).symm))), fun _ => ⟨fun z => ?_, fun t _ => trivial⟩, fun a => ?_⟩
  · have z : f' = [] := z
    rw [z] at p
    exact absurd (p.mem_iff.mpr (List.mem_append_right _ (List.mem_singleton.mpr rfl))) List.not_mem_nil
  · have a : f.Pairwise (· < ·) := a
    have nd : f.Nodup := a.imp fun h => Int.ne_of_lt h
    have nd' : f'.Nodup := by
      rw [p.nodup_iff, List.nodup_append]
      exact ⟨nd, List.nodup_cons.mpr ⟨List.not_mem_nil, List.nodup_nil⟩, fun x hx y hy e => hn (by rw [← List.mem_singleton.mp hy, ← e]; exact hx)⟩
    show f'.Pairwise (· < ·)
    exact (hs.and nd').imp fun h => by omega
def spPut : Sp := fun vs H Q _ => ∃ v s m, ∃ S : Tr 4, ∃ o : Ow, vs = [v, .int s, .int m] ∧ At o H 4 [] v S ∧ Dom o H ∧ WF S ∧ s ∉ flat 4 S ∧ (flat 4 S).length < 60 ∧
  ∀ H', ∀ S' : Tr 4, ∀ o' : Ow, (∀ b u, o b = none → H b = some u → H' b = some u) → At o' H' 4 [] v S' → Dom o' H' → (∀ b r, o' b = some r → o b = none → H b = none) → Put S s S' → Q .non H'
theorem newSolo {H H1 : Hp} {n : Nat} {w : V} {s : Int} {q : Addr} (h : New H H1 n w (solo n s)) (hq : H1 q = none) (sm : Same H H1) : New H (upd H1 q (.lst [w])) (n + 1) (.ref q) (solo (n + 1) s) := by
  have nq : H q = none := sm.free hq
  have nl : NewL H1 H1 q n [] [] := NewL.nil
  obtain ⟨o, k, d⟩ := h
  refine ⟨fun b => if b = q then some [] else (o b).map (· ++ [0]), ⟨q, [w], rfl, if_pos rfl, upd_same, rfl, fun j x t hx ht => ?_⟩, fun b r hr => ?_⟩
  · match j, hx, ht with
    | 0, hx, ht =>
      cases hx
      have ht : some (solo n s) = some t := ht
      cases ht
      refine (k.under [0]).frame fun b r xs hb _ hx => ⟨?_, ?_⟩
      · rw [upd_ne (fun z => by rw [z, hq] at hx; cases hx)]
        exact hx
      · show (if b = q then some [] else (o b).map (· ++ [0])) = some r
        rw [if_neg (fun z => by rw [z, hq] at hx; cases hx)]
        exact hb
    | j + 1, hx, ht => cases hx
  · have hr : (if b = q then some [] else (o b).map (· ++ [0])) = some r := hr
    by_cases e : b = q
    · subst e
      exact ⟨nq, by rw [upd_same]; intro z; cases z⟩
    · rw [if_neg e] at hr
      cases e2 : o b with
      | none => rw [e2] at hr; cases hr
      | some r' => exact ⟨(d b r' e2).1, by rw [upd_ne e]; exact (d b r' e2).2⟩
theorem putEnd {o o' : Ow} {G G1 : Hp} {c : Addr} {u : HO} {pc : List Nat} (x : Ext o o' G G1) (s : Same G G1) (hc : o c = some pc) : (∀ b v, o b = none → G b = some v → upd G1 c u b = some v) ∧ ∀ b r, o' b = some r → o b = none → G b = none := by
  refine ⟨fun b v hb hv => ?_, fun b r hr hb => ?_⟩
  · rw [upd_ne (fun z => by rw [z, hc] at hb; cases hb)]
    exact s b v hv
  · cases e : G b with
    | none => rfl
    | some v => rw [x.old b (by rw [e]; intro z; cases z), hb] at hr; cases hr
def spLSort (K : PySem.W.Frag) : Sp := fun vs H Q _ => ∃ (a : Addr) (ns : List Int) (mx : Int), vs = [.ref a, .int 1, .int mx] ∧ 0 ≤ mx ∧ mx ≤ 60 ∧ SqL K H a (ns.map V.int) ∧ ns.length ≤ 63 ∧
  ∀ w H', ∀ S : Tr 4, Same H H' → New H H' 4 w S → WF S → (flat 4 S).length ≤ 60 → Q w H'
/-- no list in it is long -/
def small : (n : Nat) → Tr n → Prop
  | 0, _ => True
  | n + 1, ts => (ls ts).length ≤ 1000 ∧ ∀ t ∈ ls ts, small n t
theorem small_of : ∀ {n : Nat} {t : Tr n}, full n t → (flat n t).length ≤ 1000 → small n t
  | 0, _, _, _ => trivial
  | n + 1, t, h, l => ⟨Nat.le_trans (flat_full (fun x hx => h.2 x hx) (ts := ls t)) l, fun x hx => by
    obtain ⟨i, e⟩ := List.getElem?_of_mem hx
    have := flat_len e
    exact small_of (h.2 x hx) (Nat.le_trans (Nat.le_trans (Nat.le_add_left _ _) this) l)⟩
theorem small_S {S : Tr 4} (h : ∀ g ∈ ls S, full 3 g) (l : (flat 4 S).length ≤ 1000) : small 4 S :=
  ⟨Nat.le_trans (flat_full (fun x hx => h x hx) (ts := ls S)) l, fun x hx => by
    obtain ⟨i, e⟩ := List.getElem?_of_mem hx
    have := flat_len e
    exact small_of (h x hx) (Nat.le_trans (Nat.le_trans (Nat.le_add_left _ _) this) l)⟩
def spSame (n : Nat) : Sp := fun vs H Q _ => ∃ v w, ∃ t : Tr n, vs = [v, w] ∧ AtR H n v t ∧ AtR H n w t ∧ small n t ∧ Q (.bl true) H
def spCopy : Sp := fun vs H Q _ => ∃ v, ∃ S : Tr 4, vs = [v] ∧ AtR H 4 v S ∧ (flat 4 S).length ≤ 1000 ∧ (∀ g ∈ ls S, full 3 g) ∧ ∀ w H', Same H H' → New H H' 4 w S → Q w H'
theorem WF.nil : WF ([] : List (Tr 3)) := by
  refine ⟨fun g h => ?_, fun g h => ?_, fun s h => ?_, List.nodup_nil⟩
  · exact absurd (show g ∈ ([] : List (Tr 3)) from h) List.not_mem_nil
  · exact absurd (show g ∈ ([] : List (Tr 3)) from h) List.not_mem_nil
  · exact absurd (show s ∈ ([] : List Int) from h) List.not_mem_nil
theorem small_solo : ∀ (n : Nat) (s : Int), small n (solo n s)
  | 0, _ => trivial
  | n + 1, s => ⟨by show 1 ≤ 1000; decide, fun t ht => by rw [List.mem_singleton.mp ht]; exact small_solo n s⟩
theorem small_kid {n : Nat} {ts : Tr (n + 1)} {s : Int} {i : Nat} {t : Tr n} (h : small (n + 1) ts) (e : (ls (ls ts ++ [solo n s] : List (Tr n)))[i]? = some t) : small n t := by
  rcases List.mem_append.mp (List.mem_of_getElem? e) with q | q
  · exact h.2 t q
  · rw [List.mem_singleton.mp q]; exact small_solo n s
def spChange : Sp := fun vs H Q _ => ∃ v m, ∃ S : Tr 4, ∃ o : Ow, vs = [v, .int m] ∧ At o H 4 [] v S ∧ Dom o H ∧ small 4 S ∧ ∀ H', (∀ b u, o b = none → H b = some u → H' b = some u) → Q .non H'
/-- what is not owned by o stays -/
def Kp (o : Ow) (H : Hp) (o1 : Ow) (G : Hp) : Prop := ∀ b u, o b = none → H b = some u → G b = some u ∧ o1 b = none
theorem Kp.step {o o1 o2 : Ow} {H G G1 : Hp} {c : Addr} {w : HO} {pc : List Nat} (k : Kp o H o1 G) (x : Ext o1 o2 G G1) (s : Same G G1) (hc : o1 c = some pc) : Kp o H o2 (upd G1 c w) := fun b u hb hu => by
  obtain ⟨h1, h2⟩ := k b u hb hu
  refine ⟨(putEnd x s hc).1 b u h2 h1, ?_⟩
  rw [x.old b (some_ne h1)]
  exact h2
theorem nd_take {ns : List Int} {i : Nat} {s : Int} (h : ns.Nodup) (hs : ns[i]? = some s) : s ∉ ns.take i := fun z => by
  have e : ns = ns.take i ++ s :: ns.drop (i + 1) := by
    obtain ⟨hi, rfl⟩ := List.getElem?_eq_some_iff.mp hs
    rw [List.getElem_cons_drop hi, List.take_append_drop]
  rw [e, List.nodup_append] at h
  exact h.2.2 s z s (List.mem_cons_self ..) rfl
theorem atI_last {α : Type} (xs : List α) (v : α) : atI (xs ++ [v]) (-1) = some v := by
  have e : ixN (xs ++ [v]).length (-1) = some xs.length := by
    unfold ixN
    rw [List.length_append, List.length_singleton]
    simp
    omega
  unfold atI
  rw [e]
  simp
theorem getI {ns : List Int} {i : Nat} {x : V} (h : (ns.map V.int)[i]? = some x) : ∃ s, ns[i]? = some s ∧ x = .int s := by
  rw [List.getElem?_map] at h
  cases e : ns[i]? with
  | none => rw [e] at h; cases h
  | some s => rw [e] at h; exact ⟨s, rfl, (Option.some.inj h).symm⟩
def srt (ns : List Int) : List Int := ns.mergeSort fun a b => decide (a ≤ b)
theorem srt_perm (ns : List Int) : (srt ns).Perm ns := List.mergeSort_perm ..
theorem srt_pw (ns : List Int) : (srt ns).Pairwise (· ≤ ·) :=
  (List.pairwise_mergeSort (le := fun a b => decide (a ≤ b)) (fun a b c h1 h2 => decide_eq_true (Int.le_trans (of_decide_eq_true h1) (of_decide_eq_true h2))) (fun a b => by
    rcases Int.le_total a b with h | h
    · rw [decide_eq_true h]; rfl
    · rw [decide_eq_true h, Bool.or_true]) ns).imp fun h => of_decide_eq_true h
theorem srt_is {ms ns : List Int} (p : ms.Perm ns) (h : ms.Pairwise (· ≤ ·)) : ms = srt ns :=
  (p.trans (srt_perm ns).symm).eq_of_pairwise (fun a b _ _ h1 h2 => Int.le_antisymm h1 h2) h (srt_pw ns)
theorem srt_asc {ns : List Int} (h : ns.Pairwise (· < ·)) : srt ns = ns := (srt_is (List.Perm.refl ns) (h.imp fun h => Int.le_of_lt h)).symm
abbrev Rw := List Int × List Int
def rows : (n : Nat) → List Int → List (Tr (n + 1)) → List Rw
  | 0, p, ts => ts.zipIdx.flatMap fun x => [(p ++ [(x.2 : Int)], x.1)]
  | n + 1, p, ts => ts.zipIdx.flatMap fun x => (p ++ [(x.2 : Int)], srt (flat (n + 2) x.1)) :: rows n (p ++ [(x.2 : Int)]) x.1
/-- the rows of one group -/
def one : (n : Nat) → List Int → Nat → Tr (n + 1) → List Rw
  | 0, p, i, t => [(p ++ [(i : Int)], t)]
  | n + 1, p, i, t => (p ++ [(i : Int)], srt (flat (n + 2) t)) :: rows n (p ++ [(i : Int)]) t
theorem rows_one : ∀ (n : Nat) (p : List Int) (ts : List (Tr (n + 1))), rows n p ts = ts.zipIdx.flatMap fun x => one n p x.2 x.1
  | 0, _, _ => rfl
  | _ + 1, _, _ => rfl
theorem rows_take {n : Nat} {p : List Int} {ts : List (Tr (n + 1))} {i : Nat} {t : Tr (n + 1)} (h : ts[i]? = some t) : rows n p (ts.take (i + 1)) = rows n p (ts.take i) ++ one n p i t := by
  have e : ts.take (i + 1) = ts.take i ++ [t] := by rw [List.take_succ, h]; rfl
  have hi : i < ts.length := (List.getElem?_eq_some_iff.mp h).1
  have el : (ts.take i).length = i := by rw [List.length_take]; omega
  rw [rows_one, rows_one, e, List.zipIdx_append, List.flatMap_append, el]
  show _ ++ (one n p (0 + i) t ++ []) = _
  rw [Nat.zero_add, List.append_nil]
def sheets3 (rs : List Rw) : List Int := rs.flatMap fun r => if r.1.length = 3 then r.2 else []
theorem sheets3_app (a b : List Rw) : sheets3 (a ++ b) = sheets3 a ++ sheets3 b := List.flatMap_append
theorem rows_flat : ∀ (n : Nat) (p : List Int) (ts : List (Tr (n + 1))), p.length + n = 2 → sheets3 (rows n p ts) = flat (n + 2) ts := by
  intro n
  induction n with
  | zero =>
    intro p ts hp
    have : ∀ (us : List (Tr 1)) (k : Nat), sheets3 ((us.zipIdx k).flatMap fun x => one 0 p x.2 x.1) = flat 2 us := by
      intro us
      induction us with
      | nil => intro k; rfl
      | cons t r ih =>
        intro k
        rw [List.zipIdx_cons, List.flatMap_cons, sheets3_app, ih (k + 1)]
        have e : sheets3 (one 0 p (t, k).snd (t, k).fst) = flat 1 t := by
          show List.append (if (p ++ [(k : Int)]).length = 3 then ls t else []) [] = flat 1 t
          rw [if_pos (by rw [List.length_append]; show p.length + 1 = 3; omega)]
          exact (List.append_nil (ls t)).trans (flat_ints t).symm
        rw [e]
        rfl
    rw [rows_one]
    exact this ts 0
  | succ n ih0 =>
    intro p ts hp
    have : ∀ (us : List (Tr (n + 2))) (k : Nat), sheets3 ((us.zipIdx k).flatMap fun x => one (n + 1) p x.2 x.1) = flat (n + 3) us := by
      intro us
      induction us with
      | nil => intro k; rfl
      | cons t r ih =>
        intro k
        rw [List.zipIdx_cons, List.flatMap_cons, sheets3_app, ih (k + 1)]
        have e : sheets3 (one (n + 1) p (t, k).snd (t, k).fst) = flat (n + 2) t := by
          have el : (p ++ [(k : Int)]).length = p.length + 1 := by rw [List.length_append]; rfl
          show List.append (if (p ++ [(k : Int)]).length = 3 then srt (flat (n + 2) t) else []) (sheets3 (rows n (p ++ [(k : Int)]) (ls t))) = _
          rw [if_neg (by omega)]
          exact ih0 _ (ls t) (by omega)
        rw [e]
        rfl
    rw [rows_one]
    exact this ts 0
theorem rows_len : ∀ (n : Nat) (p : List Int) (ts : List (Tr (n + 1))), (∀ t ∈ ts, full (n + 1) t) → (rows n p ts).length ≤ (n + 1) * (flat (n + 2) ts).length := by
  intro n
  induction n with
  | zero =>
    intro p ts hf
    have : ∀ (us : List (Tr 1)) (k : Nat), (∀ t ∈ us, full 1 t) → ((us.zipIdx k).flatMap fun x => one 0 p x.2 x.1).length ≤ (flat 2 us).length := by
      intro us
      induction us with
      | nil => intro k _; exact Nat.le_refl _
      | cons t r ih =>
        intro k hf
        rw [List.zipIdx_cons, List.flatMap_cons, List.length_append]
        have h1 := ih (k + 1) fun t ht => hf t (List.mem_cons_of_mem _ ht)
        have h2 := flat_pos (hf t (List.mem_cons_self ..))
        have e2 : flat 2 (t :: r : List (Tr 1)) = flat 1 t ++ flat 2 (r : List (Tr 1)) := rfl
        rw [e2, List.length_append]
        have e3 : (one 0 p (t, k).snd (t, k).fst).length = 1 := rfl
        omega
    rw [rows_one]
    have h := this ts 0 hf
    exact Nat.le_trans h (Nat.le_of_eq (Nat.one_mul _).symm)
  | succ n ih0 =>
    intro p ts hf
    have : ∀ (us : List (Tr (n + 2))) (k : Nat), (∀ t ∈ us, full (n + 2) t) → ((us.zipIdx k).flatMap fun x => one (n + 1) p x.2 x.1).length ≤ (n + 2) * (flat (n + 3) us).length := by
      intro us
      induction us with
      | nil => intro k _; exact Nat.zero_le _
      | cons t r ih =>
        intro k hf
        rw [List.zipIdx_cons, List.flatMap_cons, List.length_append]
        have h1 := ih (k + 1) fun t ht => hf t (List.mem_cons_of_mem _ ht)
        have h2 := flat_pos (hf t (List.mem_cons_self ..))
        have h3 : (rows n (p ++ [(k : Int)]) (ls t)).length ≤ (n + 1) * (flat (n + 2) t).length := ih0 (p ++ [(k : Int)]) (ls t) (hf t (List.mem_cons_self ..)).2
        have e2 : flat (n + 3) (t :: r : List (Tr (n + 2))) = flat (n + 2) t ++ flat (n + 3) (r : List (Tr (n + 2))) := rfl
        rw [e2, List.length_append, Nat.mul_add]
        have e3 : (one (n + 1) p (t, k).snd (t, k).fst).length = (rows n (p ++ [(k : Int)]) (ls t)).length + 1 := rfl
        have e4 : (n + 2) * (flat (n + 2) t).length = (n + 1) * (flat (n + 2) t).length + (flat (n + 2) t).length := by rw [Nat.succ_mul]
        omega
    rw [rows_one]
    exact this ts 0 hf
def RowT (H0 H : Hp) (v : V) (r : Rw) : Prop := ∃ t ip sl, v = .ref t ∧ H t = some (.tup [.ref ip, .ref sl]) ∧ H ip = some (.tup (r.1.map V.int)) ∧ H sl = some (.lst (r.2.map V.int)) ∧ H0 sl = none
def RowsAt (H0 H : Hp) (vs : List V) (rs : List Rw) : Prop := vs.length = rs.length ∧ ∀ (j : Nat) v r, vs[j]? = some v → rs[j]? = some r → RowT H0 H v r
theorem RowT.same {H0 H H' : Hp} {v : V} {r : Rw} (h : RowT H0 H v r) (s : Same H H') : RowT H0 H' v r := let ⟨t, ip, sl, e, a, b, c, d⟩ := h; ⟨t, ip, sl, e, s _ _ a, s _ _ b, s _ _ c, d⟩
theorem RowT.older {H0 H1 H : Hp} {v : V} {r : Rw} (h : RowT H1 H v r) (s : Same H0 H1) : RowT H0 H v r := let ⟨t, ip, sl, e, a, b, c, d⟩ := h; ⟨t, ip, sl, e, a, b, c, s.free d⟩
theorem RowsAt.same {H0 H H' : Hp} {vs : List V} {rs : List Rw} (h : RowsAt H0 H vs rs) (s : Same H H') : RowsAt H0 H' vs rs := ⟨h.1, fun j v r a b => (h.2 j v r a b).same s⟩
theorem RowsAt.older {H0 H1 H : Hp} {vs : List V} {rs : List Rw} (h : RowsAt H1 H vs rs) (s : Same H0 H1) : RowsAt H0 H vs rs := ⟨h.1, fun j v r a b => (h.2 j v r a b).older s⟩
theorem RowsAt.elder {H0 H1 H : Hp} {vs : List V} {rs : List Rw} (h : RowsAt H1 H vs rs) (f : ∀ b, H1 b = none → H0 b = none) : RowsAt H0 H vs rs := ⟨h.1, fun j v r a b => let ⟨t, ip, sl, e, a1, b1, c1, d1⟩ := h.2 j v r a b; ⟨t, ip, sl, e, a1, b1, c1, f _ d1⟩⟩
theorem RowsAt.nil {H0 H : Hp} : RowsAt H0 H [] [] := ⟨rfl, fun j v r h => by rw [List.getElem?_nil] at h; cases h⟩
theorem RowsAt.app {H0 H : Hp} {vs ws : List V} {rs qs : List Rw} (h : RowsAt H0 H vs rs) (h' : RowsAt H0 H ws qs) : RowsAt H0 H (vs ++ ws) (rs ++ qs) := by
  refine ⟨by rw [List.length_append, List.length_append, h.1, h'.1], fun j v r hv hr => ?_⟩
  rcases Nat.lt_or_ge j vs.length with q | q
  · rw [List.getElem?_append_left q] at hv
    rw [List.getElem?_append_left (by rw [← h.1]; exact q)] at hr
    exact h.2 j v r hv hr
  · rw [List.getElem?_append_right q] at hv
    rw [List.getElem?_append_right (by rw [← h.1]; exact q), ← h.1] at hr
    exact h'.2 _ v r hv hr
theorem RowsAt.one {H0 H : Hp} {v : V} {r : Rw} (h : RowT H0 H v r) : RowsAt H0 H [v] [r] := by
  refine ⟨rfl, fun j w q hw hq => ?_⟩
  match j, hw, hq with
  | 0, hw, hq => cases hw; cases hq; exact h
  | j + 1, hw, hq => cases hw
/-- but for the list that grows -/
theorem RowT.upd {H0 H : Hp} {v : V} {r : Rw} {l : Addr} {xs ys : List V} (h : RowT H0 H v r) (hl : H l = some (.lst xs)) (hl0 : H0 l ≠ none) : RowT H0 (L2.upd H l (.lst ys)) v r := by
  obtain ⟨t, ip, sl, e, a, b, c, d⟩ := h
  have n1 : t ≠ l := fun z => by rw [z, hl] at a; cases a
  have n2 : ip ≠ l := fun z => by rw [z, hl] at b; cases b
  have n3 : sl ≠ l := fun z => hl0 (z ▸ d)
  exact ⟨t, ip, sl, e, by rw [upd_ne n1]; exact a, by rw [upd_ne n2]; exact b, by rw [upd_ne n3]; exact c, d⟩
theorem RowsAt.upd {H0 H : Hp} {vs : List V} {rs : List Rw} {l : Addr} {xs ys : List V} (h : RowsAt H0 H vs rs) (hl : H l = some (.lst xs)) (hl0 : H0 l ≠ none) : RowsAt H0 (L2.upd H l (.lst ys)) vs rs := ⟨h.1, fun j v r a b => (h.2 j v r a b).upd hl hl0⟩
def spSheetsOf : Sp := fun vs H Q _ => ∃ l ws H0 rs, vs = [.ref l] ∧ H l = some (.lst ws) ∧ RowsAt H0 H ws rs ∧ (sheets3 rs).length < 64 ∧ rs.length ≤ 1000 ∧ ∀ q H', Same H H' → H q = none → H' q = some (.lst ((srt (sheets3 rs)).map V.int)) → Q (.ref q) H'
def spGroupsIn (K : PySem.W.Frag) (n : Nat) : Sp := fun vs H Q _ => ∃ tp ps v, ∃ ts : Tr (n + 2), vs = [.ref tp, v] ∧ SqT K H tp (ps.map V.int) ∧ ps.length + n = 2 ∧ AtR H (n + 2) v ts ∧ (∀ t ∈ ls ts, full (n + 1) t) ∧ (flat (n + 2) ts).length < 64 ∧
  ∀ l ws H', Same H H' → H l = none → H' l = some (.lst ws) → RowsAt H H' ws (rows n ps (ls ts)) → Q (.ref l) H'
def spGroups (K : PySem.W.Frag) : Sp := fun vs H Q _ => ∃ v, ∃ S : Tr 4, vs = [v] ∧ AtR H 4 v S ∧ WF S ∧ (flat 4 S).length < 64 ∧ ∀ l ws H', Same H H' → H l = none → H' l = some (.lst ws) → RowsAt H H' ws (rows 2 [] (ls S)) → Q (.ref l) H'
def RowL (H : Hp) (v : V) (r : Rw) : Prop := ∃ a t l, v = .ref a ∧ H a = some (.lst [.ref t, .ref l]) ∧ H t = some (.tup (r.1.map V.int)) ∧ H l = some (.lst (r.2.map V.int))
def RowsL (H : Hp) (vs : List V) (rs : List Rw) : Prop := vs.length = rs.length ∧ ∀ (j : Nat) v r, vs[j]? = some v → rs[j]? = some r → RowL H v r
theorem RowL.keep {H H' : Hp} {v : V} {r : Rw} (h : RowL H v r) (s : ∀ b u, H b = some u → H' b = some u) : RowL H' v r := let ⟨a, t, l, e, h1, h2, h3⟩ := h; ⟨a, t, l, e, s _ _ h1, s _ _ h2, s _ _ h3⟩
theorem RowsL.same {H H' : Hp} {vs : List V} {rs : List Rw} (h : RowsL H vs rs) (s : Same H H') : RowsL H' vs rs := ⟨h.1, fun j v r a b => (h.2 j v r a b).keep s⟩
/-- rows none of whose lists is one of X -/
def RowX (X : Addr → Prop) (H : Hp) (v : V) (r : Rw) : Prop := ∃ a t l, v = .ref a ∧ H a = some (.lst [.ref t, .ref l]) ∧ H t = some (.tup (r.1.map V.int)) ∧ H l = some (.lst (r.2.map V.int)) ∧ ¬ X a ∧ ¬ X l
def RowsX (X : Addr → Prop) (H : Hp) (vs : List V) (rs : List Rw) : Prop := vs.length = rs.length ∧ ∀ (j : Nat) v r, vs[j]? = some v → rs[j]? = some r → RowX X H v r
theorem RowX.l {X : Addr → Prop} {H : Hp} {v : V} {r : Rw} (h : RowX X H v r) : RowL H v r := let ⟨a, t, l, e, h1, h2, h3, _⟩ := h; ⟨a, t, l, e, h1, h2, h3⟩
theorem RowsX.l {X : Addr → Prop} {H : Hp} {vs : List V} {rs : List Rw} (h : RowsX X H vs rs) : RowsL H vs rs := ⟨h.1, fun j v r a b => (h.2 j v r a b).l⟩
theorem RowX.keep {X Y : Addr → Prop} {H H' : Hp} {v : V} {r : Rw} (h : RowX X H v r) (s : ∀ b u, H b = some u → ¬ X b → H' b = some u ∧ ¬ Y b) (ht : ∀ b ys, H b = some (.tup ys) → H' b = some (.tup ys)) : RowX Y H' v r := by
  obtain ⟨a, t, l, e, h1, h2, h3, n1, n2⟩ := h
  exact ⟨a, t, l, e, (s _ _ h1 n1).1, ht _ _ h2, (s _ _ h3 n2).1, (s _ _ h1 n1).2, (s _ _ h3 n2).2⟩
theorem RowsX.keep {X Y : Addr → Prop} {H H' : Hp} {vs : List V} {rs : List Rw} (h : RowsX X H vs rs) (s : ∀ b u, H b = some u → ¬ X b → H' b = some u ∧ ¬ Y b) (ht : ∀ b ys, H b = some (.tup ys) → H' b = some (.tup ys)) : RowsX Y H' vs rs := ⟨h.1, fun j v r a b => (h.2 j v r a b).keep s ht⟩
theorem RowsX.app {X : Addr → Prop} {H : Hp} {vs ws : List V} {rs qs : List Rw} (h : RowsX X H vs rs) (h' : RowsX X H ws qs) : RowsX X H (vs ++ ws) (rs ++ qs) := by
  refine ⟨by rw [List.length_append, List.length_append, h.1, h'.1], fun j v r hv hr => ?_⟩
  rcases Nat.lt_or_ge j vs.length with q | q
  · rw [List.getElem?_append_left q] at hv
    rw [List.getElem?_append_left (by rw [← h.1]; exact q)] at hr
    exact h.2 j v r hv hr
  · rw [List.getElem?_append_right q] at hv
    rw [List.getElem?_append_right (by rw [← h.1]; exact q), ← h.1] at hr
    exact h'.2 _ v r hv hr
theorem RowsL.app {H : Hp} {vs ws : List V} {rs qs : List Rw} (h : RowsL H vs rs) (h' : RowsL H ws qs) : RowsL H (vs ++ ws) (rs ++ qs) := by
  refine ⟨by rw [List.length_append, List.length_append, h.1, h'.1], fun j v r hv hr => ?_⟩
  rcases Nat.lt_or_ge j vs.length with q | q
  · rw [List.getElem?_append_left q] at hv
    rw [List.getElem?_append_left (by rw [← h.1]; exact q)] at hr
    exact h.2 j v r hv hr
  · rw [List.getElem?_append_right q] at hv
    rw [List.getElem?_append_right (by rw [← h.1]; exact q), ← h.1] at hr
    exact h'.2 _ v r hv hr
theorem RowsL.one {H : Hp} {v : V} {r : Rw} (h : RowL H v r) : RowsL H [v] [r] := by
  refine ⟨rfl, fun j w q hw hq => ?_⟩
  match j, hw, hq with
  | 0, hw, hq => cases hw; cases hq; exact h
  | j + 1, hw, hq => cases hw
theorem RowsX.one {X : Addr → Prop} {H : Hp} {v : V} {r : Rw} (h : RowX X H v r) : RowsX X H [v] [r] := by
  refine ⟨rfl, fun j w q hw hq => ?_⟩
  match j, hw, hq with
  | 0, hw, hq => cases hw; cases hq; exact h
  | j + 1, hw, hq => cases hw
theorem atI_mid {α : Type} (xs ys : List α) (v : α) : atI (xs ++ [v] ++ ys) (xs.length : Int) = some v := atI_nat (by simp)
theorem RowsX.nil {X : Addr → Prop} {H : Hp} : RowsX X H [] [] := ⟨rfl, fun j v r h => by rw [List.getElem?_nil] at h; cases h⟩
theorem RowsL.nil {H : Hp} : RowsL H [] [] := ⟨rfl, fun j v r h => by rw [List.getElem?_nil] at h; cases h⟩
theorem AtR.ofInts {H : Hp} {a : Addr} {ns : List Int} (h : H a = some (.lst (ns.map V.int))) : AtR H 1 (.ref a) ns :=
  ⟨a, _, rfl, h, List.length_map .., fun j w t hw ht => by
    have ht : ns[j]? = some t := ht
    rw [List.getElem?_map, ht] at hw
    cases hw
    rfl⟩
/-- rows of which all can be held one beside the other -/
def Short (rs : List Rw) : Prop := rs.length ≤ 1000 ∧ ∀ r ∈ rs, r.1.length ≤ 1000 ∧ r.2.length ≤ 1000
def spRight : Sp := fun vs H Q _ => ∃ l ws m us H0 rs, vs = [.ref l, .ref m] ∧ H l = some (.lst ws) ∧ RowsAt H0 H ws rs ∧ H m = some (.lst us) ∧ RowsL H us rs ∧ Short rs ∧ ∀ H', Same H H' → Q (.bl true) H'
def spDue : Sp := fun vs H Q _ => ∃ v, ∃ S : Tr 4, vs = [v] ∧ AtR H 4 v S ∧ WF S ∧ (flat 4 S).length < 64 ∧ ∀ l ws H', Same H H' → H' l = some (.lst ws) → RowsL H' ws (rows 2 [] (ls S)) → Q (.ref l) H'
def firstP : List Rw → Int → Option (List Int)
  | [], _ => none
  | r :: rs, s => if r.1.length = 3 ∧ s ∈ r.2 then some r.1 else firstP rs s
def PathV (H : Hp) (w : V) (o : Option (List Int)) : Prop := match o with | none => w = .non | some p => ∃ ip, w = .ref ip ∧ H ip = some (.tup (p.map V.int))
theorem inV_ints (s : Int) : ∀ ns : List Int, inV (.int s) (ns.map V.int) = decide (s ∈ ns)
  | [] => rfl
  | n :: ns => by
    show (eqV (.int n) (.int s) || inV (.int s) (ns.map V.int)) = _
    rw [inV_ints s ns]
    by_cases e : n = s
    · subst e
      simp [eqV]
    · have : eqV (.int n) (.int s) = false := by simp [eqV, e]
      rw [this, Bool.false_or]
      have e' : ¬ s = n := fun z => e z.symm
      simp [e']
theorem flatI (ns : List Int) : (ns.map V.int).all flatV = true := by
  rw [List.all_eq_true]
  intro x hx
  obtain ⟨i, _, rfl⟩ := List.mem_map.mp hx
  rfl
def spRefuse (K : PySem.W.Frag) (C : Addr) : Sp := fun vs H Q E => ∃ x, vs = [x] ∧ Own K H x ∧ (inR 1000000000 x = true → Q .non H) ∧ (inR 1000000000 x = false → E (.ref C) none H)
def spPathOf (K : PySem.W.Frag) (C : Addr) : Sp := fun vs H Q E => ∃ v x, ∃ S : Tr 4, vs = [v, x] ∧ AtR H 4 v S ∧ WF S ∧ (flat 4 S).length < 64 ∧ Own K H x ∧ (inR 1000000000 x = false → ∀ H', Same H H' → E (.ref C) none H') ∧
  (∀ s, x = .int s → inR 1000000000 x = true → ∀ w H', Same H H' → PathV H' w (firstP (rows 2 [] (ls S)) s) → Q w H')
def spTakenNo (K : PySem.W.Frag) (C : Addr) : Sp := fun vs H Q E => ∃ v x, ∃ S : Tr 4, vs = [v, x] ∧ AtR H 4 v S ∧ WF S ∧ (flat 4 S).length < 64 ∧ Own K H x ∧ (inR 1000000000 x = true → ∀ s, x = .int s → firstP (rows 2 [] (ls S)) s = none) ∧ ∀ H', Same H H' → E (.ref C) none H'
def spLaidNo (K : PySem.W.Frag) (C : Addr) : Sp := fun vs H Q E => ∃ v x p, ∃ S : Tr 4, vs = [v, x, p] ∧ AtR H 4 v S ∧ WF S ∧ (flat 4 S).length < 64 ∧ Own K H x ∧ inR 1000000000 x = false ∧ ∀ H', Same H H' → E (.ref C) none H'
theorem inR_int' {m : Int} {x : V} (h : inR m x = true) : ∃ i, x = .int i := by
  cases x <;> first | exact ⟨_, rfl⟩ | exact absurd (show false = true from h) Bool.false_ne_true
theorem mem_rows0 {p : List Int} {fs : List (Tr 1)} {r : Rw} : r ∈ rows 0 p fs ↔ ∃ (k : Nat) (f : Tr 1), fs[k]? = some f ∧ r = (p ++ [(k : Int)], ls f) := by
  rw [rows_one, List.mem_flatMap]
  constructor
  · rintro ⟨x, hx, hr⟩
    exact ⟨x.2, x.1, List.mem_zipIdx_iff_getElem?.mp hx, List.mem_singleton.mp hr⟩
  · rintro ⟨k, f, hf, rfl⟩
    exact ⟨(f, k), List.mem_zipIdx_iff_getElem?.mpr hf, List.mem_singleton.mpr rfl⟩
theorem mem_rows1 {n : Nat} {p : List Int} {ts : List (Tr (n + 2))} {r : Rw} : r ∈ rows (n + 1) p ts ↔ ∃ (i : Nat) (t : Tr (n + 2)), ts[i]? = some t ∧ (r = (p ++ [(i : Int)], srt (flat (n + 2) t)) ∨ r ∈ rows n (p ++ [(i : Int)]) (ls t)) := by
  rw [rows_one, List.mem_flatMap]
  constructor
  · rintro ⟨x, hx, hr⟩
    exact ⟨x.2, x.1, List.mem_zipIdx_iff_getElem?.mp hx, List.mem_cons.mp hr⟩
  · rintro ⟨i, t, ht, hr⟩
    exact ⟨(t, i), List.mem_zipIdx_iff_getElem?.mpr ht, List.mem_cons.mpr hr⟩
/-- the sheet s lies at p -/
def Lies (S : Tr 4) (s : Int) (p : List Int) : Prop := ∃ (i j k : Nat) (g : Tr 3) (c : Tr 2) (f : Tr 1), (ls S)[i]? = some g ∧ (ls g)[j]? = some c ∧ (ls c)[k]? = some f ∧ s ∈ ls f ∧ p = [(i : Int), (j : Int), (k : Int)]
theorem mem_flat1 {f : Tr 1} {s : Int} : s ∈ flat 1 f ↔ s ∈ ls f := by
  have := flat_ints f
  constructor
  · intro h; rw [this] at h; exact h
  · intro h; rw [this]; exact h
theorem deep_row {S : Tr 4} {r : Rw} (h : r ∈ rows 2 [] (ls S)) (h3 : r.1.length = 3) : ∃ (i j k : Nat) (g : Tr 3) (c : Tr 2) (f : Tr 1), (ls S)[i]? = some g ∧ (ls g)[j]? = some c ∧ (ls c)[k]? = some f ∧ r = ([(i : Int), (j : Int), (k : Int)], ls f) := by
  obtain ⟨i, g, hg, h | h⟩ := mem_rows1.mp h
  · rw [h] at h3; exact absurd (show (1 : Nat) = 3 from h3) (by decide)
  obtain ⟨j, c, hc, h | h⟩ := mem_rows1.mp h
  · rw [h] at h3; exact absurd (show (2 : Nat) = 3 from h3) (by decide)
  obtain ⟨k, f, hf, h⟩ := mem_rows0.mp h
  exact ⟨i, j, k, g, c, f, hg, hc, hf, h⟩
theorem uniq_at {n : Nat} {ts : List (Tr n)} {i i' : Nat} {t t' : Tr n} {s : Int} (nd : (flat (n + 1) ts).Nodup) (h : ts[i]? = some t) (h' : ts[i']? = some t') (hs : s ∈ flat n t) (hs' : s ∈ flat n t') : i = i' := by
  have key : ∀ {a b : Nat} {x y : Tr n}, ts[a]? = some x → ts[b]? = some y → s ∈ flat n x → s ∈ flat n y → ¬ a < b := fun {a b x y} ha hb hx hy lt => by
    refine (flat_nd hb nd).2 s hy ?_
    refine flat_mem (t := x) ?_ hx
    exact List.mem_of_getElem? (i := a) (by rw [List.getElem?_take_of_lt lt]; exact ha)
  have h1 := key h h' hs hs'
  have h2 := key h' h hs' hs
  omega
theorem first_is {s : Int} {p : List Int} : ∀ {rs : List Rw}, (∀ r ∈ rs, r.1.length = 3 → s ∈ r.2 → r.1 = p) → (∃ r ∈ rs, r.1.length = 3 ∧ s ∈ r.2) → firstP rs s = some p
  | [], _, ⟨r, h, _⟩ => nomatch h
  | r :: rs, u, ⟨q, hq, h3, hs⟩ => by
    show (if r.1.length = 3 ∧ s ∈ r.2 then some r.1 else firstP rs s) = some p
    by_cases e : r.1.length = 3 ∧ s ∈ r.2
    · rw [if_pos e, u r (List.mem_cons_self ..) e.1 e.2]
    · rw [if_neg e]
      refine first_is (fun x hx => u x (List.mem_cons_of_mem _ hx)) ⟨q, ?_, h3, hs⟩
      rcases List.mem_cons.mp hq with rfl | hq
      · exact absurd ⟨h3, hs⟩ e
      · exact hq
theorem first_no {s : Int} : ∀ {rs : List Rw}, (∀ r ∈ rs, r.1.length = 3 → s ∉ r.2) → firstP rs s = none
  | [], _ => rfl
  | r :: rs, u => by
    show (if r.1.length = 3 ∧ s ∈ r.2 then some r.1 else firstP rs s) = none
    rw [if_neg (fun e => u r (List.mem_cons_self ..) e.1 e.2)]
    exact first_no fun x hx => u x (List.mem_cons_of_mem _ hx)
theorem Lies.first {S : Tr 4} {s : Int} {p : List Int} (wf : WF S) (h : Lies S s p) : firstP (rows 2 [] (ls S)) s = some p := by
  obtain ⟨i, j, k, g, c, f, hg, hc, hf, hs, rfl⟩ := h
  have hs := mem_flat1.mpr hs
  have hs2 := flat_mem (List.mem_of_getElem? hf) hs
  have hs3 := flat_mem (List.mem_of_getElem? hc) hs2
  refine first_is (fun r hr h3 hr2 => ?_) ⟨([(i : Int), (j : Int), (k : Int)], ls f), mem_rows1.mpr ⟨i, g, hg, .inr (mem_rows1.mpr ⟨j, c, hc, .inr (mem_rows0.mpr ⟨k, f, hf, rfl⟩)⟩)⟩, rfl, mem_flat1.mp hs⟩
  obtain ⟨i', j', k', g', c', f', hg', hc', hf', rfl⟩ := deep_row hr h3
  have gs := mem_flat1.mpr hr2
  have gs2 := flat_mem (List.mem_of_getElem? hf') gs
  have gs3 := flat_mem (List.mem_of_getElem? hc') gs2
  obtain rfl := uniq_at wf.nd hg hg' hs3 gs3
  rw [hg] at hg'
  cases hg'
  have ndg := (flat_nd hg wf.nd).1
  obtain rfl := uniq_at ndg hc hc' hs2 gs2
  rw [hc] at hc'
  cases hc'
  obtain rfl := uniq_at (flat_nd hc ndg).1 hf hf' hs gs
  rfl
theorem first_out {S : Tr 4} {s : Int} (h : s ∉ flat 4 S) : firstP (rows 2 [] (ls S)) s = none := first_no fun r hr h3 hr2 => by
  obtain ⟨i, j, k, g, c, f, hg, hc, hf, rfl⟩ := deep_row hr h3
  exact h (flat_mem (List.mem_of_getElem? hg) (flat_mem (List.mem_of_getElem? hc) (flat_mem (List.mem_of_getElem? hf) (mem_flat1.mpr hr2))))
/-- what is known of the sheets of done -/
structure Kn (S : Tr 4) (G : Hp) (kvs : List (Key × V)) (done : List Int) : Prop where
  has : ∀ s ∈ done, valV kvs (Sum.inl s) ≠ none
  val : ∀ s v, valV kvs (Sum.inl s) = some v → ∃ p a, Lies S s p ∧ v = .ref a ∧ G a = some (.lst (p.map V.int))
  keys : ∀ q ∈ kvs, ∃ s ∈ flat 4 S, q.1 = Sum.inl s
  len : kvs.length ≤ done.length
theorem Kn.nil {S : Tr 4} {G : Hp} : Kn S G [] [] := by
  refine ⟨fun s h => ?_, fun s v h => ?_, fun q h => ?_, Nat.le_refl _⟩
  · exact absurd h List.not_mem_nil
  · rw [valV_nil] at h; cases h
  · exact absurd h List.not_mem_nil
theorem Kn.keep {S : Tr 4} {G G' : Hp} {kvs : List (Key × V)} {done : List Int} (h : Kn S G kvs done) (s : ∀ a xs, G a = some (.lst xs) → G' a = some (.lst xs)) : Kn S G' kvs done :=
  ⟨h.has, fun x v e => let ⟨p, a, l, e', g⟩ := h.val x v e; ⟨p, a, l, e', s _ _ g⟩, h.keys, h.len⟩
theorem Kn.put {S : Tr 4} {G : Hp} {kvs : List (Key × V)} {done : List Int} {s : Int} {p : List Int} {a : Addr} (h : Kn S G kvs done) (l : Lies S s p) (g : G a = some (.lst (p.map V.int))) (hs : s ∈ flat 4 S) : Kn S G (putK kvs (Sum.inl s) (.ref a)) (done ++ [s]) := by
  refine ⟨fun x hx => ?_, fun x v e => ?_, fun q hq => ?_, ?_⟩
  · rw [valV_put]
    by_cases e : x = s
    · rw [if_pos (by rw [e])]; intro z; cases z
    · rw [if_neg (fun z => e (Sum.inl.inj z))]
      rcases List.mem_append.mp hx with q | q
      · exact h.has x q
      · exact absurd (List.mem_singleton.mp q) e
  · rw [valV_put] at e
    by_cases e' : x = s
    · rw [if_pos (by rw [e'])] at e
      cases e
      rw [e']
      exact ⟨p, a, l, rfl, g⟩
    · rw [if_neg (fun z => e' (Sum.inl.inj z))] at e
      exact h.val x v e
  · unfold putK at hq
    split at hq
    · obtain ⟨q', hq', rfl⟩ := List.mem_map.mp hq
      obtain ⟨x, hx, e⟩ := h.keys q' hq'
      refine ⟨x, hx, ?_⟩
      split
      · exact e
      · exact e
    · rcases List.mem_append.mp hq with q1 | q1
      · exact h.keys q q1
      · rw [List.mem_singleton.mp q1]; exact ⟨s, hs, rfl⟩
  · have := h.len
    unfold putK
    rw [List.length_append]
    show _ ≤ done.length + 1
    split
    · rw [List.length_map]; omega
    · rw [List.length_append]; show kvs.length + 1 ≤ _; omega
def spKnown : Sp := fun vs H Q _ => ∃ v, ∃ S : Tr 4, vs = [v] ∧ AtR H 4 v S ∧ WF S ∧ (flat 4 S).length < 64 ∧ ∀ d kvs H', Same H H' → H' d = some (.dK kvs) → Kn S H' kvs (flat 4 S) → Q (.ref d) H'
def spRefusedS (K : PySem.W.Frag) : Sp := fun vs H Q _ => ∃ wy v x p, ∃ S : Tr 4, vs = [.int wy, v, x, p] ∧ AtR H 4 v S ∧ WF S ∧ (flat 4 S).length < 64 ∧ Own K H x ∧ (wy = 0 ∨ wy = 1 → inR 1000000000 x = false) ∧ (inR 1000000000 x = true → ∀ s, x = .int s → firstP (rows 2 [] (ls S)) s = none) ∧ ∀ H', Same H H' → Q (.bl true) H'
def spAt : Sp := fun vs H Q _ => ∃ v s d kvs, ∃ S : Tr 4, vs = [v, .int s, .ref d] ∧ AtR H 4 v S ∧ WF S ∧ (flat 4 S).length < 64 ∧ inR 1000000000 (.int s) = true ∧ H d = some (.dK kvs) ∧ Kn S H kvs (flat 4 S) ∧ ∀ H', Same H H' → Q (.bl true) H'
def wo : (n : Nat) → Int → Tr (n + 1) → Tr (n + 1)
  | 0, s, f => (List.filter (fun x => !decide (x = s)) (f : List Int) : List Int)
  | n + 1, s, ts => (List.filter (fun t : Tr (n + 1) => !(ls t).isEmpty) ((ls ts).map (wo n s)) : List (Tr (n + 1)))
def spWithout (n : Nat) : Sp := fun vs H Q _ => ∃ v s, ∃ t : Tr (n + 1), vs = [v, .int s, .int (3 - (n : Int))] ∧ AtR H (n + 1) v t ∧ small (n + 1) t ∧ ∀ w H', Same H H' → New H H' (n + 1) w (wo n s t) → Q w H'
abbrev Q4 := Int × Int × Int × Int
def rlI (r : Q4) : List Int := [r.1, r.2.1, r.2.2.1, r.2.2.2]
def rl (r : Q4) : Tr 1 := rlI r
def pl1 (a b d : Int) (f : List Int) : List Q4 := f.map fun s => (s, a, b, d)
def pl2 (a b : Int) : Int → List (Tr 1) → List Q4
  | _, [] => []
  | d, f :: r => pl1 a b d (ls f) ++ pl2 a b (d + 1) r
def pl3 (a : Int) : Int → List (Tr 2) → List Q4
  | _, [] => []
  | b, c :: r => pl2 a b 0 (ls c) ++ pl3 a (b + 1) r
def pl4 : Int → List (Tr 3) → List Q4
  | _, [] => []
  | a, g :: r => pl3 a 0 (ls g) ++ pl4 (a + 1) r
def places (S : Tr 4) : List Q4 := pl4 0 (ls S)
theorem pl2_app (a b : Int) : ∀ (xs ys : List (Tr 1)) (d : Int), pl2 a b d (xs ++ ys) = pl2 a b d xs ++ pl2 a b (d + xs.length) ys
  | [], ys, d => by show pl2 a b d ys = [] ++ pl2 a b (d + (0 : Nat)) ys; simp
  | x :: r, ys, d => by
    show pl1 a b d (ls x) ++ pl2 a b (d + 1) (r ++ ys) = (pl1 a b d (ls x) ++ pl2 a b (d + 1) r) ++ pl2 a b (d + (r.length + 1 : Nat)) ys
    rw [pl2_app a b r ys (d + 1), List.append_assoc, show d + 1 + (r.length : Int) = d + (r.length + 1 : Nat) by omega]
theorem pl3_app (a : Int) : ∀ (xs ys : List (Tr 2)) (d : Int), pl3 a d (xs ++ ys) = pl3 a d xs ++ pl3 a (d + xs.length) ys
  | [], ys, d => by show pl3 a d ys = [] ++ pl3 a (d + (0 : Nat)) ys; simp
  | x :: r, ys, d => by
    show pl2 a d 0 (ls x) ++ pl3 a (d + 1) (r ++ ys) = (pl2 a d 0 (ls x) ++ pl3 a (d + 1) r) ++ pl3 a (d + (r.length + 1 : Nat)) ys
    rw [pl3_app a r ys (d + 1), List.append_assoc, show d + 1 + (r.length : Int) = d + (r.length + 1 : Nat) by omega]
theorem pl4_app : ∀ (xs ys : List (Tr 3)) (d : Int), pl4 d (xs ++ ys) = pl4 d xs ++ pl4 (d + xs.length) ys
  | [], ys, d => by show pl4 d ys = [] ++ pl4 (d + (0 : Nat)) ys; simp
  | x :: r, ys, d => by
    show pl3 d 0 (ls x) ++ pl4 (d + 1) (r ++ ys) = (pl3 d 0 (ls x) ++ pl4 (d + 1) r) ++ pl4 (d + (r.length + 1 : Nat)) ys
    rw [pl4_app r ys (d + 1), List.append_assoc, show d + 1 + (r.length : Int) = d + (r.length + 1 : Nat) by omega]
theorem pl2_take {a b : Int} {xs : List (Tr 1)} {i : Nat} {x : Tr 1} (h : xs[i]? = some x) : pl2 a b 0 (xs.take (i + 1)) = pl2 a b 0 (xs.take i) ++ pl1 a b i (ls x) := by
  have hi := (List.getElem?_eq_some_iff.mp h).1
  rw [take_one h, pl2_app, List.length_take, Nat.min_eq_left (by omega), Int.zero_add]
  show _ ++ (pl1 a b i (ls x) ++ []) = _
  rw [List.append_nil]
theorem pl3_take {a : Int} {xs : List (Tr 2)} {i : Nat} {x : Tr 2} (h : xs[i]? = some x) : pl3 a 0 (xs.take (i + 1)) = pl3 a 0 (xs.take i) ++ pl2 a i 0 (ls x) := by
  have hi := (List.getElem?_eq_some_iff.mp h).1
  rw [take_one h, pl3_app, List.length_take, Nat.min_eq_left (by omega), Int.zero_add]
  show _ ++ (pl2 a i 0 (ls x) ++ []) = _
  rw [List.append_nil]
theorem pl4_take {xs : List (Tr 3)} {i : Nat} {x : Tr 3} (h : xs[i]? = some x) : pl4 0 (xs.take (i + 1)) = pl4 0 (xs.take i) ++ pl3 i 0 (ls x) := by
  have hi := (List.getElem?_eq_some_iff.mp h).1
  rw [take_one h, pl4_app, List.length_take, Nat.min_eq_left (by omega), Int.zero_add]
  show _ ++ (pl3 i 0 (ls x) ++ []) = _
  rw [List.append_nil]
theorem pl2_len (a b : Int) : ∀ (xs : List (Tr 1)) (d : Int), (pl2 a b d xs).length = (flat 2 xs).length
  | [], _ => rfl
  | x :: r, d => by
    show (pl1 a b d (ls x) ++ pl2 a b (d + 1) r).length = (flat 1 x ++ flat 2 (r : List (Tr 1))).length
    rw [List.length_append, List.length_append, pl2_len a b r, flat_ints x]
    exact congrArg (· + _) (List.length_map ..)
theorem pl3_len (a : Int) : ∀ (xs : List (Tr 2)) (d : Int), (pl3 a d xs).length = (flat 3 xs).length
  | [], _ => rfl
  | x :: r, d => by
    show (pl2 a d 0 (ls x) ++ pl3 a (d + 1) r).length = (flat 2 x ++ flat 3 (r : List (Tr 2))).length
    rw [List.length_append, List.length_append, pl3_len a r, pl2_len]
theorem pl4_len : ∀ (xs : List (Tr 3)) (d : Int), (pl4 d xs).length = (flat 4 xs).length
  | [], _ => rfl
  | x :: r, d => by
    show (pl3 d 0 (ls x) ++ pl4 (d + 1) r).length = (flat 3 x ++ flat 4 (r : List (Tr 3))).length
    rw [List.length_append, List.length_append, pl4_len r, pl3_len]
theorem pl1_fst (a b d : Int) (f : List Int) : (pl1 a b d f).map (·.1) = f := by
  unfold pl1
  rw [List.map_map]
  exact List.map_id _
theorem pl2_fst (a b : Int) : ∀ (xs : List (Tr 1)) (d : Int), (pl2 a b d xs).map (·.1) = flat 2 xs
  | [], _ => rfl
  | x :: r, d => by
    show (pl1 a b d (ls x) ++ pl2 a b (d + 1) r).map (·.1) = flat 1 x ++ flat 2 (r : List (Tr 1))
    rw [List.map_append, pl2_fst a b r, flat_ints x]
    exact congrArg (· ++ flat 2 (r : List (Tr 1))) (pl1_fst a b d x)
theorem pl3_fst (a : Int) : ∀ (xs : List (Tr 2)) (d : Int), (pl3 a d xs).map (·.1) = flat 3 xs
  | [], _ => rfl
  | x :: r, d => by
    show (pl2 a d 0 (ls x) ++ pl3 a (d + 1) r).map (·.1) = flat 2 x ++ flat 3 (r : List (Tr 2))
    rw [List.map_append, pl3_fst a r, pl2_fst]
theorem pl4_fst : ∀ (xs : List (Tr 3)) (d : Int), (pl4 d xs).map (·.1) = flat 4 xs
  | [], _ => rfl
  | x :: r, d => by
    show (pl3 d 0 (ls x) ++ pl4 (d + 1) r).map (·.1) = flat 3 x ++ flat 4 (r : List (Tr 3))
    rw [List.map_append, pl4_fst r, pl3_fst]
abbrev T3 := Int × Int × Int
/-- the law's own numbering: where the rows ahead stood, where they stand now -/
def mvS (st : T3 × T3) (r : Q4) : T3 × T3 :=
  (r.2, if r.2.1 ≠ st.1.1 then (st.2.1 + 1, 0, 0) else if r.2.2.1 ≠ st.1.2.1 then (st.2.1, st.2.2.1 + 1, 0) else if r.2.2.2 ≠ st.1.2.2 then (st.2.1, st.2.2.1, st.2.2.2 + 1) else st.2)
def mv : T3 × T3 → List Q4 → List Q4
  | _, [] => []
  | st, r :: rs => (r.1, (mvS st r).2) :: mv (mvS st r) rs
def mvE (st : T3 × T3) (rs : List Q4) : T3 × T3 := rs.foldl mvS st
theorem mv_app : ∀ (a b : List Q4) (st : T3 × T3), mv st (a ++ b) = mv st a ++ mv (mvE st a) b
  | [], _, _ => rfl
  | r :: a, b, st => by
    show (r.1, (mvS st r).2) :: mv (mvS st r) (a ++ b) = _
    rw [mv_app a b (mvS st r)]
    rfl
theorem mvE_app (a b : List Q4) (st : T3 × T3) : mvE st (a ++ b) = mvE (mvE st a) b := List.foldl_append ..
theorem mv_len : ∀ (a : List Q4) (st : T3 × T3), (mv st a).length = a.length
  | [], _ => rfl
  | r :: a, st => congrArg Nat.succ (mv_len a (mvS st r))
/-- a form's rows, behind its first one -/
theorem mv_form (a b d : Int) : ∀ (f : List Int) (h : T3), mv ((a, b, d), h) (pl1 a b d f) = pl1 h.1 h.2.1 h.2.2 f ∧ mvE ((a, b, d), h) (pl1 a b d f) = ((a, b, d), h)
  | [], _ => ⟨rfl, rfl⟩
  | s :: f, h => by
    have e : mvS ((a, b, d), h) (s, a, b, d) = ((a, b, d), h) := by
      unfold mvS
      rw [if_neg (fun z => z rfl), if_neg (fun z => z rfl), if_neg (fun z => z rfl)]
    obtain ⟨i1, i2⟩ := mv_form a b d f h
    constructor
    · show (s, (mvS ((a, b, d), h) (s, a, b, d)).2) :: mv (mvS ((a, b, d), h) (s, a, b, d)) (pl1 a b d f) = (s, h) :: pl1 h.1 h.2.1 h.2.2 f
      rw [e, i1]
    · show mvE (mvS ((a, b, d), h) (s, a, b, d)) (pl1 a b d f) = _
      rw [e, i2]
theorem mv_first (a b d : Int) (s : Int) (f : List Int) (st : T3 × T3) (h : T3) (hs : (mvS st (s, a, b, d)).2 = h) : mv st (pl1 a b d (s :: f)) = pl1 h.1 h.2.1 h.2.2 (s :: f) ∧ mvE st (pl1 a b d (s :: f)) = ((a, b, d), h) := by
  have e : mvS st (s, a, b, d) = ((a, b, d), h) := by rw [← hs]; rfl
  obtain ⟨i1, i2⟩ := mv_form a b d f h
  constructor
  · show (s, (mvS st (s, a, b, d)).2) :: mv (mvS st (s, a, b, d)) (pl1 a b d f) = (s, h) :: pl1 h.1 h.2.1 h.2.2 f
    rw [e, i1]
  · show mvE (mvS st (s, a, b, d)) (pl1 a b d f) = _
    rw [e, i2]
/-- those that are not empty -/
def ne {n : Nat} (xs : List (Tr (n + 1))) : List (Tr (n + 1)) := xs.filter fun t => !(ls t).isEmpty
theorem ne_nil {n : Nat} (xs : List (Tr (n + 1))) : ne (([] : List (Tr n)) :: xs) = ne xs := rfl
theorem ne_cons {n : Nat} (y : Tr n) (r : List (Tr n)) (xs : List (Tr (n + 1))) : ne ((y :: r : List (Tr n)) :: xs) = (y :: r : List (Tr n)) :: ne xs := rfl
/-- a clan that is open: its forms from the place d0 on -/
theorem mv_open2 (a b : Int) : ∀ (xs : List (Tr 1)) (d0 lk : Int) (x y z : Int), lk < d0 → mv ((a, b, lk), (x, y, z)) (pl2 a b d0 xs) = pl2 x y (z + 1) (ne xs) ∧ ∃ lk' z', mvE ((a, b, lk), (x, y, z)) (pl2 a b d0 xs) = ((a, b, lk'), (x, y, z'))
  | [], _, lk, _, _, z, _ => ⟨rfl, lk, z, rfl⟩
  | f :: r, d0, lk, x, y, z, hlt => by
    obtain ⟨fl, hfl⟩ : ∃ fl : List Int, fl = f := ⟨f, rfl⟩
    subst hfl
    show mv _ (pl1 a b d0 fl ++ pl2 a b (d0 + 1) r) = _ ∧ _
    rw [mv_app]
    show _ ∧ ∃ lk' z', mvE _ (pl1 a b d0 fl ++ pl2 a b (d0 + 1) r) = _
    rw [mvE_app]
    cases fl with
    | nil => exact mv_open2 a b r (d0 + 1) lk x y z (by omega)
    | cons s f =>
      have hs : (mvS ((a, b, lk), (x, y, z)) (s, a, b, d0)).2 = (x, y, z + 1) := by
        unfold mvS
        rw [if_neg (fun z => z rfl), if_neg (fun z => z rfl), if_pos (show d0 ≠ lk by omega)]
      obtain ⟨i1, i2⟩ := mv_first a b d0 s f _ _ hs
      rw [i1, i2]
      obtain ⟨j1, j2⟩ := mv_open2 a b r (d0 + 1) d0 x y (z + 1) (by omega)
      rw [j1]
      exact ⟨rfl, j2⟩
/-- a clan that is not open yet -/
theorem mv_new2 (a b : Int) (st : T3 × T3) (x y : Int) (hb : ∀ s d, (mvS st (s, a, b, d)).2 = (x, y, 0)) : ∀ (xs : List (Tr 1)) (d0 : Int), mv st (pl2 a b d0 xs) = pl2 x y 0 (ne xs) ∧ ((ne xs = [] ∧ mvE st (pl2 a b d0 xs) = st) ∨ (ne xs ≠ [] ∧ ∃ lk' z', mvE st (pl2 a b d0 xs) = ((a, b, lk'), (x, y, z'))))
  | [], _ => ⟨rfl, .inl ⟨rfl, rfl⟩⟩
  | f :: r, d0 => by
    obtain ⟨fl, hfl⟩ : ∃ fl : List Int, fl = f := ⟨f, rfl⟩
    subst hfl
    show mv _ (pl1 a b d0 fl ++ pl2 a b (d0 + 1) r) = _ ∧ ((_ ∧ mvE _ (pl1 a b d0 fl ++ pl2 a b (d0 + 1) r) = _) ∨ (_ ∧ ∃ lk' z', mvE _ (pl1 a b d0 fl ++ pl2 a b (d0 + 1) r) = _))
    rw [mv_app, mvE_app]
    cases fl with
    | nil => exact mv_new2 a b st x y hb r (d0 + 1)
    | cons s f =>
      obtain ⟨i1, i2⟩ := mv_first a b d0 s f _ _ (hb s d0)
      rw [i1, i2]
      obtain ⟨j1, j2⟩ := mv_open2 a b r (d0 + 1) d0 x y 0 (by omega)
      rw [j1]
      exact ⟨rfl, .inr ⟨fun z => (nomatch z), j2⟩⟩
/-- the forms that are not empty, of the clans that are not -/
def ne2 (g : List (Tr 2)) : List (Tr 2) := ne (g.map fun c => (ne (ls c) : Tr 2))
def ne3 (S : List (Tr 3)) : List (Tr 3) := ne (S.map fun g => (ne2 (ls g) : Tr 3))
theorem mv_open3 (a : Int) : ∀ (xs : List (Tr 2)) (b0 lj lk : Int) (x y z : Int), lj < b0 → mv ((a, lj, lk), (x, y, z)) (pl3 a b0 xs) = pl3 x (y + 1) (ne2 xs) ∧ ∃ lj' lk' y' z', mvE ((a, lj, lk), (x, y, z)) (pl3 a b0 xs) = ((a, lj', lk'), (x, y', z'))
  | [], _, lj, lk, _, y, z, _ => ⟨rfl, lj, lk, y, z, rfl⟩
  | c :: r, b0, lj, lk, x, y, z, hlt => by
    show mv _ (pl2 a b0 0 (ls c) ++ pl3 a (b0 + 1) r) = _ ∧ ∃ lj' lk' y' z', mvE _ (pl2 a b0 0 (ls c) ++ pl3 a (b0 + 1) r) = _
    rw [mv_app, mvE_app]
    have hs : ∀ s d, (mvS ((a, lj, lk), (x, y, z)) (s, a, b0, d)).2 = (x, y + 1, 0) := fun s d => by
      unfold mvS
      rw [if_neg (fun z => z rfl), if_pos (show b0 ≠ lj by omega)]
    obtain ⟨i1, i2⟩ := mv_new2 a b0 _ x (y + 1) hs (ls c) 0
    rw [i1]
    rcases i2 with ⟨e, i2⟩ | ⟨e, lk', z', i2⟩
    · rw [i2, e]
      have e2 : ne2 (c :: r) = ne2 r := by
        show ne ((ne (ls c) : Tr 2) :: r.map fun c => (ne (ls c) : Tr 2)) = _
        rw [e]
        rfl
      rw [e2]
      exact mv_open3 a r (b0 + 1) lj lk x y z (by omega)
    · rw [i2]
      obtain ⟨j1, j2⟩ := mv_open3 a r (b0 + 1) b0 lk' x (y + 1) z' (by omega)
      rw [j1]
      refine ⟨?_, j2⟩
      obtain ⟨f, t, e3⟩ := List.exists_cons_of_ne_nil e
      have e2 : ne2 (c :: r) = (ne (ls c) : Tr 2) :: ne2 r := by
        show ne ((ne (ls c) : Tr 2) :: r.map fun c => (ne (ls c) : Tr 2)) = _
        rw [e3]
        rfl
      rw [e2]
      rfl
theorem mv_new3 (a : Int) (st : T3 × T3) (x : Int) (hb : ∀ s b d, (mvS st (s, a, b, d)).2 = (x, 0, 0)) : ∀ (xs : List (Tr 2)) (b0 : Int), mv st (pl3 a b0 xs) = pl3 x 0 (ne2 xs) ∧ ((ne2 xs = [] ∧ mvE st (pl3 a b0 xs) = st) ∨ (ne2 xs ≠ [] ∧ ∃ lj' lk' y' z', mvE st (pl3 a b0 xs) = ((a, lj', lk'), (x, y', z'))))
  | [], _ => ⟨rfl, .inl ⟨rfl, rfl⟩⟩
  | c :: r, b0 => by
    show mv _ (pl2 a b0 0 (ls c) ++ pl3 a (b0 + 1) r) = _ ∧ ((_ ∧ mvE _ (pl2 a b0 0 (ls c) ++ pl3 a (b0 + 1) r) = _) ∨ (_ ∧ ∃ lj' lk' y' z', mvE _ (pl2 a b0 0 (ls c) ++ pl3 a (b0 + 1) r) = _))
    rw [mv_app, mvE_app]
    obtain ⟨i1, i2⟩ := mv_new2 a b0 _ x 0 (fun s d => hb s b0 d) (ls c) 0
    rw [i1]
    rcases i2 with ⟨e, i2⟩ | ⟨e, lk', z', i2⟩
    · rw [i2, e]
      have e2 : ne2 (c :: r) = ne2 r := by
        show ne ((ne (ls c) : Tr 2) :: r.map fun c => (ne (ls c) : Tr 2)) = _
        rw [e]
        rfl
      rw [e2]
      exact mv_new3 a st x hb r (b0 + 1)
    · rw [i2]
      obtain ⟨j1, j2⟩ := mv_open3 a r (b0 + 1) b0 lk' x 0 z' (by omega)
      rw [j1]
      obtain ⟨f, t, e3⟩ := List.exists_cons_of_ne_nil e
      have e2 : ne2 (c :: r) = (ne (ls c) : Tr 2) :: ne2 r := by
        show ne ((ne (ls c) : Tr 2) :: r.map fun c => (ne (ls c) : Tr 2)) = _
        rw [e3]
        rfl
      rw [e2]
      exact ⟨rfl, .inr ⟨fun z => (nomatch z), j2⟩⟩
theorem mv_open4 : ∀ (xs : List (Tr 3)) (a0 li lj lk : Int) (x y z : Int), li < a0 → mv ((li, lj, lk), (x, y, z)) (pl4 a0 xs) = pl4 (x + 1) (ne3 xs)
  | [], _, _, _, _, _, _, _, _ => rfl
  | g :: r, a0, li, lj, lk, x, y, z, hlt => by
    show mv _ (pl3 a0 0 (ls g) ++ pl4 (a0 + 1) r) = _
    rw [mv_app]
    have hs : ∀ s b d, (mvS ((li, lj, lk), (x, y, z)) (s, a0, b, d)).2 = (x + 1, 0, 0) := fun s b d => by
      unfold mvS
      rw [if_pos (show a0 ≠ li by omega)]
    obtain ⟨i1, i2⟩ := mv_new3 a0 _ (x + 1) hs (ls g) 0
    rw [i1]
    rcases i2 with ⟨e, i2⟩ | ⟨e, lj', lk', y', z', i2⟩
    · rw [i2, e]
      have e2 : ne3 (g :: r) = ne3 r := by
        show ne ((ne2 (ls g) : Tr 3) :: r.map fun g => (ne2 (ls g) : Tr 3)) = _
        rw [e]
        rfl
      rw [e2]
      exact mv_open4 r (a0 + 1) li lj lk x y z (by omega)
    · rw [i2, mv_open4 r (a0 + 1) a0 lj' lk' (x + 1) y' z' (by omega)]
      obtain ⟨f, t, e3⟩ := List.exists_cons_of_ne_nil e
      have e2 : ne3 (g :: r) = (ne2 (ls g) : Tr 3) :: ne3 r := by
        show ne ((ne2 (ls g) : Tr 3) :: r.map fun g => (ne2 (ls g) : Tr 3)) = _
        rw [e3]
        rfl
      rw [e2]
      rfl
def st0 : T3 × T3 := ((-1, -1, -1), (-1, -1, -1))
/-- the rows of all but s -/
theorem pl1_wo (a b d s : Int) (f : List Int) : (pl1 a b d f).filter (fun r => !decide (r.1 = s)) = pl1 a b d (ls (wo 0 s f)) := by
  show (f.map fun s => (s, a, b, d)).filter (fun r => !decide (r.1 = s)) = (f.filter fun x => !decide (x = s)).map fun s => (s, a, b, d)
  rw [List.filter_map]
  rfl
theorem pl2_wo (a b s : Int) : ∀ (xs : List (Tr 1)) (d : Int), (pl2 a b d xs).filter (fun r => !decide (r.1 = s)) = pl2 a b d (xs.map (wo 0 s))
  | [], _ => rfl
  | x :: r, d => by
    show (pl1 a b d (ls x) ++ pl2 a b (d + 1) r).filter _ = pl1 a b d (ls (wo 0 s x)) ++ pl2 a b (d + 1) (r.map (wo 0 s))
    rw [List.filter_append, pl2_wo a b s r]
    exact congrArg (· ++ pl2 a b (d + 1) (r.map (wo 0 s))) (pl1_wo a b d s x)
/-- the forms without s, empty ones too -/
theorem pl3_wo (a s : Int) : ∀ (xs : List (Tr 2)) (d : Int), (pl3 a d xs).filter (fun r => !decide (r.1 = s)) = pl3 a d (xs.map fun c => ((ls c).map (wo 0 s) : Tr 2))
  | [], _ => rfl
  | x :: r, d => by
    show (pl2 a d 0 (ls x) ++ pl3 a (d + 1) r).filter _ = pl2 a d 0 ((ls x).map (wo 0 s)) ++ pl3 a (d + 1) (r.map fun c => ((ls c).map (wo 0 s) : Tr 2))
    rw [List.filter_append, pl3_wo a s r, pl2_wo]
theorem pl4_wo (s : Int) : ∀ (xs : List (Tr 3)) (d : Int), (pl4 d xs).filter (fun r => !decide (r.1 = s)) = pl4 d (xs.map fun g => ((ls g).map fun c => ((ls c).map (wo 0 s) : Tr 2) : Tr 3))
  | [], _ => rfl
  | x :: r, d => by
    show (pl3 d 0 (ls x) ++ pl4 (d + 1) r).filter _ = pl3 d 0 ((ls x).map fun c => ((ls c).map (wo 0 s) : Tr 2)) ++ pl4 (d + 1) (r.map fun g => ((ls g).map fun c => ((ls c).map (wo 0 s) : Tr 2) : Tr 3))
    rw [List.filter_append, pl4_wo s r, pl3_wo]
theorem moved_up (S : Tr 4) (s : Int) : mv st0 ((places S).filter (fun r => !decide (r.1 = s))) = places (wo 3 s S) := by
  unfold places
  rw [pl4_wo]
  have h := mv_open4 ((ls S).map fun g => ((ls g).map fun c => ((ls c).map (wo 0 s) : Tr 2) : Tr 3)) 0 (-1) (-1) (-1) (-1) (-1) (-1) (by decide)
  refine h.trans ?_
  show pl4 0 (ne3 _) = pl4 0 _
  refine congrArg (pl4 0) ?_
  show ne (((ls S).map fun g => ((ls g).map fun c => ((ls c).map (wo 0 s) : Tr 2) : Tr 3)).map fun g => (ne2 (ls g) : Tr 3)) = ne ((ls S).map (wo 2 s))
  refine congrArg ne (Eq.trans List.map_map (List.map_congr_left fun g _ => ?_))
  show ne (((ls g).map fun c => ((ls c).map (wo 0 s) : Tr 2)).map fun c => (ne (ls c) : Tr 2)) = ne ((ls g).map (wo 1 s))
  exact congrArg ne (Eq.trans List.map_map (List.map_congr_left fun c _ => rfl))
theorem flat_ne {n : Nat} : ∀ xs : List (Tr (n + 1)), flat (n + 2) (ne xs : List (Tr (n + 1))) = flat (n + 2) xs
  | [] => rfl
  | x :: r => by
    obtain ⟨y, hy⟩ : ∃ y : List (Tr n), y = x := ⟨x, rfl⟩
    subst hy
    cases y with
    | nil => exact flat_ne r
    | cons a t =>
      show flat (n + 1) (a :: t : List (Tr n)) ++ flat (n + 2) (ne r : List (Tr (n + 1))) = flat (n + 1) (a :: t : List (Tr n)) ++ flat (n + 2) r
      rw [flat_ne r]
theorem flat_wo (s : Int) : ∀ (n : Nat) (t : Tr (n + 1)), flat (n + 1) (wo n s t) = (flat (n + 1) t).filter (fun x => !decide (x = s))
  | 0, f => (flat_ints (wo 0 s f)).trans (congrArg (List.filter (fun x => !decide (x = s))) (flat_ints f).symm)
  | n + 1, ts => by
    have key : ∀ xs : List (Tr (n + 1)), flat (n + 2) (xs.map (wo n s) : List (Tr (n + 1))) = (flat (n + 2) xs).filter (fun x => !decide (x = s)) := fun xs => by
      induction xs with
      | nil => rfl
      | cons x r ih =>
        show flat (n + 1) (wo n s x) ++ flat (n + 2) (r.map (wo n s) : List (Tr (n + 1))) = (flat (n + 1) x ++ flat (n + 2) (r : List (Tr (n + 1)))).filter _
        rw [List.filter_append, ih, flat_wo s n x]
    exact (flat_ne _).trans (key (ls ts))
theorem wo_in {n : Nat} {s : Int} {ts : Tr (n + 2)} {x : Tr (n + 1)} (h : x ∈ ls (wo (n + 1) s ts)) : ls x ≠ [] ∧ ∃ t ∈ ls ts, x = wo n s t := by
  have h : x ∈ List.filter (fun t : Tr (n + 1) => !(ls t).isEmpty) ((ls ts).map (wo n s)) := h
  obtain ⟨h1, h2⟩ := List.mem_filter.mp h
  obtain ⟨t, ht, e⟩ := List.mem_map.mp h1
  refine ⟨fun z => ?_, t, ht, e.symm⟩
  rw [z] at h2
  cases h2
theorem wo_full {s : Int} : ∀ {n : Nat} {ts : Tr (n + 2)} {x : Tr (n + 1)}, x ∈ ls (wo (n + 1) s ts) → full (n + 1) x
  | 0, _, _, h => ⟨(wo_in h).1, fun _ _ => trivial⟩
  | n + 1, _, x, h => by
    obtain ⟨h1, t, _, rfl⟩ := wo_in h
    exact ⟨h1, fun y hy => wo_full hy⟩
theorem wo_asc {s : Int} : ∀ {n : Nat} {t : Tr (n + 1)}, asc (n + 1) t → asc (n + 1) (wo n s t)
  | 0, f, h => by
    have h : List.Pairwise (α := Int) (· < ·) f := h
    exact List.Pairwise.filter (R := ((· < ·) : Int → Int → Prop)) (fun x => !decide (x = s)) h
  | n + 1, ts, h => fun x hx => by
    obtain ⟨_, t, ht, rfl⟩ := wo_in hx
    exact wo_asc (h t ht)
theorem WF.wo {S : Tr 4} (w : WF S) (s : Int) : WF (My.wo 3 s S) := by
  have e := flat_wo s 3 S
  refine ⟨fun g hg => wo_full hg, wo_asc w.as, fun x hx => w.inn x ?_, ?_⟩
  · have hx : x ∈ flat (3 + 1) (My.wo 3 s S) := hx
    rw [e] at hx
    exact (List.mem_filter.mp hx).1
  · show (flat (3 + 1) (My.wo 3 s S)).Nodup
    rw [e]
    exact w.nd.filter _
theorem wo_len (S : Tr 4) (s : Int) : (flat 4 (wo 3 s S)).length ≤ (flat 4 S).length := by
  have e : flat 4 (wo 3 s S) = (flat 4 S).filter (fun x => !decide (x = s)) := flat_wo s 3 S
  rw [e]
  exact List.length_filter_le _ _
theorem nd_filter {s : Int} : ∀ {xs : List Int}, xs.Nodup → s ∈ xs → (xs.filter (fun x => !decide (x = s))).length + 1 = xs.length
  | [], _, h => nomatch h
  | x :: r, nd, h => by
    rw [List.nodup_cons] at nd
    by_cases e : x = s
    · subst e
      rw [List.filter_cons_of_neg (by simp), List.length_cons]
      rw [List.filter_eq_self.mpr fun y hy => ?_]
      have : y ≠ x := fun q => nd.1 (q ▸ hy)
      simp [this]
    · rw [List.filter_cons_of_pos (by simp [e]), List.length_cons, List.length_cons]
      rcases List.mem_cons.mp h with q | q
      · exact absurd q.symm e
      · rw [nd_filter nd.2 q]
theorem wo_len1 {S : Tr 4} (w : WF S) {s : Int} (h : s ∈ flat 4 S) : (flat 4 (wo 3 s S)).length + 1 = (flat 4 S).length := by
  have e : flat 4 (wo 3 s S) = (flat 4 S).filter (fun x => !decide (x = s)) := flat_wo s 3 S
  rw [e]
  exact nd_filter w.nd h
theorem Lies.of {S : Tr 4} {s : Int} (h : s ∈ flat 4 S) : ∃ p, Lies S s p := by
  obtain ⟨g, hg, h3⟩ := List.mem_flatMap.mp (show s ∈ (ls S).flatMap (flat 3) from h)
  obtain ⟨c, hc, h2⟩ := List.mem_flatMap.mp (show s ∈ (ls g).flatMap (flat 2) from h3)
  obtain ⟨f, hf, h1⟩ := List.mem_flatMap.mp (show s ∈ (ls c).flatMap (flat 1) from h2)
  obtain ⟨i, ei⟩ := List.getElem?_of_mem hg
  obtain ⟨j, ej⟩ := List.getElem?_of_mem hc
  obtain ⟨k, ek⟩ := List.getElem?_of_mem hf
  exact ⟨_, i, j, k, g, c, f, ei, ej, ek, mem_flat1.mp h1, rfl⟩
def spLSortN (K : PySem.W.Frag) : Sp := fun vs H Q _ => ∃ (a : Addr) (ns : List Int) (mx : Int), vs = [.ref a, .int 1, .int mx] ∧ 0 ≤ mx ∧ mx ≤ 60 ∧ SqL K H a (ns.map V.int) ∧ ns.length ≤ 63 ∧
  ∀ w H', ∀ S : Tr 4, Same H H' → New H H' 4 w S → WF S → (flat 4 S).length ≤ 60 → (flat 4 S).length ≤ ns.length → Q w H'
def spTaken : Sp := fun vs H Q _ => ∃ v s, ∃ S : Tr 4, vs = [v, .int s] ∧ AtR H 4 v S ∧ WF S ∧ (flat 4 S).length < 64 ∧ s ∈ flat 4 S ∧ ∀ w H', Same H H' → New H H' 4 w (wo 3 s S) → Q w H'
def spPlaces : Sp := fun vs H Q _ => ∃ v, ∃ S : Tr 4, vs = [v] ∧ AtR H 4 v S ∧ (∀ g ∈ ls S, full 3 g) ∧ (flat 4 S).length < 64 ∧ ∀ w H', Same H H' → New H H' 2 w ((places S).map rl : List (Tr 1)) → Q w H'
def spMoved : Sp := fun vs H Q _ => ∃ l, ∃ R : List Q4, vs = [.ref l] ∧ AtR H 2 (.ref l) (R.map rl : List (Tr 1)) ∧ R.length < 64 ∧ ∀ w H', Same H H' → New H H' 2 w ((mv st0 R).map rl : List (Tr 1)) → Q w H'
def spWholeL : Sp := fun vs H Q _ => ∃ v, ∃ S : Tr 4, vs = [v] ∧ AtR H 4 v S ∧ (∀ g ∈ ls S, full 3 g) ∧ (flat 4 S).length < 64 ∧ ∀ H', Same H H' → Q (.bl true) H'
def spRightT : Sp := fun vs H Q _ => ∃ v s, ∃ S : Tr 4, vs = [v, .int s] ∧ AtR H 4 v S ∧ WF S ∧ (flat 4 S).length < 64 ∧ s ∈ flat 4 S ∧ ∀ H', Same H H' → Q (.bl true) H'
def t3 (x : T3) : List V := [.int x.1, .int x.2.1, .int x.2.2]
theorem t3_0 (x : T3) : atI (t3 x) 0 = some (.int x.1) := atI_nat (j := 0) rfl
theorem t3_1 (x : T3) : atI (t3 x) 1 = some (.int x.2.1) := atI_nat (j := 1) rfl
theorem t3_2 (x : T3) : atI (t3 x) 2 = some (.int x.2.2) := atI_nat (j := 2) rfl
def Vis (i j m : Nat) : List Nat → Prop
  | [m', j', i'] => i' < i ∨ (i' = i ∧ (j' < j ∨ (j' = j ∧ m' < m)))
  | _ => False
theorem vis3 {i j m a b c : Nat} : Vis i j m [c, b, a] ↔ (a < i ∨ (a = i ∧ (b < j ∨ (b = j ∧ c < m)))) := Iff.rfl
theorem vis_is {i j m : Nat} {p : List Nat} (h : Vis i j m p) : ∃ c b a, p = [c, b, a] := by
  match p, h with
  | [c, b, a], _ => exact ⟨c, b, a, rfl⟩
/-- what is not owned stays, and what is owned and not visited yet -/
structure Jv (o : Ow) (G0 : Hp) (i j m : Nat) (G : Hp) : Prop where
  out : ∀ b u, o b = none → G0 b = some u → G b = some u
  own : ∀ b p u, o b = some p → ¬ Vis i j m p → G0 b = some u → G b = some u
theorem Jv.mono {o : Ow} {G0 G : Hp} {i j m i' j' m' : Nat} (h : Jv o G0 i j m G) (hv : ∀ c b a, Vis i j m [c, b, a] → Vis i' j' m' [c, b, a]) : Jv o G0 i' j' m' G :=
  ⟨h.out, fun b p u hp hn => h.own b p u hp fun z => hn (by
    obtain ⟨x, y, w, rfl⟩ := vis_is z
    exact hv _ _ _ z)⟩
theorem Jv.step {o : Ow} {G0 G : Hp} {i j m : Nat} {a : Addr} {w : HO} (h : Jv o G0 i j m G) (ha : o a = some [m, j, i]) : Jv o G0 i j (m + 1) (upd G a w) := by
  refine ⟨fun b u hb hu => ?_, fun b p u hp hn hu => ?_⟩
  · rw [upd_ne (fun z => by rw [z, ha] at hb; cases hb)]
    exact h.out b u hb hu
  · have nb : b ≠ a := fun z => by
      rw [z, ha] at hp
      cases hp
      exact hn (vis3.mpr (.inr ⟨rfl, .inr ⟨rfl, Nat.lt_succ_self m⟩⟩))
    rw [upd_ne nb]
    refine h.own b p u hp (fun z => hn ?_) hu
    obtain ⟨x, y, v, rfl⟩ := vis_is z
    rw [vis3] at z ⊢
    omega
/-- things one by one -/
def AtL (H : Hp) (n : Nat) (ws : List V) (ts : List (Tr n)) : Prop := ws.length = ts.length ∧ ∀ (j : Nat) w t, ws[j]? = some w → ts[j]? = some t → AtR H n w t
theorem AtL.nil {H : Hp} {n : Nat} : AtL H n [] [] := ⟨rfl, fun j w t h => (by rw [List.getElem?_nil] at h; cases h)⟩
theorem AtL.snoc {H : Hp} {n : Nat} {ws : List V} {ts : List (Tr n)} {w : V} {t : Tr n} (h : AtL H n ws ts) (hw : AtR H n w t) : AtL H n (ws ++ [w]) (ts ++ [t]) := by
  refine ⟨by rw [List.length_append, List.length_append, h.1]; rfl, fun j u x hu hx => ?_⟩
  by_cases hj : j < ws.length
  · rw [List.getElem?_append_left hj] at hu
    rw [List.getElem?_append_left (by rw [← h.1]; exact hj)] at hx
    exact h.2 j u x hu hx
  · rw [List.getElem?_append_right (by omega)] at hu
    rw [List.getElem?_append_right (by rw [← h.1]; omega)] at hx
    obtain ⟨h1, e1⟩ := List.getElem?_eq_some_iff.mp hu
    have j0 : j - ws.length = 0 := by simpa using h1
    rw [j0] at hu
    rw [← h.1, j0] at hx
    cases Option.some.inj hu
    cases Option.some.inj hx
    exact hw
theorem AtL.at {H H' : Hp} {n : Nat} {a : Addr} {ws : List V} {ts : List (Tr n)} (h : AtL H n ws ts) (s : Same H H') (e : H' a = some (.lst ws)) : AtR H' (n + 1) (.ref a) ts := ⟨a, ws, rfl, e, h.1, fun j w t hw ht => (h.2 j w t hw ht).same s⟩
theorem small_rl (R : List Q4) (h : R.length ≤ 1000) : small 2 (R.map rl : List (Tr 1)) := by
  refine ⟨by show (R.map rl).length ≤ 1000; rw [List.length_map]; exact h, fun t ht => ?_⟩
  obtain ⟨r, _, rfl⟩ := List.mem_map.mp (show t ∈ R.map rl from ht)
  exact ⟨by show (4 : Nat) ≤ 1000; decide, fun _ _ => trivial⟩

def spLaw (K : PySem.W.Frag) : Sp := fun vs H Q _ => ∃ (a : Addr) (ns : List Int), vs = [.ref a] ∧ SqL K H a (ns.map V.int) ∧ ns.length ≤ 63 ∧ ∀ H', Q (.bl true) H'

def top (i : Nat) : Stmt := PySem.Challenge.pw_rightname_k46_taken.main.body.getD i (.Pass ⟨0, 0, 0, 0⟩)
abbrev s_is_whole : Stmt := top 6
abbrev s_is_number : Stmt := top 7
abbrev s_sorting_list : Stmt := top 10
abbrev s_group_list : Stmt := top 11
abbrev s_sheet_list : Stmt := top 12
abbrev s_groups : Stmt := top 13
abbrev s_groups_in : Stmt := top 14
abbrev s_sheets_of : Stmt := top 15
abbrev s_refuse_sheet : Stmt := top 16
abbrev s_path_of : Stmt := top 17
abbrev s_without : Stmt := top 18
abbrev s_taken : Stmt := top 19
abbrev s_Ldrawn : Stmt := top 21
abbrev s_Lsheet : Stmt := top 22
abbrev s_Lput : Stmt := top 23
abbrev s_Lsorting : Stmt := top 24
abbrev s_Lcopy : Stmt := top 25
abbrev s_Lsame : Stmt := top 26
abbrev s_Lplaces : Stmt := top 27
abbrev s_Lmoved_up : Stmt := top 28
abbrev s_Lwhole_lists : Stmt := top 29
abbrev s_Lright : Stmt := top 30
abbrev s_law : Stmt := top 31
structure Fn (K : PySem.W.Frag) (mg : Str → Option Value) (x : Str) (st : Stmt) (ps : List Str) (f : Addr) (fd : FuncData) : Prop where
  fn : Fun K x x st f fd
  mgf : mg x = some (.ref f)
  bi : Binds K fd ps []
theorem Fn.kp {K : PySem.W.Frag} {mg : Str → Option Value} {x : Str} {st : Stmt} {ps : List Str} {f : Addr} {fd : FuncData} (F : Fn K mg x st ps f fd) : PySem.W.keepIn K (.ref f) = true := F.fn.kp
set_option genInjectivity false in
set_option genSizeOfSpec false in
set_option genSizeOf false in
structure Ad where
  a_is_whole : Addr
  d_is_whole : FuncData
  a_is_number : Addr
  d_is_number : FuncData
  a_sorting_list : Addr
  d_sorting_list : FuncData
  a_group_list : Addr
  d_group_list : FuncData
  a_sheet_list : Addr
  d_sheet_list : FuncData
  a_groups : Addr
  d_groups : FuncData
  a_groups_in : Addr
  d_groups_in : FuncData
  a_sheets_of : Addr
  d_sheets_of : FuncData
  a_refuse_sheet : Addr
  d_refuse_sheet : FuncData
  a_path_of : Addr
  d_path_of : FuncData
  a_without : Addr
  d_without : FuncData
  a_taken : Addr
  d_taken : FuncData
  a_Ldrawn : Addr
  d_Ldrawn : FuncData
  a_Lsheet : Addr
  d_Lsheet : FuncData
  a_Lput : Addr
  d_Lput : FuncData
  a_Lsorting : Addr
  d_Lsorting : FuncData
  a_Lcopy : Addr
  d_Lcopy : FuncData
  a_Lsame : Addr
  d_Lsame : FuncData
  a_Lplaces : Addr
  d_Lplaces : FuncData
  a_Lmoved_up : Addr
  d_Lmoved_up : FuncData
  a_Lwhole_lists : Addr
  d_Lwhole_lists : FuncData
  a_Lright : Addr
  d_Lright : FuncData
  a_law : Addr
  d_law : FuncData
  u_LAST_NUMBER : Value
  u_FORM_DEPTH : Value
  c_NoSorting : Addr
  c_NoSheet : Addr
structure Txt (w : World) (K : PySem.W.Frag) (mg : Str → Option Value) (c : Ad) : Prop where
  is_whole : Fn K mg "is_whole" s_is_whole ["thing"] c.a_is_whole c.d_is_whole
  is_number : Fn K mg "is_number" s_is_number ["thing"] c.a_is_number c.d_is_number
  sorting_list : Fn K mg "sorting_list" s_sorting_list ["sorting"] c.a_sorting_list c.d_sorting_list
  group_list : Fn K mg "group_list" s_group_list ["group", "depth", "seen"] c.a_group_list c.d_group_list
  sheet_list : Fn K mg "sheet_list" s_sheet_list ["sheets", "seen"] c.a_sheet_list c.d_sheet_list
  groups : Fn K mg "groups" s_groups ["sorting"] c.a_groups c.d_groups
  groups_in : Fn K mg "groups_in" s_groups_in ["path", "parts"] c.a_groups_in c.d_groups_in
  sheets_of : Fn K mg "sheets_of" s_sheets_of ["told"] c.a_sheets_of c.d_sheets_of
  refuse_sheet : Fn K mg "refuse_sheet" s_refuse_sheet ["sheet"] c.a_refuse_sheet c.d_refuse_sheet
  path_of : Fn K mg "path_of" s_path_of ["sorting", "sheet"] c.a_path_of c.d_path_of
  without : Fn K mg "without" s_without ["parts", "sheet", "depth"] c.a_without c.d_without
  taken : Fn K mg "taken" s_taken ["sorting", "sheet"] c.a_taken c.d_taken
  Ldrawn : Fn K mg "_law_drawn" s_Ldrawn ["_law_script", "_law_k"] c.a_Ldrawn c.d_Ldrawn
  Lsheet : Fn K mg "_law_sheet" s_Lsheet ["_law_number", "_law_k"] c.a_Lsheet c.d_Lsheet
  Lput : Fn K mg "_law_put" s_Lput ["_law_sorting_here", "_law_sheet_here", "_law_number"] c.a_Lput c.d_Lput
  Lsorting : Fn K mg "_law_sorting" s_Lsorting ["_law_script", "_law_start", "_law_most"] c.a_Lsorting c.d_Lsorting
  Lcopy : Fn K mg "_law_copy" s_Lcopy ["_law_sorting_here"] c.a_Lcopy c.d_Lcopy
  Lsame : Fn K mg "_law_same" s_Lsame ["_law_found", "_law_due"] c.a_Lsame c.d_Lsame
  Lplaces : Fn K mg "_law_places" s_Lplaces ["_law_sorting_here"] c.a_Lplaces c.d_Lplaces
  Lmoved_up : Fn K mg "_law_moved_up" s_Lmoved_up ["_law_rows"] c.a_Lmoved_up c.d_Lmoved_up
  Lwhole_lists : Fn K mg "_law_whole_lists" s_Lwhole_lists ["_law_found"] c.a_Lwhole_lists c.d_Lwhole_lists
  Lright : Fn K mg "_law_right" s_Lright ["_law_sorting_here", "_law_sheet_here"] c.a_Lright c.d_Lright
  law : Fn K mg "law" s_law ["_law_script"] c.a_law c.d_law
  mg_LAST_NUMBER : mg "LAST_NUMBER" = some c.u_LAST_NUMBER
  rl_LAST_NUMBER : RelV (.int 1000000000) c.u_LAST_NUMBER
  mg_FORM_DEPTH : mg "FORM_DEPTH" = some c.u_FORM_DEPTH
  rl_FORM_DEPTH : RelV (.int 3) c.u_FORM_DEPTH
  mg_NoSorting : mg "NoSorting" = some (.ref c.c_NoSorting)
  mg_NoSheet : mg "NoSheet" = some (.ref c.c_NoSheet)
  x_NoSorting : XCls K c.c_NoSorting
  q_NoSorting : XAsk K c.c_NoSorting
  x_NoSheet : XCls K c.c_NoSheet
  q_NoSheet : XAsk K c.c_NoSheet
  no_len : mg "len" = none
  no_isinstance : mg "isinstance" = none
  no_int : mg "int" = none
  no_bool : mg "bool" = none
  no_list : mg "list" = none
  no_tuple : mg "tuple" = none
  no_sorted : mg "sorted" = none
  no_range : mg "range" = none
  no_min : mg "min" = none
  no_enumerate : mg "enumerate" = none
  no_all : mg "all" = none
theorem sc_is_whole : FnScope ["thing"] ["thing"] (defScope s_is_whole) := ⟨rfl, rfl, rfl, by decide +kernel, rfl, by decide +kernel, by decide +kernel⟩
theorem sc_is_number : FnScope ["thing"] ["thing"] (defScope s_is_number) := ⟨rfl, rfl, rfl, by decide +kernel, rfl, by decide +kernel, by decide +kernel⟩
theorem sc_sorting_list : FnScope ["sorting", "seen"] ["sorting"] (defScope s_sorting_list) := ⟨rfl, rfl, rfl, by decide +kernel, rfl, by decide +kernel, by decide +kernel⟩
theorem sc_group_list : FnScope ["group", "depth", "seen"] ["group", "depth", "seen"] (defScope s_group_list) := ⟨rfl, rfl, rfl, by decide +kernel, rfl, by decide +kernel, by decide +kernel⟩
theorem sc_sheet_list : FnScope ["sheets", "seen", "found", "sheet"] ["sheets", "seen"] (defScope s_sheet_list) := ⟨rfl, rfl, rfl, by decide +kernel, rfl, by decide +kernel, by decide +kernel⟩
theorem sc_groups : FnScope ["sorting"] ["sorting"] (defScope s_groups) := ⟨rfl, rfl, rfl, by decide +kernel, rfl, by decide +kernel, by decide +kernel⟩
theorem sc_groups_in : FnScope ["path", "parts", "found", "place", "part", "inner", "inside"] ["path", "parts"] (defScope s_groups_in) := ⟨rfl, rfl, rfl, by decide +kernel, rfl, by decide +kernel, by decide +kernel⟩
theorem sc_sheets_of : FnScope ["told", "found", "path", "sheets"] ["told"] (defScope s_sheets_of) := ⟨rfl, rfl, rfl, by decide +kernel, rfl, by decide +kernel, by decide +kernel⟩
theorem sc_refuse_sheet : FnScope ["sheet"] ["sheet"] (defScope s_refuse_sheet) := ⟨rfl, rfl, rfl, by decide +kernel, rfl, by decide +kernel, by decide +kernel⟩
theorem sc_path_of : FnScope ["sorting", "sheet", "told", "path", "sheets"] ["sorting", "sheet"] (defScope s_path_of) := ⟨rfl, rfl, rfl, by decide +kernel, rfl, by decide +kernel, by decide +kernel⟩
theorem sc_without : FnScope ["parts", "sheet", "depth", "left"] ["parts", "sheet", "depth"] (defScope s_without) := ⟨rfl, rfl, rfl, by decide +kernel, rfl, by decide +kernel, by decide +kernel⟩
theorem sc_taken : FnScope ["sorting", "sheet"] ["sorting", "sheet"] (defScope s_taken) := ⟨rfl, rfl, rfl, by decide +kernel, rfl, by decide +kernel, by decide +kernel⟩
theorem sc_Ldrawn : FnScope ["_law_script", "_law_k"] ["_law_script", "_law_k"] (defScope s_Ldrawn) := ⟨rfl, rfl, rfl, by decide +kernel, rfl, by decide +kernel, by decide +kernel⟩
theorem sc_Lsheet : FnScope ["_law_number", "_law_k"] ["_law_number", "_law_k"] (defScope s_Lsheet) := ⟨rfl, rfl, rfl, by decide +kernel, rfl, by decide +kernel, by decide +kernel⟩
theorem sc_Lput : FnScope ["_law_sorting_here", "_law_sheet_here", "_law_number", "_law_genus", "_law_clan", "_law_at"] ["_law_sorting_here", "_law_sheet_here", "_law_number"] (defScope s_Lput) := ⟨rfl, rfl, rfl, by decide +kernel, rfl, by decide +kernel, by decide +kernel⟩
theorem sc_Lsorting : FnScope ["_law_script", "_law_start", "_law_most", "_law_sorting_here", "_law_k", "_law_number"] ["_law_script", "_law_start", "_law_most"] (defScope s_Lsorting) := ⟨rfl, rfl, rfl, by decide +kernel, rfl, by decide +kernel, by decide +kernel⟩
theorem sc_Lcopy : FnScope ["_law_sorting_here", "_law_found", "_law_genus", "_law_clan"] ["_law_sorting_here"] (defScope s_Lcopy) := ⟨rfl, rfl, rfl, by decide +kernel, rfl, by decide +kernel, by decide +kernel⟩
theorem sc_Lsame : FnScope ["_law_found", "_law_due", "_law_k"] ["_law_found", "_law_due"] (defScope s_Lsame) := ⟨rfl, rfl, rfl, by decide +kernel, rfl, by decide +kernel, by decide +kernel⟩
theorem sc_Lplaces : FnScope ["_law_sorting_here", "_law_rows", "_law_i", "_law_j", "_law_k", "_law_sheet_here"] ["_law_sorting_here"] (defScope s_Lplaces) := ⟨rfl, rfl, rfl, by decide +kernel, rfl, by decide +kernel, by decide +kernel⟩
theorem sc_Lmoved_up : FnScope ["_law_rows", "_law_found", "_law_last", "_law_here", "_law_sheet_here", "_law_i", "_law_j", "_law_k"] ["_law_rows"] (defScope s_Lmoved_up) := ⟨rfl, rfl, rfl, by decide +kernel, rfl, by decide +kernel, by decide +kernel⟩
theorem sc_Lwhole_lists : FnScope ["_law_found", "_law_genus", "_law_clan", "_law_form"] ["_law_found"] (defScope s_Lwhole_lists) := ⟨rfl, rfl, rfl, by decide +kernel, rfl, by decide +kernel, by decide +kernel⟩
theorem sc_Lright : FnScope ["_law_sorting_here", "_law_sheet_here", "_law_handed", "_law_found", "_law_due", "_law_kept", "_law_genus", "_law_clan", "_law_form"] ["_law_sorting_here", "_law_sheet_here"] (defScope s_Lright) := ⟨rfl, rfl, rfl, by decide +kernel, rfl, by decide +kernel, by decide +kernel⟩
theorem sc_law : FnScope ["_law_script", "_law_sorting_here", "_law_rows", "_law_row", "_law_left", "_law_k", "_law_some", "_law_number"] ["_law_script"] (defScope s_law) := ⟨rfl, rfl, rfl, by decide +kernel, rfl, by decide +kernel, by decide +kernel⟩
section
variable {P : Program} {w : World} {K : PySem.W.Frag} {mg : Str → Option Value} {base : Heap} {c : Ad}

set_option maxHeartbeats 4000000 in
theorem ok_is_whole (T : Txt w K mg c) : FnOk P w K mg base CX0 1 c.a_is_whole c.d_is_whole ["thing"] (spW K) := by
  refine T.is_whole.fn.ok sc_is_whole (fun vs H Q E h => ?_) (fun cdv A outer s H vs Q E hr h => ?_)
  · obtain ⟨x, rfl, _⟩ := h
    rfl
  · obtain ⟨x, rfl, ow, k⟩ := h
    refine ⟨_, (pss_one (ps_ret (pe_and (pe_callB call_isiA rfl T.no_isinstance bt_isinstance (pa_cons (pv 0) (pa_cons (pe_bltn (v := .ty "int") rfl T.no_int bt_int rfl) pa_nil))) (pe_one (pe_not (pe_callB call_isiA rfl T.no_isinstance bt_isinstance (pa_cons (pv 0) (pa_cons (pe_bltn (v := .ty "bool") rfl T.no_bool bt_bool rfl) pa_nil)))))))), ?_⟩
    refine ⟨x, rfl, rIsiA.int ow ⟨_, rfl, ?_⟩⟩
    cases x with
    | int i => exact iteT ⟨_, rfl, rIsiA.bool ow ⟨_, rfl, k⟩⟩
    | bl b => exact iteT ⟨_, rfl, rIsiA.bool ow ⟨_, rfl, k⟩⟩
    | _ => exact iteF k

set_option maxHeartbeats 4000000 in
theorem ok_is_number (T : Txt w K mg c) : FnOk P w K mg base CX0 2 c.a_is_number c.d_is_number ["thing"] (spR K 1000000000) := by
  refine T.is_number.fn.ok sc_is_number (fun vs H Q E h => ?_) (fun cdv A outer s H vs Q E hr h => ?_)
  · obtain ⟨x, rfl, _⟩ := h
    rfl
  · obtain ⟨x, rfl, ow, k⟩ := h
    refine ⟨_, (pss_one (ps_ret (pe_and (pe_call (ok_is_whole T) (hr.mono (by decide)) rfl T.is_whole.mgf T.is_whole.kp T.is_whole.bi .nil pass0 (pa_cons (pv 0) pa_nil)) (pe_one (pe_chain op_le op_le pe_int (pv 0) (pe_glob rfl T.mg_LAST_NUMBER T.rl_LAST_NUMBER)))))), ?_⟩
    refine ⟨x, rfl, x, rfl, ow, _, rfl, ?_⟩
    cases x with
    | int i =>
      refine iteT ⟨_, rfl, _, _, rfl, rfl, _, rfl, ?_⟩
      by_cases h1 : 1 ≤ i
      · rw [if_pos (decide_eq_true h1)]
        refine ⟨_, _, rfl, rfl, ?_⟩
        simpa [inR, h1] using k
      · rw [if_neg (by simp [h1])]
        simpa [inR, h1] using k
    | _ => exact iteF k

set_option maxHeartbeats 4000000 in
theorem ok_sheet_list (T : Txt w K mg c) : FnOk P w K mg base (CXx P w) 3 c.a_sheet_list c.d_sheet_list ["sheets", "seen"] (spSheetList) := by
  refine T.sheet_list.fn.okx sc_sheet_list (fun vs H Q E h => ?_) (fun cdv A outer s H vs Q E hr h => ?_)
  · obtain ⟨a, d, ns, kvs, rfl, _⟩ := h
    rfl
  · obtain ⟨a, d, ns, kvs, rfl, hA, hD, hg, hp, hv, hz, k⟩ := h
    refine ⟨_, (pss_cons (ps_set (i := 2) sc_sheet_list.nd rfl (Or.inl rfl) (pe_lst pa_nil))
      (pss_cons (ps_for own_def rfl (pi_list (pv 0)) (pg_name (i := 3) sc_sheet_list.nd rfl (Or.inl rfl))
        (pss_cons (ps_if (pt_not (pt_val (pe_call (ok_is_number T) (hr.mono (by decide)) rfl T.is_number.mgf T.is_number.kp T.is_number.bi .nil pass0 (pa_cons (pv 3) pa_nil))))
        (pss_one (ps_raise T.x_NoSorting rfl rfl T.mg_NoSorting rz_def (pa_cons pe_str pa_nil)))
        pss_nil)
      (pss_cut (ps_if (PW.pt (pw_and (pt_truth (pv 2) (fun _ => rfl)) (pw_and1 (pt_cmpR op_le (pv 3) (pe_ix ix_list (pv 2) (pe_un un_neg pe_int) (fun _ _ => rfl)) (nomark _)))))
        (pss_one (ps_raise T.x_NoSorting rfl rfl T.mg_NoSorting rz_def (pa_cons pe_str pa_nil)))
        pss_nil)
      (pss_cons (ps_if (pt_cmp (pc_din (hu_of hr) (pv 3) (pv 1)))
        (pss_one (ps_raise T.x_NoSorting rfl rfl T.mg_NoSorting rz_def (pa_cons pe_str pa_nil)))
        pss_nil)
      (pss_cons (ps_dput (hu_of hr) (pv 1) (pv 3) pe_bl rfl)
      (pss_one (ps_expr (pe_bm PySem.F.plainAttrs_list PySem.F.slot_list_append PySem.F.type_list_append (MtM.r mt_append) (pv 2) (pa_cons (pv 3) pa_nil)))))))))
      (pss_one (ps_ret (pv 2))))), ?_⟩
    refine ⟨le_ble rfl, fun l hl => ?_⟩
    have nla : a ≠ l := ne_of_none hA hl
    have nld : d ≠ l := ne_of_none hD hl
    refine ⟨_, rfl, a, rfl, ⟨_, SqL.of (by rw [upd_ne nla]; exact hA)⟩, ?_⟩
    refine for_list (xs := ns.map V.int) (fun i σ G => ∃ z kv', σ = [some (.ref a), some (.ref d), some (.ref l), z] ∧ G l = some (.lst ((ns.take i).map V.int)) ∧ G a = some (.lst (ns.map V.int)) ∧ G d = some (.dK kv') ∧ Seen kvs kv' (ns.take i) ∧ FrD d H G) ?_ ?_ ?_ ?_
    · exact ⟨_, kvs, rfl, upd_same, by rw [upd_ne nla]; exact hA, by rw [upd_ne nld]; exact hD, Seen.nil kvs, fun b u _ hb => by rw [upd_ne (ne_of_none hb hl)]; exact hb⟩
    · rintro i σ G _ ⟨z, kv', _, _, h, _⟩
      exact SqL.of h
    · rintro i x σ G hx ⟨z, kv', rfl, h1, h2, h3, h4, h5⟩
      obtain ⟨s, hs, rfl⟩ := getI hx
      have hm := List.mem_of_getElem? hs
      have q : valV kv' (Sum.inl s) = none := (h4.2 s).mpr ⟨hv s hm, nd_take hg.nd hs⟩
      have n1 : l ≠ d := ne_of h1 h3 (by intro z; cases z)
      have n2 : a ≠ d := ne_of h2 h3 (by intro z; cases z)
      have n3 : a ≠ l := nla
      have hi : i < ns.length := (List.getElem?_eq_some_iff.mp hs).1
      have sz : 1000 < sizeLine := le_ble rfl
      have lt : (ns.take i).length = i := by rw [List.length_take]; omega
      have e4 := h4.1
      rw [lt] at e4
      refine ⟨_, rfl, _, rfl, Own.int, _, rfl, ?_⟩
      rw [hg.inn s hm]
      refine iteF ?_
      refine ⟨fun σ' G' => σ' = [some (V.ref a), some (V.ref d), some (V.ref l), some (V.int s)] ∧ G' = G, ?_, ?_⟩
      · refine ⟨_, rfl, _, .inl ⟨_, SqL.of h1, rfl⟩, ?_⟩
        match i, hs, h1 with
        | 0, _, _ => exact iteF ⟨rfl, rfl⟩
        | m + 1, hs, h1 =>
          obtain ⟨p, ep⟩ : ∃ p, ns[m]? = some p := ⟨ns[m], List.getElem?_eq_getElem (by omega)⟩
          rw [take_one ep, List.map_append] at h1
          have lt2 : p < s := by
            obtain ⟨h2', e2⟩ := List.getElem?_eq_some_iff.mp ep
            obtain ⟨h3', e3⟩ := List.getElem?_eq_some_iff.mp hs
            rw [← e2, ← e3]
            exact List.pairwise_iff_getElem.mp hp m (m + 1) h2' h3' (by omega)
          rw [take_one ep, List.map_append]
          have ee : (!(List.map V.int (ns.take m) ++ List.map V.int [p]).isEmpty) = true := by cases List.map V.int (ns.take m) <;> rfl
          rw [ee]
          refine iteT ⟨_, rfl, _, rfl, _, rfl, l, _, _, _, rfl, rfl, SqL.of h1, atI_last _ _, _, _, rfl, rfl, _, rfl, ?_⟩
          rw [decide_eq_false (by omega)]
          exact iteF ⟨rfl, rfl⟩
      rintro σ' G' ⟨rfl, rfl⟩
      refine ⟨_, rfl, _, rfl, d, _, rfl, DGet.k (k := Sum.inl s) h3, ?_⟩
      rw [q]
      refine ⟨_, rfl, iteF ?_⟩
      refine ⟨_, rfl, _, rfl, d, _, rfl, DPut.k (k := Sum.inl s) h3 (by omega), ?_⟩
      refine ⟨_, rfl, .inl ⟨rfl, _, SqL.of (by rw [upd_ne n1]; exact h1)⟩, _, rfl, l, _, _, rfl, rfl, by rw [upd_ne n1]; exact h1, by rw [List.length_map]; omega, ?_⟩
      refine ⟨_, putK kv' (Sum.inl s) (.bl true), rfl, ?_, ?_, ?_, ?_, ?_⟩
      · rw [upd_same, take_one hs, List.map_append]; rfl
      · rw [upd_ne n3, upd_ne n2]; exact h2
      · rw [upd_ne n1.symm, upd_same]
      · rw [take_one hs]; exact h4.put q
      · intro b u nb hb
        rw [upd_ne (fun z => by rw [z, hl] at hb; cases hb), upd_ne nb]
        exact h5 b u nb hb
    · rintro σ G ⟨z, kv', rfl, h1, h2, h3, h4, h5⟩
      rw [List.length_map, List.take_of_length_le (Nat.le_refl _)] at h1 h4
      exact ⟨_, rfl, k l kv' G h5 hl h1 h3 h4⟩

set_option maxHeartbeats 4000000 in
theorem ok_group_list (T : Txt w K mg c) : ∀ n : Nat, FnOk P w K mg base (CXx P w) (4 + n) c.a_group_list c.d_group_list ["group", "depth", "seen"] (spGroupList n)
  | 0 => by
    refine T.group_list.fn.okx sc_group_list (fun vs H Q E h => ?_) (fun cdv A outer s H vs Q E hr h => ?_)
    · obtain ⟨v, d, t, kvs, rfl, _⟩ := h
      rfl
    · obtain ⟨v, d, t, kvs, rfl, hat, hg, hD, hv, hz, k⟩ := h
      refine ⟨_, (pss_cons (ps_if (PW.pt (pw_or (pt_not (pt_val (pe_callB call_isiA rfl T.no_isinstance bt_isinstance (pa_cons (pv 0) (pa_cons (pe_bltn (v := .ty "list") rfl T.no_list bt_list rfl) pa_nil))))) (pw_or1 (pt_cmpR op_eq (pe_callB call_len_seq rfl T.no_len bt_len (pa_cons (pv 0) pa_nil)) pe_int (nomark _)))))
        (pss_one (ps_raise T.x_NoSorting rfl rfl T.mg_NoSorting rz_def (pa_cons pe_str pa_nil)))
        pss_nil)
      (pss_cons (ps_if (pt_cmpR op_eq (pv 1) (pe_glob rfl T.mg_FORM_DEPTH T.rl_FORM_DEPTH) (nomark _))
        (pss_one (ps_ret (pe_callS (ok_sheet_list T) (hr.mono (by decide)) rfl T.sheet_list.mgf T.sheet_list.kp T.sheet_list.bi .nil pass_def (pa_cons (pv 0) (pa_cons (pv 2) pa_nil)))))
        pss_nil)
      (pss_one ps_never))), ?_⟩
      obtain ⟨a, vs, rfl, _, _⟩ := hat.lst
      have hA := AtR.ints (ns := t) hat
      have hne : ls t ≠ [] := hg.fu.1
      refine ⟨_, rfl, rIsiA.ty (.lst hA) rfl ⟨_, rfl, iteF ?_⟩⟩
      refine ⟨_, rfl, a, _, rfl, .inl (SqL.of hA), rfl, _, rfl, ?_⟩
      refine ite2 (fun z => ?_) (fun _ => ?_)
      · exfalso
        have z := V.int.inj (of_decide_eq_true z)
        exact hne (List.length_eq_zero_iff.mp (by exact (List.length_map (f := V.int) (as := t)).symm.trans (Int.ofNat_eq_zero.mp z)))
      
      have e1 := flat_ints t
      refine ⟨_, rfl, rfl, _, rfl, iteT ?_⟩
      refine ⟨_, rfl, _, rfl, a, d, t, kvs, rfl, hA, hD, ⟨e1 ▸ hg.inn, e1 ▸ hg.nd⟩, hg.as, e1 ▸ hv, by rw [← e1]; exact hz, fun l kv' H' f hl h1 h2 h3 => ?_⟩
      exact k _ kv' H' f (New.ints hl h1) h2 (by rw [e1]; exact h3)
  | n + 1 => by
    have ih := ok_group_list T n
    refine T.group_list.fn.okx sc_group_list (fun vs H Q E h => ?_) (fun cdv A outer s H vs Q E hr h => ?_)
    · obtain ⟨v, d, t, kvs, rfl, _⟩ := h
      rfl
    · obtain ⟨v, d, t, kvs, rfl, hat, hg, hD, hv, hz, k⟩ := h
      refine ⟨_, (pss_cons (ps_if (PW.pt (pw_or (pt_not (pt_val (pe_callB call_isiA rfl T.no_isinstance bt_isinstance (pa_cons (pv 0) (pa_cons (pe_bltn (v := .ty "list") rfl T.no_list bt_list rfl) pa_nil))))) (pw_or1 (pt_cmpR op_eq (pe_callB call_len_seq rfl T.no_len bt_len (pa_cons (pv 0) pa_nil)) pe_int (nomark _)))))
        (pss_one (ps_raise T.x_NoSorting rfl rfl T.mg_NoSorting rz_def (pa_cons pe_str pa_nil)))
        pss_nil)
      (pss_cons (ps_if (pt_cmpR op_eq (pv 1) (pe_glob rfl T.mg_FORM_DEPTH T.rl_FORM_DEPTH) (nomark _))
        (pss_one (ps_ret (pe_callS (ok_sheet_list T) (hr.mono (le_k (by decide))) rfl T.sheet_list.mgf T.sheet_list.kp T.sheet_list.bi .nil pass_def (pa_cons (pv 0) (pa_cons (pv 2) pa_nil)))))
        pss_nil)
      (pss_one (ps_ret (pe_comp (N' := ["part", "seen", "depth"]) (js := [none, some 2, some 1]) rfl rfl (by decide +kernel) (by decide +kernel) (free_of ["seen", "depth"] (by decide +kernel) (fm_cons (.inl rfl) (fm_cons (.inl rfl) fm_nil))) (cap_of rfl (fm_cons (fun j e => nomatch e) (fm_cons (fun j e => by cases e; exact ⟨rfl, rfl, .inl rfl⟩) (fm_cons (fun j e => by cases e; exact ⟨rfl, rfl, .inl rfl⟩) fm_nil)))) (pi_list (pv 0)) (fun B => ⟨(pg_name (i := 0) (show List.Nodup (["part", "seen", "depth"] : List Str) by decide +kernel) rfl (Or.inl rfl)), pifs_nil, (pe_callS ih (hr.mono (Nat.le_refl _)) rfl T.group_list.mgf T.group_list.kp T.group_list.bi .nil passE0 (pa_cons (pv 0) (pa_cons (pe_op op_add (pv 2) pe_int) (pa_cons (pv 1) pa_nil))))⟩)))))), ?_⟩
      obtain ⟨a, vs, rfl, hA, hlen⟩ := hat.lst
      have hne : ls t ≠ [] := hg.fu.1
      refine ⟨_, rfl, rIsiA.ty (.lst hA) rfl ⟨_, rfl, iteF ?_⟩⟩
      refine ⟨_, rfl, a, _, rfl, .inl (SqL.of hA), rfl, _, rfl, ?_⟩
      refine ite2 (fun z => ?_) (fun _ => ?_)
      · exfalso
        have z := V.int.inj (of_decide_eq_true z)
        exact hne (List.length_eq_zero_iff.mp (by omega))
      
      refine ⟨_, rfl, rfl, _, rfl, ?_⟩
      refine ite2 (fun z => ?_) (fun _ => ?_)
      · exfalso
        have z := V.int.inj (of_decide_eq_true z)
        omega
      have sz : 1000 < sizeLine := le_ble rfl
      have lz : vs.length ≤ 1000 := by
        have := flat_full (fun g hg' => hg.fu.2 g hg') (ts := ls t)
        have e : (flat (n + 1 + 1) t).length = (flat (n + 1 + 1) (ls t : List (Tr (n + 1)))).length := rfl
        omega
      refine ⟨_, rfl, a, rfl, ⟨_, SqL.of hA⟩, fun l B hl => ?_⟩
      have nla : a ≠ l := ne_of_none hA hl
      have nld : d ≠ l := ne_of_none hD hl
      refine loop_lst (xs := vs) (fun i σ acc G => (∃ o, σ = [o, some (.ref d), some (.int (3 - ((n + 1 : Nat) : Int)))]) ∧ ∃ kv', G l = some (.lst acc) ∧ acc.length = i ∧ G d = some (.dK kv') ∧ Seen kvs kv' (flat (n + 2) ((ls t).take i : List (Tr (n + 1)))) ∧ FrD d H G ∧ NewL H G l (n + 1) acc ((ls t).take i)) (by omega) ?_ ?_ ?_ ?_
      · exact ⟨⟨_, rfl⟩, kvs, upd_same, rfl, by rw [upd_ne nld]; exact hD, Seen.nil kvs, fun b u _ hb => (by rw [upd_ne (ne_of_none hb hl)]; exact hb), NewL.nil⟩
      · rintro i σ acc G hi ⟨_, kv', h1, h2, h3, h4, h5, h6⟩
        exact ⟨h1, SqL.of (h5.lst hD _ _ hA), by omega⟩
      · rintro i x σ acc G hx ⟨⟨o, rfl⟩, kv', h1, h2, h3, h4, h5, h6⟩
        have hi : i < vs.length := (List.getElem?_eq_some_iff.mp hx).1
        obtain ⟨x', t', e1, e2, hk⟩ := hat.kid hA hi
        rw [hx] at e1
        cases e1
        have fn := flat_nd e2 hg.nd
        have fl := flat_len e2
        have e4 := h4.1
        have n1 : l ≠ d := ne_of h1 h3 (by intro z; cases z)
        refine ⟨_, rfl, _, rfl, _, _, rfl, rfl, _, rfl, x, d, t', kv', by show [x, V.int (3 - ((n + 1 : Nat) : Int) + 1), V.ref d] = _; rw [show (3 : Int) - ((n + 1 : Nat) : Int) + 1 = 3 - (n : Int) by omega], hk.keep (h5.lst hD), hg.kid e2, h3, fun s hs => (h4.2 s).mpr ⟨hv s (flat_mem (List.mem_of_getElem? e2) hs), fn.2 s hs⟩, ?_, fun w kv'' G' f nw hd2 sn => ?_⟩
        · have e5 : (flat (n + 1 + 1) t).length = (flat (n + 1 + 1) (ls t : List (Tr (n + 1)))).length := rfl
          have e6 : (flat (n + 2) ((ls t).take i : List (Tr (n + 1)))).length = (flat (n + 1 + 1) ((ls t).take i : List (Tr (n + 1)))).length := rfl
          omega
        have hl2 : G' l = some (.lst acc) := f l _ n1 h1
        refine ⟨hl2, Nx.mk hi ⟨⟨_, rfl⟩, kv'', upd_same, by rw [List.length_append, h2]; rfl, by rw [upd_ne n1.symm]; exact hd2, ?_, ?_, ?_⟩⟩
        · rw [flat_take e2]
          exact h4.more sn
        · exact fun b u nb hb => by
            rw [upd_ne (ne_of_none hb hl)]
            exact f b u nb (h5 b u nb hb)
        · rw [take_one e2]
          have hln : G l ≠ none := by rw [h1]; intro z; cases z
          refine (h6.snoc hln (fun b hb => ?_) (fun b xs _ _ hb => f.lst h3 b xs hb) (f.some hd2) nw).frame (fun b xs nb _ hb => by rw [upd_ne nb]; exact hb) (fun b hb => ?_)
          · cases q : H b with
            | none => rfl
            | some u => exact absurd hb (h5.some h3 b (by rw [q]; intro z; cases z))
          · by_cases q : b = l
            · rw [q, upd_same]; intro z; cases z
            · rw [upd_ne q]; exact hb
      · rintro σ acc G ⟨_, kv', h1, h2, h3, h4, h5, h6⟩
        have et : (ls t).take vs.length = ls t := List.take_of_length_le (by omega)
        rw [et] at h4 h6
        exact k _ kv' G h5 (h6.done hl h1) h3 h4

set_option maxHeartbeats 4000000 in
theorem ok_sorting_list (T : Txt w K mg c) : FnOk P w K mg base (CXx P w) 7 c.a_sorting_list c.d_sorting_list ["sorting"] (spSorting K) := by
  refine T.sorting_list.fn.okx sc_sorting_list (fun vs H Q E h => ?_) (fun cdv A outer s H vs Q E hr h => ?_)
  · obtain ⟨v, S, rfl, _⟩ := h
    rfl
  · obtain ⟨v, S, rfl, hat, wf, hz, k⟩ := h
    refine ⟨_, (pss_cons (ps_if (pt_not (pt_val (pe_callB call_isiA rfl T.no_isinstance bt_isinstance (pa_cons (pv 0) (pa_cons (pe_bltn (v := .ty "list") rfl T.no_list bt_list rfl) pa_nil)))))
        (pss_one (ps_raise T.x_NoSorting rfl rfl T.mg_NoSorting rz_def (pa_cons pe_str pa_nil)))
        pss_nil)
      (pss_cons (ps_set (i := 1) sc_sorting_list.nd rfl (Or.inr rfl) pe_dnewK)
      (pss_one (ps_ret (pe_comp (N' := ["group", "seen"]) (js := [none, some 1]) rfl rfl (by decide +kernel) (by decide +kernel) (free_of ["seen"] (by decide +kernel) (fm_cons (.inl rfl) fm_nil)) (cap_of rfl (fm_cons (fun j e => nomatch e) (fm_cons (fun j e => by cases e; exact ⟨rfl, rfl, .inl rfl⟩) fm_nil))) (pi_list (pv 0)) (fun B => ⟨(pg_name (i := 0) (show List.Nodup (["group", "seen"] : List Str) by decide +kernel) rfl (Or.inl rfl)), pifs_nil, (pe_callS (ok_group_list T 2) (hr.mono (by decide)) rfl T.group_list.mgf T.group_list.kp T.group_list.bi .nil passE0 (pa_cons (pv 0) (pa_cons pe_int (pa_cons (pv 1) pa_nil))))⟩)))))), ?_⟩
    obtain ⟨a, vs, rfl, hA, hlen⟩ := hat.lst
    refine ⟨_, rfl, rIsiA.ty (.lst hA) rfl ⟨_, rfl, iteF ?_⟩⟩
    refine fun d hd => ?_
    have nad : a ≠ d := ne_of_none hA hd
    have hD : upd H d (.dK []) d = some (.dK []) := upd_same
    have sH : Same H (upd H d (.dK [])) := Same.new hd
    have hA1 := sH a _ hA
    have hat1 := hat.same sH
    generalize upd H d (.dK []) = H1 at hD sH hA1 hat1
    have sz : 1000 < sizeLine := le_ble rfl
    have lz : vs.length ≤ 1000 := by
      have := flat_full (fun g hg' => wf.fu g hg') (ts := ls S)
      have e : (flat 4 S).length = (flat 4 (ls S : List (Tr 3))).length := rfl
      have e' : (flat (3 + 1) (ls S)).length = (flat 4 (ls S : List (Tr 3))).length := rfl
      omega
    refine ⟨_, rfl, a, rfl, ⟨_, SqL.of hA1⟩, fun l B hl => ?_⟩
    have nld : d ≠ l := ne_of_none hD hl
    refine loop_lst (xs := vs) (fun i σ acc G => (∃ o, σ = [o, some (.ref d)]) ∧ ∃ kv', G l = some (.lst acc) ∧ acc.length = i ∧ G d = some (.dK kv') ∧ Seen [] kv' (flat 4 ((ls S).take i : List (Tr 3))) ∧ FrD d H1 G ∧ NewL H1 G l 3 acc ((ls S).take i)) (by omega) ?_ ?_ ?_ ?_
    · exact ⟨⟨_, rfl⟩, [], upd_same, rfl, by rw [upd_ne nld]; exact hD, Seen.nil [], fun b u _ hb => (by rw [upd_ne (ne_of_none hb hl)]; exact hb), NewL.nil⟩
    · rintro i σ acc G hi ⟨_, kv', h1, h2, h3, h4, h5, h6⟩
      exact ⟨h1, SqL.of (h5.lst hD _ _ hA1), by omega⟩
    · rintro i x σ acc G hx ⟨⟨o, rfl⟩, kv', h1, h2, h3, h4, h5, h6⟩
      have hi : i < vs.length := (List.getElem?_eq_some_iff.mp hx).1
      obtain ⟨x', t', e1, e2, hk⟩ := hat1.kid hA1 hi
      rw [hx] at e1
      cases e1
      have fn := flat_nd e2 wf.nd
      have fl := flat_len e2
      have e4 := h4.1
      have n1 : l ≠ d := ne_of h1 h3 (by intro z; cases z)
      refine ⟨_, rfl, _, rfl, x, d, t', kv', by show [x, V.int 1, V.ref d] = _; rfl, hk.keep (h5.lst hD), wf.grp e2, h3, fun s hs => (h4.2 s).mpr ⟨rfl, fn.2 s hs⟩, ?_, fun w kv'' G' f nw hd2 sn => ?_⟩
      · have e5 : (flat 4 S).length = (flat (3 + 1) (ls S : List (Tr 3))).length := rfl
        have e6 : (flat 4 ((ls S).take i : List (Tr 3))).length = (flat (3 + 1) ((ls S).take i : List (Tr 3))).length := rfl
        have e7 : (flat (2 + 1) t').length = (flat 3 t').length := rfl
        have e8 : ([] : List (Key × V)).length = 0 := rfl
        omega
      have hl2 : G' l = some (.lst acc) := f l _ n1 h1
      refine ⟨hl2, Nx.mk hi ⟨⟨_, rfl⟩, kv'', upd_same, by rw [List.length_append, h2]; rfl, by rw [upd_ne n1.symm]; exact hd2, ?_, ?_, ?_⟩⟩
      · rw [flat_take e2]
        exact h4.more sn
      · exact fun b u nb hb => by
          rw [upd_ne (ne_of_none hb hl)]
          exact f b u nb (h5 b u nb hb)
      · rw [take_one e2]
        have hln : G l ≠ none := by rw [h1]; intro z; cases z
        refine (h6.snoc hln (fun b hb => ?_) (fun b xs _ _ hb => f.lst h3 b xs hb) (f.some hd2) nw).frame (fun b xs nb _ hb => by rw [upd_ne nb]; exact hb) (fun b hb => ?_)
        · cases q : H1 b with
          | none => rfl
          | some u => exact absurd hb (h5.some h3 b (by rw [q]; intro z; cases z))
        · by_cases q : b = l
          · rw [q, upd_same]; intro z; cases z
          · rw [upd_ne q]; exact hb
    · rintro σ acc G ⟨_, kv', h1, h2, h3, h4, h5, h6⟩
      have et : (ls S).take vs.length = ls S := List.take_of_length_le (by omega)
      rw [et] at h6
      refine k _ G (fun b u hb => h5 b u (fun z => ?_) (sH b u hb)) ((h6.done hl h1).older sH)
      rw [z, hd] at hb
      cases hb

set_option maxHeartbeats 4000000 in
theorem ok_sheets_of (T : Txt w K mg c) : FnOk P w K mg base CX0 1 c.a_sheets_of c.d_sheets_of ["told"] (spSheetsOf) := by
  refine T.sheets_of.fn.ok sc_sheets_of (fun vs H Q E h => ?_) (fun cdv A outer s H vs Q E hr h => ?_)
  · obtain ⟨l, ws, H0, rs, rfl, _⟩ := h
    rfl
  · obtain ⟨l, ws, H0, rs, rfl, hL, hR, hz, hn, k⟩ := h
    refine ⟨_, (pss_cons (ps_set (i := 1) sc_sheets_of.nd rfl (Or.inl rfl) (pe_lst pa_nil))
      (pss_cons (ps_for PassesOwn.never rfl (pi_list (pv 0)) (pg_tup rfl (pgs_cons (pg_name (i := 2) sc_sheets_of.nd rfl (Or.inl rfl)) (pgs_cons (pg_name (i := 3) sc_sheets_of.nd rfl (Or.inl rfl)) pgs_nil)))
        (pss_one (ps_if (pt_cmpR op_eq (pe_callB call_len_seq rfl T.no_len bt_len (pa_cons (pv 2) pa_nil)) (pe_glob rfl T.mg_FORM_DEPTH T.rl_FORM_DEPTH) (nomark _))
        (pss_one (ps_expr (pe_bm PySem.F.plainAttrs_list PySem.F.slot_list_extend PySem.F.type_list_extend (MtM.r mt_extend) (pv 1) (pa_cons (pv 3) pa_nil))))
        pss_nil)))
      (pss_one (ps_ret (pe_callB (call_sorted rfl) rfl T.no_sorted bt_sorted (pa_cons (pv 1) pa_nil)))))), ?_⟩
    have sz : 2000 < sizeLine := le_ble rfl
    refine ⟨le_ble rfl, fun f hf => ?_⟩
    have s0 : Same H (upd H f (.lst [])) := Same.new hf
    refine ⟨_, rfl, l, rfl, ⟨_, SqL.of (s0 _ _ hL)⟩, ?_⟩
    refine for_list (xs := ws) (fun i σ G => (∃ z2 z3, σ = [some (.ref l), some (.ref f), z2, z3]) ∧ Same H G ∧ G f = some (.lst ((sheets3 (rs.take i)).map V.int))) ?_ ?_ ?_ ?_
    · exact ⟨⟨_, _, rfl⟩, s0, upd_same⟩
    · rintro i σ G _ ⟨_, sG, _⟩
      exact SqL.of (sG _ _ hL)
    · rintro i x σ G hx ⟨⟨z2, z3, rfl⟩, sG, h1⟩
      have hi : i < ws.length := (List.getElem?_eq_some_iff.mp hx).1
      have hir : i < rs.length := by rw [← hR.1]; exact hi
      have er : rs[i]? = some rs[i] := List.getElem?_eq_getElem hir
      obtain ⟨t, ip, sl, rfl, a1, a2, a3, a4⟩ := hR.2 i x _ hx er
      have e1 : sheets3 (rs.take (i + 1)) = sheets3 (rs.take i) ++ (if rs[i].1.length = 3 then rs[i].2 else []) := by
        rw [take_one er, sheets3_app]
        show _ ++ (_ ++ []) = _
        rw [List.append_nil]
      have hb : (sheets3 (rs.take i)).length + (if rs[i].1.length = 3 then rs[i].2 else []).length ≤ (sheets3 rs).length := by
        have h : sheets3 rs = sheets3 (rs.take (i + 1)) ++ sheets3 (rs.drop (i + 1)) := by rw [← sheets3_app, List.take_append_drop]
        rw [h, e1, List.length_append, List.length_append]
        omega
      refine ⟨t, _, rfl, SqT.of (sG _ _ a1), rfl, _, _, rfl, _, _, rfl, rfl, ?_⟩
      refine ⟨_, rfl, ip, _, rfl, .inr (SqT.of (sG _ _ a2)), rfl, _, rfl, ?_⟩
      refine ite2 (fun z => ?_) (fun z => ?_)
      · have z : rs[i].1.length = 3 := by
          have z := V.int.inj (of_decide_eq_true z)
          rw [List.length_map] at z
          omega
        rw [if_pos z] at e1 hb
        have nfs : sl ≠ f := fun q => by rw [q, hf] at a3; cases a3
        refine ⟨_, rfl, .inl ⟨rfl, _, SqL.of h1⟩, _, rfl, f, sl, _, _, rfl, rfl, h1, sG _ _ a3, ?_, ?_⟩
        · rw [List.length_map, List.length_map]
          omega
        · refine ⟨⟨_, _, rfl⟩, fun b u hb => ?_, ?_⟩
          · rw [upd_ne (ne_of_none hb hf)]
            exact sG _ _ hb
          · rw [upd_same, e1, List.map_append]
      · have z : rs[i].1.length ≠ 3 := fun q => z (by rw [List.length_map, q]; rfl)
        rw [if_neg z, List.append_nil] at e1
        exact ⟨⟨_, _, rfl⟩, sG, by rw [e1]; exact h1⟩
    · rintro σ G ⟨⟨z2, z3, rfl⟩, sG, h1⟩
      rw [hR.1, List.take_of_length_le (Nat.le_refl _)] at h1
      refine ⟨_, rfl, f, _, rfl, SqL.of h1, hz, fun q ms hq pm ps => ?_⟩
      refine k q _ (sG.trans (Same.new hq)) (sG.free hq) ?_
      rw [upd_same, srt_is pm ps]

set_option maxHeartbeats 4000000 in
theorem ok_groups_in (T : Txt w K mg c) : ∀ n : Nat, FnOk P w K mg base CX0 (2 + n) c.a_groups_in c.d_groups_in ["path", "parts"] (spGroupsIn K n)
  | 0 => by
    refine T.groups_in.fn.ok sc_groups_in (fun vs H Q E h => ?_) (fun cdv A outer s H vs Q E hr h => ?_)
    · obtain ⟨tp, ps, v, ts, rfl, _⟩ := h
      rfl
    · obtain ⟨tp, ps, v, ts, rfl, hp, hpl, hat, fu, hz, k⟩ := h
      refine ⟨_, (pss_cons (ps_set (i := 2) sc_groups_in.nd rfl (Or.inl rfl) (pe_lst pa_nil))
      (pss_cons (ps_for PassesOwn.never rfl (pi_enum rfl T.no_enumerate (pa_cons (pv 1) pa_nil)) (pg_tup rfl (pgs_cons (pg_name (i := 3) sc_groups_in.nd rfl (Or.inl rfl)) (pgs_cons (pg_name (i := 4) sc_groups_in.nd rfl (Or.inl rfl)) pgs_nil)))
        (pss_cons (ps_set (i := 5) sc_groups_in.nd rfl (Or.inl rfl) (pe_op op_catT1 (pv 0) (pe_tup (pa_cons (pv 3) pa_nil))))
      (pss_one (ps_if (pt_cmpR op_eq (pe_callB call_len_seq rfl T.no_len bt_len (pa_cons (pv 5) pa_nil)) (pe_glob rfl T.mg_FORM_DEPTH T.rl_FORM_DEPTH) (nomark _))
        (pss_one (ps_expr (pe_bm PySem.F.plainAttrs_list PySem.F.slot_list_append PySem.F.type_list_append (MtM.r mt_append) (pv 2) (pa_cons (pe_tup (pa_cons (pv 5) (pa_cons (pe_callTy call_list_of rfl T.no_list bt_list (pa_cons (pv 4) pa_nil)) pa_nil))) pa_nil))))
        (pss_cons ps_never
      (pss_cons (ps_expr (pe_bm PySem.F.plainAttrs_list PySem.F.slot_list_append PySem.F.type_list_append (MtM.r mt_append) (pv 2) (pa_cons (pe_tup (pa_cons (pv 5) (pa_cons (pe_call (ok_sheets_of T) (hr.mono (by decide)) rfl T.sheets_of.mgf T.sheets_of.kp T.sheets_of.bi .nil pass0 (pa_cons (pv 6) pa_nil)) pa_nil))) pa_nil)))
      (pss_one (ps_expr (pe_bm PySem.F.plainAttrs_list PySem.F.slot_list_extend PySem.F.type_list_extend (MtM.r mt_extend) (pv 2) (pa_cons (pv 6) pa_nil))))))))))
      (pss_one (ps_ret (pv 2))))), ?_⟩
      obtain ⟨a, vs, rfl, hA, hlen⟩ := hat.lst
      have sz : 2000 < sizeLine := le_ble rfl
      refine ⟨le_ble rfl, fun l hl => ?_⟩
      have s0 : Same H (upd H l (.lst [])) := Same.new hl
      refine ⟨_, rfl, a, rfl, ⟨_, SqL.of (s0 _ _ hA)⟩, ?_⟩
      refine for_enum (xs := vs) (fun i σ G => (∃ z3 z4 z5 z6, σ = [some (.ref tp), some (.ref a), some (.ref l), z3, z4, z5, z6]) ∧ Same H G ∧ ∃ ws, G l = some (.lst ws) ∧ RowsAt (upd H l (.lst [])) G ws (rows 0 ps ((ls ts).take i))) ?_ ?_ ?_ ?_
      · exact ⟨⟨_, _, _, _, rfl⟩, s0, [], upd_same, RowsAt.nil⟩
      · rintro i σ G _ ⟨_, sG, _⟩
        exact SqL.of (sG _ _ hA)
      · rintro i x σ G T' hx ⟨⟨z3, z4, z5, z6, rfl⟩, sG, ws, h1, h2⟩ hT
        have hi : i < vs.length := (List.getElem?_eq_some_iff.mp hx).1
        obtain ⟨x', t', e1, e2, hk⟩ := hat.kid hA hi
        rw [hx] at e1
        cases e1
        obtain ⟨fl, hfl⟩ : ∃ fl : List Int, fl = t' := ⟨t', rfl⟩
        subst hfl
        obtain ⟨fa, fs, rfl, _, _⟩ := hk.lst
        have hF := AtR.ints (ns := fl) hk
        have s1 : Same G (upd G T' (.tup [.int i, .ref fa])) := Same.new hT
        refine ⟨T', _, rfl, SqT.of upd_same, rfl, _, _, rfl, _, _, rfl, rfl, ?_⟩
        refine ⟨_, rfl, _, rfl, le_ble rfl, fun u hu => ?_⟩
        have s2 := s1.trans (Same.new (o := HO.tup [.int i]) hu)
        have hu2 := upd_same (H := upd G T' (.tup [.int i, .ref fa])) (a := u) (o := .tup [.int i])
        generalize upd (upd G T' (.tup [.int i, .ref fa])) u (.tup [.int i]) = G2 at s2 hu2
        refine ⟨tp, u, _, _, rfl, rfl, (sG.trans s2).seqT hp, SqT.of hu2, List.cons_ne_nil _ _, ?_, fun z => ?_, fun z p hp2 => ?_⟩
        · rw [List.length_map]
          show ps.length + 1 ≤ _
          omega
        · exfalso
          rw [List.map_eq_nil_iff] at z
          rw [z] at hpl
          exact absurd hpl (by decide)
        have hin : upd G2 p (.tup (ps.map V.int ++ [.int i])) p = some (.tup ((ps ++ [(i : Int)]).map V.int)) := by rw [upd_same, List.map_append]; rfl
        have s3 := s2.trans (Same.new (o := HO.tup (ps.map V.int ++ [.int i])) hp2)
        generalize upd G2 p (.tup (ps.map V.int ++ [.int i])) = G3 at s3 hin
        have li : ((ps ++ [(i : Int)]).map V.int).length = 3 := by
          rw [List.length_map, List.length_append]
          show ps.length + 1 = 3
          omega
        refine ⟨_, rfl, p, _, rfl, .inr (SqT.of hin), rfl, _, rfl, ?_⟩
        rw [li]
        refine iteT ?_
        have lw := h2.1
        have lr := rows_len 0 ps ((ls ts).take i) fun t ht => fu t (List.mem_of_mem_take ht)
        have lf : (flat (0 + 2) ((ls ts).take i : List (Tr 1))).length ≤ (flat (0 + 2) ts).length := by
          have := flat_len e2
          have e : (flat (0 + 2) ts).length = (flat (1 + 1) (ls ts : List (Tr 1))).length := rfl
          have e' : (flat (0 + 2) ((ls ts).take i : List (Tr 1))).length = (flat (1 + 1) ((ls ts).take i : List (Tr 1))).length := rfl
          omega
        refine ⟨_, rfl, .inl ⟨rfl, _, SqL.of (s3 _ _ h1)⟩, _, rfl, _, rfl, fa, _, rfl, .inl (SqL.of (s3 _ _ (sG _ _ hF))), fun q hq => ?_⟩
        have s4 := s3.trans (Same.new (o := HO.lst (fl.map V.int)) hq)
        have hq4 := upd_same (H := G3) (a := q) (o := .lst (fl.map V.int))
        have hi4 := Same.new (o := HO.lst (fl.map V.int)) hq _ _ hin
        have nq : upd H l (.lst []) q = none := by
          rw [upd_ne (fun z => by rw [z, s3 _ _ h1] at hq; cases hq)]
          exact (sG.trans s3).free hq
        have nql : q ≠ l := fun z => by rw [z, s3 _ _ h1] at hq; cases hq
        generalize upd G3 q (.lst (fl.map V.int)) = G4 at s4 hq4 hi4
        refine ⟨le_ble rfl, fun r hr' => ?_⟩
        have s5 := s4.trans (Same.new (o := HO.tup [.ref p, .ref q]) hr')
        have r5 : RowT (upd H l (.lst [])) (upd G4 r (.tup [.ref p, .ref q])) (.ref r) (ps ++ [(i : Int)], fl) := ⟨r, p, q, rfl, upd_same, Same.new hr' _ _ hi4, Same.new hr' _ _ hq4, nq⟩
        generalize upd G4 r (.tup [.ref p, .ref q]) = G5 at s5 r5
        refine ⟨l, _, _, rfl, rfl, s5 _ _ h1, by omega, ?_⟩
        refine ⟨⟨_, _, _, _, rfl⟩, fun b u hb => ?_, _, upd_same, ?_⟩
        · rw [upd_ne (ne_of_none hb hl)]
          exact s5 _ _ (sG _ _ hb)
        · rw [rows_take e2]
          exact (((h2.same s5).app (RowsAt.one r5)).upd (s5 _ _ h1) (by rw [upd_same]; intro z; cases z))
      · rintro σ G ⟨⟨z3, z4, z5, z6, rfl⟩, sG, ws, h1, h2⟩
        have et : (ls ts).take vs.length = ls ts := List.take_of_length_le (by omega)
        rw [et] at h2
        exact ⟨_, rfl, k l ws G sG hl h1 (h2.older s0)⟩
  | n + 1 => by
    have ih := ok_groups_in T n
    refine T.groups_in.fn.ok sc_groups_in (fun vs H Q E h => ?_) (fun cdv A outer s H vs Q E hr h => ?_)
    · obtain ⟨tp, ps, v, ts, rfl, _⟩ := h
      rfl
    · obtain ⟨tp, ps, v, ts, rfl, hp, hpl, hat, fu, hz, k⟩ := h
      refine ⟨_, (pss_cons (ps_set (i := 2) sc_groups_in.nd rfl (Or.inl rfl) (pe_lst pa_nil))
      (pss_cons (ps_for PassesOwn.never rfl (pi_enum rfl T.no_enumerate (pa_cons (pv 1) pa_nil)) (pg_tup rfl (pgs_cons (pg_name (i := 3) sc_groups_in.nd rfl (Or.inl rfl)) (pgs_cons (pg_name (i := 4) sc_groups_in.nd rfl (Or.inl rfl)) pgs_nil)))
        (pss_cut (ps_set (i := 5) sc_groups_in.nd rfl (Or.inl rfl) (pe_op op_catT1 (pv 0) (pe_tup (pa_cons (pv 3) pa_nil))))
      (pss_one (ps_if (pt_cmpR op_eq (pe_callB call_len_seq rfl T.no_len bt_len (pa_cons (pv 5) pa_nil)) (pe_glob rfl T.mg_FORM_DEPTH T.rl_FORM_DEPTH) (nomark _))
        (pss_one (ps_expr (pe_bm PySem.F.plainAttrs_list PySem.F.slot_list_append PySem.F.type_list_append (MtM.r mt_append) (pv 2) (pa_cons (pe_tup (pa_cons (pv 5) (pa_cons (pe_callTy call_list_of rfl T.no_list bt_list (pa_cons (pv 4) pa_nil)) pa_nil))) pa_nil))))
        (pss_cons (ps_set (i := 6) sc_groups_in.nd rfl (Or.inl rfl) (pe_call ih (hr.mono (Nat.le_refl _)) rfl T.groups_in.mgf T.groups_in.kp T.groups_in.bi .nil pass0 (pa_cons (pv 5) (pa_cons (pv 4) pa_nil))))
      (pss_cons (ps_expr (pe_bm PySem.F.plainAttrs_list PySem.F.slot_list_append PySem.F.type_list_append (MtM.r mt_append) (pv 2) (pa_cons (pe_tup (pa_cons (pv 5) (pa_cons (pe_call (ok_sheets_of T) (hr.mono (le_k (by decide))) rfl T.sheets_of.mgf T.sheets_of.kp T.sheets_of.bi .nil pass0 (pa_cons (pv 6) pa_nil)) pa_nil))) pa_nil)))
      (pss_one (ps_expr (pe_bm PySem.F.plainAttrs_list PySem.F.slot_list_extend PySem.F.type_list_extend (MtM.r mt_extend) (pv 2) (pa_cons (pv 6) pa_nil))))))))))
      (pss_one (ps_ret (pv 2))))), ?_⟩
      obtain ⟨a, vs, rfl, hA, hlen⟩ := hat.lst
      have sz : 2000 < sizeLine := le_ble rfl
      refine ⟨le_ble rfl, fun l hl => ?_⟩
      have s0 : Same H (upd H l (.lst [])) := Same.new hl
      refine ⟨_, rfl, a, rfl, ⟨_, SqL.of (s0 _ _ hA)⟩, ?_⟩
      refine for_enum (xs := vs) (fun i σ G => (∃ z3 z4 z5 z6, σ = [some (.ref tp), some (.ref a), some (.ref l), z3, z4, z5, z6]) ∧ Same H G ∧ ∃ ws, G l = some (.lst ws) ∧ RowsAt (upd H l (.lst [])) G ws (rows (n + 1) ps ((ls ts).take i))) ?_ ?_ ?_ ?_
      · exact ⟨⟨_, _, _, _, rfl⟩, s0, [], upd_same, RowsAt.nil⟩
      · rintro i σ G _ ⟨_, sG, _⟩
        exact SqL.of (sG _ _ hA)
      · rintro i x σ G T' hx ⟨⟨z3, z4, z5, z6, rfl⟩, sG, ws, h1, h2⟩ hT
        have hi : i < vs.length := (List.getElem?_eq_some_iff.mp hx).1
        obtain ⟨x', t', e1, e2, hk⟩ := hat.kid hA hi
        rw [hx] at e1
        cases e1
        have s1 : Same G (upd G T' (.tup [.int i, x])) := Same.new hT
        refine ⟨T', _, rfl, SqT.of upd_same, rfl, _, _, rfl, _, _, rfl, rfl, ?_⟩
        refine ⟨fun σ' G3 => ∃ p, σ' = [some (.ref tp), some (.ref a), some (.ref l), some (.int i), some x, some (.ref p), z6] ∧ Same G G3 ∧ G3 p = some (.tup ((ps ++ [(i : Int)]).map V.int)), ?_, ?_⟩
        · refine ⟨_, rfl, _, rfl, le_ble rfl, fun u hu => ?_⟩
          have s2 := s1.trans (Same.new (o := HO.tup [.int i]) hu)
          have hu2 := upd_same (H := upd G T' (.tup [.int i, x])) (a := u) (o := .tup [.int i])
          generalize upd (upd G T' (.tup [.int i, x])) u (.tup [.int i]) = G2 at s2 hu2
          refine ⟨tp, u, _, _, rfl, rfl, (sG.trans s2).seqT hp, SqT.of hu2, List.cons_ne_nil _ _, ?_, fun z => ?_, fun z p hp2 => ?_⟩
          · rw [List.length_map]
            show ps.length + 1 ≤ _
            omega
          · rw [List.map_eq_nil_iff] at z
            subst z
            exact ⟨u, rfl, s2, hu2⟩
          · exact ⟨p, rfl, s2.trans (Same.new hp2), by rw [upd_same, List.map_append]; rfl⟩
        rintro σ' G3 ⟨p, rfl, s3, hin⟩
        have li : ((ps ++ [(i : Int)]).map V.int).length = ps.length + 1 := by
          rw [List.length_map, List.length_append]
          rfl
        refine ⟨_, rfl, p, _, rfl, .inr (SqT.of hin), rfl, _, rfl, ?_⟩
        rw [li]
        refine ite2 (fun z => ?_) (fun _ => ?_)
        · exfalso
          have z := V.int.inj (of_decide_eq_true z)
          omega
        have lw := h2.1
        have lr := rows_len (n + 1) ps ((ls ts).take i) fun t ht => fu t (List.mem_of_mem_take ht)
        have ft := fu t' (List.mem_of_getElem? e2)
        have fl := flat_len e2
        have e5 : (flat (n + 1 + 2) ts).length = (flat (n + 2 + 1) (ls ts : List (Tr (n + 2)))).length := rfl
        have e6 : (flat (n + 1 + 2) ((ls ts).take i : List (Tr (n + 2)))).length = (flat (n + 2 + 1) ((ls ts).take i : List (Tr (n + 2)))).length := rfl
        have lr2 : (n + 1 + 1) * (flat (n + 1 + 2) ((ls ts).take i : List (Tr (n + 2)))).length ≤ 3 * 64 := Nat.mul_le_mul (by omega) (by omega)
        have pl : (ps ++ [(i : Int)]).length + n = 2 := by
          rw [List.length_append]
          show ps.length + 1 + n = 2
          omega
        refine ⟨_, rfl, _, rfl, p, ps ++ [(i : Int)], x, t', rfl, SqT.of hin, pl, hk.same (sG.trans s3), ft.2, ?_, fun m wm G4 s4 hm hm2 hm3 => ?_⟩
        · omega
        have s34 := s3.trans s4
        have l3 := rows_len n (ps ++ [(i : Int)]) (ls t') ft.2
        have l4 : (n + 1) * (flat (n + 2) (ls t' : List (Tr (n + 1)))).length ≤ 3 * 64 := Nat.mul_le_mul (by omega) (by
          have e : (flat (n + 2) (ls t' : List (Tr (n + 1)))).length = (flat (n + 2) t').length := rfl
          omega)
        have rf := rows_flat n (ps ++ [(i : Int)]) (ls t') pl
        refine ⟨_, rfl, .inl ⟨rfl, _, SqL.of (s34 _ _ h1)⟩, _, rfl, _, rfl, m, wm, G3, rows n (ps ++ [(i : Int)]) (ls t'), rfl, hm2, hm3, ?_, by omega, fun q G5 s5 hq hq2 => ?_⟩
        · rw [rf]
          have e : (flat (n + 2) (ls t' : List (Tr (n + 1)))).length = (flat (n + 2) t').length := rfl
          omega
        rw [rf] at hq2
        have fr : ∀ b, G3 b = none → upd H l (.lst []) b = none := fun b hb => by
          rw [upd_ne (fun z => by rw [z, s3 _ _ h1] at hb; cases hb)]
          exact (sG.trans s3).free hb
        refine ⟨le_ble rfl, fun r hr' => ?_⟩
        have s6 := s5.trans (Same.new (o := HO.tup [.ref p, .ref q]) hr')
        have r6 : RowT (upd H l (.lst [])) (upd G5 r (.tup [.ref p, .ref q])) (.ref r) (ps ++ [(i : Int)], srt (flat (n + 2) t')) := ⟨r, p, q, rfl, upd_same, s6 _ _ (s4 _ _ hin), Same.new hr' _ _ hq2, fr _ (s4.free hq)⟩
        generalize upd G5 r (.tup [.ref p, .ref q]) = G6 at s6 r6
        have hl6 := s6 _ _ (s34 _ _ h1)
        refine ⟨l, _, _, rfl, rfl, hl6, by omega, ?_⟩
        have nm : m ≠ l := fun z => by rw [z, s3 _ _ h1] at hm; cases hm
        have hm6 : upd G6 l (.lst (ws ++ [.ref r])) m = some (.lst wm) := by rw [upd_ne nm]; exact s6 _ _ hm2
        refine ⟨_, rfl, .inl ⟨rfl, _, SqL.of upd_same⟩, _, rfl, l, m, _, _, rfl, rfl, upd_same, hm6, ?_, ?_⟩
        · rw [List.length_append, hm3.1]
          show ws.length + 1 + _ ≤ _
          omega
        rw [upd_upd]
        refine ⟨⟨_, _, _, _, rfl⟩, fun b u hb => ?_, _, upd_same, ?_⟩
        · rw [upd_ne (ne_of_none hb hl)]
          exact s6 _ _ (s34 _ _ (sG _ _ hb))
        · rw [rows_take e2, List.append_assoc]
          exact ((h2.same (s34.trans s6)).app ((RowsAt.one r6).app ((hm3.elder fr).same s6))).upd hl6 (by rw [upd_same]; intro z; cases z)
      · rintro σ G ⟨⟨z3, z4, z5, z6, rfl⟩, sG, ws, h1, h2⟩
        have et : (ls ts).take vs.length = ls ts := List.take_of_length_le (by omega)
        rw [et] at h2
        exact ⟨_, rfl, k l ws G sG hl h1 (h2.older s0)⟩

set_option maxHeartbeats 4000000 in
theorem ok_groups (T : Txt w K mg c) : FnOk P w K mg base (CXx P w) 8 c.a_groups c.d_groups ["sorting"] (spGroups K) := by
  refine T.groups.fn.okx sc_groups (fun vs H Q E h => ?_) (fun cdv A outer s H vs Q E hr h => ?_)
  · obtain ⟨v, S, rfl, _⟩ := h
    rfl
  · obtain ⟨v, S, rfl, hat, wf, hz, k⟩ := h
    refine ⟨_, (pss_one (ps_ret (pe_call (ok_groups_in T 2) (hr.mono (by decide)) rfl T.groups_in.mgf T.groups_in.kp T.groups_in.bi .nil pass0 (pa_cons (pe_tup pa_nil) (pa_cons (pe_callS (ok_sorting_list T) (hr.mono (by decide)) rfl T.sorting_list.mgf T.sorting_list.kp T.sorting_list.bi .nil pass_def (pa_cons (pv 0) pa_nil)) pa_nil))))), ?_⟩
    refine ⟨le_ble rfl, fun e he => ?_⟩
    have s0 : Same H (upd H e (.tup [])) := Same.new he
    refine ⟨_, rfl, v, S, rfl, hat.same s0, wf, by omega, fun w G s1 n1 => ?_⟩
    refine ⟨e, [], w, S, rfl, SqT.of (s1 _ _ upd_same), rfl, n1.r, wf.fu, hz, fun l ws G2 s2 hl h1 h2 => ?_⟩
    exact k l ws G2 (s0.trans (s1.trans s2)) ((s0.trans s1).free hl) h1 (h2.older (s0.trans s1))

set_option maxHeartbeats 4000000 in
theorem ok_refuse_sheet (T : Txt w K mg c) : FnOk P w K mg base (CXx P w) 3 c.a_refuse_sheet c.d_refuse_sheet ["sheet"] (spRefuse K c.c_NoSheet) := by
  refine T.refuse_sheet.fn.okx sc_refuse_sheet (fun vs H Q E h => ?_) (fun cdv A outer s H vs Q E hr h => ?_)
  · obtain ⟨x, rfl, _⟩ := h
    rfl
  · obtain ⟨x, rfl, ow, k1, k2⟩ := h
    refine ⟨_, (pss_one (ps_if (pt_not (pt_val (pe_call (ok_is_number T) (hr.mono (by decide)) rfl T.is_number.mgf T.is_number.kp T.is_number.bi .nil pass0 (pa_cons (pv 0) pa_nil))))
        (pss_one (ps_raise T.x_NoSheet rfl rfl T.mg_NoSheet rz_def (pa_cons pe_str pa_nil)))
        pss_nil)), ?_⟩
    refine ⟨_, rfl, x, rfl, ow, _, rfl, ?_⟩
    cases hx : inR 1000000000 x with
    | false => exact iteT ⟨le_ble rfl, k2 hx⟩
    | true => exact iteF (k1 hx)

set_option maxHeartbeats 4000000 in
theorem ok_path_of (T : Txt w K mg c) : FnOk P w K mg base (CXx P w) 9 c.a_path_of c.d_path_of ["sorting", "sheet"] (spPathOf K c.c_NoSheet) := by
  refine T.path_of.fn.okx sc_path_of (fun vs H Q E h => ?_) (fun cdv A outer s H vs Q E hr h => ?_)
  · obtain ⟨v, x, S, rfl, _⟩ := h
    rfl
  · obtain ⟨v, x, S, rfl, hat, wf, hz, ow, k1, k2⟩ := h
    refine ⟨_, (pss_cons (ps_set (i := 2) sc_path_of.nd rfl (Or.inl rfl) (pe_callS (ok_groups T) (hr.mono (by decide)) rfl T.groups.mgf T.groups.kp T.groups.bi .nil pass_def (pa_cons (pv 0) pa_nil)))
      (pss_cons (ps_expr (pe_callS (ok_refuse_sheet T) (hr.mono (by decide)) rfl T.refuse_sheet.mgf T.refuse_sheet.kp T.refuse_sheet.bi .nil pass_def (pa_cons (pv 1) pa_nil)))
      (pss_cons (ps_for own_def rfl (pi_list (pv 2)) (pg_tup rfl (pgs_cons (pg_name (i := 3) sc_path_of.nd rfl (Or.inl rfl)) (pgs_cons (pg_name (i := 4) sc_path_of.nd rfl (Or.inl rfl)) pgs_nil)))
        (pss_one (ps_if (PW.pt (pw_and (pt_cmpR op_eq (pe_callB call_len_seq rfl T.no_len bt_len (pa_cons (pv 3) pa_nil)) (pe_glob rfl T.mg_FORM_DEPTH T.rl_FORM_DEPTH) (nomark _)) (pw_and1 (pt_cmpR op_in_seq (pv 1) (pv 4) (by with_unfolding_all rfl)))))
        (pss_one (ps_ret (pv 3)))
        pss_nil)))
      (pss_one (ps_ret pe_non))))), ?_⟩
    refine ⟨_, rfl, v, S, rfl, hat, wf, hz, fun l ws G s1 hl h1 h2 => ?_⟩
    refine ⟨_, rfl, x, rfl, ow.same s1, fun hx => ?_, fun hx => k1 hx G s1⟩
    obtain ⟨s', rfl⟩ := inR_int' hx
    refine ⟨_, rfl, l, rfl, ⟨_, SqL.of h1⟩, ?_⟩
    refine for_list (xs := ws) (fun i σ G' => (∃ z3 z4, σ = [some v, some (.int s'), some (.ref l), z3, z4]) ∧ G' = G ∧ firstP (rows 2 [] (ls S)) s' = firstP ((rows 2 [] (ls S)).drop i) s') ?_ ?_ ?_ ?_
    · exact ⟨⟨_, _, rfl⟩, rfl, rfl⟩
    · rintro i σ G' _ ⟨_, rfl, _⟩
      exact SqL.of h1
    · rintro i y σ G' hy ⟨⟨z3, z4, rfl⟩, rfl, hf⟩
      have hi : i < ws.length := (List.getElem?_eq_some_iff.mp hy).1
      have hir : i < (rows 2 [] (ls S)).length := by rw [← h2.1]; exact hi
      obtain ⟨t, ip, sl, rfl, a1, a2, a3, a4⟩ := h2.2 i y _ hy (List.getElem?_eq_getElem hir)
      have ed : (rows 2 [] (ls S)).drop i = (rows 2 [] (ls S))[i] :: (rows 2 [] (ls S)).drop (i + 1) := (List.getElem_cons_drop hir).symm
      rw [ed] at hf
      generalize (rows 2 [] (ls S))[i] = r at a2 a3 hf
      have hf : firstP (rows 2 [] (ls S)) s' = if r.1.length = 3 ∧ s' ∈ r.2 then some r.1 else firstP ((rows 2 [] (ls S)).drop (i + 1)) s' := hf
      refine ⟨t, _, rfl, SqT.of a1, rfl, _, _, rfl, _, _, rfl, rfl, ?_⟩
      refine ⟨_, rfl, ip, _, rfl, .inr (SqT.of a2), rfl, _, rfl, ?_⟩
      refine ite2 (fun z => ?_) (fun z => ?_)
      · have z : r.1.length = 3 := by
          have z := V.int.inj (of_decide_eq_true z)
          rw [List.length_map] at z
          omega
        refine ⟨_, rfl, _, rfl, sl, _, rfl, .inl (SqL.of a3), rfl, flatI _, _, rfl, ?_⟩
        rw [inV_ints]
        refine ite2 (fun zz => ?_) (fun zz => ?_)
        · rw [if_pos ⟨z, of_decide_eq_true zz⟩] at hf
          refine ⟨_, rfl, k2 s' rfl hx _ _ s1 ?_⟩
          rw [hf]
          exact ⟨ip, rfl, a2⟩
        · rw [if_neg (fun q => zz (decide_eq_true q.2))] at hf
          exact ⟨⟨_, _, rfl⟩, rfl, hf⟩
      · have z : r.1.length ≠ 3 := fun q => z (by rw [List.length_map, q]; rfl)
        rw [if_neg (fun q => z q.1)] at hf
        exact ⟨⟨_, _, rfl⟩, rfl, hf⟩
    · rintro σ G' ⟨⟨z3, z4, rfl⟩, rfl, hf⟩
      rw [h2.1, List.drop_length] at hf
      refine k2 s' rfl hx _ _ s1 ?_
      rw [hf]
      rfl

set_option maxHeartbeats 4000000 in
theorem ok_without (T : Txt w K mg c) : ∀ n : Nat, FnOk P w K mg base CX0 (1 + n) c.a_without c.d_without ["parts", "sheet", "depth"] (spWithout n)
  | 0 => by
    refine T.without.fn.ok sc_without (fun vs H Q E h => ?_) (fun cdv A outer s H vs Q E hr h => ?_)
    · obtain ⟨v, s', t, rfl, _⟩ := h
      rfl
    · obtain ⟨v, s', t, rfl, hat, sm, k⟩ := h
      refine ⟨_, (pss_cons (ps_if (pt_cmpR op_eq (pv 2) (pe_glob rfl T.mg_FORM_DEPTH T.rl_FORM_DEPTH) (nomark _))
        (pss_one (ps_ret (pe_comp (N' := ["other", "sheet"]) (js := [none, some 1]) rfl rfl (by decide +kernel) (by decide +kernel) (free_of ["sheet"] (by decide +kernel) (fm_cons (.inl rfl) fm_nil)) (cap_of rfl (fm_cons (fun j e => nomatch e) (fm_cons (fun j e => by cases e; exact ⟨rfl, rfl, .inl rfl⟩) fm_nil))) (pi_list (pv 0)) (fun B => ⟨(pg_name (i := 0) (show List.Nodup (["other", "sheet"] : List Str) by decide +kernel) rfl (Or.inl rfl)), (pifs_one (pt_cmpR op_ne (pv 0) (pv 1) (nomark _))), (pv 0)⟩))))
        pss_nil)
      (pss_cons ps_never
      (pss_one ps_never))), ?_⟩
      obtain ⟨a, vs, rfl, _, _⟩ := hat.lst
      obtain ⟨f, hf⟩ : ∃ f : List Int, f = t := ⟨t, rfl⟩
      subst hf
      have hA := AtR.ints (ns := f) hat
      have sz : 1000 < sizeLine := le_ble rfl
      have lz : f.length ≤ 1000 := sm.1
      refine ⟨_, rfl, rfl, _, rfl, iteT ?_⟩
      refine ⟨_, rfl, a, rfl, ⟨_, SqL.of hA⟩, fun l B hl => ?_⟩
      refine loop_lst (xs := f.map V.int) (fun i σ acc G => (∃ o, σ = [o, some (.int s')]) ∧ Same H G ∧ G l = some (.lst acc) ∧ acc = ((f.take i).filter (fun x => !decide (x = s'))).map V.int) (by rw [List.length_map]; omega) ?_ ?_ ?_ ?_
      · exact ⟨⟨_, rfl⟩, Same.new hl, upd_same, rfl⟩
      · rintro i σ acc G hi ⟨_, sG, h1, h2⟩
        refine ⟨h1, SqL.of (sG _ _ hA), ?_⟩
        rw [h2, List.length_map]
        exact Nat.le_trans (List.length_filter_le _ _) (by rw [List.length_take]; omega)
      · rintro i x σ acc G hx ⟨⟨o, rfl⟩, sG, h1, h2⟩
        obtain ⟨y, hy, rfl⟩ := getI hx
        have hi : i < (f.map V.int).length := (List.getElem?_eq_some_iff.mp hx).1
        refine ⟨_, rfl, _, rfl, rfl, _, rfl, ?_⟩
        refine ite2 (fun z => ?_) (fun z => ?_)
        · have z : y ≠ s' := fun q => by rw [q, decide_eq_true rfl] at z; exact absurd z (by decide)
          refine ⟨_, rfl, h1, Nx.mk hi ⟨⟨_, rfl⟩, fun b u hb => ?_, upd_same, ?_⟩⟩
          · rw [upd_ne (ne_of_none hb hl)]
            exact sG _ _ hb
          · rw [take_one hy, List.filter_append, List.map_append, ← h2]
            simp [z]
        · have z : y = s' := V.int.inj (Decidable.of_not_not (p := V.int y = V.int s') (fun q => z (by rw [decide_eq_false q]; rfl)))
          refine Nx.mk hi ⟨⟨_, rfl⟩, sG, h1, ?_⟩
          rw [take_one hy, List.filter_append, List.map_append, ← h2]
          simp [z]
      · rintro σ acc G ⟨_, sG, h1, h2⟩
        rw [List.length_map, List.take_of_length_le (Nat.le_refl _)] at h2
        subst h2
        exact k _ G sG (New.ints hl h1)
  | n + 1 => by
    have ih := ok_without T n
    refine T.without.fn.ok sc_without (fun vs H Q E h => ?_) (fun cdv A outer s H vs Q E hr h => ?_)
    · obtain ⟨v, s', t, rfl, _⟩ := h
      rfl
    · obtain ⟨v, s', t, rfl, hat, sm, k⟩ := h
      refine ⟨_, (pss_cons (ps_if (pt_cmpR op_eq (pv 2) (pe_glob rfl T.mg_FORM_DEPTH T.rl_FORM_DEPTH) (nomark _))
        (pss_one (ps_ret (pe_comp (N' := ["other", "sheet"]) (js := [none, some 1]) rfl rfl (by decide +kernel) (by decide +kernel) (free_of ["sheet"] (by decide +kernel) (fm_cons (.inl rfl) fm_nil)) (cap_of rfl (fm_cons (fun j e => nomatch e) (fm_cons (fun j e => by cases e; exact ⟨rfl, rfl, .inl rfl⟩) fm_nil))) (pi_list (pv 0)) (fun B => ⟨(pg_name (i := 0) (show List.Nodup (["other", "sheet"] : List Str) by decide +kernel) rfl (Or.inl rfl)), (pifs_one (pt_cmpR op_ne (pv 0) (pv 1) (nomark _))), (pv 0)⟩))))
        pss_nil)
      (pss_cons (ps_setComp (i := 3) sc_without.nd rfl rfl (N' := ["part", "sheet", "depth"]) (js := [none, some 1, some 2]) rfl rfl (by decide +kernel) (by decide +kernel) (free_of ["sheet", "depth"] (by decide +kernel) (fm_cons (.inl rfl) (fm_cons (.inl rfl) fm_nil))) (cap_of rfl (fm_cons (fun j e => nomatch e) (fm_cons (fun j e => by cases e; exact ⟨rfl, rfl, .inl rfl⟩) (fm_cons (fun j e => by cases e; exact ⟨rfl, rfl, .inl rfl⟩) fm_nil)))) (pi_list (pv 0)) (fun B => ⟨(pg_name (i := 0) (show List.Nodup (["part", "sheet", "depth"] : List Str) by decide +kernel) rfl (Or.inl rfl)), pifs_nil, (pe_call ih (hr.mono (Nat.le_refl _)) rfl T.without.mgf T.without.kp T.without.bi .nil pass0 (pa_cons (pv 0) (pa_cons (pv 1) (pa_cons (pe_op op_add (pv 2) pe_int) pa_nil))))⟩))
      (pss_one (ps_ret (pe_comp (N' := ["part"]) (js := [none]) rfl rfl (by decide +kernel) (by decide +kernel) (free_nil (by decide +kernel)) (cap_nil rfl rfl) (pi_list (pv 3)) (fun B => ⟨(pg_name (i := 0) (show List.Nodup (["part"] : List Str) by decide +kernel) rfl (Or.inl rfl)), (pifs_one (pt_truth (pv 0) (fun _ => rfl))), (pv 0)⟩)))))), ?_⟩
      obtain ⟨a, vs, rfl, hA, hlen⟩ := hat.lst
      have sz : 1000 < sizeLine := le_ble rfl
      have lz : vs.length ≤ 1000 := by rw [hlen]; exact sm.1
      refine ⟨_, rfl, rfl, _, rfl, ?_⟩
      refine ite2 (fun z => ?_) (fun _ => ?_)
      · exfalso
        have z := V.int.inj (of_decide_eq_true z)
        omega
      refine ⟨_, rfl, a, rfl, ⟨_, SqL.of hA⟩, fun l B hl => ?_⟩
      obtain ⟨us, hus⟩ : ∃ us : List (Tr (n + 1)), us = (ls t).map (wo n s') := ⟨_, rfl⟩
      have lu : us.length = vs.length := by rw [hus, List.length_map, hlen]
      refine loop_lst (xs := vs) (fun i σ acc G => (∃ o, σ = [o, some (.int s'), some (.int (3 - ((n + 1 : Nat) : Int)))]) ∧ Same H G ∧ G l = some (.lst acc) ∧ acc.length = i ∧ NewL H G l (n + 1) acc (us.take i)) (by omega) ?_ ?_ ?_ ?_
      · exact ⟨⟨_, rfl⟩, Same.new hl, upd_same, rfl, NewL.nil⟩
      · rintro i σ acc G hi ⟨_, sG, h1, h2, _⟩
        exact ⟨h1, SqL.of (sG _ _ hA), by omega⟩
      · rintro i x σ acc G hx ⟨⟨o, rfl⟩, sG, h1, h2, h3⟩
        have hi : i < vs.length := (List.getElem?_eq_some_iff.mp hx).1
        obtain ⟨x', t', e1, e2, hk⟩ := hat.kid hA hi
        rw [hx] at e1
        cases e1
        have eu : us[i]? = some (wo n s' t') := by rw [hus, List.getElem?_map, e2]; rfl
        refine ⟨_, rfl, _, rfl, _, rfl, _, _, rfl, rfl, x, s', t', by show [x, V.int s', V.int (3 - ((n + 1 : Nat) : Int) + 1)] = _; rw [show (3 : Int) - ((n + 1 : Nat) : Int) + 1 = 3 - (n : Int) by omega], hk.same sG, sm.2 t' (List.mem_of_getElem? e2), fun w G' sw nw => ?_⟩
        refine ⟨sw _ _ h1, Nx.mk hi ⟨⟨_, rfl⟩, fun b u hb => ?_, upd_same, by rw [List.length_append, h2]; rfl, ?_⟩⟩
        · rw [upd_ne (ne_of_none hb hl)]
          exact sw _ _ (sG _ _ hb)
        · rw [take_one eu]
          have hln : G l ≠ none := by rw [h1]; intro z; cases z
          refine (h3.snoc hln (fun b hb => sG.free hb) (fun b xs _ _ hb => sw b _ hb) (fun b hb => ?_) nw).frame (fun b xs nb _ hb => by rw [upd_ne nb]; exact hb) (fun b hb => ?_)
          · cases q : G b with
            | none => exact absurd q hb
            | some u => rw [sw b u q]; intro z; cases z
          · by_cases q : b = l
            · rw [q, upd_same]; intro z; cases z
            · rw [upd_ne q]; exact hb
      · rintro σ acc G ⟨_, sG, h1, h2, h3⟩
        have et : us.take vs.length = us := List.take_of_length_le (by omega)
        rw [et] at h3
        have hk : ∀ (j : Nat) x u, acc[j]? = some x → us[j]? = some u → ∃ b xs, x = .ref b ∧ G b = some (.lst xs) ∧ xs.length = (ls u).length := fun j x u hx hu => by
          obtain ⟨_, o, ko, _⟩ := h3
          obtain ⟨b, xs, e, h, l, _⟩ := (ko j x u hx hu).r
          exact ⟨b, xs, e, h, l⟩
        refine ⟨_, rfl, l, rfl, ⟨_, SqL.of h1⟩, fun r B2 hr => ?_⟩
        refine loop_lst (xs := acc) (fun i σ bcc G' => (∃ o, σ = [o]) ∧ Same G G' ∧ G' r = some (.lst bcc) ∧ bcc.length ≤ i ∧ ∃ idx, Pk acc us i idx bcc ((us.take i).filter (fun t : Tr (n + 1) => !(ls t).isEmpty))) (by omega) ?_ ?_ ?_ ?_
        · exact ⟨⟨_, rfl⟩, Same.new hr, upd_same, Nat.le_refl _, [], Pk.nil⟩
        · rintro i σ bcc G' hi ⟨_, sG', g1, g2, _⟩
          exact ⟨g1, SqL.of (sG' _ _ h1), g2⟩
        · rintro i x σ bcc G' hx ⟨⟨o, rfl⟩, sG', g1, g2, idx, g3⟩
          have hi : i < acc.length := (List.getElem?_eq_some_iff.mp hx).1
          have hiu : i < us.length := by omega
          have eu : us[i]? = some us[i] := List.getElem?_eq_getElem hiu
          obtain ⟨b, xs, rfl, hb, lb⟩ := hk i x _ hx eu
          refine ⟨_, rfl, _, .inl ⟨_, SqL.of (sG' _ _ hb), rfl⟩, ?_⟩
          have ee : (ls us[i]).isEmpty = xs.isEmpty := by
            rw [Bool.eq_iff_iff, List.isEmpty_iff_length_eq_zero, List.isEmpty_iff_length_eq_zero, lb]
          cases hxs : xs.isEmpty with
          | true =>
            refine iteF (Nx.mk hi ⟨⟨_, rfl⟩, sG', g1, by omega, idx, ?_⟩)
            rw [take_one eu, List.filter_append, List.filter_cons_of_neg (by rw [ee, hxs]; decide), List.filter_nil, List.append_nil]
            exact g3.drop
          | false =>
            refine iteT ⟨_, rfl, g1, Nx.mk hi ⟨⟨_, rfl⟩, fun c u hc => ?_, upd_same, by rw [List.length_append]; show bcc.length + 1 ≤ i + 1; omega, idx ++ [i], ?_⟩⟩
            · rw [upd_ne (ne_of_none hc hr)]
              exact sG' _ _ hc
            · rw [take_one eu, List.filter_append, List.filter_cons_of_pos (by rw [ee, hxs]; rfl), List.filter_nil]
              exact g3.keep hx eu
        · rintro σ bcc G' ⟨_, sG', g1, g2, idx, g3⟩
          rw [show us.take acc.length = us from List.take_of_length_le (by omega)] at g3
          refine k _ G' (sG.trans sG') ?_
          show New H G' (n + 1 + 1) (.ref r) (List.filter (fun t : Tr (n + 1) => !(ls t).isEmpty) ((ls t).map (wo n s')) : List (Tr (n + 1)))
          rw [← hus]
          exact h3.pick g3 hr (sG.free hr) sG' g1

set_option maxHeartbeats 4000000 in
theorem ok_taken (T : Txt w K mg c) : FnOk P w K mg base (CXx P w) 10 c.a_taken c.d_taken ["sorting", "sheet"] (spTaken) := by
  refine T.taken.fn.okx sc_taken (fun vs H Q E h => ?_) (fun cdv A outer s H vs Q E hr h => ?_)
  · obtain ⟨v, s', S, rfl, _⟩ := h
    rfl
  · obtain ⟨v, s', S, rfl, hat, wf, hz, hs, k⟩ := h
    refine ⟨_, (pss_cons (ps_if (pt_cmp (pc_isN (pe_callS (ok_path_of T) (hr.mono (by decide)) rfl T.path_of.mgf T.path_of.kp T.path_of.bi .nil pass_def (pa_cons (pv 0) (pa_cons (pv 1) pa_nil)))))
        (pss_one (ps_raise T.x_NoSheet rfl rfl T.mg_NoSheet rz_def (pa_cons pe_str pa_nil)))
        pss_nil)
      (pss_one (ps_ret (pe_call (ok_without T 3) (hr.mono (by decide)) rfl T.without.mgf T.without.kp T.without.bi .nil pass0 (pa_cons (pe_callS (ok_sorting_list T) (hr.mono (by decide)) rfl T.sorting_list.mgf T.sorting_list.kp T.sorting_list.bi .nil pass_def (pa_cons (pv 0) pa_nil)) (pa_cons (pv 1) (pa_cons pe_int pa_nil))))))), ?_⟩
    have hin : inR 1000000000 (.int s') = true := wf.inn s' hs
    refine ⟨_, rfl, _, rfl, v, .int s', S, rfl, hat, wf, hz, Own.int, fun hx => absurd (hin.symm.trans hx) (by decide), fun s2 e hx w G sG pv => ?_⟩
    cases V.int.inj e
    obtain ⟨p, hp⟩ := Lies.of hs
    rw [hp.first wf] at pv
    obtain ⟨ip, rfl, hip⟩ := pv
    refine ⟨_, rfl, iteF ?_⟩
    refine ⟨_, rfl, v, S, rfl, hat.same sG, wf, by omega, fun w2 G2 s2 n2 => ?_⟩
    refine ⟨_, rfl, w2, s', S, rfl, n2.r, small_S wf.fu (by omega), fun w3 G3 s3 n3 => ?_⟩
    exact k w3 G3 (sG.trans (s2.trans s3)) (n3.older (sG.trans s2))

set_option maxHeartbeats 4000000 in
theorem ok_Ldrawn (T : Txt w K mg c) : FnOk P w K mg base CX0 1 c.a_Ldrawn c.d_Ldrawn ["_law_script", "_law_k"] (spDrawn K) := by
  refine T.Ldrawn.fn.ok sc_Ldrawn (fun vs H Q E h => ?_) (fun cdv A outer s H vs Q E hr h => ?_)
  · obtain ⟨a, i, ns, rfl, _⟩ := h
    rfl
  · obtain ⟨a, i, ns, rfl, h0, h1, h2, hS, k⟩ := h
    refine ⟨_, (pss_cut (ps_if (PW.pt (pw_and (pt_cmpR op_eq (pe_op op_mod (pe_ix ix_list (pv 0) pe_int (fun _ _ => rfl)) pe_int) pe_int (nomark _)) (pw_and1 (pt_cmpR op_gt (pe_ix ix_list (pv 0) (pv 1) (fun _ _ => rfl)) (pe_op op_pow pe_int pe_int) (nomark _)))))
        (pss_one (ps_ret (pe_op op_mod (pe_ix ix_list (pv 0) (pv 1) (fun _ _ => rfl)) (pe_op op_pow pe_int pe_int))))
        pss_nil)
      (pss_one (ps_ret (pe_op op_mod (pe_op op_mul (pe_op op_add (pe_ix ix_list (pv 0) (pv 1) (fun _ _ => rfl)) pe_int) (pe_op op_add pe_int (pe_op op_mul (pe_op op_mul pe_int (pv 1)) (pv 1)))) pe_int)))), ?_⟩
    have hm : (ns.map V.int).length = ns.length := List.length_map ..
    obtain ⟨v0, hv0, hm0⟩ := atI_in (xs := ns.map V.int) (i := 0) (by omega) (by omega)
    obtain ⟨z0, _, rfl⟩ := List.mem_map.mp hm0
    obtain ⟨v1, hv1, hm1⟩ := atI_in (xs := ns.map V.int) (i := i) (by omega) (by omega)
    obtain ⟨z1, _, rfl⟩ := List.mem_map.mp hm1
    have sq : i * i ≤ 100 * 100 := Int.mul_le_mul (by omega) (by omega) (by omega) (by omega)
    have sq0 : 0 ≤ i * i := Int.mul_nonneg h0 h0
    have e3 : 7919 * i * i = 7919 * (i * i) := Int.mul_assoc _ _ _
    refine ⟨fun σ G => G = H ∧ σ = [some (.ref a), some (.int i)], ?_, ?_⟩
    · refine ⟨_, rfl, a, _, _, _, rfl, rfl, hS, hv0, ?_⟩
      walk_at "rd"
      refine ite2 (fun _ => ?_) (fun _ => ⟨rfl, rfl⟩)
      refine ⟨_, rfl, _, rfl, a, _, _, _, rfl, rfl, hS, hv1, ?_⟩
      walk_at "rd"
      refine ite2 (fun _ => ?_) (fun _ => ⟨rfl, rfl⟩)
      refine ⟨_, rfl, _, rfl, a, _, _, _, rfl, rfl, hS, hv1, ?_⟩
      walk_at "rd"
      exact k _ (Int.emod_nonneg _ (by decide))
    rintro σ G ⟨rfl, rfl⟩
    refine ⟨_, rfl, _, rfl, a, _, _, _, rfl, rfl, hS, hv1, ?_⟩
    walk_at "rd"
    refine ⟨.inl ⟨by omega, by omega⟩, ?_⟩
    walk_at "rd"
    refine ⟨.inr ⟨by rw [e3]; omega, by rw [e3]; omega⟩, ?_⟩
    walk_at "rd"
    exact k _ (Int.emod_nonneg _ (by decide))

set_option maxHeartbeats 4000000 in
theorem ok_Lsheet (T : Txt w K mg c) : FnOk P w K mg base CX0 1 c.a_Lsheet c.d_Lsheet ["_law_number", "_law_k"] (spSheet) := by
  refine T.Lsheet.fn.ok sc_Lsheet (fun vs H Q E h => ?_) (fun cdv A outer s H vs Q E hr h => ?_)
  · obtain ⟨m, i, rfl, _⟩ := h
    rfl
  · obtain ⟨m, i, rfl, h0, h1, k⟩ := h
    refine ⟨_, (pss_cons (ps_if (pt_cmpR op_eq (pe_op op_mod (pv 0) pe_int) pe_int (nomark _))
        (pss_one (ps_ret (pe_op op_add (pe_op op_add pe_int (pe_op op_mul pe_int (pe_op op_mod (pe_op op_fdiv (pv 0) pe_int) pe_int))) (pv 1))))
        pss_nil)
      (pss_one (ps_ret (pe_op op_add (pe_op op_add pe_int (pe_op op_mul pe_int (pe_op op_mod (pe_op op_fdiv (pv 0) pe_int) pe_int))) (pv 1))))), ?_⟩
    walk_at "rd"
    refine ite2 (fun _ => ?_) (fun _ => ?_)
    · walk_at "rd"
      exact k _ (by omega) (inR_of (by omega) (by omega))
    · walk_at "rd"
      exact k _ (by omega) (inR_of (by omega) (by omega))

set_option maxHeartbeats 4000000 in
theorem ok_Lput (T : Txt w K mg c) : FnOk P w K mg base CX0 1 c.a_Lput c.d_Lput ["_law_sorting_here", "_law_sheet_here", "_law_number"] (spPut) := by
  refine T.Lput.fn.ok sc_Lput (fun vs H Q E h => ?_) (fun cdv A outer s H vs Q E hr h => ?_)
  · obtain ⟨v, s', m, S, o, rfl, _⟩ := h
    rfl
  · obtain ⟨v, s', m, S, o, rfl, hat, dm, wf, hs, hz, k⟩ := h
    refine ⟨_, (pss_cut (ps_if (PW.pt (pw_or (pt_cmpR (op_eqD (hu62 hr)) (pv 0) (pe_lst pa_nil) (nomark _)) (pw_or1 (pt_cmpR op_eq (pe_op op_mod (pv 2) pe_int) pe_int (nomark _)))))
        (pss_cons (ps_expr (pe_bm PySem.F.plainAttrs_list PySem.F.slot_list_append PySem.F.type_list_append (MtM.r mt_append) (pv 0) (pa_cons (pe_lst (pa_cons (pe_lst (pa_cons (pe_lst (pa_cons (pv 1) pa_nil)) pa_nil)) pa_nil)) pa_nil)))
      (pss_one ps_retN))
        pss_nil)
      (pss_cons (ps_set (i := 3) sc_Lput.nd rfl (Or.inl rfl) (pe_ix ix_list (pv 0) (pe_op op_mod (pe_op op_fdiv (pv 2) pe_int) (pe_callB call_len_seq rfl T.no_len bt_len (pa_cons (pv 0) pa_nil))) (fun _ _ => rfl)))
      (pss_cons (ps_if (pt_cmpR op_eq (pe_op op_mod (pv 2) pe_int) pe_int (nomark _))
        (pss_cons (ps_expr (pe_bm PySem.F.plainAttrs_list PySem.F.slot_list_append PySem.F.type_list_append (MtM.r mt_append) (pv 3) (pa_cons (pe_lst (pa_cons (pe_lst (pa_cons (pv 1) pa_nil)) pa_nil)) pa_nil)))
      (pss_one ps_retN))
        pss_nil)
      (pss_cons (ps_set (i := 4) sc_Lput.nd rfl (Or.inl rfl) (pe_ix ix_list (pv 3) (pe_op op_mod (pe_op op_fdiv (pv 2) pe_int) (pe_callB call_len_seq rfl T.no_len bt_len (pa_cons (pv 3) pa_nil))) (fun _ _ => rfl)))
      (pss_cons (ps_if (pt_cmpR op_eq (pe_op op_mod (pv 2) pe_int) pe_int (nomark _))
        (pss_cons (ps_expr (pe_bm PySem.F.plainAttrs_list PySem.F.slot_list_append PySem.F.type_list_append (MtM.r mt_append) (pv 4) (pa_cons (pe_lst (pa_cons (pv 1) pa_nil)) pa_nil)))
      (pss_one ps_retN))
        pss_nil)
      (pss_cons (ps_set (i := 5) sc_Lput.nd rfl (Or.inl rfl) (pe_op op_mod (pe_op op_fdiv (pv 2) pe_int) (pe_callB call_len_seq rfl T.no_len bt_len (pa_cons (pv 4) pa_nil))))
      (pss_one (ps_asg (pe_callB (call_sorted rfl) rfl T.no_sorted bt_sorted (pa_cons (pe_op op_cat (pe_ix ix_list (pv 4) (pv 5) (fun _ _ => rfl)) (pe_lst (pa_cons (pv 1) pa_nil))) pa_nil)) (pg_sub (pv 4) (pv 5) set_list))))))))), ?_⟩
    obtain ⟨r, vs, rfl, or, hr, hlen⟩ := hat.lst
    have h64 : 64 ≤ sizeLine := le_ble rfl
    have lz : vs.length < 60 := by
      have := flat_full (fun g hg' => wf.fu g hg') (ts := ls S)
      have e : (flat 4 S).length = (flat (3 + 1) (ls S : List (Tr 3))).length := rfl
      omega
    have f0 : ∀ G : Hp, Same H G → ∀ H' : Hp, (∀ b u, o b = none → G b = some u → H' b = some u) → ∀ b u, o b = none → H b = some u → H' b = some u := fun G s0 H' f b u hb hu => f b u hb (s0 b u hu)
    have d0 : ∀ G : Hp, Same H G → ∀ o' : Ow, (∀ b r, o' b = some r → o b = none → G b = none) → ∀ b r, o' b = some r → o b = none → H b = none := fun G s0 o' f b q hq hb => s0.free (f b q hq hb)
    have hat0 : ∀ G : Hp, Same H G → At o G 4 [] (.ref r) S := fun G s0 => hat.frame fun b q xs hb _ hx => ⟨s0 b _ hx, hb⟩
    have dm0 : ∀ G : Hp, Same H G → Dom o G := fun G s0 b q hb => by
      cases e : H b with
      | none => exact absurd e (dm b q hb)
      | some u => rw [s0 b u e]; intro z; cases z
    have caseA : ∀ G, Same H G → ∀ q1 q2 q3, G q1 = none → upd G q1 (.lst [.int s']) q2 = none → upd (upd G q1 (.lst [.int s'])) q2 (.lst [.ref q1]) q3 = none →
        upd (upd (upd G q1 (.lst [.int s'])) q2 (.lst [.ref q1])) q3 (.lst [.ref q2]) r = some (.lst vs) ∧ vs.length < sizeLine ∧ Q .non (upd (upd (upd (upd G q1 (.lst [.int s'])) q2 (.lst [.ref q1])) q3 (.lst [.ref q2])) r (.lst (vs ++ [.ref q3]))) := fun G s0 q1 q2 q3 h1 h2 h3 => by
      have n1 : New G (upd G q1 (.lst [.int s'])) 1 (.ref q1) (solo 1 s') := newSolo (New.int (i := s')) h1 (Same.refl G)
      have n2 := newSolo n1 h2 (Same.new h1)
      have n3 := newSolo n2 h3 ((Same.new h1).trans (Same.new h2))
      have sm := ((Same.new (o := HO.lst [.int s']) h1).trans (Same.new (o := HO.lst [.ref q1]) h2)).trans (Same.new (o := HO.lst [.ref q2]) h3)
      obtain ⟨o', x, at'⟩ := (hat0 G s0).appN (dm0 G s0) (s0 r _ hr) sm n3
      obtain ⟨e1, e2⟩ := putEnd (u := .lst (vs ++ [.ref q3])) x sm or
      exact ⟨sm r _ (s0 r _ hr), by omega, k _ _ o' (f0 G s0 _ e1) at' (x.after (dm0 G s0) sm) (d0 G s0 _ e2) (Put.app S s')⟩
    refine ⟨fun σ' G => σ' = [some (.ref r), some (.int s'), some (.int m), none, none, none] ∧ vs ≠ [] ∧ Same H G, ?_, ?_⟩
    · refine ⟨_, rfl, le_ble rfl, fun e0 he0 => ?_⟩
      have s0 : Same H (upd H e0 (.lst [])) := Same.new he0
      have hr0 := s0 r _ hr
      refine ⟨0, _, by decide, seqNil (SqL.of hr0) (SqL.of upd_same), _, rfl, ?_⟩
      have A := caseA _ s0
      generalize upd H e0 (.lst []) = G at s0 hr0 A
      refine iteB (fun _ => ?_) (fun he => ?_)
      · refine iteT ⟨_, rfl, .inl ⟨rfl, _, SqL.of hr0⟩, _, rfl, le_ble rfl, fun q1 h1 => ⟨le_ble rfl, fun q2 h2 => ⟨le_ble rfl, fun q3 h3 => ?_⟩⟩⟩
        obtain ⟨a1, a2, a3⟩ := A q1 q2 q3 h1 h2 h3
        exact ⟨r, _, _, rfl, rfl, a1, a2, a3⟩
      · walk_at "rd"
        refine ite2 (fun _ => ?_) (fun _ => ?_)
        · refine ⟨_, rfl, .inl ⟨rfl, _, SqL.of hr0⟩, _, rfl, le_ble rfl, fun q1 h1 => ⟨le_ble rfl, fun q2 h2 => ⟨le_ble rfl, fun q3 h3 => ?_⟩⟩⟩
          obtain ⟨a1, a2, a3⟩ := A q1 q2 q3 h1 h2 h3
          exact ⟨r, _, _, rfl, rfl, a1, a2, a3⟩
        · exact ⟨rfl, fun z => (by rw [z] at he; cases he), s0⟩
    rintro σ' G ⟨rfl, hne, s0⟩
    have hr0 := s0 r _ hr
    have at0 := hat0 G s0
    have dmG := dm0 G s0
    have lp : 0 < vs.length := List.length_pos_iff.mpr hne
    walk_at "rd"
    refine ⟨r, _, rfl, .inl (SqL.of hr0), _, _, rfl, rfl, by omega, ?_⟩
    obtain ⟨i, x, hi, hx, ha, _⟩ := atI_ix (xs := vs) (i := m / 5 % (vs.length : Int)) (Int.emod_nonneg _ (by omega)) (Int.emod_lt_of_pos _ (by omega))
    refine ⟨r, _, _, x, rfl, rfl, SqL.of hr0, ha, ?_⟩
    obtain ⟨x', g, e1, eg, kg⟩ := at0.kid hr0 hi
    rw [hx] at e1
    cases e1
    obtain ⟨ga, gs, rfl, og, hg0, glen⟩ := kg.lst
    have gm := List.mem_of_getElem? eg
    have fg := wf.grp eg
    have gz : gs.length < 60 := by
      have h1 := flat_full (fun c hc => fg.fu.2 c hc) (ts := ls g)
      have h2 := flat_len eg
      have e : (flat 4 S).length = (flat (3 + 1) (ls S : List (Tr 3))).length := rfl
      have e' : (flat 3 g).length = (flat (2 + 1) (ls g : List (Tr 2))).length := rfl
      omega
    have gp : 0 < gs.length := by
      rw [glen]
      exact List.length_pos_iff.mpr fg.fu.1
    walk_at "rd"
    refine ite2 (fun _ => ?_) (fun _ => ?_)
    · refine ⟨_, rfl, .inl ⟨rfl, _, SqL.of hg0⟩, _, rfl, le_ble rfl, fun q1 h1 => ⟨le_ble rfl, fun q2 h2 => ?_⟩⟩
      have n1 : New G (upd G q1 (.lst [.int s'])) 1 (.ref q1) (solo 1 s') := newSolo (New.int (i := s')) h1 (Same.refl G)
      have n2 := newSolo n1 h2 (Same.new h1)
      have sm := (Same.new (o := HO.lst [.int s']) h1).trans (Same.new (o := HO.lst [.ref q1]) h2)
      obtain ⟨o', x, a1⟩ := kg.appN dmG hg0 sm n2
      have a2 := at0.up dmG hr0 hx sm x og (List.suffix_refl _) a1
      obtain ⟨e1, e2⟩ := putEnd (u := .lst (gs ++ [.ref q2])) x sm og
      exact ⟨ga, _, _, rfl, rfl, sm _ _ hg0, by omega, k _ _ o' (f0 G s0 _ e1) a2 (x.after dmG sm) (d0 G s0 _ e2) ((PutG.app g s').top eg)⟩
    walk_at "rd"
    refine ⟨ga, _, rfl, .inl (SqL.of hg0), _, _, rfl, rfl, by omega, ?_⟩
    obtain ⟨j, y, hj, hy, hb, _⟩ := atI_ix (xs := gs) (i := m / 500 % (gs.length : Int)) (Int.emod_nonneg _ (by omega)) (Int.emod_lt_of_pos _ (by omega))
    refine ⟨ga, _, _, y, rfl, rfl, SqL.of hg0, hb, ?_⟩
    obtain ⟨y', c', e1, ec, kc⟩ := kg.kid hg0 hj
    rw [hy] at e1
    cases e1
    obtain ⟨ca, cs, rfl, oc, hc0, clen⟩ := kc.lst
    have fc := fg.kid ec
    have cz : cs.length < 60 := by
      have h1 := flat_full (fun c hc => fc.fu.2 c hc) (ts := ls c')
      have h2 := flat_len eg
      have h3 := flat_len ec
      have e : (flat 4 S).length = (flat (3 + 1) (ls S : List (Tr 3))).length := rfl
      have e' : (flat 3 g).length = (flat (2 + 1) (ls g : List (Tr 2))).length := rfl
      have e'' : (flat 2 c').length = (flat (1 + 1) (ls c' : List (Tr 1))).length := rfl
      omega
    have cp : 0 < cs.length := by
      rw [clen]
      exact List.length_pos_iff.mpr fc.fu.1
    walk_at "rd"
    refine ite2 (fun _ => ?_) (fun _ => ?_)
    · refine ⟨_, rfl, .inl ⟨rfl, _, SqL.of hc0⟩, _, rfl, le_ble rfl, fun q1 h1 => ?_⟩
      have n1 : New G (upd G q1 (.lst [.int s'])) 1 (.ref q1) (solo 1 s') := newSolo (New.int (i := s')) h1 (Same.refl G)
      have sm := Same.new (o := HO.lst [.int s']) h1
      obtain ⟨o', x, a1⟩ := kc.appN dmG hc0 sm n1
      have a2 := kg.up dmG hg0 hy sm x oc (List.suffix_refl _) a1
      have a3 := at0.up dmG hr0 hx sm x oc (List.suffix_cons _ _) a2
      obtain ⟨e1, e2⟩ := putEnd (u := .lst (cs ++ [.ref q1])) x sm oc
      exact ⟨ca, _, _, rfl, rfl, sm _ _ hc0, by omega, k _ _ o' (f0 G s0 _ e1) a3 (x.after dmG sm) (d0 G s0 _ e2) (((PutG.app c' s').up ec).top eg)⟩
    walk_at "rd"
    refine ⟨ca, _, rfl, .inl (SqL.of hc0), _, _, rfl, rfl, by omega, ?_⟩
    obtain ⟨l, z, hl, hz', hd, hn⟩ := atI_ix (xs := cs) (i := m / 50000 % (cs.length : Int)) (Int.emod_nonneg _ (by omega)) (Int.emod_lt_of_pos _ (by omega))
    obtain ⟨z', f, e1, ef, kf⟩ := kc.kid hc0 hl
    rw [hz'] at e1
    cases e1
    obtain ⟨fl, hfl⟩ : ∃ fl : List Int, fl = f := ⟨f, rfl⟩
    subst hfl
    obtain ⟨fa, fs, rfl, of, hf0, flen⟩ := kf.lst
    have hfi := AtR.ints (ns := fl) kf.r
    refine ⟨_, rfl, _, rfl, ca, _, _, _, rfl, rfl, SqL.of hc0, hd, _, rfl, le_ble rfl, fun q1 h1 => ?_⟩
    have fz : fl.length < 60 := by
      have h2 := flat_len eg
      have h3 := flat_len ec
      have h4 := flat_len ef
      have e : (flat 4 S).length = (flat (3 + 1) (ls S : List (Tr 3))).length := rfl
      have e' : (flat 3 g).length = (flat (2 + 1) (ls g : List (Tr 2))).length := rfl
      have e'' : (flat 2 c').length = (flat (1 + 1) (ls c' : List (Tr 1))).length := rfl
      have e3 := congrArg List.length (flat_ints fl)
      omega
    have s1 : Same G (upd G q1 (.lst [.int s'])) := Same.new h1
    have e60 : (List.map V.int fl).length = fl.length := List.length_map ..
    refine ⟨fa, q1, _, _, rfl, rfl, s1 _ _ hfi, upd_same, ?_, fun q2 h2 => ?_⟩
    · have : [V.int s'].length = 1 := rfl
      omega
    have s2 : Same (upd G q1 (.lst [.int s'])) (upd (upd G q1 (.lst [.int s'])) q2 (.lst (List.map V.int fl ++ [.int s']))) := Same.new h2
    refine ⟨q2, fl ++ [s'], rfl, SqL.of (by rw [upd_same, List.map_append]; rfl), ?_, fun q3 ms h3 pm ps => ?_⟩
    · rw [List.length_append]
      have : [s'].length = 1 := rfl
      omega
    have s3 := (s1.trans s2).trans (Same.new (o := HO.lst (ms.map V.int)) h3)
    have n3 : New G (upd (upd (upd G q1 (.lst [.int s'])) q2 (.lst (List.map V.int fl ++ [.int s']))) q3 (.lst (ms.map V.int))) 1 (.ref q3) ms := New.ints ((s1.trans s2).free h3) upd_same
    obtain ⟨o', x, a1⟩ := kc.setN dmG hc0 hl s3 n3
    have a2 := kg.up dmG hg0 hy s3 x oc (List.suffix_refl _) a1
    have a3 := at0.up dmG hr0 hx s3 x oc (List.suffix_cons _ _) a2
    obtain ⟨e1, e2⟩ := putEnd (u := .lst (cs.set l (.ref q3))) x s3 oc
    have nf : s' ∉ fl := fun z => hs (flat_mem (List.mem_of_getElem? eg) (flat_mem (List.mem_of_getElem? ec) (flat_mem (List.mem_of_getElem? ef) ((List.Perm.of_eq (flat_ints fl)).mem_iff.mpr z))))
    refine ⟨_, rfl, _, rfl, ca, _, _, l, rfl, rfl, s3 _ _ hc0, hn, ?_⟩
    exact k _ _ o' (f0 G s0 _ e1) a3 (x.after dmG s3) (d0 G s0 _ e2) (((PutG.form pm ps nf).up ef |>.up ec).top eg)

set_option maxHeartbeats 4000000 in
theorem ok_Lsorting (T : Txt w K mg c) : FnOk P w K mg base CX0 2 c.a_Lsorting c.d_Lsorting ["_law_script", "_law_start", "_law_most"] (spLSortN K) := by
  refine T.Lsorting.fn.ok sc_Lsorting (fun vs H Q E h => ?_) (fun cdv A outer s H vs Q E hr h => ?_)
  · obtain ⟨a, ns, mx, rfl, _⟩ := h
    rfl
  · obtain ⟨a, ns, mx, rfl, m0, m1, hS, hn, k⟩ := h
    refine ⟨_, (pss_cons (ps_set (i := 3) sc_Lsorting.nd rfl (Or.inl rfl) (pe_lst pa_nil))
      (pss_cons (ps_for PassesOwn.never rfl (pi_range2 rfl T.no_range (pa_cons (pv 1) (pa_cons (pe_callB (call_min2 rfl) rfl T.no_min bt_min (pa_cons (pe_callB call_len_seq rfl T.no_len bt_len (pa_cons (pv 0) pa_nil)) (pa_cons (pv 2) pa_nil))) pa_nil))) (pg_name (i := 4) sc_Lsorting.nd rfl (Or.inl rfl))
        (pss_cons (ps_set (i := 5) sc_Lsorting.nd rfl (Or.inl rfl) (pe_call (ok_Ldrawn T) (hr.mono (by decide)) rfl T.Ldrawn.mgf T.Ldrawn.kp T.Ldrawn.bi .nil pass0 (pa_cons (pv 0) (pa_cons (pv 4) pa_nil))))
      (pss_one (ps_expr (pe_call (ok_Lput T) (hr.mono (by decide)) rfl T.Lput.mgf T.Lput.kp T.Lput.bi .nil pass0 (pa_cons (pv 3) (pa_cons (pe_call (ok_Lsheet T) (hr.mono (by decide)) rfl T.Lsheet.mgf T.Lsheet.kp T.Lsheet.bi .nil pass0 (pa_cons (pe_op op_fdiv (pv 5) pe_int) (pa_cons (pv 4) pa_nil))) (pa_cons (pe_op op_add (pe_op op_fdiv (pv 5) pe_int) (pe_op op_fdivB (pv 5) (pe_op op_pow pe_int pe_int))) pa_nil))))))))
      (pss_one (ps_ret (pv 3))))), ?_⟩
    have h64 : 64 ≤ sizeLine := le_ble rfl
    refine ⟨le_ble rfl, fun r hr => ?_⟩
    have lm : (ns.map V.int).length = ns.length := List.length_map ..
    have s0 : Same H (upd H r (.lst [])) := Same.new hr
    walk_at "rd"
    refine ⟨a, _, rfl, .inl (s0.seq hS), ?_⟩
    walk_at "rd"
    have hm2 : (if mx < ((ns.map V.int).length : Int) then mx else ((ns.map V.int).length : Int)) ≤ ns.length ∧ (if mx < ((ns.map V.int).length : Int) then mx else ((ns.map V.int).length : Int)) ≤ mx ∧ 0 ≤ (if mx < ((ns.map V.int).length : Int) then mx else ((ns.map V.int).length : Int)) := by
      split <;> omega
    generalize (if mx < ((ns.map V.int).length : Int) then mx else ((ns.map V.int).length : Int)) = hi at hm2
    refine ⟨⟨by decide, by decide, by omega, by omega⟩, ?_⟩
    refine for_range (lo := 1) (fun i σ G => Same H G ∧ ∃ z4 z5, σ = [some (.ref a), some (.int 1), some (.int mx), some (.ref r), z4, z5] ∧ ∃ (S : Tr 4) (o : Ow), At o G 4 [] (.ref r) S ∧ Dom o G ∧ (∀ b q, o b = some q → H b = none) ∧ WF S ∧ (∀ x ∈ flat 4 S, (x - 1) % 64 < 1 + (i : Int)) ∧ (flat 4 S).length = i) ?_ ?_ ?_
    · refine ⟨s0, _, _, rfl, ([] : List (Tr 3)), fun b => if b = r then some [] else none, ⟨r, [], rfl, if_pos rfl, upd_same, rfl, fun j w t hw => ?_⟩, fun b q hb => ?_, fun b q hb => ?_, WF.nil, fun x hx => absurd (show x ∈ ([] : List Int) from hx) List.not_mem_nil, rfl⟩
      · rw [List.getElem?_nil] at hw; cases hw
      · have hb : (if b = r then some [] else none) = some q := hb
        by_cases e : b = r
        · rw [e, upd_same]; intro z; cases z
        · rw [if_neg e] at hb; cases hb
      · have hb : (if b = r then some [] else none) = some q := hb
        by_cases e : b = r
        · rw [e]; exact hr
        · rw [if_neg e] at hb; cases hb
    · rintro i σ G hi' ⟨sG, z4, z5, rfl, S, o, at0, dm, fr, wf, hx, hl⟩
      refine ⟨_, rfl, _, rfl, a, 1 + (i : Int), ns, rfl, by omega, by omega, hn, sG.seq hS, fun d d0 => ?_⟩
      walk_at "rd"
      refine ⟨by omega, by omega, fun x x1 x2 => ?_⟩
      walk_at "rd"
      have nx : x ∉ flat 4 S := fun z => by have := hx x z; omega
      refine ⟨_, _, _, S, o, rfl, at0, dm, wf, nx, by omega, fun G' S' o' f at' dm' dn pt => ?_⟩
      have sG' : Same H G' := fun b u hb => f b u (by
        cases e : o b with
        | none => rfl
        | some q => rw [fr b q e] at hb; cases hb) (sG b u hb)
      refine ⟨sG', _, _, rfl, S', o', at', dm', fun b q hq => ?_, pt.wf wf nx x2, fun y hy => ?_, ?_⟩
      · cases e : o b with
        | none => exact sG.free (dn b q hq e)
        | some q' => exact fr b q' e
      · rcases List.mem_append.mp (pt.p.mem_iff.mp hy) with z | z
        · have := hx y z; omega
        · rw [List.mem_singleton.mp z, x1]; omega
      · have := pt.p.length_eq
        rw [List.length_append] at this
        have e1 : [x].length = 1 := rfl
        omega
    · rintro σ G ⟨sG, z4, z5, rfl, S, o, at0, dm, fr, wf, hx, hl⟩
      exact ⟨_, rfl, k _ G S sG ⟨o, at0, fun b q hq => ⟨fr b q hq, dm b q hq⟩⟩ wf (by omega) (by omega)⟩

set_option maxHeartbeats 4000000 in
theorem ok_Lsame (T : Txt w K mg c) : ∀ n : Nat, FnOk P w K mg base CX0 (1 + n) c.a_Lsame c.d_Lsame ["_law_found", "_law_due"] (spSame n)
  | 0 => by
    refine T.Lsame.fn.ok sc_Lsame (fun vs H Q E h => ?_) (fun cdv A outer s H vs Q E hr h => ?_)
    · obtain ⟨v, w, t, rfl, _⟩ := h
      rfl
    · obtain ⟨v, w, t, rfl, hv, hw, sm, k⟩ := h
      refine ⟨_, (pss_cons (ps_if (pt_val (pe_callB call_isiA rfl T.no_isinstance bt_isinstance (pa_cons (pv 1) (pa_cons (pe_bltn (v := .ty "list") rfl T.no_list bt_list rfl) pa_nil))))
        (pss_cons (ps_if (PW.pt (pw_or (pt_not (pt_val (pe_callB call_isiA rfl T.no_isinstance bt_isinstance (pa_cons (pv 0) (pa_cons (pe_bltn (v := .ty "list") rfl T.no_list bt_list rfl) pa_nil))))) (pw_or1 (pt_cmpR op_ne (pe_callB call_len_seq rfl T.no_len bt_len (pa_cons (pv 0) pa_nil)) (pe_callB call_len_seq rfl T.no_len bt_len (pa_cons (pv 1) pa_nil)) (nomark _)))))
        (pss_one (ps_ret pe_bl))
        pss_nil)
      (pss_cons ps_never
      (pss_one (ps_ret pe_bl))))
        pss_nil)
      (pss_one (ps_ret (pe_and (pe_callB call_isiA rfl T.no_isinstance bt_isinstance (pa_cons (pv 0) (pa_cons (pe_bltn (v := .ty "int") rfl T.no_int bt_int rfl) pa_nil))) (pe_and (pe_not (pe_callB call_isiA rfl T.no_isinstance bt_isinstance (pa_cons (pv 0) (pa_cons (pe_bltn (v := .ty "bool") rfl T.no_bool bt_bool rfl) pa_nil)))) (pe_one (pe_cmpR op_eq (pv 0) (pv 1) (nomark _)))))))), ?_⟩
      obtain rfl : v = .int t := hv
      obtain rfl : w = .int t := hw
      refine ⟨_, rfl, rIsiA.ty (.int t) rfl ⟨_, rfl, iteF ?_⟩⟩
      refine ⟨_, rfl, rIsiA.ty (.int t) rfl ⟨_, rfl, iteT ⟨_, rfl, rIsiA.ty (.int t) rfl ⟨_, rfl, _, rfl, iteT ?_⟩⟩⟩⟩
      refine ⟨_, rfl, _, rfl, rfl, ?_⟩
      show Q (V.bl (decide (V.int t = V.int t))) H
      rw [decide_eq_true rfl]
      exact k
  | n + 1 => by
    have ih := ok_Lsame T n
    refine T.Lsame.fn.ok sc_Lsame (fun vs H Q E h => ?_) (fun cdv A outer s H vs Q E hr h => ?_)
    · obtain ⟨v, w, t, rfl, _⟩ := h
      rfl
    · obtain ⟨v, w, t, rfl, hv, hw, sm, k⟩ := h
      refine ⟨_, (pss_cons (ps_if (pt_val (pe_callB call_isiA rfl T.no_isinstance bt_isinstance (pa_cons (pv 1) (pa_cons (pe_bltn (v := .ty "list") rfl T.no_list bt_list rfl) pa_nil))))
        (pss_cons (ps_if (PW.pt (pw_or (pt_not (pt_val (pe_callB call_isiA rfl T.no_isinstance bt_isinstance (pa_cons (pv 0) (pa_cons (pe_bltn (v := .ty "list") rfl T.no_list bt_list rfl) pa_nil))))) (pw_or1 (pt_cmpR op_ne (pe_callB call_len_seq rfl T.no_len bt_len (pa_cons (pv 0) pa_nil)) (pe_callB call_len_seq rfl T.no_len bt_len (pa_cons (pv 1) pa_nil)) (nomark _)))))
        (pss_one (ps_ret pe_bl))
        pss_nil)
      (pss_cons (ps_for PassesOwn.never rfl (pi_range1 rfl T.no_range (pa_cons (pe_callB call_len_seq rfl T.no_len bt_len (pa_cons (pv 1) pa_nil)) pa_nil)) (pg_name (i := 2) sc_Lsame.nd rfl (Or.inl rfl))
        (pss_one (ps_if (pt_not (pt_val (pe_call ih (hr.mono (Nat.le_refl _)) rfl T.Lsame.mgf T.Lsame.kp T.Lsame.bi .nil pass0 (pa_cons (pe_ix ix_list (pv 0) (pv 2) (fun _ _ => rfl)) (pa_cons (pe_ix ix_list (pv 1) (pv 2) (fun _ _ => rfl)) pa_nil)))))
        (pss_one (ps_ret pe_bl))
        pss_nil)))
      (pss_one (ps_ret pe_bl))))
        pss_nil)
      (pss_one (ps_ret (pe_and (pe_callB call_isiA rfl T.no_isinstance bt_isinstance (pa_cons (pv 0) (pa_cons (pe_bltn (v := .ty "int") rfl T.no_int bt_int rfl) pa_nil))) (pe_and (pe_not (pe_callB call_isiA rfl T.no_isinstance bt_isinstance (pa_cons (pv 0) (pa_cons (pe_bltn (v := .ty "bool") rfl T.no_bool bt_bool rfl) pa_nil)))) (pe_one (pe_cmpR op_eq (pv 0) (pv 1) (nomark _)))))))), ?_⟩
      obtain ⟨a, vs, rfl, hA, la⟩ := hv.lst
      obtain ⟨b, ws, rfl, hB, lb⟩ := hw.lst
      refine ⟨_, rfl, rIsiA.ty (.lst hB) rfl ⟨_, rfl, iteT ?_⟩⟩
      refine ⟨_, rfl, rIsiA.ty (.lst hA) rfl ⟨_, rfl, iteF ?_⟩⟩
      refine ⟨_, rfl, a, _, rfl, .inl (SqL.of hA), _, rfl, b, _, rfl, .inl (SqL.of hB), rfl, _, rfl, ?_⟩
      have sz : ws.length ≤ 1000 := by rw [lb]; exact sm.1
      refine ite2 (fun z => ?_) (fun _ => ?_)
      · exfalso
        rw [la, lb, decide_eq_true rfl] at z
        exact absurd z (by decide)
      refine ⟨_, rfl, b, _, rfl, .inl (SqL.of hB), _, rfl, by omega, by omega, ?_⟩
      refine for_range (lo := 0) (fun i σ G => G = H ∧ ∃ z, σ = [some (.ref a), some (.ref b), z]) ⟨rfl, _, rfl⟩ ?_ ?_
      · rintro i σ G hi ⟨rfl, z, rfl⟩
        have hi' : i < ws.length := by omega
        obtain ⟨x, t1, e1, e2, k1⟩ := hv.kid hA (j := i) (by omega)
        obtain ⟨y, t2, e3, e4, k2⟩ := hw.kid hB (j := i) (by omega)
        rw [e2] at e4
        cases e4
        have i1 : atI vs (0 + (i : Int)) = some x := by rw [Int.zero_add]; exact atI_nat e1
        have i2 : atI ws (0 + (i : Int)) = some y := by rw [Int.zero_add]; exact atI_nat e3
        refine ⟨_, rfl, _, rfl, a, _, _, _, rfl, rfl, SqL.of hA, i1, _, rfl, _, rfl, b, _, _, _, rfl, rfl, SqL.of hB, i2, x, y, t1, rfl, k1, k2, sm.2 t1 (List.mem_of_getElem? e2), ?_⟩
        exact ⟨_, rfl, iteF ⟨rfl, _, rfl⟩⟩
      · rintro σ G ⟨rfl, z, rfl⟩
        exact k

set_option maxHeartbeats 4000000 in
theorem ok_Lcopy (T : Txt w K mg c) : FnOk P w K mg base CX0 1 c.a_Lcopy c.d_Lcopy ["_law_sorting_here"] (spCopy) := by
  refine T.Lcopy.fn.ok sc_Lcopy (fun vs H Q E h => ?_) (fun cdv A outer s H vs Q E hr h => ?_)
  · obtain ⟨v, S, rfl, _⟩ := h
    rfl
  · obtain ⟨v, S, rfl, hat, hz, fu, k⟩ := h
    refine ⟨_, (pss_cons (ps_set (i := 1) sc_Lcopy.nd rfl (Or.inl rfl) (pe_lst pa_nil))
      (pss_cons (ps_for PassesOwn.never rfl (pi_list (pv 0)) (pg_name (i := 2) sc_Lcopy.nd rfl (Or.inl rfl))
        (pss_cons (ps_expr (pe_bm PySem.F.plainAttrs_list PySem.F.slot_list_append PySem.F.type_list_append (MtM.r mt_append) (pv 1) (pa_cons (pe_lst pa_nil) pa_nil)))
      (pss_one (ps_for PassesOwn.never rfl (pi_list (pv 2)) (pg_name (i := 3) sc_Lcopy.nd rfl (Or.inl rfl))
        (pss_one (ps_expr (pe_bm PySem.F.plainAttrs_list PySem.F.slot_list_append PySem.F.type_list_append (MtM.r mt_append) (pe_ix ix_list (pv 1) (pe_un un_neg pe_int) (fun _ _ => rfl)) (pa_cons (pe_comp (N' := ["_law_form"]) (js := [none]) rfl rfl (by decide +kernel) (by decide +kernel) (free_nil (by decide +kernel)) (cap_nil rfl rfl) (pi_list (pv 3)) (fun B => ⟨(pg_name (i := 0) (show List.Nodup (["_law_form"] : List Str) by decide +kernel) rfl (Or.inl rfl)), pifs_nil, (pe_callTy call_list_of rfl T.no_list bt_list (pa_cons (pv 0) pa_nil))⟩)) pa_nil))))))))
      (pss_one (ps_ret (pv 1))))), ?_⟩
    obtain ⟨a, vs, rfl, hA, hlen⟩ := hat.lst
    have sz : 1000 < sizeLine := le_ble rfl
    have sm := small_S fu hz
    have lz : vs.length ≤ 1000 := by rw [hlen]; exact sm.1
    refine ⟨le_ble rfl, fun l hl => ?_⟩
    have s0 : Same H (upd H l (.lst [])) := Same.new hl
    refine ⟨_, rfl, a, rfl, ⟨_, SqL.of (s0 _ _ hA)⟩, ?_⟩
    refine for_list (xs := vs) (fun i σ G => Same H G ∧ (∃ z2 z3, σ = [some (.ref a), some (.ref l), z2, z3]) ∧ ∃ ws, G l = some (.lst ws) ∧ ws.length = i ∧ NewL H G l 3 ws ((ls S).take i)) ?_ ?_ ?_ ?_
    · exact ⟨s0, ⟨_, _, rfl⟩, [], upd_same, rfl, NewL.nil⟩
    · rintro i σ G _ ⟨sG, _⟩
      exact SqL.of (sG _ _ hA)
    · rintro i x σ G hx ⟨sG, ⟨z2, z3, rfl⟩, ws, h1, h2, h3⟩
      have hi : i < vs.length := (List.getElem?_eq_some_iff.mp hx).1
      obtain ⟨x', t', e1, e2, hk⟩ := hat.kid hA hi
      rw [hx] at e1
      cases e1
      obtain ⟨ga, gs, rfl, hG, glen⟩ := hk.lst
      have sm1 := sm.2 t' (List.mem_of_getElem? e2)
      have gz : gs.length ≤ 1000 := by rw [glen]; exact sm1.1
      refine ⟨_, rfl, .inl ⟨rfl, _, SqL.of h1⟩, le_ble rfl, fun g hg => ?_⟩
      have ngl : l ≠ g := ne_of_none h1 hg
      refine ⟨l, _, _, rfl, rfl, by rw [upd_ne ngl]; exact h1, by omega, ?_⟩
      have hgl : l ≠ ga := fun z => by rw [← z, hl] at hG; cases hG
      have hgg : ga ≠ g := ne_of_none (sG _ _ hG) hg
      refine ⟨_, rfl, ga, rfl, ⟨_, SqL.of (by rw [upd_ne hgl.symm, upd_ne hgg]; exact sG _ _ hG)⟩, ?_⟩
      refine for_list (xs := gs) (fun j σ G3 => Same H G3 ∧ (∃ z3, σ = [some (.ref a), some (.ref l), some (.ref ga), z3]) ∧ G3 l = some (.lst (ws ++ [.ref g])) ∧ (∀ b u, b ≠ l → G b = some u → G3 b = some u) ∧ ∃ us, G3 g = some (.lst us) ∧ us.length = j ∧ NewL G G3 g 2 us ((ls t').take j)) ?_ ?_ ?_ ?_
      · refine ⟨fun b u hb => ?_, ⟨_, rfl⟩, upd_same, fun b u nb hb => ?_, [], by rw [upd_ne ngl.symm, upd_same], rfl, NewL.nil⟩
        · rw [upd_ne (ne_of_none hb hl), upd_ne (ne_of_none (sG b u hb) hg)]
          exact sG b u hb
        · rw [upd_ne nb, upd_ne (ne_of_none hb hg)]
          exact hb
      · rintro j σ G3 _ ⟨sG3, _⟩
        exact SqL.of (sG3 _ _ hG)
      · rintro j y σ G3 hy ⟨sG3, ⟨z3, rfl⟩, i1, i2, us, i3, i4, i5⟩
        have hj : j < gs.length := (List.getElem?_eq_some_iff.mp hy).1
        obtain ⟨y', c', e3, e4, hk2⟩ := hk.kid hG hj
        rw [hy] at e3
        cases e3
        obtain ⟨ca, cs, rfl, hC, clen⟩ := hk2.lst
        have sm2 := sm1.2 c' (List.mem_of_getElem? e4)
        have cz : cs.length ≤ 1000 := by rw [clen]; exact sm2.1
        refine ⟨_, rfl, _, rfl, l, _, _, _, rfl, rfl, SqL.of i1, atI_last _ _, .inl ⟨rfl, _, SqL.of i3⟩, ?_⟩
        refine ⟨_, rfl, ca, rfl, ⟨_, SqL.of (sG3 _ _ hC)⟩, fun m B hm => ?_⟩
        refine loop_lst (xs := cs) (fun q σ acc G4 => Same G3 G4 ∧ (∃ o, σ = [o]) ∧ G4 m = some (.lst acc) ∧ acc.length = q ∧ NewL G3 G4 m 1 acc ((ls c').take q)) (by omega) ?_ ?_ ?_ ?_
        · exact ⟨Same.new hm, ⟨_, rfl⟩, upd_same, rfl, NewL.nil⟩
        · rintro q σ acc G4 _ ⟨s4, _, j1, j2, _⟩
          exact ⟨j1, SqL.of (s4 _ _ (sG3 _ _ hC)), by omega⟩
        · rintro q z σ acc G4 hz' ⟨s4, ⟨o, rfl⟩, j1, j2, j3⟩
          have hq : q < cs.length := (List.getElem?_eq_some_iff.mp hz').1
          obtain ⟨z', f, e5, e6, hk3⟩ := hk2.kid hC hq
          rw [hz'] at e5
          cases e5
          obtain ⟨fa, fs, rfl, _, _⟩ := hk3.lst
          obtain ⟨fl, hfl⟩ : ∃ fl : List Int, fl = f := ⟨f, rfl⟩
          subst hfl
          have hF := AtR.ints (ns := fl) hk3
          refine ⟨_, rfl, fa, _, rfl, .inl (SqL.of (s4 _ _ (sG3 _ _ hF))), fun p hp => ?_⟩
          have npm : m ≠ p := ne_of_none j1 hp
          have s5 : Same G4 (upd G4 p (.lst (fl.map V.int))) := Same.new hp
          refine ⟨by rw [upd_ne npm]; exact j1, Nx.mk hq ⟨fun b u hb => ?_, ⟨_, rfl⟩, upd_same, by rw [List.length_append, j2]; rfl, ?_⟩⟩
          · rw [upd_ne (ne_of_none hb hm)]
            exact s5 _ _ (s4 _ _ hb)
          · rw [take_one e6]
            refine (j3.snoc (some_ne j1) (fun b hb => s4.free hb) (fun b xs _ _ hb => s5 b _ hb) (fun b hb => ?_) (New.ints hp upd_same)).frame (fun b xs nb _ hb => by rw [upd_ne nb]; exact hb) (fun b hb => ?_)
            · by_cases e : b = p
              · rw [e, upd_same]; intro z; cases z
              · rw [upd_ne e]; exact hb
            · by_cases e : b = m
              · rw [e, upd_same]; intro z; cases z
              · rw [upd_ne e]; exact hb
        · rintro σ acc G4 ⟨s4, _, j1, j2, j3⟩
          have et : (ls c').take cs.length = ls c' := List.take_of_length_le (by omega)
          rw [et] at j3
          refine ⟨g, _, _, rfl, rfl, s4 _ _ i3, by omega, ?_⟩
          refine ⟨fun b u hb => ?_, ⟨_, rfl⟩, ?_, fun b u nb hb => ?_, _, upd_same, by rw [List.length_append, i4]; rfl, ?_⟩
          · rw [upd_ne (fun z => by rw [z, sG.free hg] at hb; cases hb)]
            exact s4 _ _ (sG3 _ _ hb)
          · rw [upd_ne ngl]
            exact s4 _ _ i1
          · rw [upd_ne (ne_of_none hb hg)]
            exact s4 _ _ (i2 b u nb hb)
          · rw [take_one e4]
            have fr : ∀ b, G3 b = none → G b = none := fun b hb => by
              cases q : G b with
              | none => rfl
              | some u =>
                by_cases e : b = l
                · rw [e, i1] at hb; cases hb
                · rw [i2 b u e q] at hb; cases hb
            refine (i5.snoc (some_ne i3) fr (fun b xs _ _ hb => s4 b _ hb) (fun b hb => ?_) (j3.done hm j1)).frame (fun b xs nb _ hb => by rw [upd_ne nb]; exact hb) (fun b hb => ?_)
            · cases q : G3 b with
              | none => exact absurd q hb
              | some u => rw [s4 b u q]; intro z; cases z
            · by_cases e : b = g
              · rw [e, upd_same]; intro z; cases z
              · rw [upd_ne e]; exact hb
      · rintro σ G3 ⟨sG3, ⟨z3, rfl⟩, i1, i2, us, i3, i4, i5⟩
        have et : (ls t').take gs.length = ls t' := List.take_of_length_le (by omega)
        rw [et] at i5
        refine ⟨sG3, ⟨_, _, rfl⟩, _, i1, by rw [List.length_append, h2]; rfl, ?_⟩
        rw [take_one e2]
        refine h3.snoc (some_ne h1) (fun b hb => sG.free hb) (fun b xs nb _ hb => i2 b _ nb hb) (fun b hb => ?_) (i5.done hg i3)
        by_cases e : b = l
        · rw [e, i1]; intro z; cases z
        · cases q : G b with
          | none => exact absurd q hb
          | some u => rw [i2 b u e q]; intro z; cases z
    · rintro σ G ⟨sG, ⟨z2, z3, rfl⟩, ws, h1, h2, h3⟩
      have et : (ls S).take vs.length = ls S := List.take_of_length_le (by omega)
      rw [et] at h3
      exact ⟨_, rfl, k _ G sG (h3.done hl h1)⟩

set_option maxHeartbeats 4000000 in
theorem ok_Lplaces (T : Txt w K mg c) : FnOk P w K mg base CX0 1 c.a_Lplaces c.d_Lplaces ["_law_sorting_here"] (spPlaces) := by
  refine T.Lplaces.fn.ok sc_Lplaces (fun vs H Q E h => ?_) (fun cdv A outer s H vs Q E hr h => ?_)
  · obtain ⟨v, S, rfl, _⟩ := h
    rfl
  · obtain ⟨v, S, rfl, hat, fu, hz, k⟩ := h
    refine ⟨_, (pss_cons (ps_set (i := 1) sc_Lplaces.nd rfl (Or.inl rfl) (pe_lst pa_nil))
      (pss_cons (ps_for PassesOwn.never rfl (pi_range1 rfl T.no_range (pa_cons (pe_callB call_len_seq rfl T.no_len bt_len (pa_cons (pv 0) pa_nil)) pa_nil)) (pg_name (i := 2) sc_Lplaces.nd rfl (Or.inl rfl))
        (pss_one (ps_for PassesOwn.never rfl (pi_range1 rfl T.no_range (pa_cons (pe_callB call_len_seq rfl T.no_len bt_len (pa_cons (pe_ix ix_list (pv 0) (pv 2) (fun _ _ => rfl)) pa_nil)) pa_nil)) (pg_name (i := 3) sc_Lplaces.nd rfl (Or.inl rfl))
        (pss_one (ps_for PassesOwn.never rfl (pi_range1 rfl T.no_range (pa_cons (pe_callB call_len_seq rfl T.no_len bt_len (pa_cons (pe_ix ix_list (pe_ix ix_list (pv 0) (pv 2) (fun _ _ => rfl)) (pv 3) (fun _ _ => rfl)) pa_nil)) pa_nil)) (pg_name (i := 4) sc_Lplaces.nd rfl (Or.inl rfl))
        (pss_one (ps_for PassesOwn.never rfl (pi_list (pe_ix ix_list (pe_ix ix_list (pe_ix ix_list (pv 0) (pv 2) (fun _ _ => rfl)) (pv 3) (fun _ _ => rfl)) (pv 4) (fun _ _ => rfl))) (pg_name (i := 5) sc_Lplaces.nd rfl (Or.inl rfl))
        (pss_one (ps_expr (pe_bm PySem.F.plainAttrs_list PySem.F.slot_list_append PySem.F.type_list_append (MtM.r mt_append) (pv 1) (pa_cons (pe_lst (pa_cons (pv 5) (pa_cons (pv 2) (pa_cons (pv 3) (pa_cons (pv 4) pa_nil))))) pa_nil)))))))))))
      (pss_one (ps_ret (pv 1))))), ?_⟩
    obtain ⟨a, vs, rfl, hA, hlen⟩ := hat.lst
    have sz : 2000 < sizeLine := le_ble rfl
    have sm := small_S fu (by omega : (flat 4 S).length ≤ 1000)
    have lz : vs.length ≤ 1000 := by rw [hlen]; exact sm.1
    refine ⟨le_ble rfl, fun l hl => ?_⟩
    have s0 : Same H (upd H l (.lst [])) := Same.new hl
    have step : ∀ (G : Hp) (ws : List V) (R : List Q4) (r : Q4), Same H G → G l = some (.lst ws) → NewL H G l 1 ws (R.map rl) → ∀ p : Addr, G p = none → upd G p (.lst ((rlI r).map V.int)) l = some (.lst ws) ∧ Same H (upd (upd G p (.lst ((rlI r).map V.int))) l (.lst (ws ++ [.ref p]))) ∧ NewL H (upd (upd G p (.lst ((rlI r).map V.int))) l (.lst (ws ++ [.ref p]))) l 1 (ws ++ [.ref p]) ((R ++ [r]).map rl) := fun G ws R r sG h1 h2 p hp => by
      have npl : l ≠ p := ne_of_none h1 hp
      have s1 : Same G (upd G p (.lst ((rlI r).map V.int))) := Same.new hp
      refine ⟨by rw [upd_ne npl]; exact h1, fun b u hb => ?_, ?_⟩
      · rw [upd_ne (ne_of_none hb hl)]
        exact s1 _ _ (sG _ _ hb)
      · rw [List.map_append]
        refine (h2.snoc (some_ne h1) (fun b hb => sG.free hb) (fun b xs _ _ hb => s1 b _ hb) (fun b hb => ?_) (New.ints hp upd_same)).frame (fun b xs nb _ hb => by rw [upd_ne nb]; exact hb) (fun b hb => ?_)
        · by_cases e : b = p
          · rw [e, upd_same]; intro z; cases z
          · rw [upd_ne e]; exact hb
        · by_cases e : b = l
          · rw [e, upd_same]; intro z; cases z
          · rw [upd_ne e]; exact hb
    refine ⟨_, rfl, a, _, rfl, .inl (SqL.of (s0 _ _ hA)), _, rfl, by omega, by omega, ?_⟩
    refine for_range (lo := 0) (fun i σ G => Same H G ∧ ∃ ws z2 z3 z4 z5, σ = [some (.ref a), some (.ref l), z2, z3, z4, z5] ∧ G l = some (.lst ws) ∧ NewL H G l 1 ws ((pl4 0 ((ls S).take i)).map rl) ∧ i ≤ vs.length) ?_ ?_ ?_
    · exact ⟨s0, [], _, _, _, _, rfl, upd_same, NewL.nil, Nat.zero_le _⟩
    · rintro i σ G hi0 ⟨sG, ws, z2, z3, z4, z5, rfl, h1, h2, _⟩
      have hi : i < vs.length := by omega
      obtain ⟨x, g, ex, eg, kg⟩ := hat.kid hA hi
      obtain ⟨ga, gs, rfl, hG, glen⟩ := kg.lst
      have ixS : atI vs (i : Int) = some (.ref ga) := atI_nat ex
      have sm1 := sm.2 g (List.mem_of_getElem? eg)
      have gz : gs.length ≤ 1000 := by rw [glen]; exact sm1.1
      rw [Int.zero_add]
      refine ⟨_, rfl, _, rfl, a, _, _, _, rfl, rfl, SqL.of (sG _ _ hA), ixS, ga, _, rfl, .inl (SqL.of (sG _ _ hG)), _, rfl, by omega, by omega, ?_⟩
      refine for_range (lo := 0) (fun j σ G => Same H G ∧ ∃ ws z3 z4 z5, σ = [some (.ref a), some (.ref l), some (.int i), z3, z4, z5] ∧ G l = some (.lst ws) ∧ NewL H G l 1 ws ((pl4 0 ((ls S).take i) ++ pl3 i 0 ((ls g).take j)).map rl) ∧ j ≤ gs.length) ?_ ?_ ?_
      · exact ⟨sG, ws, _, _, _, rfl, h1, by show NewL H G l 1 ws ((_ ++ []).map rl); rw [List.append_nil]; exact h2, Nat.zero_le _⟩
      · rintro j σ G hj0 ⟨sG, ws, z3, z4, z5, rfl, h1, h2, _⟩
        have hj : j < gs.length := by omega
        obtain ⟨y, c', ey, ec, kc⟩ := kg.kid hG hj
        obtain ⟨ca, cs, rfl, hC, clen⟩ := kc.lst
        have ixG : atI gs (j : Int) = some (.ref ca) := atI_nat ey
        have sm2 := sm1.2 c' (List.mem_of_getElem? ec)
        have cz : cs.length ≤ 1000 := by rw [clen]; exact sm2.1
        rw [Int.zero_add]
        refine ⟨_, rfl, _, rfl, a, _, _, _, rfl, rfl, SqL.of (sG _ _ hA), ixS, _, rfl, ga, _, _, _, rfl, rfl, SqL.of (sG _ _ hG), ixG, ca, _, rfl, .inl (SqL.of (sG _ _ hC)), _, rfl, by omega, by omega, ?_⟩
        refine for_range (lo := 0) (fun m σ G => Same H G ∧ ∃ ws z4 z5, σ = [some (.ref a), some (.ref l), some (.int i), some (.int j), z4, z5] ∧ G l = some (.lst ws) ∧ NewL H G l 1 ws ((pl4 0 ((ls S).take i) ++ pl3 i 0 ((ls g).take j) ++ pl2 i j 0 ((ls c').take m)).map rl) ∧ m ≤ cs.length) ?_ ?_ ?_
        · exact ⟨sG, ws, _, _, rfl, h1, by show NewL H G l 1 ws ((_ ++ []).map rl); rw [List.append_nil]; exact h2, Nat.zero_le _⟩
        · rintro m σ G hm0 ⟨sG, ws, z4, z5, rfl, h1, h2, _⟩
          have hm : m < cs.length := by omega
          obtain ⟨z, f, ez, ef, kf⟩ := kc.kid hC hm
          obtain ⟨fl0, hfl⟩ : ∃ fl0 : List Int, fl0 = f := ⟨f, rfl⟩
          subst hfl
          obtain ⟨fa, fs, rfl, _, _⟩ := kf.lst
          have hF := AtR.ints (ns := fl0) kf
          have ixC : atI cs (m : Int) = some (.ref fa) := atI_nat ez
          have n1 := flat_len eg
          have n2 := flat_len ec
          have n3 := flat_len ef
          have n4 := congrArg List.length (flat_ints fl0)
          have e1 : (flat 4 S).length = (flat (3 + 1) (ls S : List (Tr 3))).length := rfl
          have e2 : (flat 4 ((ls S).take i : List (Tr 3))).length = (flat (3 + 1) ((ls S).take i : List (Tr 3))).length := rfl
          have e3 : (flat 3 g).length = (flat (2 + 1) (ls g : List (Tr 2))).length := rfl
          have e4 : (flat 3 ((ls g).take j : List (Tr 2))).length = (flat (2 + 1) ((ls g).take j : List (Tr 2))).length := rfl
          have e5 : (flat 2 c').length = (flat (1 + 1) (ls c' : List (Tr 1))).length := rfl
          have e6 : (flat 2 ((ls c').take m : List (Tr 1))).length = (flat (1 + 1) ((ls c').take m : List (Tr 1))).length := rfl
          have p4 := pl4_len ((ls S).take i) 0
          have p3 := pl3_len i ((ls g).take j) 0
          have p2 := pl2_len i j ((ls c').take m) 0
          rw [Int.zero_add]
          refine ⟨_, rfl, _, rfl, a, _, _, _, rfl, rfl, SqL.of (sG _ _ hA), ixS, _, rfl, ga, _, _, _, rfl, rfl, SqL.of (sG _ _ hG), ixG, _, rfl, ca, _, _, _, rfl, rfl, SqL.of (sG _ _ hC), ixC, fa, rfl, ⟨_, SqL.of (sG _ _ hF)⟩, ?_⟩
          refine for_list (xs := fl0.map V.int) (fun q σ G => Same H G ∧ ∃ ws z5, σ = [some (.ref a), some (.ref l), some (.int i), some (.int j), some (.int m), z5] ∧ G l = some (.lst ws) ∧ NewL H G l 1 ws ((pl4 0 ((ls S).take i) ++ pl3 i 0 ((ls g).take j) ++ pl2 i j 0 ((ls c').take m) ++ pl1 i j m (fl0.take q)).map rl)) ?_ ?_ ?_ ?_
          · exact ⟨sG, ws, _, rfl, h1, by show NewL H G l 1 ws ((_ ++ []).map rl); rw [List.append_nil]; exact h2⟩
          · rintro q σ G _ ⟨sG, _⟩
            exact SqL.of (sG _ _ hF)
          · rintro q x σ G hx ⟨sG, ws, z5, rfl, h1, h2⟩
            obtain ⟨s', hs', rfl⟩ := getI hx
            have hq : q < fl0.length := (List.getElem?_eq_some_iff.mp hs').1
            have kl := h2.1
            rw [List.length_map, List.length_append, List.length_append, List.length_append] at kl
            have p1 : (pl1 (i : Int) j m (fl0.take q)).length ≤ fl0.length := by
              unfold pl1
              rw [List.length_map, List.length_take]
              omega
            refine ⟨_, rfl, .inl ⟨rfl, _, SqL.of h1⟩, _, rfl, _, rfl, _, rfl, _, rfl, le_ble rfl, fun p hp => ?_⟩
            obtain ⟨g1, g2, g3⟩ := step G ws _ (s', (i : Int), (j : Int), (m : Int)) sG h1 h2 p hp
            refine ⟨l, ws, _, rfl, rfl, g1, by omega, g2, _, _, rfl, upd_same, ?_⟩
            have e : pl1 (i : Int) j m (fl0.take (q + 1)) = pl1 i j m (fl0.take q) ++ [(s', (i : Int), (j : Int), (m : Int))] := by
              unfold pl1
              rw [take_one hs', List.map_append]
              rfl
            rw [e, ← List.append_assoc]
            exact g3
          · rintro σ G ⟨sG, ws, z5, rfl, h1, h2⟩
            rw [List.length_map, List.take_of_length_le (Nat.le_refl _)] at h2
            refine ⟨sG, ws, _, _, rfl, h1, ?_, by omega⟩
            have e : pl2 (i : Int) j 0 ((ls c').take (m + 1)) = pl2 i j 0 ((ls c').take m) ++ pl1 i j m fl0 := pl2_take ef
            rw [e, ← List.append_assoc]
            exact h2
        · rintro σ G ⟨sG, ws, z4, z5, rfl, h1, h2, _⟩
          have et : (ls c').take ((cs.length : Int) : Int).toNat = ls c' := List.take_of_length_le (by omega)
          rw [et] at h2
          refine ⟨sG, ws, _, _, _, rfl, h1, ?_, by omega⟩
          rw [pl3_take ec, ← List.append_assoc]
          exact h2
      · rintro σ G ⟨sG, ws, z3, z4, z5, rfl, h1, h2, _⟩
        have et : (ls g).take ((gs.length : Int) : Int).toNat = ls g := List.take_of_length_le (by omega)
        rw [et] at h2
        refine ⟨sG, ws, _, _, _, _, rfl, h1, ?_, by omega⟩
        rw [pl4_take eg]
        exact h2
    · rintro σ G ⟨sG, ws, z2, z3, z4, z5, rfl, h1, h2, _⟩
      have et : (ls S).take ((vs.length : Int) : Int).toNat = ls S := List.take_of_length_le (by omega)
      rw [et] at h2
      exact ⟨_, rfl, k _ G sG (h2.done hl h1)⟩

set_option maxHeartbeats 4000000 in
theorem ok_Lmoved_up (T : Txt w K mg c) : FnOk P w K mg base CX0 1 c.a_Lmoved_up c.d_Lmoved_up ["_law_rows"] (spMoved) := by
  refine T.Lmoved_up.fn.ok sc_Lmoved_up (fun vs H Q E h => ?_) (fun cdv A outer s H vs Q E hr h => ?_)
  · obtain ⟨l, R, rfl, _⟩ := h
    rfl
  · obtain ⟨l, R, rfl, hat, hz, k⟩ := h
    refine ⟨_, (pss_cons (ps_set (i := 1) sc_Lmoved_up.nd rfl (Or.inl rfl) (pe_lst pa_nil))
      (pss_cons (ps_set (i := 2) sc_Lmoved_up.nd rfl (Or.inl rfl) (pe_lst (pa_cons (pe_un un_neg pe_int) (pa_cons (pe_un un_neg pe_int) (pa_cons (pe_un un_neg pe_int) pa_nil)))))
      (pss_cons (ps_set (i := 3) sc_Lmoved_up.nd rfl (Or.inl rfl) (pe_lst (pa_cons (pe_un un_neg pe_int) (pa_cons (pe_un un_neg pe_int) (pa_cons (pe_un un_neg pe_int) pa_nil)))))
      (pss_cons (ps_for PassesOwn.never rfl (pi_list (pv 0)) (pg_tupL rfl (pgs_cons (pg_name (i := 4) sc_Lmoved_up.nd rfl (Or.inl rfl)) (pgs_cons (pg_name (i := 5) sc_Lmoved_up.nd rfl (Or.inl rfl)) (pgs_cons (pg_name (i := 6) sc_Lmoved_up.nd rfl (Or.inl rfl)) (pgs_cons (pg_name (i := 7) sc_Lmoved_up.nd rfl (Or.inl rfl)) pgs_nil)))))
        (pss_cut (ps_if (pt_cmpR op_ne (pv 5) (pe_ix ix_list (pv 2) pe_int (fun _ _ => rfl)) (nomark _))
        (pss_one (ps_set (i := 3) sc_Lmoved_up.nd rfl (Or.inl rfl) (pe_lst (pa_cons (pe_op op_add (pe_ix ix_list (pv 3) pe_int (fun _ _ => rfl)) pe_int) (pa_cons pe_int (pa_cons pe_int pa_nil))))))
        (pss_one (ps_if (pt_cmpR op_ne (pv 6) (pe_ix ix_list (pv 2) pe_int (fun _ _ => rfl)) (nomark _))
        (pss_one (ps_set (i := 3) sc_Lmoved_up.nd rfl (Or.inl rfl) (pe_lst (pa_cons (pe_ix ix_list (pv 3) pe_int (fun _ _ => rfl)) (pa_cons (pe_op op_add (pe_ix ix_list (pv 3) pe_int (fun _ _ => rfl)) pe_int) (pa_cons pe_int pa_nil))))))
        (pss_one (ps_if (pt_cmpR op_ne (pv 7) (pe_ix ix_list (pv 2) pe_int (fun _ _ => rfl)) (nomark _))
        (pss_one (ps_set (i := 3) sc_Lmoved_up.nd rfl (Or.inl rfl) (pe_lst (pa_cons (pe_ix ix_list (pv 3) pe_int (fun _ _ => rfl)) (pa_cons (pe_ix ix_list (pv 3) pe_int (fun _ _ => rfl)) (pa_cons (pe_op op_add (pe_ix ix_list (pv 3) pe_int (fun _ _ => rfl)) pe_int) pa_nil))))))
        pss_nil)))))
      (pss_cons (ps_set (i := 2) sc_Lmoved_up.nd rfl (Or.inl rfl) (pe_lst (pa_cons (pv 5) (pa_cons (pv 6) (pa_cons (pv 7) pa_nil)))))
      (pss_one (ps_expr (pe_bm PySem.F.plainAttrs_list PySem.F.slot_list_append PySem.F.type_list_append (MtM.r mt_append) (pv 1) (pa_cons (pe_op op_cat (pe_lst (pa_cons (pv 4) pa_nil)) (pv 3)) pa_nil)))))))
      (pss_one (ps_ret (pv 1))))))), ?_⟩
    obtain ⟨_, vs, el, hA, hlen⟩ := hat.lst
    cases el
    have sz : 2000 < sizeLine := le_ble rfl
    have hlen : vs.length = R.length := by rw [hlen]; exact List.length_map ..
    have row : ∀ (q : Nat) x, vs[q]? = some x → ∃ a r, R[q]? = some r ∧ x = .ref a ∧ H a = some (.lst ((rlI r).map V.int)) := fun q x hx => by
      have hq : q < vs.length := (List.getElem?_eq_some_iff.mp hx).1
      obtain ⟨x', t, e1, e2, hk⟩ := hat.kid hA hq
      rw [hx] at e1
      cases e1
      have hr : R[q]? = some R[q] := List.getElem?_eq_getElem (by omega)
      have e2 : (R.map rl)[q]? = some t := e2
      rw [List.getElem?_map, hr] at e2
      have e2 : rl R[q] = t := Option.some.inj e2
      subst e2
      obtain ⟨a, _, rfl, _, _⟩ := hk.lst
      exact ⟨a, R[q], hr, rfl, AtR.ints (ns := rlI R[q]) hk⟩
    refine ⟨le_ble rfl, fun f hf => ?_⟩
    have s0 := Same.new (o := HO.lst []) hf
    have k0 := upd_same (H := H) (a := f) (o := HO.lst [])
    generalize upd H f (.lst []) = G0 at s0 k0 ⊢
    refine ⟨_, rfl, _, rfl, _, rfl, le_ble rfl, fun la hla => ?_⟩
    have s1 := s0.trans (Same.new (o := HO.lst (t3 st0.1)) hla)
    have k1 := Same.new (o := HO.lst (t3 st0.1)) hla _ _ k0
    have kla := upd_same (H := G0) (a := la) (o := HO.lst (t3 st0.1))
    have nlf : la ≠ f := (ne_of_none k0 hla).symm
    show _
    generalize hG1 : upd G0 la (.lst (t3 st0.1)) = G1 at s1 k1 kla
    have hG1' : upd G0 la (.lst [.int (-1), .int (-1), .int (-1)]) = G1 := hG1
    rw [hG1']
    refine ⟨_, rfl, _, rfl, _, rfl, le_ble rfl, fun ha hha => ?_⟩
    have s2 := s1.trans (Same.new (o := HO.lst (t3 st0.2)) hha)
    have k2 := Same.new (o := HO.lst (t3 st0.2)) hha _ _ k1
    have kla2 := Same.new (o := HO.lst (t3 st0.2)) hha _ _ kla
    have kha := upd_same (H := G1) (a := ha) (o := HO.lst (t3 st0.2))
    have nhf : ha ≠ f := (ne_of_none k1 hha).symm
    generalize hG2 : upd G1 ha (.lst (t3 st0.2)) = G2 at s2 k2 kla2 kha
    have hG2' : upd G1 ha (.lst [.int (-1), .int (-1), .int (-1)]) = G2 := hG2
    rw [hG2']
    refine ⟨_, rfl, l, rfl, ⟨_, SqL.of (s2 _ _ hA)⟩, ?_⟩
    refine for_list (xs := vs) (fun q σ G => Same H G ∧ ∃ la ha z4 z5 z6 z7 ws, σ = [some (.ref l), some (.ref f), some (.ref la), some (.ref ha), z4, z5, z6, z7] ∧ la ≠ f ∧ ha ≠ f ∧ G la = some (.lst (t3 (mvE st0 (R.take q)).1)) ∧ G ha = some (.lst (t3 (mvE st0 (R.take q)).2)) ∧ G f = some (.lst ws) ∧ NewL H G f 1 ws ((mv st0 (R.take q)).map rl)) ?_ ?_ ?_ ?_
    · exact ⟨s2, la, ha, _, _, _, _, [], rfl, nlf, nhf, kla2, kha, k2, NewL.nil⟩
    · rintro q σ G _ ⟨sG, _⟩
      exact SqL.of (sG _ _ hA)
    · clear hG1 hG1' hG2 hG2' s1 s2 k1 k2 kla kla2 kha nlf nhf hla hha
      rintro q x σ G hx ⟨sG, la, ha, z4, z5, z6, z7, ws, rfl, nl, nh, hl, hh, h1, h2⟩
      obtain ⟨ra, r, er, rfl, hra⟩ := row q x hx
      have hq : q < vs.length := (List.getElem?_eq_some_iff.mp hx).1
      have wl : ws.length < 64 := by
        rw [h2.1, List.length_map, mv_len, List.length_take]
        omega
      have eE : mvE st0 (R.take (q + 1)) = mvS (mvE st0 (R.take q)) r := by rw [take_one er, mvE_app]; rfl
      have eM : mv st0 (R.take (q + 1)) = mv st0 (R.take q) ++ [(r.1, (mvS (mvE st0 (R.take q)) r).2)] := by rw [take_one er, mv_app]; rfl
      rw [eE, eM]
      generalize mvE st0 (R.take q) = st at hl hh
      obtain ⟨x1, x2, x3, x4⟩ := r
      refine ⟨ra, _, rfl, SqL.of (sG _ _ hra), rfl, _, _, rfl, _, _, rfl, _, _, rfl, _, _, rfl, rfl, ?_⟩
      refine ⟨fun σ' G' => Same G G' ∧ ∃ ha', σ' = [some (.ref l), some (.ref f), some (.ref la), some (.ref ha'), some (.int x1), some (.int x2), some (.int x3), some (.int x4)] ∧ ha' ≠ f ∧ G' ha' = some (.lst (t3 (mvS st (x1, x2, x3, x4)).2)), ?_, ?_⟩
      · refine ⟨_, rfl, _, rfl, la, _, _, _, rfl, rfl, SqL.of hl, t3_0 _, rfl, _, rfl, ?_⟩
        refine ite2 (fun z => ?_) (fun z => ?_)
        · have z : x2 ≠ st.1.1 := fun q => by rw [q, decide_eq_true rfl] at z; exact absurd z (by decide)
          refine ⟨_, rfl, ha, _, _, _, rfl, rfl, SqL.of hh, t3_0 _, _, _, rfl, rfl, le_ble rfl, fun p hp => ?_⟩
          refine ⟨Same.new hp, p, rfl, (ne_of_none h1 hp).symm, ?_⟩
          rw [upd_same]
          unfold mvS
          rw [if_pos z]
          rfl
        have z : x2 = st.1.1 := V.int.inj (Decidable.of_not_not (p := V.int x2 = V.int st.1.1) (fun q => z (by rw [decide_eq_false q]; rfl)))
        refine ⟨_, rfl, _, rfl, la, _, _, _, rfl, rfl, SqL.of hl, t3_1 _, rfl, _, rfl, ?_⟩
        refine ite2 (fun y => ?_) (fun y => ?_)
        · have y : x3 ≠ st.1.2.1 := fun q => by rw [q, decide_eq_true rfl] at y; exact absurd y (by decide)
          refine ⟨_, rfl, ha, _, _, _, rfl, rfl, SqL.of hh, t3_0 _, _, rfl, ha, _, _, _, rfl, rfl, SqL.of hh, t3_1 _, _, _, rfl, rfl, le_ble rfl, fun p hp => ?_⟩
          refine ⟨Same.new hp, p, rfl, (ne_of_none h1 hp).symm, ?_⟩
          rw [upd_same]
          unfold mvS
          rw [if_neg (fun q => q z), if_pos y]
          rfl
        have y : x3 = st.1.2.1 := V.int.inj (Decidable.of_not_not (p := V.int x3 = V.int st.1.2.1) (fun q => y (by rw [decide_eq_false q]; rfl)))
        refine ⟨_, rfl, _, rfl, la, _, _, _, rfl, rfl, SqL.of hl, t3_2 _, rfl, _, rfl, ?_⟩
        refine ite2 (fun x => ?_) (fun x => ?_)
        · have x : x4 ≠ st.1.2.2 := fun q => by rw [q, decide_eq_true rfl] at x; exact absurd x (by decide)
          refine ⟨_, rfl, ha, _, _, _, rfl, rfl, SqL.of hh, t3_0 _, _, rfl, ha, _, _, _, rfl, rfl, SqL.of hh, t3_1 _, _, rfl, ha, _, _, _, rfl, rfl, SqL.of hh, t3_2 _, _, _, rfl, rfl, le_ble rfl, fun p hp => ?_⟩
          refine ⟨Same.new hp, p, rfl, (ne_of_none h1 hp).symm, ?_⟩
          rw [upd_same]
          unfold mvS
          rw [if_neg (fun q => q z), if_neg (fun q => q y), if_pos x]
          rfl
        have x : x4 = st.1.2.2 := V.int.inj (Decidable.of_not_not (p := V.int x4 = V.int st.1.2.2) (fun q => x (by rw [decide_eq_false q]; rfl)))
        refine ⟨Same.refl G, ha, rfl, nh, ?_⟩
        rw [hh]
        unfold mvS
        rw [if_neg (fun q => q z), if_neg (fun q => q y), if_neg (fun q => q x)]
      rintro σ' G' ⟨s', ha', rfl, nh', hh'⟩
      have hS : (mvS st (x1, x2, x3, x4)).1 = (x2, x3, x4) := rfl
      rw [hS]
      generalize (mvS st (x1, x2, x3, x4)).2 = h3 at hh' ⊢
      obtain ⟨y1, y2, y3⟩ := h3
      have h1' := s' _ _ h1
      refine ⟨_, rfl, _, rfl, _, rfl, le_ble rfl, fun la' hla' => ?_⟩
      have s3 := Same.new (o := HO.lst [.int x2, .int x3, .int x4]) hla'
      have nlf := (ne_of_none h1' hla').symm
      have kla := upd_same (H := G') (a := la') (o := HO.lst [.int x2, .int x3, .int x4])
      have h1'' := s3 _ _ h1'
      have hh'' := s3 _ _ hh'
      have s13 := s'.trans s3
      generalize upd G' la' (.lst [.int x2, .int x3, .int x4]) = G3 at s13 kla h1'' hh'' ⊢
      refine ⟨_, rfl, .inl ⟨rfl, _, SqL.of h1''⟩, _, rfl, le_ble rfl, fun p1 hp1 => ?_⟩
      have s4 := Same.new (o := HO.lst [V.int x1]) hp1
      refine ⟨_, rfl, p1, ha', _, _, rfl, rfl, upd_same, s4 _ _ hh'', le_ble rfl, fun p2 hp2 => ?_⟩
      have s5 := s13.trans (s4.trans (Same.new (o := HO.lst ([V.int x1] ++ t3 (y1, y2, y3))) hp2))
      have kp2 := upd_same (H := upd G3 p1 (.lst [V.int x1])) (a := p2) (o := HO.lst ([V.int x1] ++ t3 (y1, y2, y3)))
      have s35 := s4.trans (Same.new (o := HO.lst ([V.int x1] ++ t3 (y1, y2, y3))) hp2)
      have np2 : G p2 = none := s13.free (s4.free hp2)
      have h5 := s35 _ _ h1''
      have kla5 := s35 _ _ kla
      have hh5 := s35 _ _ hh''
      generalize upd (upd G3 p1 (.lst [V.int x1])) p2 (.lst ([V.int x1] ++ t3 (y1, y2, y3))) = G5 at s5 kp2 h5 kla5 hh5 ⊢
      refine ⟨f, ws, _, rfl, rfl, h5, by omega, fun b u hb => ?_, la', ha', _, _, _, _, _, rfl, nlf, nh', by rw [upd_ne nlf]; exact kla5, by rw [upd_ne nh']; exact hh5, upd_same, ?_⟩
      · rw [upd_ne (ne_of_none hb hf)]
        exact s5 _ _ (sG _ _ hb)
      · rw [List.map_append]
        have nw : New G G5 1 (.ref p2) (rl (x1, y1, y2, y3)) := New.ints (ns := rlI (x1, y1, y2, y3)) np2 kp2
        refine (h2.snoc (some_ne h1) (fun b hb => sG.free hb) (fun b xs _ _ hb => s5 b _ hb) (fun b hb => ?_) nw).frame (fun b xs nb _ hb => by rw [upd_ne nb]; exact hb) (fun b hb => ?_)
        · cases e : G b with
          | none => exact absurd e hb
          | some u => rw [s5 b u e]; intro z; cases z
        · by_cases e : b = f
          · rw [e, upd_same]; intro z; cases z
          · rw [upd_ne e]; exact hb
    · rintro σ G ⟨sG, la, ha, z4, z5, z6, z7, ws, rfl, nl, nh, hl, hh, h1, h2⟩
      rw [hlen, List.take_of_length_le (Nat.le_refl _)] at h2
      exact ⟨_, rfl, k _ G sG (h2.done hf h1)⟩

set_option maxHeartbeats 4000000 in
theorem ok_Lwhole_lists (T : Txt w K mg c) : FnOk P w K mg base CX0 1 c.a_Lwhole_lists c.d_Lwhole_lists ["_law_found"] (spWholeL) := by
  refine T.Lwhole_lists.fn.ok sc_Lwhole_lists (fun vs H Q E h => ?_) (fun cdv A outer s H vs Q E hr h => ?_)
  · obtain ⟨v, S, rfl, _⟩ := h
    rfl
  · obtain ⟨v, S, rfl, hat, fu, hz, k⟩ := h
    refine ⟨_, (pss_cons (ps_if (pt_not (pt_val (pe_callB call_isiA rfl T.no_isinstance bt_isinstance (pa_cons (pv 0) (pa_cons (pe_bltn (v := .ty "list") rfl T.no_list bt_list rfl) pa_nil)))))
        (pss_one (ps_ret pe_bl))
        pss_nil)
      (pss_cons (ps_for PassesOwn.never rfl (pi_list (pv 0)) (pg_name (i := 1) sc_Lwhole_lists.nd rfl (Or.inl rfl))
        (pss_cons (ps_if (PW.pt (pw_or (pt_not (pt_val (pe_callB call_isiA rfl T.no_isinstance bt_isinstance (pa_cons (pv 1) (pa_cons (pe_bltn (v := .ty "list") rfl T.no_list bt_list rfl) pa_nil))))) (pw_or1 (pt_cmpR (op_eqD (hu62 hr)) (pv 1) (pe_lst pa_nil) (nomark _)))))
        (pss_one (ps_ret pe_bl))
        pss_nil)
      (pss_one (ps_for PassesOwn.never rfl (pi_list (pv 1)) (pg_name (i := 2) sc_Lwhole_lists.nd rfl (Or.inl rfl))
        (pss_cons (ps_if (PW.pt (pw_or (pt_not (pt_val (pe_callB call_isiA rfl T.no_isinstance bt_isinstance (pa_cons (pv 2) (pa_cons (pe_bltn (v := .ty "list") rfl T.no_list bt_list rfl) pa_nil))))) (pw_or (pt_cmpR (op_eqD (hu62 hr)) (pv 2) (pe_lst pa_nil) (nomark _)) (pw_or1 (pt_cmpR (op_inNo (hu62 hr)) (pe_lst pa_nil) (pv 2) (by with_unfolding_all rfl))))))
        (pss_one (ps_ret pe_bl))
        pss_nil)
      (pss_one (ps_for PassesOwn.never rfl (pi_list (pv 2)) (pg_name (i := 3) sc_Lwhole_lists.nd rfl (Or.inl rfl))
        (pss_one (ps_if (pt_not (pt_val (pe_callB call_isiA rfl T.no_isinstance bt_isinstance (pa_cons (pv 3) (pa_cons (pe_bltn (v := .ty "list") rfl T.no_list bt_list rfl) pa_nil)))))
        (pss_one (ps_ret pe_bl))
        pss_nil)))))))))
      (pss_one (ps_ret pe_bl)))), ?_⟩
    obtain ⟨a, vs, rfl, hA, hlen⟩ := hat.lst
    refine ⟨_, rfl, rIsiA.ty (.lst hA) rfl ⟨_, rfl, iteF ?_⟩⟩
    refine ⟨_, rfl, a, rfl, ⟨_, SqL.of hA⟩, ?_⟩
    refine for_list (xs := vs) (fun i σ G => Same H G ∧ ∃ z1 z2 z3, σ = [some (.ref a), z1, z2, z3]) ⟨Same.refl H, _, _, _, rfl⟩ ?_ ?_ ?_
    · rintro i σ G _ ⟨sG, _⟩
      exact SqL.of (sG _ _ hA)
    · rintro i x σ G hx ⟨sG, z1, z2, z3, rfl⟩
      have hi : i < vs.length := (List.getElem?_eq_some_iff.mp hx).1
      obtain ⟨x', g, e1, eg, kg⟩ := hat.kid hA hi
      rw [hx] at e1
      cases e1
      obtain ⟨ga, gs, rfl, hG, glen⟩ := kg.lst
      have fg := fu g (List.mem_of_getElem? eg)
      have gne : gs.isEmpty = false := by
        cases gs with
        | nil => exact absurd (List.length_eq_zero_iff.mp glen.symm) fg.1
        | cons _ _ => rfl
      refine ⟨_, rfl, rIsiA.ty (.lst (sG _ _ hG)) rfl ⟨_, rfl, iteF ?_⟩⟩
      refine ⟨_, rfl, le_ble rfl, fun e1 he1 => ?_⟩
      have s1 := sG.trans (Same.new (o := HO.lst []) he1)
      refine ⟨0, _, by decide, seqNil (SqL.of (s1 _ _ hG)) (SqL.of upd_same), _, rfl, ?_⟩
      rw [gne]
      refine iteF ?_
      generalize upd G e1 (.lst []) = G1 at s1 ⊢
      refine ⟨_, rfl, ga, rfl, ⟨_, SqL.of (s1 _ _ hG)⟩, ?_⟩
      refine for_list (xs := gs) (fun j σ G => Same H G ∧ ∃ z2 z3, σ = [some (.ref a), some (.ref ga), z2, z3]) ⟨s1, _, _, rfl⟩ ?_ ?_ ?_
      · rintro j σ G _ ⟨sG, _⟩
        exact SqL.of (sG _ _ hG)
      · rintro j y σ G hy ⟨sG, z2, z3, rfl⟩
        have hj : j < gs.length := (List.getElem?_eq_some_iff.mp hy).1
        obtain ⟨y', c', e2, ec, kc⟩ := kg.kid hG hj
        rw [hy] at e2
        cases e2
        obtain ⟨ca, cs, rfl, hC, clen⟩ := kc.lst
        have fc := fg.2 c' (List.mem_of_getElem? ec)
        have cne : cs.isEmpty = false := by
          cases cs with
          | nil => exact absurd (List.length_eq_zero_iff.mp clen.symm) fc.1
          | cons _ _ => rfl
        refine ⟨_, rfl, rIsiA.ty (.lst (sG _ _ hC)) rfl ⟨_, rfl, iteF ?_⟩⟩
        refine ⟨_, rfl, le_ble rfl, fun e2 he2 => ?_⟩
        have s2 := sG.trans (Same.new (o := HO.lst []) he2)
        refine ⟨0, _, by decide, seqNil (SqL.of (s2 _ _ hC)) (SqL.of upd_same), _, rfl, ?_⟩
        rw [cne]
        refine iteF ?_
        generalize upd G e2 (.lst []) = G2 at s2 ⊢
        have fk : ∀ (m : Nat) z, cs[m]? = some z → ∃ fa fs, z = .ref fa ∧ H fa = some (.lst fs) ∧ fs ≠ [] := fun m z hz => by
          have hm : m < cs.length := (List.getElem?_eq_some_iff.mp hz).1
          obtain ⟨z', f, e3, ef, kf⟩ := kc.kid hC hm
          rw [hz] at e3
          cases e3
          obtain ⟨fa, fs, rfl, hF, flen⟩ := kf.lst
          have ff := fc.2 f (List.mem_of_getElem? ef)
          exact ⟨fa, fs, rfl, hF, fun q => ff.1 (List.length_eq_zero_iff.mp (by rw [← flen, q]; rfl))⟩
        refine ⟨le_ble rfl, fun e3 he3 => ?_⟩
        have s3 := s2.trans (Same.new (o := HO.lst []) he3)
        have ke3 := upd_same (H := G2) (a := e3) (o := HO.lst [])
        generalize upd G2 e3 (.lst []) = G3 at s3 ke3 ⊢
        refine ⟨_, rfl, ca, cs, 1, rfl, SqL.of (s3 _ _ hC), by decide, fun z hz => ?_, ⟨_, rfl, iteF ?_⟩⟩
        · obtain ⟨m, hm⟩ := List.getElem?_of_mem hz
          obtain ⟨fa, fs, rfl, hF, hne⟩ := fk m z hm
          exact .inr (.listN (SqL.of (s3 _ _ hF)) (SqL.of ke3) (fun q => hne (List.length_eq_zero_iff.mp q)))
        refine ⟨_, rfl, ca, rfl, ⟨_, SqL.of (s3 _ _ hC)⟩, ?_⟩
        refine for_list (xs := cs) (fun m σ G => Same H G ∧ ∃ z3, σ = [some (.ref a), some (.ref ga), some (.ref ca), z3]) ⟨s3, _, rfl⟩ ?_ ?_ ?_
        · rintro m σ G _ ⟨sG, _⟩
          exact SqL.of (sG _ _ hC)
        · rintro m z σ G hz ⟨sG, z3, rfl⟩
          obtain ⟨fa, fs, rfl, hF, _⟩ := fk m z hz
          exact ⟨_, rfl, rIsiA.ty (.lst (sG _ _ hF)) rfl ⟨_, rfl, iteF ⟨sG, _, rfl⟩⟩⟩
        · rintro σ G ⟨sG, z3, rfl⟩
          exact ⟨sG, _, _, rfl⟩
      · rintro σ G ⟨sG, z2, z3, rfl⟩
        exact ⟨sG, _, _, _, rfl⟩
    · rintro σ G ⟨sG, z1, z2, z3, rfl⟩
      exact k G sG

set_option maxHeartbeats 4000000 in
theorem ok_Lright (T : Txt w K mg c) : FnOk P w K mg base CX0 11 c.a_Lright c.d_Lright ["_law_sorting_here", "_law_sheet_here"] (spRightT) := by
  refine T.Lright.fn.ok sc_Lright (fun vs H Q E h => ?_) (fun cdv A outer s H vs Q E hr h => ?_)
  · obtain ⟨v, s', S, rfl, _⟩ := h
    rfl
  · obtain ⟨v, s', S, rfl, hat, wf, hz, hs, k⟩ := h
    refine ⟨_, (pss_cons (ps_set (i := 2) sc_Lright.nd rfl (Or.inl rfl) (pe_call (ok_Lcopy T) (hr.mono (by decide)) rfl T.Lcopy.mgf T.Lcopy.kp T.Lcopy.bi .nil pass0 (pa_cons (pv 0) pa_nil)))
      (pss_cons (ps_set (i := 3) sc_Lright.nd rfl (Or.inl rfl) (pe_callS (ok_taken T) (hr.mono (by decide)) rfl T.taken.mgf T.taken.kp T.taken.bi .nil passE0 (pa_cons (pv 2) (pa_cons (pv 1) pa_nil))))
      (pss_cons (ps_set (i := 4) sc_Lright.nd rfl (Or.inl rfl) (pe_call (ok_Lmoved_up T) (hr.mono (by decide)) rfl T.Lmoved_up.mgf T.Lmoved_up.kp T.Lmoved_up.bi .nil pass0 (pa_cons (pe_comp (N' := ["_law_row", "_law_sheet_here"]) (js := [none, some 1]) rfl rfl (by decide +kernel) (by decide +kernel) (free_of ["_law_sheet_here"] (by decide +kernel) (fm_cons (.inl rfl) fm_nil)) (cap_of rfl (fm_cons (fun j e => nomatch e) (fm_cons (fun j e => by cases e; exact ⟨rfl, rfl, .inl rfl⟩) fm_nil))) (pi_list (pe_call (ok_Lplaces T) (hr.mono (by decide)) rfl T.Lplaces.mgf T.Lplaces.kp T.Lplaces.bi .nil pass0 (pa_cons (pv 0) pa_nil))) (fun B => ⟨(pg_name (i := 0) (show List.Nodup (["_law_row", "_law_sheet_here"] : List Str) by decide +kernel) rfl (Or.inl rfl)), (pifs_one (pt_cmpR op_ne (pe_ix ix_list (pv 0) pe_int (fun _ _ => rfl)) (pv 1) (nomark _))), (pv 0)⟩)) pa_nil)))
      (pss_cut (ps_if (PW.pt (pw_or (pt_not (pt_val (pe_call (ok_Lwhole_lists T) (hr.mono (by decide)) rfl T.Lwhole_lists.mgf T.Lwhole_lists.kp T.Lwhole_lists.bi .nil pass0 (pa_cons (pv 3) pa_nil)))) (pw_or (pt_not (pt_val (pe_call (ok_Lsame T 2) (hr.mono (by decide)) rfl T.Lsame.mgf T.Lsame.kp T.Lsame.bi .nil pass0 (pa_cons (pe_call (ok_Lplaces T) (hr.mono (by decide)) rfl T.Lplaces.mgf T.Lplaces.kp T.Lplaces.bi .nil pass0 (pa_cons (pv 3) pa_nil)) (pa_cons (pv 4) pa_nil))))) (pw_or1 (pt_not (pt_val (pe_call (ok_Lsame T 4) (hr.mono (by decide)) rfl T.Lsame.mgf T.Lsame.kp T.Lsame.bi .nil pass0 (pa_cons (pv 2) (pa_cons (pv 0) pa_nil)))))))))
        (pss_one (ps_ret pe_bl))
        pss_nil)
      (pss_cons (ps_set (i := 5) sc_Lright.nd rfl (Or.inl rfl) (pe_call (ok_Lcopy T) (hr.mono (by decide)) rfl T.Lcopy.mgf T.Lcopy.kp T.Lcopy.bi .nil pass0 (pa_cons (pv 3) pa_nil)))
      (pss_cons (ps_for PassesOwn.never rfl (pi_list (pv 2)) (pg_name (i := 6) sc_Lright.nd rfl (Or.inl rfl))
        (pss_one (ps_for PassesOwn.never rfl (pi_list (pv 6)) (pg_name (i := 7) sc_Lright.nd rfl (Or.inl rfl))
        (pss_one (ps_for PassesOwn.never rfl (pi_list (pv 7)) (pg_name (i := 8) sc_Lright.nd rfl (Or.inl rfl))
        (pss_one (ps_expr (pe_bm PySem.F.plainAttrs_list PySem.F.slot_list_append PySem.F.type_list_append (MtM.r mt_append) (pv 8) (pa_cons pe_int pa_nil)))))))))
      (pss_cons (ps_expr (pe_bm PySem.F.plainAttrs_list PySem.F.slot_list_append PySem.F.type_list_append (MtM.r mt_append) (pv 2) (pa_cons (pe_lst (pa_cons (pe_lst (pa_cons (pe_lst (pa_cons pe_int pa_nil)) pa_nil)) pa_nil)) pa_nil)))
      (pss_one (ps_ret (pe_call (ok_Lsame T 4) (hr.mono (by decide)) rfl T.Lsame.mgf T.Lsame.kp T.Lsame.bi .nil pass0 (pa_cons (pv 3) (pa_cons (pv 5) pa_nil)))))))))))), ?_⟩
    have sz : 2000 < sizeLine := le_ble rfl
    have smS := small_S wf.fu (by omega : (flat 4 S).length ≤ 1000)
    have ww := wf.wo s'
    have wl := wo_len S s'
    refine ⟨_, rfl, v, S, rfl, hat, by omega, wf.fu, fun h G1 s1 n1 => ?_⟩
    refine ⟨_, rfl, _, rfl, h, s', S, rfl, n1.r, wf, hz, hs, fun f G2 s2 n2 => ?_⟩
    have s12 := s1.trans s2
    refine ⟨_, rfl, v, S, rfl, hat.same s12, wf.fu, hz, fun pl G3 s3 n3 => ?_⟩
    obtain ⟨pa, ps, rfl, hP, plen⟩ := n3.r.lst
    have plen : ps.length = (places S).length := by rw [plen]; exact List.length_map ..
    have pl64 : (places S).length < 64 := by rw [show (places S).length = (flat 4 S).length from pl4_len (ls S) 0]; exact hz
    refine ⟨pa, rfl, ⟨_, SqL.of hP⟩, fun r B hr => ?_⟩
    refine loop_lst (xs := ps) (fun i σ acc G => (∃ o, σ = [o, some (.int s')]) ∧ Same G3 G ∧ G r = some (.lst acc) ∧ acc.length ≤ i ∧ AtL G3 1 acc ((((places S).take i).filter (fun r => !decide (r.1 = s'))).map rl)) (by omega) ?_ ?_ ?_ ?_
    · exact ⟨⟨_, rfl⟩, Same.new hr, upd_same, Nat.le_refl _, AtL.nil⟩
    · rintro i σ acc G hi ⟨_, sG, h1, h2, _⟩
      exact ⟨h1, SqL.of (sG _ _ hP), h2⟩
    · rintro i x σ acc G hx ⟨⟨o, rfl⟩, sG, h1, h2, h3⟩
      have hi : i < ps.length := (List.getElem?_eq_some_iff.mp hx).1
      obtain ⟨x', t, e1, e2, hk⟩ := n3.r.kid hP hi
      rw [hx] at e1
      cases e1
      have hr' : (places S)[i]? = some (places S)[i] := List.getElem?_eq_getElem (by omega)
      have e2 : ((places S).map rl)[i]? = some t := e2
      rw [List.getElem?_map, hr'] at e2
      have e2 : rl (places S)[i] = t := Option.some.inj e2
      subst e2
      rw [take_one hr', List.filter_append, List.map_append]
      generalize (places S)[i] = row at hk hr'
      obtain ⟨ra, _, rfl, _, _⟩ := hk.lst
      have hra := AtR.ints (ns := rlI row) hk
      refine ⟨_, rfl, ra, _, _, _, rfl, rfl, SqL.of (sG _ _ hra), atI_nat (j := 0) rfl, _, rfl, rfl, _, rfl, ?_⟩
      refine ite2 (fun z => ?_) (fun z => ?_)
      · have z : row.1 ≠ s' := fun q => by rw [q, decide_eq_true rfl] at z; exact absurd z (by decide)
        refine ⟨_, rfl, h1, Nx.mk hi ⟨⟨_, rfl⟩, fun b u hb => ?_, upd_same, by rw [List.length_append]; show acc.length + 1 ≤ i + 1; omega, ?_⟩⟩
        · rw [upd_ne (ne_of_none hb hr)]
          exact sG _ _ hb
        · rw [List.filter_cons_of_pos (by simp [z]), List.filter_nil]
          exact h3.snoc hk
      · have z : row.1 = s' := V.int.inj (Decidable.of_not_not (p := V.int row.1 = V.int s') (fun q => z (by rw [decide_eq_false q]; rfl)))
        refine Nx.mk hi ⟨⟨_, rfl⟩, sG, h1, by omega, ?_⟩
        rw [List.filter_cons_of_neg (by simp [z]), List.filter_nil, List.map_nil, List.append_nil]
        exact h3
    rintro σ acc G4 ⟨_, s4, h1, h2, h3⟩
    rw [plen, List.take_of_length_le (Nat.le_refl _)] at h3
    have atF := h3.at s4 h1
    refine ⟨r, _, rfl, atF, Nat.lt_of_le_of_lt (List.length_filter_le _ _) pl64, fun due G5 s5 n5 => ?_⟩
    rw [moved_up] at n5
    have s15 := s2.trans (s3.trans (s4.trans s5))
    have s25 := s3.trans (s4.trans s5)
    clear h1 h2 h3 atF hr
    refine ⟨fun σ G => Same G5 G ∧ σ = [some v, some (.int s'), some h, some f, some due, none, none, none, none], ?_, ?_⟩
    · refine ⟨_, rfl, f, _, rfl, n2.r.same s25, ww.fu, by omega, fun G6 s6 => ⟨_, rfl, iteF ?_⟩⟩
      refine ⟨_, rfl, f, _, rfl, n2.r.same (s25.trans s6), ww.fu, by omega, fun w G7 s7 n7 => ?_⟩
      have pw : (places (wo 3 s' S)).length ≤ 1000 := by rw [show (places (wo 3 s' S)).length = (flat 4 (wo 3 s' S)).length from pl4_len (ls (wo 3 s' S)) 0]; omega
      refine ⟨_, rfl, w, due, _, rfl, n7.r, n5.r.same (s6.trans s7), small_rl _ pw, ⟨_, rfl, iteF ?_⟩⟩
      have s57 := s6.trans s7
      exact ⟨_, rfl, _, rfl, h, v, S, rfl, n1.r.same (s15.trans s57), hat.same (s1.trans (s15.trans s57)), smS, ⟨_, rfl, iteF ⟨s57, rfl⟩⟩⟩
    rintro σ G6 ⟨s6, rfl⟩
    have s26 := s25.trans s6
    refine ⟨_, rfl, f, _, rfl, n2.r.same s26, by omega, ww.fu, fun kp G7 s7 n7 => ?_⟩
    have s17 := s15.trans (s6.trans s7)
    have n2 := n2.same (s26.trans s7)
    have n7 := n7.older (s15.trans s6)
    clear s12 s3 s4 s5 s6 s26 s25 n3 n5 hP plen
    obtain ⟨o, at1, dm⟩ := n1
    have at7 : At o G7 4 [] h S := at1.frame fun a r xs ho _ hx => ⟨s17 _ _ hx, ho⟩
    obtain ⟨ha, vs, rfl, oh, hA, hlen⟩ := at7.lst
    have lz : vs.length ≤ 1000 := by rw [hlen]; exact smS.1
    have j0 : Jv o G7 0 0 0 G7 := ⟨fun b u _ h => h, fun b p u _ _ h => h⟩
    refine ⟨_, rfl, ha, rfl, ⟨_, SqL.of hA⟩, ?_⟩
    refine for_list (xs := vs) (fun i σ G => Jv o G7 i 0 0 G ∧ ∃ z6 z7 z8, σ = [some v, some (.int s'), some (.ref ha), some f, some due, some kp, z6, z7, z8]) ⟨j0, _, _, _, rfl⟩ ?_ ?_ ?_
    · rintro i σ G _ ⟨jv, _⟩
      exact SqL.of (jv.own ha [] _ oh (fun z => z) hA)
    · rintro i x σ G hx ⟨jv, z6, z7, z8, rfl⟩
      have hi : i < vs.length := (List.getElem?_eq_some_iff.mp hx).1
      obtain ⟨x', g, e1, eg, kg⟩ := at7.kid hA hi
      rw [hx] at e1
      cases e1
      obtain ⟨ga, gs, rfl, og, hG, glen⟩ := kg.lst
      refine ⟨_, rfl, ga, rfl, ⟨_, SqL.of (jv.own ga [i] _ og (fun z => z) hG)⟩, ?_⟩
      refine for_list (xs := gs) (fun j σ G => Jv o G7 i j 0 G ∧ ∃ z7 z8, σ = [some v, some (.int s'), some (.ref ha), some f, some due, some kp, some (.ref ga), z7, z8]) ⟨jv, _, _, rfl⟩ ?_ ?_ ?_
      · rintro j σ G _ ⟨jv, _⟩
        exact SqL.of (jv.own ga [i] _ og (fun z => z) hG)
      · rintro j y σ G hy ⟨jv, z7, z8, rfl⟩
        have hj : j < gs.length := (List.getElem?_eq_some_iff.mp hy).1
        obtain ⟨y', c', e2, ec, kc⟩ := kg.kid hG hj
        rw [hy] at e2
        cases e2
        obtain ⟨ca, cs, rfl, oc, hC, clen⟩ := kc.lst
        refine ⟨_, rfl, ca, rfl, ⟨_, SqL.of (jv.own ca [j, i] _ oc (fun z => z) hC)⟩, ?_⟩
        refine for_list (xs := cs) (fun m σ G => Jv o G7 i j m G ∧ ∃ z8, σ = [some v, some (.int s'), some (.ref ha), some f, some due, some kp, some (.ref ga), some (.ref ca), z8]) ⟨jv, _, rfl⟩ ?_ ?_ ?_
        · rintro m σ G _ ⟨jv, _⟩
          exact SqL.of (jv.own ca [j, i] _ oc (fun z => z) hC)
        · rintro m z σ G hz' ⟨jv, z8, rfl⟩
          have hm : m < cs.length := (List.getElem?_eq_some_iff.mp hz').1
          obtain ⟨z', f', e3, ef, kf⟩ := kc.kid hC hm
          rw [hz'] at e3
          cases e3
          obtain ⟨fa, fs, rfl, of, hF, flen⟩ := kf.lst
          have fz : fs.length ≤ 1000 := by rw [flen]; exact (((smS.2 g (List.mem_of_getElem? eg)).2 c' (List.mem_of_getElem? ec)).2 f' (List.mem_of_getElem? ef)).1
          have hF' := jv.own fa [m, j, i] _ of (by rw [vis3]; omega) hF
          exact ⟨_, rfl, .inl ⟨rfl, _, SqL.of hF'⟩, fa, _, _, rfl, rfl, hF', by omega, jv.step of, _, rfl⟩
        · rintro σ G ⟨jv, z8, rfl⟩
          exact ⟨jv.mono fun c b a => by rw [vis3, vis3]; omega, _, _, rfl⟩
      · rintro σ G ⟨jv, z7, z8, rfl⟩
        exact ⟨jv.mono fun c b a => by rw [vis3, vis3]; omega, _, _, _, rfl⟩
    rintro σ G8 ⟨jv, z6, z7, z8, rfl⟩
    have hA8 := jv.own ha [] _ oh (fun z => z) hA
    refine ⟨_, rfl, .inl ⟨rfl, _, SqL.of hA8⟩, le_ble rfl, fun q1 hq1 => ⟨le_ble rfl, fun q2 hq2 => ⟨le_ble rfl, fun q3 hq3 => ?_⟩⟩⟩
    have s8 := ((Same.new (o := HO.lst [.int 2]) hq1).trans (Same.new (o := HO.lst [.ref q1]) hq2)).trans (Same.new (o := HO.lst [.ref q2]) hq3)
    refine ⟨ha, _, _, rfl, rfl, s8 _ _ hA8, by omega, ?_⟩
    generalize upd (upd (upd G8 q1 (.lst [.int 2])) q2 (.lst [.ref q1])) q3 (.lst [.ref q2]) = G9 at s8 ⊢
    have keep : ∀ b xs, G1 b = none → G7 b = some (.lst xs) → upd G9 ha (.lst (vs ++ [.ref q3])) b = some (.lst xs) := fun b xs hb hx => by
      have ob : o b = none := by
        cases e : o b with
        | none => rfl
        | some r => exact absurd hb (dm b r e).2
      rw [upd_ne (fun z => by rw [z, oh] at ob; cases ob)]
      exact s8 _ _ (jv.out b _ ob hx)
    have rF : AtR (upd G9 ha (.lst (vs ++ [.ref q3]))) 4 f (wo 3 s' S) := by
      obtain ⟨oF, kF, dF⟩ := n2
      exact At.r (kF.frame (o' := oF) fun b r xs ho _ hx => ⟨keep b xs (dF b r ho).1 hx, ho⟩)
    have rK : AtR (upd G9 ha (.lst (vs ++ [.ref q3]))) 4 kp (wo 3 s' S) := by
      obtain ⟨oF, kF, dF⟩ := n7
      exact At.r (kF.frame (o' := oF) fun b r xs ho _ hx => ⟨keep b xs (dF b r ho).1 hx, ho⟩)
    refine ⟨_, rfl, _, rfl, f, kp, _, rfl, rF, rK, small_S ww.fu (by omega), k _ fun b u hb => ?_⟩
    have nb : b ≠ ha := fun z => by
      have := (dm ha [] oh).1
      rw [z, this] at hb
      cases hb
    have ob : o b = none := by
      cases e : o b with
      | none => rfl
      | some r => rw [(dm b r e).1] at hb; cases hb
    rw [upd_ne nb]
    exact s8 _ _ (jv.out b _ ob (s17 _ _ (s1 _ _ hb)))

set_option maxHeartbeats 4000000 in
theorem ok_law (T : Txt w K mg c) : FnOk P w K mg base CX0 12 c.a_law c.d_law ["_law_script"] (spLaw K) := by
  refine T.law.fn.ok sc_law (fun vs H Q E h => ?_) (fun cdv A outer s H vs Q E hr h => ?_)
  · obtain ⟨a, ns, rfl, _⟩ := h
    rfl
  · obtain ⟨a, ns, rfl, hS, hn, k⟩ := h
    refine ⟨_, (pss_cons (ps_set (i := 1) sc_law.nd rfl (Or.inl rfl) (pe_call (ok_Lsorting T) (hr.mono (by decide)) rfl T.Lsorting.mgf T.Lsorting.kp T.Lsorting.bi .nil pass0 (pa_cons (pv 0) (pa_cons pe_int (pa_cons pe_int pa_nil)))))
      (pss_cons (ps_set (i := 2) sc_law.nd rfl (Or.inl rfl) (pe_call (ok_Lplaces T) (hr.mono (by decide)) rfl T.Lplaces.mgf T.Lplaces.kp T.Lplaces.bi .nil pass0 (pa_cons (pv 1) pa_nil)))
      (pss_cons (ps_for PassesOwn.never rfl (pi_list (pv 2)) (pg_name (i := 3) sc_law.nd rfl (Or.inl rfl))
        (pss_one (ps_if (pt_not (pt_val (pe_call (ok_Lright T) (hr.mono (by decide)) rfl T.Lright.mgf T.Lright.kp T.Lright.bi .nil pass0 (pa_cons (pv 1) (pa_cons (pe_ix ix_list (pv 3) pe_int (fun _ _ => rfl)) pa_nil)))))
        (pss_one (ps_ret pe_bl))
        pss_nil)))
      (pss_cons (ps_set (i := 4) sc_law.nd rfl (Or.inl rfl) (pe_call (ok_Lcopy T) (hr.mono (by decide)) rfl T.Lcopy.mgf T.Lcopy.kp T.Lcopy.bi .nil pass0 (pa_cons (pv 1) pa_nil)))
      (pss_cons (ps_for PassesOwn.never rfl (pi_range1 rfl T.no_range (pa_cons (pe_callB call_len_seq rfl T.no_len bt_len (pa_cons (pv 2) pa_nil)) pa_nil)) (pg_name (i := 5) sc_law.nd rfl (Or.inl rfl))
        (pss_cons (ps_set (i := 6) sc_law.nd rfl (Or.inl rfl) (pe_call (ok_Lplaces T) (hr.mono (by decide)) rfl T.Lplaces.mgf T.Lplaces.kp T.Lplaces.bi .nil pass0 (pa_cons (pv 4) pa_nil)))
      (pss_cons (ps_set (i := 7) sc_law.nd rfl (Or.inl rfl) (pe_call (ok_Ldrawn T) (hr.mono (by decide)) rfl T.Ldrawn.mgf T.Ldrawn.kp T.Ldrawn.bi .nil pass0 (pa_cons (pv 0) (pa_cons (pv 5) pa_nil))))
      (pss_one (ps_set (i := 4) sc_law.nd rfl (Or.inl rfl) (pe_callS (ok_taken T) (hr.mono (by decide)) rfl T.taken.mgf T.taken.kp T.taken.bi .nil passE0 (pa_cons (pv 4) (pa_cons (pe_ix ix_list (pe_ix ix_list (pv 6) (pe_op op_mod (pe_op op_add (pv 7) (pe_op op_fdivB (pv 7) (pe_op op_pow pe_int pe_int))) (pe_callB call_len_seq rfl T.no_len bt_len (pa_cons (pv 6) pa_nil))) (fun _ _ => rfl)) pe_int (fun _ _ => rfl)) pa_nil))))))))
      (pss_one (ps_ret (pe_and (pe_cmpR (op_eqD (hu62 hr)) (pv 4) (pe_lst pa_nil) (nomark _)) (pe_one (pe_callB call_isiA rfl T.no_isinstance bt_isinstance (pa_cons (pv 4) (pa_cons (pe_bltn (v := .ty "list") rfl T.no_list bt_list rfl) pa_nil)))))))))))), ?_⟩
    have sz : 2000 < sizeLine := le_ble rfl
    refine ⟨_, rfl, a, ns, 40, rfl, by decide, by decide, hS, hn, fun v G0 S s0 n0 wf hl hl2 => ?_⟩
    have hat := n0.r
    have hz : (flat 4 S).length < 64 := by omega
    refine ⟨_, rfl, v, S, rfl, hat, wf.fu, hz, fun pl G1 s1 n1 => ?_⟩
    obtain ⟨pa, ps, rfl, hP, plen⟩ := n1.r.lst
    have plen : ps.length = (flat 4 S).length := by rw [plen, ← pl4_len (ls S) 0]; exact List.length_map ..
    have first : ∀ (T : Tr 4) (qs : List V) (q : Nat) (x : V) (G : Hp) (qa : Addr), AtR G 2 (.ref qa) ((places T).map rl : List (Tr 1)) → G qa = some (.lst qs) → qs[q]? = some x → ∃ ra row, row ∈ places T ∧ x = .ref ra ∧ G ra = some (.lst ((rlI row).map V.int)) := fun T qs q x G qa hat hP hx => by
      have hq : q < qs.length := (List.getElem?_eq_some_iff.mp hx).1
      obtain ⟨x', t, e1, e2, hk⟩ := hat.kid hP hq
      rw [hx] at e1
      cases e1
      have e2 : ((places T).map rl)[q]? = some t := e2
      obtain ⟨row, hrow, rfl⟩ := List.mem_map.mp (List.mem_of_getElem? e2)
      obtain ⟨ra, _, rfl, _, _⟩ := hk.lst
      exact ⟨ra, row, hrow, rfl, AtR.ints (ns := rlI row) hk⟩
    have inF : ∀ (T : Tr 4) (row : Q4), row ∈ places T → row.1 ∈ flat 4 T := fun T row h => by
      have e : (places T).map (·.1) = flat 4 T := pl4_fst (ls T) 0
      rw [← e]
      exact List.mem_map_of_mem h
    refine ⟨_, rfl, pa, rfl, ⟨_, SqL.of hP⟩, ?_⟩
    refine for_list (xs := ps) (fun i σ G => Same G1 G ∧ ∃ z3, σ = [some (.ref a), some v, some (.ref pa), z3, none, none, none, none]) ⟨Same.refl G1, _, rfl⟩ ?_ ?_ ?_
    · rintro i σ G _ ⟨sG, _⟩
      exact SqL.of (sG _ _ hP)
    · rintro i x σ G hx ⟨sG, z3, rfl⟩
      obtain ⟨ra, row, hrow, rfl, hra⟩ := first S ps i x G1 pa n1.r hP hx
      refine ⟨_, rfl, _, rfl, ra, _, _, _, rfl, rfl, SqL.of (sG _ _ hra), atI_nat (j := 0) rfl, ?_⟩
      exact ⟨v, row.1, S, rfl, hat.same (s1.trans sG), wf, hz, inF S row hrow, fun G2 s2 => ⟨_, rfl, iteF ⟨sG.trans s2, _, rfl⟩⟩⟩
    rintro σ G2 ⟨s2, z3, rfl⟩
    refine ⟨_, rfl, v, S, rfl, hat.same (s1.trans s2), by omega, wf.fu, fun lf G3 s3 n3 => ?_⟩
    have s13 := s2.trans s3
    have s03 := s0.trans (s1.trans s13)
    refine ⟨_, rfl, pa, _, rfl, .inl (SqL.of (s13 _ _ hP)), _, rfl, by omega, by omega, ?_⟩
    refine for_range (lo := 0) (fun i σ G => Same G3 G ∧ ∃ lf z5 z6 z7, σ = [some (.ref a), some v, some (.ref pa), z3, some lf, z5, z6, z7] ∧ ∃ U : Tr 4, AtR G 4 lf U ∧ WF U ∧ (flat 4 U).length + i = (flat 4 S).length) ?_ ?_ ?_
    · exact ⟨Same.refl G3, lf, _, _, _, rfl, S, n3.r, wf, rfl⟩
    · rintro i σ G hi ⟨sG, lf, z5, z6, z7, rfl, U, hU, wU, lU⟩
      have hi' : i < ps.length := by omega
      refine ⟨_, rfl, lf, U, rfl, hU, wU.fu, by omega, fun pl G4 s4 n4 => ?_⟩
      obtain ⟨qa, qs, rfl, hQ, qlen⟩ := n4.r.lst
      have qlen : qs.length = (flat 4 U).length := by rw [qlen, ← pl4_len (ls U) 0]; exact List.length_map ..
      refine ⟨_, rfl, _, rfl, a, 0 + (i : Int), ns, rfl, by omega, by omega, hn, (s03.trans (sG.trans s4)).seq hS, fun d d0 => ?_⟩
      refine ⟨_, rfl, _, rfl, _, rfl, ?_⟩
      walk_at "rd"
      refine ⟨qa, _, rfl, .inl (SqL.of hQ), _, _, rfl, rfl, by omega, ?_⟩
      obtain ⟨j, x, hj, hx, hax, _⟩ := atI_ix (xs := qs) (i := (d + d / (10 : Int) ^ Int.toNat 20) % (qs.length : Int)) (Int.emod_nonneg _ (by omega)) (Int.emod_lt_of_pos _ (by omega))
      obtain ⟨ra, row, hrow, rfl, hra⟩ := first U qs j x G4 qa n4.r hQ hx
      refine ⟨qa, _, _, _, rfl, rfl, SqL.of hQ, hax, ra, _, _, _, rfl, rfl, SqL.of hra, atI_nat (j := 0) rfl, ?_⟩
      have inU := inF U row hrow
      have l1 := wo_len1 wU inU
      refine ⟨lf, row.1, U, rfl, hU.same s4, wU, by omega, inU, fun lf2 G5 s5 n5 => ?_⟩
      exact ⟨sG.trans (s4.trans s5), lf2, _, _, _, rfl, _, n5.r, wU.wo _, by omega⟩
    · rintro σ G ⟨sG, lf, z5, z6, z7, rfl, U, hU, wU, lU⟩
      have e0 : (flat 4 U).length = 0 := by omega
      obtain ⟨la, lvs, rfl, hL, llen⟩ := hU.lst
      have lz : lvs = [] := by
        have h1 := flat_full (fun g hg' => wU.fu g hg') (ts := ls U)
        have e : (flat 4 U).length = (flat (3 + 1) (ls U : List (Tr 3))).length := rfl
        exact List.length_eq_zero_iff.mp (by omega)
      subst lz
      refine ⟨_, rfl, le_ble rfl, fun e1 he1 => ?_⟩
      have s5 := Same.new (o := HO.lst []) he1
      refine ⟨0, _, by decide, seqNil (SqL.of (s5 _ _ hL)) (SqL.of upd_same), ?_⟩
      exact ⟨true, rfl, iteT ⟨_, rfl, rIsiA.ty (.lst (s5 _ _ hL)) rfl (k _)⟩⟩

end
theorem all_mk {l : PySem.W.OpenLaw} {w : World} {K : PySem.W.Frag} {h : Heap} {mg : Str → Option Value} {fa : Addr} (X : K.In h) (G : h.Ns mainGlobals mg) (hfa : mg "law" = some (.ref fa))
    {f0 : Addr} {od0 an0 : Option Addr} {sl0 : Array (Option Value)} {oc0 kV0 dc0 pm0 cd0 ct0 : Value}
    {f1 : Addr} {od1 an1 : Option Addr} {sl1 : Array (Option Value)} {oc1 kV1 dc1 pm1 cd1 ct1 : Value}
    {f2 : Addr} {od2 an2 : Option Addr} {sl2 : Array (Option Value)} {oc2 kV2 dc2 pm2 cd2 ct2 : Value}
    {f3 : Addr} {od3 an3 : Option Addr} {sl3 : Array (Option Value)} {oc3 kV3 dc3 pm3 cd3 ct3 : Value}
    {f4 : Addr} {od4 an4 : Option Addr} {sl4 : Array (Option Value)} {oc4 kV4 dc4 pm4 cd4 ct4 : Value}
    {f5 : Addr} {od5 an5 : Option Addr} {sl5 : Array (Option Value)} {oc5 kV5 dc5 pm5 cd5 ct5 : Value}
    {f6 : Addr} {od6 an6 : Option Addr} {sl6 : Array (Option Value)} {oc6 kV6 dc6 pm6 cd6 ct6 : Value}
    {f7 : Addr} {od7 an7 : Option Addr} {sl7 : Array (Option Value)} {oc7 kV7 dc7 pm7 cd7 ct7 : Value}
    {f8 : Addr} {od8 an8 : Option Addr} {sl8 : Array (Option Value)} {oc8 kV8 dc8 pm8 cd8 ct8 : Value}
    {f9 : Addr} {od9 an9 : Option Addr} {sl9 : Array (Option Value)} {oc9 kV9 dc9 pm9 cd9 ct9 : Value}
    {f10 : Addr} {od10 an10 : Option Addr} {sl10 : Array (Option Value)} {oc10 kV10 dc10 pm10 cd10 ct10 : Value}
    {f11 : Addr} {od11 an11 : Option Addr} {sl11 : Array (Option Value)} {oc11 kV11 dc11 pm11 cd11 ct11 : Value}
    {f12 : Addr} {od12 an12 : Option Addr} {sl12 : Array (Option Value)} {oc12 kV12 dc12 pm12 cd12 ct12 : Value}
    {f13 : Addr} {od13 an13 : Option Addr} {sl13 : Array (Option Value)} {oc13 kV13 dc13 pm13 cd13 ct13 : Value}
    {f14 : Addr} {od14 an14 : Option Addr} {sl14 : Array (Option Value)} {oc14 kV14 dc14 pm14 cd14 ct14 : Value}
    {f15 : Addr} {od15 an15 : Option Addr} {sl15 : Array (Option Value)} {oc15 kV15 dc15 pm15 cd15 ct15 : Value}
    {f16 : Addr} {od16 an16 : Option Addr} {sl16 : Array (Option Value)} {oc16 kV16 dc16 pm16 cd16 ct16 : Value}
    {f17 : Addr} {od17 an17 : Option Addr} {sl17 : Array (Option Value)} {oc17 kV17 dc17 pm17 cd17 ct17 : Value}
    {f18 : Addr} {od18 an18 : Option Addr} {sl18 : Array (Option Value)} {oc18 kV18 dc18 pm18 cd18 ct18 : Value}
    {f19 : Addr} {od19 an19 : Option Addr} {sl19 : Array (Option Value)} {oc19 kV19 dc19 pm19 cd19 ct19 : Value}
    {f20 : Addr} {od20 an20 : Option Addr} {sl20 : Array (Option Value)} {oc20 kV20 dc20 pm20 cd20 ct20 : Value}
    {f21 : Addr} {od21 an21 : Option Addr} {sl21 : Array (Option Value)} {oc21 kV21 dc21 pm21 cd21 ct21 : Value}
    {f22 : Addr} {od22 an22 : Option Addr} {sl22 : Array (Option Value)} {oc22 kV22 dc22 pm22 cd22 ct22 : Value}
    {u_LAST_NUMBER : Value}
    {u_FORM_DEPTH : Value}
    {c_NoSorting : Addr}
    {c_NoSheet : Addr}
    {N_NoSorting A_NoSorting : Addr} {nm_NoSorting q_NoSorting : Str} {bs_NoSorting : List Value} {hd_NoSorting : Bool} {sn_NoSorting : List Str} {sub_NoSorting : List Value} {ab_NoSorting : Bool} {col_NoSorting : Option Bool} {dd_NoSorting : Option Addr} {k0_NoSorting k1_NoSorting k2_NoSorting k3_NoSorting k5_NoSorting : Option Value}
    {es_NoSorting : Array DictEntry} {x1_NoSorting : Value} {x2_NoSorting : Option Addr} {x3_NoSorting : Nat} {x4_NoSorting : Array (Option Value)} {y0_NoSorting : Value} {y1_NoSorting : Option Addr} {y2_NoSorting : ClassData} {y3_NoSorting : Array (Option Value)} {et_NoSorting : Array DictEntry} {z1_NoSorting : Value} {z2_NoSorting : Option Addr} {z3_NoSorting : Nat} {z4_NoSorting : Array (Option Value)}
    {N_NoSheet A_NoSheet : Addr} {nm_NoSheet q_NoSheet : Str} {bs_NoSheet : List Value} {hd_NoSheet : Bool} {sn_NoSheet : List Str} {sub_NoSheet : List Value} {ab_NoSheet : Bool} {col_NoSheet : Option Bool} {dd_NoSheet : Option Addr} {k0_NoSheet k1_NoSheet k2_NoSheet k3_NoSheet k5_NoSheet : Option Value}
    {es_NoSheet : Array DictEntry} {x1_NoSheet : Value} {x2_NoSheet : Option Addr} {x3_NoSheet : Nat} {x4_NoSheet : Array (Option Value)} {y0_NoSheet : Value} {y1_NoSheet : Option Addr} {y2_NoSheet : ClassData} {y3_NoSheet : Array (Option Value)} {et_NoSheet : Array DictEntry} {z1_NoSheet : Value} {z2_NoSheet : Option Addr} {z3_NoSheet : Nat} {z4_NoSheet : Array (Option Value)}
    (a0 : PySem.W.nsIn K mainGlobals "is_whole" = some (some (.ref f0)))
    (l0 : K.lookup f0 = some ⟨oc0, od0, .func (PySem.W.fnOf "is_whole" "is_whole" (defArgs s_is_whole) (defBody s_is_whole) (defScope s_is_whole) .none kV0 dc0 pm0 an0 cd0 ct0), sl0⟩)
    (c0 : PySem.W.codeIn K cd0 "is_whole" = true)
    (k0 : PySem.W.keepIn K (.ref f0) = true)
    (a1 : PySem.W.nsIn K mainGlobals "is_number" = some (some (.ref f1)))
    (l1 : K.lookup f1 = some ⟨oc1, od1, .func (PySem.W.fnOf "is_number" "is_number" (defArgs s_is_number) (defBody s_is_number) (defScope s_is_number) .none kV1 dc1 pm1 an1 cd1 ct1), sl1⟩)
    (c1 : PySem.W.codeIn K cd1 "is_number" = true)
    (k1 : PySem.W.keepIn K (.ref f1) = true)
    (a2 : PySem.W.nsIn K mainGlobals "sorting_list" = some (some (.ref f2)))
    (l2 : K.lookup f2 = some ⟨oc2, od2, .func (PySem.W.fnOf "sorting_list" "sorting_list" (defArgs s_sorting_list) (defBody s_sorting_list) (defScope s_sorting_list) .none kV2 dc2 pm2 an2 cd2 ct2), sl2⟩)
    (c2 : PySem.W.codeIn K cd2 "sorting_list" = true)
    (k2 : PySem.W.keepIn K (.ref f2) = true)
    (a3 : PySem.W.nsIn K mainGlobals "group_list" = some (some (.ref f3)))
    (l3 : K.lookup f3 = some ⟨oc3, od3, .func (PySem.W.fnOf "group_list" "group_list" (defArgs s_group_list) (defBody s_group_list) (defScope s_group_list) .none kV3 dc3 pm3 an3 cd3 ct3), sl3⟩)
    (c3 : PySem.W.codeIn K cd3 "group_list" = true)
    (k3 : PySem.W.keepIn K (.ref f3) = true)
    (a4 : PySem.W.nsIn K mainGlobals "sheet_list" = some (some (.ref f4)))
    (l4 : K.lookup f4 = some ⟨oc4, od4, .func (PySem.W.fnOf "sheet_list" "sheet_list" (defArgs s_sheet_list) (defBody s_sheet_list) (defScope s_sheet_list) .none kV4 dc4 pm4 an4 cd4 ct4), sl4⟩)
    (c4 : PySem.W.codeIn K cd4 "sheet_list" = true)
    (k4 : PySem.W.keepIn K (.ref f4) = true)
    (a5 : PySem.W.nsIn K mainGlobals "groups" = some (some (.ref f5)))
    (l5 : K.lookup f5 = some ⟨oc5, od5, .func (PySem.W.fnOf "groups" "groups" (defArgs s_groups) (defBody s_groups) (defScope s_groups) .none kV5 dc5 pm5 an5 cd5 ct5), sl5⟩)
    (c5 : PySem.W.codeIn K cd5 "groups" = true)
    (k5 : PySem.W.keepIn K (.ref f5) = true)
    (a6 : PySem.W.nsIn K mainGlobals "groups_in" = some (some (.ref f6)))
    (l6 : K.lookup f6 = some ⟨oc6, od6, .func (PySem.W.fnOf "groups_in" "groups_in" (defArgs s_groups_in) (defBody s_groups_in) (defScope s_groups_in) .none kV6 dc6 pm6 an6 cd6 ct6), sl6⟩)
    (c6 : PySem.W.codeIn K cd6 "groups_in" = true)
    (k6 : PySem.W.keepIn K (.ref f6) = true)
    (a7 : PySem.W.nsIn K mainGlobals "sheets_of" = some (some (.ref f7)))
    (l7 : K.lookup f7 = some ⟨oc7, od7, .func (PySem.W.fnOf "sheets_of" "sheets_of" (defArgs s_sheets_of) (defBody s_sheets_of) (defScope s_sheets_of) .none kV7 dc7 pm7 an7 cd7 ct7), sl7⟩)
    (c7 : PySem.W.codeIn K cd7 "sheets_of" = true)
    (k7 : PySem.W.keepIn K (.ref f7) = true)
    (a8 : PySem.W.nsIn K mainGlobals "refuse_sheet" = some (some (.ref f8)))
    (l8 : K.lookup f8 = some ⟨oc8, od8, .func (PySem.W.fnOf "refuse_sheet" "refuse_sheet" (defArgs s_refuse_sheet) (defBody s_refuse_sheet) (defScope s_refuse_sheet) .none kV8 dc8 pm8 an8 cd8 ct8), sl8⟩)
    (c8 : PySem.W.codeIn K cd8 "refuse_sheet" = true)
    (k8 : PySem.W.keepIn K (.ref f8) = true)
    (a9 : PySem.W.nsIn K mainGlobals "path_of" = some (some (.ref f9)))
    (l9 : K.lookup f9 = some ⟨oc9, od9, .func (PySem.W.fnOf "path_of" "path_of" (defArgs s_path_of) (defBody s_path_of) (defScope s_path_of) .none kV9 dc9 pm9 an9 cd9 ct9), sl9⟩)
    (c9 : PySem.W.codeIn K cd9 "path_of" = true)
    (k9 : PySem.W.keepIn K (.ref f9) = true)
    (a10 : PySem.W.nsIn K mainGlobals "without" = some (some (.ref f10)))
    (l10 : K.lookup f10 = some ⟨oc10, od10, .func (PySem.W.fnOf "without" "without" (defArgs s_without) (defBody s_without) (defScope s_without) .none kV10 dc10 pm10 an10 cd10 ct10), sl10⟩)
    (c10 : PySem.W.codeIn K cd10 "without" = true)
    (k10 : PySem.W.keepIn K (.ref f10) = true)
    (a11 : PySem.W.nsIn K mainGlobals "taken" = some (some (.ref f11)))
    (l11 : K.lookup f11 = some ⟨oc11, od11, .func (PySem.W.fnOf "taken" "taken" (defArgs s_taken) (defBody s_taken) (defScope s_taken) .none kV11 dc11 pm11 an11 cd11 ct11), sl11⟩)
    (c11 : PySem.W.codeIn K cd11 "taken" = true)
    (k11 : PySem.W.keepIn K (.ref f11) = true)
    (a12 : PySem.W.nsIn K mainGlobals "_law_drawn" = some (some (.ref f12)))
    (l12 : K.lookup f12 = some ⟨oc12, od12, .func (PySem.W.fnOf "_law_drawn" "_law_drawn" (defArgs s_Ldrawn) (defBody s_Ldrawn) (defScope s_Ldrawn) .none kV12 dc12 pm12 an12 cd12 ct12), sl12⟩)
    (c12 : PySem.W.codeIn K cd12 "_law_drawn" = true)
    (k12 : PySem.W.keepIn K (.ref f12) = true)
    (a13 : PySem.W.nsIn K mainGlobals "_law_sheet" = some (some (.ref f13)))
    (l13 : K.lookup f13 = some ⟨oc13, od13, .func (PySem.W.fnOf "_law_sheet" "_law_sheet" (defArgs s_Lsheet) (defBody s_Lsheet) (defScope s_Lsheet) .none kV13 dc13 pm13 an13 cd13 ct13), sl13⟩)
    (c13 : PySem.W.codeIn K cd13 "_law_sheet" = true)
    (k13 : PySem.W.keepIn K (.ref f13) = true)
    (a14 : PySem.W.nsIn K mainGlobals "_law_put" = some (some (.ref f14)))
    (l14 : K.lookup f14 = some ⟨oc14, od14, .func (PySem.W.fnOf "_law_put" "_law_put" (defArgs s_Lput) (defBody s_Lput) (defScope s_Lput) .none kV14 dc14 pm14 an14 cd14 ct14), sl14⟩)
    (c14 : PySem.W.codeIn K cd14 "_law_put" = true)
    (k14 : PySem.W.keepIn K (.ref f14) = true)
    (a15 : PySem.W.nsIn K mainGlobals "_law_sorting" = some (some (.ref f15)))
    (l15 : K.lookup f15 = some ⟨oc15, od15, .func (PySem.W.fnOf "_law_sorting" "_law_sorting" (defArgs s_Lsorting) (defBody s_Lsorting) (defScope s_Lsorting) .none kV15 dc15 pm15 an15 cd15 ct15), sl15⟩)
    (c15 : PySem.W.codeIn K cd15 "_law_sorting" = true)
    (k15 : PySem.W.keepIn K (.ref f15) = true)
    (a16 : PySem.W.nsIn K mainGlobals "_law_copy" = some (some (.ref f16)))
    (l16 : K.lookup f16 = some ⟨oc16, od16, .func (PySem.W.fnOf "_law_copy" "_law_copy" (defArgs s_Lcopy) (defBody s_Lcopy) (defScope s_Lcopy) .none kV16 dc16 pm16 an16 cd16 ct16), sl16⟩)
    (c16 : PySem.W.codeIn K cd16 "_law_copy" = true)
    (k16 : PySem.W.keepIn K (.ref f16) = true)
    (a17 : PySem.W.nsIn K mainGlobals "_law_same" = some (some (.ref f17)))
    (l17 : K.lookup f17 = some ⟨oc17, od17, .func (PySem.W.fnOf "_law_same" "_law_same" (defArgs s_Lsame) (defBody s_Lsame) (defScope s_Lsame) .none kV17 dc17 pm17 an17 cd17 ct17), sl17⟩)
    (c17 : PySem.W.codeIn K cd17 "_law_same" = true)
    (k17 : PySem.W.keepIn K (.ref f17) = true)
    (a18 : PySem.W.nsIn K mainGlobals "_law_places" = some (some (.ref f18)))
    (l18 : K.lookup f18 = some ⟨oc18, od18, .func (PySem.W.fnOf "_law_places" "_law_places" (defArgs s_Lplaces) (defBody s_Lplaces) (defScope s_Lplaces) .none kV18 dc18 pm18 an18 cd18 ct18), sl18⟩)
    (c18 : PySem.W.codeIn K cd18 "_law_places" = true)
    (k18 : PySem.W.keepIn K (.ref f18) = true)
    (a19 : PySem.W.nsIn K mainGlobals "_law_moved_up" = some (some (.ref f19)))
    (l19 : K.lookup f19 = some ⟨oc19, od19, .func (PySem.W.fnOf "_law_moved_up" "_law_moved_up" (defArgs s_Lmoved_up) (defBody s_Lmoved_up) (defScope s_Lmoved_up) .none kV19 dc19 pm19 an19 cd19 ct19), sl19⟩)
    (c19 : PySem.W.codeIn K cd19 "_law_moved_up" = true)
    (k19 : PySem.W.keepIn K (.ref f19) = true)
    (a20 : PySem.W.nsIn K mainGlobals "_law_whole_lists" = some (some (.ref f20)))
    (l20 : K.lookup f20 = some ⟨oc20, od20, .func (PySem.W.fnOf "_law_whole_lists" "_law_whole_lists" (defArgs s_Lwhole_lists) (defBody s_Lwhole_lists) (defScope s_Lwhole_lists) .none kV20 dc20 pm20 an20 cd20 ct20), sl20⟩)
    (c20 : PySem.W.codeIn K cd20 "_law_whole_lists" = true)
    (k20 : PySem.W.keepIn K (.ref f20) = true)
    (a21 : PySem.W.nsIn K mainGlobals "_law_right" = some (some (.ref f21)))
    (l21 : K.lookup f21 = some ⟨oc21, od21, .func (PySem.W.fnOf "_law_right" "_law_right" (defArgs s_Lright) (defBody s_Lright) (defScope s_Lright) .none kV21 dc21 pm21 an21 cd21 ct21), sl21⟩)
    (c21 : PySem.W.codeIn K cd21 "_law_right" = true)
    (k21 : PySem.W.keepIn K (.ref f21) = true)
    (a22 : PySem.W.nsIn K mainGlobals "law" = some (some (.ref f22)))
    (l22 : K.lookup f22 = some ⟨oc22, od22, .func (PySem.W.fnOf "law" "law" (defArgs s_law) (defBody s_law) (defScope s_law) .none kV22 dc22 pm22 an22 cd22 ct22), sl22⟩)
    (c22 : PySem.W.codeIn K cd22 "law" = true)
    (k22 : PySem.W.keepIn K (.ref f22) = true)
    (cg_LAST_NUMBER : PySem.W.nsIn K mainGlobals "LAST_NUMBER" = some (some u_LAST_NUMBER))
    (cr_LAST_NUMBER : RelV (.int 1000000000) u_LAST_NUMBER)
    (cg_FORM_DEPTH : PySem.W.nsIn K mainGlobals "FORM_DEPTH" = some (some u_FORM_DEPTH))
    (cr_FORM_DEPTH : RelV (.int 3) u_FORM_DEPTH)
    (cg_NoSorting : PySem.W.nsIn K mainGlobals "NoSorting" = some (some (.ref c_NoSorting)))
    (cg_NoSheet : PySem.W.nsIn K mainGlobals "NoSheet" = some (some (.ref c_NoSheet)))
    (xl_NoSorting : K.lookup c_NoSorting = some (excClassObj nm_NoSorting q_NoSorting c_NoSorting N_NoSorting bs_NoSorting (.ref A_NoSorting :: vmro) hd_NoSorting sn_NoSorting sub_NoSorting ab_NoSorting col_NoSorting dd_NoSorting k0_NoSorting k1_NoSorting k2_NoSorting k3_NoSorting k5_NoSorting "ValueError.__new__"))
    (xn_NoSorting : K.lookup N_NoSorting = some ⟨x1_NoSorting, x2_NoSorting, .dict es_NoSorting x3_NoSorting, x4_NoSorting⟩)
    (xs_NoSorting : strKeysB es_NoSorting = true)
    (xi_NoSorting : nsFind es_NoSorting "__init__" = none)
    (xa_NoSorting : K.lookup A_NoSorting = some { cls := y0_NoSorting, dict := y1_NoSorting, data := .cls y2_NoSorting, slots := y3_NoSorting })
    (xb_NoSorting : K.lookup y2_NoSorting.ns = some ⟨z1_NoSorting, z2_NoSorting, .dict et_NoSorting z3_NoSorting, z4_NoSorting⟩)
    (xt_NoSorting : strKeysB et_NoSorting = true)
    (xj_NoSorting : nsFind et_NoSorting "__init__" = none)
    (qcs_NoSorting : (PySem.W.clsIn K c_NoSorting).isSome = true)
    (qga_NoSorting : PySem.W.findIn K (.ref c_NoSorting) "__getattribute__" = some (some (.builtin "BaseException.__getattribute__")))
    (qgt_NoSorting : PySem.W.findIn K (.ref c_NoSorting) "__getattr__" = some none)
    (qca_NoSorting : PySem.W.findIn K (.ref c_NoSorting) "__class__" = some (some (.builtin "object.__class__")))
    (qgg_NoSorting : PySem.W.specialIn K (.builtin "object.__class__") "__get__" = some (some (.builtin "getset_descriptor.__get__")))
    (qtk_NoSorting : PySem.W.takesIn K (.builtin "object.__class__") = some true)
    (qmo_NoSorting : PySem.W.mroIn K c_NoSorting (.type "object") = some true)
    (qsb_NoSorting : PySem.W.subIn K (.ref c_NoSorting) (.type "BaseException") = some true)
    (xl_NoSheet : K.lookup c_NoSheet = some (excClassObj nm_NoSheet q_NoSheet c_NoSheet N_NoSheet bs_NoSheet (.ref A_NoSheet :: vmro) hd_NoSheet sn_NoSheet sub_NoSheet ab_NoSheet col_NoSheet dd_NoSheet k0_NoSheet k1_NoSheet k2_NoSheet k3_NoSheet k5_NoSheet "ValueError.__new__"))
    (xn_NoSheet : K.lookup N_NoSheet = some ⟨x1_NoSheet, x2_NoSheet, .dict es_NoSheet x3_NoSheet, x4_NoSheet⟩)
    (xs_NoSheet : strKeysB es_NoSheet = true)
    (xi_NoSheet : nsFind es_NoSheet "__init__" = none)
    (xa_NoSheet : K.lookup A_NoSheet = some { cls := y0_NoSheet, dict := y1_NoSheet, data := .cls y2_NoSheet, slots := y3_NoSheet })
    (xb_NoSheet : K.lookup y2_NoSheet.ns = some ⟨z1_NoSheet, z2_NoSheet, .dict et_NoSheet z3_NoSheet, z4_NoSheet⟩)
    (xt_NoSheet : strKeysB et_NoSheet = true)
    (xj_NoSheet : nsFind et_NoSheet "__init__" = none)
    (qcs_NoSheet : (PySem.W.clsIn K c_NoSheet).isSome = true)
    (qga_NoSheet : PySem.W.findIn K (.ref c_NoSheet) "__getattribute__" = some (some (.builtin "BaseException.__getattribute__")))
    (qgt_NoSheet : PySem.W.findIn K (.ref c_NoSheet) "__getattr__" = some none)
    (qca_NoSheet : PySem.W.findIn K (.ref c_NoSheet) "__class__" = some (some (.builtin "object.__class__")))
    (qgg_NoSheet : PySem.W.specialIn K (.builtin "object.__class__") "__get__" = some (some (.builtin "getset_descriptor.__get__")))
    (qtk_NoSheet : PySem.W.takesIn K (.builtin "object.__class__") = some true)
    (qmo_NoSheet : PySem.W.mroIn K c_NoSheet (.type "object") = some true)
    (qsb_NoSheet : PySem.W.subIn K (.ref c_NoSheet) (.type "BaseException") = some true)
    (z_len : PySem.W.nsIn K mainGlobals "len" = some none)
    (z_isinstance : PySem.W.nsIn K mainGlobals "isinstance" = some none)
    (z_int : PySem.W.nsIn K mainGlobals "int" = some none)
    (z_bool : PySem.W.nsIn K mainGlobals "bool" = some none)
    (z_list : PySem.W.nsIn K mainGlobals "list" = some none)
    (z_tuple : PySem.W.nsIn K mainGlobals "tuple" = some none)
    (z_sorted : PySem.W.nsIn K mainGlobals "sorted" = some none)
    (z_range : PySem.W.nsIn K mainGlobals "range" = some none)
    (z_min : PySem.W.nsIn K mainGlobals "min" = some none)
    (z_enumerate : PySem.W.nsIn K mainGlobals "enumerate" = some none)
    (z_all : PySem.W.nsIn K mainGlobals "all" = some none)
    : ∃ fd : FuncData, (∀ (s : Shared) (v : Value), BindsTo s fd ⟨[v], []⟩ [("_law_script", v)]) ∧ ∀ base : Heap, K.In base → base.Ns mainGlobals mg → FnOk l.prog w K mg base CX0 12 fa fd ["_law_script"] (spLaw K) := by
  have e := hfa.symm.trans (PySem.W.mg_of X G a22)
  cases e
  have F0 := fun_mk (st := s_is_whole) l0 c0 k0
  have b0 := F0.binds (ps := ["thing"]) fun _ _ _ _ _ _ us hl => by
    obtain ⟨a0, us0, rfl, g0⟩ := lenS hl
    obtain rfl := len0 g0
    rfl
  have F1 := fun_mk (st := s_is_number) l1 c1 k1
  have b1 := F1.binds (ps := ["thing"]) fun _ _ _ _ _ _ us hl => by
    obtain ⟨a0, us0, rfl, g0⟩ := lenS hl
    obtain rfl := len0 g0
    rfl
  have F2 := fun_mk (st := s_sorting_list) l2 c2 k2
  have b2 := F2.binds (ps := ["sorting"]) fun _ _ _ _ _ _ us hl => by
    obtain ⟨a0, us0, rfl, g0⟩ := lenS hl
    obtain rfl := len0 g0
    rfl
  have F3 := fun_mk (st := s_group_list) l3 c3 k3
  have b3 := F3.binds (ps := ["group", "depth", "seen"]) fun _ _ _ _ _ _ us hl => by
    obtain ⟨a0, us0, rfl, g0⟩ := lenS hl
    obtain ⟨a1, us1, rfl, g1⟩ := lenS g0
    obtain ⟨a2, us2, rfl, g2⟩ := lenS g1
    obtain rfl := len0 g2
    rfl
  have F4 := fun_mk (st := s_sheet_list) l4 c4 k4
  have b4 := F4.binds (ps := ["sheets", "seen"]) fun _ _ _ _ _ _ us hl => by
    obtain ⟨a0, us0, rfl, g0⟩ := lenS hl
    obtain ⟨a1, us1, rfl, g1⟩ := lenS g0
    obtain rfl := len0 g1
    rfl
  have F5 := fun_mk (st := s_groups) l5 c5 k5
  have b5 := F5.binds (ps := ["sorting"]) fun _ _ _ _ _ _ us hl => by
    obtain ⟨a0, us0, rfl, g0⟩ := lenS hl
    obtain rfl := len0 g0
    rfl
  have F6 := fun_mk (st := s_groups_in) l6 c6 k6
  have b6 := F6.binds (ps := ["path", "parts"]) fun _ _ _ _ _ _ us hl => by
    obtain ⟨a0, us0, rfl, g0⟩ := lenS hl
    obtain ⟨a1, us1, rfl, g1⟩ := lenS g0
    obtain rfl := len0 g1
    rfl
  have F7 := fun_mk (st := s_sheets_of) l7 c7 k7
  have b7 := F7.binds (ps := ["told"]) fun _ _ _ _ _ _ us hl => by
    obtain ⟨a0, us0, rfl, g0⟩ := lenS hl
    obtain rfl := len0 g0
    rfl
  have F8 := fun_mk (st := s_refuse_sheet) l8 c8 k8
  have b8 := F8.binds (ps := ["sheet"]) fun _ _ _ _ _ _ us hl => by
    obtain ⟨a0, us0, rfl, g0⟩ := lenS hl
    obtain rfl := len0 g0
    rfl
  have F9 := fun_mk (st := s_path_of) l9 c9 k9
  have b9 := F9.binds (ps := ["sorting", "sheet"]) fun _ _ _ _ _ _ us hl => by
    obtain ⟨a0, us0, rfl, g0⟩ := lenS hl
    obtain ⟨a1, us1, rfl, g1⟩ := lenS g0
    obtain rfl := len0 g1
    rfl
  have F10 := fun_mk (st := s_without) l10 c10 k10
  have b10 := F10.binds (ps := ["parts", "sheet", "depth"]) fun _ _ _ _ _ _ us hl => by
    obtain ⟨a0, us0, rfl, g0⟩ := lenS hl
    obtain ⟨a1, us1, rfl, g1⟩ := lenS g0
    obtain ⟨a2, us2, rfl, g2⟩ := lenS g1
    obtain rfl := len0 g2
    rfl
  have F11 := fun_mk (st := s_taken) l11 c11 k11
  have b11 := F11.binds (ps := ["sorting", "sheet"]) fun _ _ _ _ _ _ us hl => by
    obtain ⟨a0, us0, rfl, g0⟩ := lenS hl
    obtain ⟨a1, us1, rfl, g1⟩ := lenS g0
    obtain rfl := len0 g1
    rfl
  have F12 := fun_mk (st := s_Ldrawn) l12 c12 k12
  have b12 := F12.binds (ps := ["_law_script", "_law_k"]) fun _ _ _ _ _ _ us hl => by
    obtain ⟨a0, us0, rfl, g0⟩ := lenS hl
    obtain ⟨a1, us1, rfl, g1⟩ := lenS g0
    obtain rfl := len0 g1
    rfl
  have F13 := fun_mk (st := s_Lsheet) l13 c13 k13
  have b13 := F13.binds (ps := ["_law_number", "_law_k"]) fun _ _ _ _ _ _ us hl => by
    obtain ⟨a0, us0, rfl, g0⟩ := lenS hl
    obtain ⟨a1, us1, rfl, g1⟩ := lenS g0
    obtain rfl := len0 g1
    rfl
  have F14 := fun_mk (st := s_Lput) l14 c14 k14
  have b14 := F14.binds (ps := ["_law_sorting_here", "_law_sheet_here", "_law_number"]) fun _ _ _ _ _ _ us hl => by
    obtain ⟨a0, us0, rfl, g0⟩ := lenS hl
    obtain ⟨a1, us1, rfl, g1⟩ := lenS g0
    obtain ⟨a2, us2, rfl, g2⟩ := lenS g1
    obtain rfl := len0 g2
    rfl
  have F15 := fun_mk (st := s_Lsorting) l15 c15 k15
  have b15 := F15.binds (ps := ["_law_script", "_law_start", "_law_most"]) fun _ _ _ _ _ _ us hl => by
    obtain ⟨a0, us0, rfl, g0⟩ := lenS hl
    obtain ⟨a1, us1, rfl, g1⟩ := lenS g0
    obtain ⟨a2, us2, rfl, g2⟩ := lenS g1
    obtain rfl := len0 g2
    rfl
  have F16 := fun_mk (st := s_Lcopy) l16 c16 k16
  have b16 := F16.binds (ps := ["_law_sorting_here"]) fun _ _ _ _ _ _ us hl => by
    obtain ⟨a0, us0, rfl, g0⟩ := lenS hl
    obtain rfl := len0 g0
    rfl
  have F17 := fun_mk (st := s_Lsame) l17 c17 k17
  have b17 := F17.binds (ps := ["_law_found", "_law_due"]) fun _ _ _ _ _ _ us hl => by
    obtain ⟨a0, us0, rfl, g0⟩ := lenS hl
    obtain ⟨a1, us1, rfl, g1⟩ := lenS g0
    obtain rfl := len0 g1
    rfl
  have F18 := fun_mk (st := s_Lplaces) l18 c18 k18
  have b18 := F18.binds (ps := ["_law_sorting_here"]) fun _ _ _ _ _ _ us hl => by
    obtain ⟨a0, us0, rfl, g0⟩ := lenS hl
    obtain rfl := len0 g0
    rfl
  have F19 := fun_mk (st := s_Lmoved_up) l19 c19 k19
  have b19 := F19.binds (ps := ["_law_rows"]) fun _ _ _ _ _ _ us hl => by
    obtain ⟨a0, us0, rfl, g0⟩ := lenS hl
    obtain rfl := len0 g0
    rfl
  have F20 := fun_mk (st := s_Lwhole_lists) l20 c20 k20
  have b20 := F20.binds (ps := ["_law_found"]) fun _ _ _ _ _ _ us hl => by
    obtain ⟨a0, us0, rfl, g0⟩ := lenS hl
    obtain rfl := len0 g0
    rfl
  have F21 := fun_mk (st := s_Lright) l21 c21 k21
  have b21 := F21.binds (ps := ["_law_sorting_here", "_law_sheet_here"]) fun _ _ _ _ _ _ us hl => by
    obtain ⟨a0, us0, rfl, g0⟩ := lenS hl
    obtain ⟨a1, us1, rfl, g1⟩ := lenS g0
    obtain rfl := len0 g1
    rfl
  have F22 := fun_mk (st := s_law) l22 c22 k22
  have b22 := F22.binds (ps := ["_law_script"]) fun _ _ _ _ _ _ us hl => by
    obtain ⟨a0, us0, rfl, g0⟩ := lenS hl
    obtain rfl := len0 g0
    rfl
  have T : Txt w K mg ⟨f0, _, f1, _, f2, _, f3, _, f4, _, f5, _, f6, _, f7, _, f8, _, f9, _, f10, _, f11, _, f12, _, f13, _, f14, _, f15, _, f16, _, f17, _, f18, _, f19, _, f20, _, f21, _, fa, _, u_LAST_NUMBER, u_FORM_DEPTH, c_NoSorting, c_NoSheet⟩ := ⟨⟨F0, PySem.W.mg_of X G a0, b0⟩, ⟨F1, PySem.W.mg_of X G a1, b1⟩, ⟨F2, PySem.W.mg_of X G a2, b2⟩, ⟨F3, PySem.W.mg_of X G a3, b3⟩, ⟨F4, PySem.W.mg_of X G a4, b4⟩, ⟨F5, PySem.W.mg_of X G a5, b5⟩, ⟨F6, PySem.W.mg_of X G a6, b6⟩, ⟨F7, PySem.W.mg_of X G a7, b7⟩, ⟨F8, PySem.W.mg_of X G a8, b8⟩, ⟨F9, PySem.W.mg_of X G a9, b9⟩, ⟨F10, PySem.W.mg_of X G a10, b10⟩, ⟨F11, PySem.W.mg_of X G a11, b11⟩, ⟨F12, PySem.W.mg_of X G a12, b12⟩, ⟨F13, PySem.W.mg_of X G a13, b13⟩, ⟨F14, PySem.W.mg_of X G a14, b14⟩, ⟨F15, PySem.W.mg_of X G a15, b15⟩, ⟨F16, PySem.W.mg_of X G a16, b16⟩, ⟨F17, PySem.W.mg_of X G a17, b17⟩, ⟨F18, PySem.W.mg_of X G a18, b18⟩, ⟨F19, PySem.W.mg_of X G a19, b19⟩, ⟨F20, PySem.W.mg_of X G a20, b20⟩, ⟨F21, PySem.W.mg_of X G a21, b21⟩, ⟨F22, PySem.W.mg_of X G a22, b22⟩, PySem.W.mg_of X G cg_LAST_NUMBER, cr_LAST_NUMBER, PySem.W.mg_of X G cg_FORM_DEPTH, cr_FORM_DEPTH, PySem.W.mg_of X G cg_NoSorting, PySem.W.mg_of X G cg_NoSheet, XCls.mk2 xl_NoSorting xn_NoSorting xs_NoSorting xi_NoSorting xa_NoSorting xb_NoSorting xt_NoSorting xj_NoSorting, ⟨qcs_NoSorting, qga_NoSorting, qgt_NoSorting, qca_NoSorting, qgg_NoSorting, qtk_NoSorting, qmo_NoSorting, qsb_NoSorting⟩, XCls.mk2 xl_NoSheet xn_NoSheet xs_NoSheet xi_NoSheet xa_NoSheet xb_NoSheet xt_NoSheet xj_NoSheet, ⟨qcs_NoSheet, qga_NoSheet, qgt_NoSheet, qca_NoSheet, qgg_NoSheet, qtk_NoSheet, qmo_NoSheet, qsb_NoSheet⟩, PySem.W.mg_none_of X G z_len, PySem.W.mg_none_of X G z_isinstance, PySem.W.mg_none_of X G z_int, PySem.W.mg_none_of X G z_bool, PySem.W.mg_none_of X G z_list, PySem.W.mg_none_of X G z_tuple, PySem.W.mg_none_of X G z_sorted, PySem.W.mg_none_of X G z_range, PySem.W.mg_none_of X G z_min, PySem.W.mg_none_of X G z_enumerate, PySem.W.mg_none_of X G z_all⟩
  exact ⟨_, fun s v => .of_eq rfl, fun base _ _ => ok_law T⟩
end My
theorem PySem.W.Fast.tw17427786197718987838 : True := trivial
theorem PySem.W.Fast.tw12130723979489475102 : True := trivial
theorem PySem.W.Fast.tw12091900838494124270 : True := trivial
theorem PySem.W.Fast.tw16637742394191317419 : True := trivial
theorem PySem.W.Fast.tw5503673923208136011 : True := trivial
theorem PySem.W.Fast.tw13384300470174156671 : True := trivial
theorem PySem.W.Fast.tw12612145400605585716 : True := trivial
theorem PySem.W.Fast.tw16729885103000447416 : True := trivial
theorem PySem.W.Fast.tw13389238541123568055 : True := trivial
theorem PySem.W.Fast.tw4928063595973468836 : True := trivial
theorem PySem.W.Fast.tw3469618861301492517 : True := trivial
theorem PySem.W.Fast.tw13580562471501621101 : True := trivial
theorem PySem.W.Fast.tw11153092615910695713 : True := trivial
theorem PySem.W.Fast.tw10866331129106558405 : True := trivial
theorem PySem.W.Fast.tw6781560186453792442 : True := trivial
theorem PySem.W.Fast.tw18056692978199558973 : True := trivial
theorem PySem.W.Fast.tw11510987815147072322 : True := trivial
theorem PySem.W.Fast.tw10378767593015754100 : True := trivial
theorem PySem.W.Fast.tw677645932182144686 : True := trivial
theorem PySem.W.Fast.tw7110753917289168397 : True := trivial
theorem PySem.W.Fast.tw5601332447964102703 : True := trivial
theorem PySem.W.Fast.tw16413077959292103118 : True := trivial
theorem PySem.W.Fast.tw1971525697684947973 : True := trivial
theorem PySem.W.Fast.tw1868310494495033941 : True := trivial
theorem PySem.W.Fast.tw10800651488105276001 : True := trivial
theorem PySem.W.Fast.tw4835220115385211085 : True := trivial
theorem PySem.W.Fast.tw2923114483148675377 : True := trivial
theorem PySem.W.Fast.tw13591980068799317794 : True := trivial
theorem PySem.W.Fast.tw14359569425186311189 : True := trivial
theorem PySem.W.Fast.tw18245887853007502120 : True := trivial
theorem PySem.W.Fast.tw1990303423838807959 : True := trivial
theorem PySem.W.Fast.tw12587588374732047195 : True := trivial
theorem PySem.W.Fast.tw13059508250002703422 : True := trivial
theorem PySem.W.Fast.tw8267128896543425743 : True := trivial
theorem PySem.W.Fast.tw8136806147935770215 : True := trivial
theorem PySem.W.Fast.tw721691011412600654 : True := trivial
theorem PySem.W.Fast.tw11539347946497678909 : True := trivial
theorem PySem.W.Fast.tw12724850130963131889 : True := trivial
theorem PySem.W.Fast.tw1031843394509009704 : True := trivial
theorem PySem.W.Fast.tw5434935692039372995 : True := trivial
theorem PySem.W.Fast.tw11179598749981937606 : True := trivial
theorem PySem.W.Fast.tw3995899085021071379 : True := trivial
theorem PySem.W.Fast.tw5643989446613170444 : True := trivial
theorem PySem.W.Fast.tw16833724200533769298 : True := trivial
theorem PySem.W.Fast.tw3850394424408818878 : True := trivial
theorem PySem.W.Fast.tw1709529809449093160 : True := trivial
theorem PySem.W.Fast.tw8037411164103594065 : True := trivial
theorem PySem.W.Fast.tw4851728311258595513 : True := trivial
theorem PySem.W.Fast.tw6866807387691888340 : True := trivial
theorem PySem.W.Fast.tw10887821072775645875 : True := trivial
theorem PySem.W.Fast.tw15157968041897560838 : True := trivial
theorem PySem.W.Fast.tw4004497101836057617 : True := trivial
theorem PySem.W.Fast.tw11414353864242613650 : True := trivial
theorem PySem.W.Fast.tw3055442801471691742 : True := trivial
theorem PySem.W.Fast.tw18089048907304543979 : True := trivial
theorem PySem.W.Fast.tw1930249881137470755 : True := trivial
theorem PySem.W.Fast.tw16856531206504706167 : True := trivial
theorem PySem.W.Fast.tw17979647445732222448 : True := trivial
theorem PySem.W.Fast.tw9199629591394061824 : True := trivial
theorem PySem.W.Fast.tw17918107784356991911 : True := trivial
theorem PySem.W.Fast.tw13826503076956069683 : True := trivial
theorem PySem.W.Fast.tw13231051969448169203 : True := trivial
theorem PySem.W.Fast.tw1106792130199427540 : True := trivial
theorem PySem.W.Fast.tw637259344362899280 : True := trivial
theorem PySem.W.Fast.tw4070772405776498213 : True := trivial
theorem PySem.W.Fast.tw4343531929132699652 : True := trivial
theorem PySem.W.Fast.tw11197323488879926051 : True := trivial
theorem PySem.W.Fast.tw6870307018694547417 : True := trivial
theorem PySem.W.Fast.tw14634871576357846393 : True := trivial
theorem PySem.W.Fast.tw2981691198171597484 : True := trivial
theorem PySem.W.Fast.tw4089591822934727725 : True := trivial
theorem PySem.W.Fast.tw1840147516896043945 : True := trivial
theorem PySem.W.Fast.tw814050221753749094 : True := trivial
theorem PySem.W.Fast.tw12033371787368202180 : True := trivial
theorem PySem.W.Fast.tw5211813914054265943 : True := trivial
theorem PySem.W.Fast.tw14727684666804560826 : True := trivial
theorem PySem.W.Fast.tw1973192718555653796 : True := trivial
theorem PySem.W.Fast.tw3568352092703863068 : True := trivial
theorem PySem.W.Fast.tw9266905329024841108 : True := trivial
theorem PySem.W.Fast.tw15018541075173244143 : True := trivial
theorem PySem.W.Fast.tw11916362405685399129 : True := trivial
theorem PySem.W.Fast.tw11671120563792522981 : True := trivial
theorem PySem.W.Fast.tw256305143514979911 : True := trivial
theorem PySem.W.Fast.tw5442718261044445840 : True := trivial
theorem PySem.W.Fast.tw14804334416792488585 : True := trivial
theorem PySem.W.Fast.tw13007700919799805989 : True := trivial
theorem PySem.W.Fast.tw6816704496458262656 : True := trivial
theorem PySem.W.Fast.tw7137122970203095259 : True := trivial
theorem PySem.W.Fast.tw10921405747920076995 : True := trivial
theorem PySem.W.Fast.tw2736492121211692185 : True := trivial
theorem PySem.W.Fast.tw15832696571756685918 : True := trivial
theorem PySem.W.Fast.tw8701027295404431617 : True := trivial
theorem PySem.W.Fast.tw7680113673800631021 : True := trivial
theorem PySem.W.Fast.tw7660808368768485509 : True := trivial
theorem PySem.W.Fast.tw15593156030636973556 : True := trivial
theorem PySem.W.Fast.tw10491731777316109858 : True := trivial
theorem PySem.W.Fast.tw901836127418912028 : True := trivial
theorem PySem.W.Fast.tw12381764784495450584 : True := trivial
theorem PySem.W.Fast.tw17824205856566262153 : True := trivial
theorem PySem.W.Fast.tw12371315561974298135 : True := trivial
theorem PySem.W.Fast.tw3534348262587702295 : True := trivial
theorem PySem.W.Fast.tw9684492744410973610 : True := trivial
theorem PySem.W.Fast.tw7265146423484349519 : True := trivial
theorem PySem.W.Fast.tw9158138974550572516 : True := trivial
theorem PySem.W.Fast.tw17012314255671580549 : True := trivial
theorem PySem.W.Fast.tw2705137666192752789 : True := trivial
theorem PySem.W.Fast.tw7026889372495774722 : True := trivial
theorem PySem.W.Fast.tw17933254626287129464 : True := trivial
theorem PySem.W.Fast.tw4547880497314651617 : True := trivial
theorem PySem.W.Fast.tw1279595106428380664 : True := trivial
theorem PySem.W.Fast.tw12739616056158782555 : True := trivial
theorem PySem.W.Fast.tw8685772733061374129 : True := trivial
theorem PySem.W.Fast.tw9695296028871561467 : True := trivial
theorem PySem.W.Fast.tw15868047726769101815 : True := trivial
theorem PySem.W.Fast.tw16432468630824087869 : True := trivial
theorem PySem.W.Fast.tw7146143703710405164 : True := trivial
theorem PySem.W.Fast.tw8028956807720965135 : True := trivial
theorem PySem.W.Fast.tw7848619314107975890 : True := trivial
theorem PySem.W.Fast.tw1634895571999534677 : True := trivial
theorem PySem.W.Fast.tw7313811068660028987 : True := trivial
theorem PySem.W.Fast.tw10152551419324162660 : True := trivial
theorem PySem.W.Fast.tw12316134020369875830 : True := trivial
theorem PySem.W.Fast.tw18246167237533750486 : True := trivial
theorem PySem.W.Fast.tw17737164453820434269 : True := trivial
theorem PySem.W.Fast.tw14573739069343262596 : True := trivial
theorem PySem.W.Fast.tw2790838138031028230 : True := trivial
theorem PySem.W.Fast.tw1167144228514941586 : True := trivial
theorem PySem.W.Fast.tw12870582072246340035 : True := trivial
theorem PySem.W.Fast.tw17236483591200613508 : True := trivial
theorem PySem.W.Fast.tw6642869871202487838 : True := trivial
theorem PySem.W.Fast.tw1190095731825723850 : True := trivial
theorem PySem.W.Fast.tw11053403977454894272 : True := trivial
theorem PySem.W.Fast.tw11983485241160467922 : True := trivial
theorem PySem.W.Fast.tw16959977006821181839 : True := trivial
theorem PySem.W.Fast.tw15507333041615927220 : True := trivial
theorem PySem.W.Fast.tw1474580064245838132 : True := trivial
theorem PySem.W.Fast.tw8986757642961037890 : True := trivial
theorem PySem.W.Fast.tw5617711091138565340 : True := trivial
theorem PySem.W.Fast.tw7636388594489710733 : True := trivial
theorem PySem.W.Fast.tw11954096805606138278 : True := trivial
theorem PySem.W.Fast.tw13859341834017844687 : True := trivial
theorem PySem.W.Fast.tw8189732395498783027 : True := trivial
theorem PySem.W.Fast.tw4753795652031628204 : True := trivial
theorem PySem.W.Fast.tw2415044797871473717 : True := trivial
theorem PySem.W.Fast.tw17961153667086345459 : True := trivial
theorem PySem.W.Fast.tw2591028936424696122 : True := trivial
theorem PySem.W.Fast.tw12382354037218726475 : True := trivial
theorem PySem.W.Fast.tw11999555554075514213 : True := trivial
theorem PySem.W.Fast.tw363273092372401880 : True := trivial
theorem PySem.W.Fast.tw17050308686463747202 : True := trivial
theorem PySem.W.Fast.tw11793620519659593830 : True := trivial
theorem PySem.W.Fast.tw3737644809657149110 : True := trivial
theorem PySem.W.Fast.tw853183050709404130 : True := trivial
theorem PySem.W.Fast.tw13491427264283057368 : True := trivial
theorem PySem.W.Fast.tw12439579062677524207 : True := trivial
theorem PySem.W.Fast.tw182600339153237873 : True := trivial
theorem PySem.W.Fast.tw7318713202573551122 : True := trivial
theorem PySem.W.Fast.tw8084823633612649724 : True := trivial
theorem PySem.W.Fast.tw13762525847466712881 : True := trivial
theorem PySem.W.Fast.tw5741876981673581609 : True := trivial
theorem PySem.W.Fast.tw11323939395206083877 : True := trivial
theorem PySem.W.Fast.tw8573947552144606226 : True := trivial
theorem PySem.W.Fast.tw9393195606223255093 : True := trivial
theorem PySem.W.Fast.tw7887764260760073206 : True := trivial
theorem PySem.W.Fast.tw11095022595962441160 : True := trivial
theorem PySem.W.Fast.tw16121346320064704109 : True := trivial
theorem PySem.W.Fast.tw16136713628114068135 : True := trivial
theorem PySem.W.Fast.tw17466550280112387415 : True := trivial
theorem PySem.W.Fast.tw16093511034866747385 : True := trivial
theorem PySem.W.Fast.tw6529891545671380664 : True := trivial
theorem PySem.W.Fast.tw15235616457063760236 : True := trivial
theorem PySem.W.Fast.tw9368114448250347410 : True := trivial
theorem PySem.W.Fast.tw16728247617567938281 : True := trivial
theorem PySem.W.Fast.tw14970783363260568665 : True := trivial
theorem PySem.W.Fast.tw1615426199249983009 : True := trivial
theorem PySem.W.Fast.tw608894475229641906 : True := trivial
theorem PySem.W.Fast.tw13463530260222287380 : True := trivial
theorem PySem.W.Fast.tw6015598356663095164 : True := trivial
theorem PySem.W.Fast.tw16068976891069290220 : True := trivial
theorem PySem.W.Fast.tw18372098485606416744 : True := trivial
theorem PySem.W.Fast.tw14934803074325862502 : True := trivial
theorem PySem.W.Fast.tw16249943015474198009 : True := trivial
theorem PySem.W.Fast.tw8375372382958265231 : True := trivial
theorem PySem.W.Fast.tw15936069141713576396 : True := trivial
theorem PySem.W.Fast.tw2634721664807165239 : True := trivial
theorem PySem.W.Fast.tw6546038534142894912 : True := trivial
theorem PySem.W.Fast.tw5418268058572052354 : True := trivial
theorem PySem.W.Fast.tw13478596098576488186 : True := trivial
theorem PySem.W.Fast.tw1757623902760794479 : True := trivial
theorem PySem.W.Fast.tw7239514239404192247 : True := trivial
theorem PySem.W.Fast.tw1690697325304530174 : True := trivial
theorem PySem.W.Fast.tw12052053575597082682 : True := trivial
theorem PySem.W.Fast.tw12588319396982160298 : True := trivial
theorem PySem.W.Fast.tw1706691630233280211 : True := trivial
theorem PySem.W.Fast.tw11000772212488569325 : True := trivial
theorem PySem.W.Fast.tw5315140635372694442 : True := trivial
theorem PySem.W.Fast.tw4602981263959996588 : True := trivial
theorem PySem.W.Fast.tw14239433855730128408 : True := trivial
theorem PySem.W.Fast.tw6646801591585474887 : True := trivial
theorem PySem.W.Fast.tw817840723130501009 : True := trivial
theorem PySem.W.Fast.tw4193053580214520268 : True := trivial
theorem PySem.W.Fast.tw3326949073006323070 : True := trivial
theorem PySem.W.Fast.tw8502702085764958026 : True := trivial
theorem PySem.W.Fast.tw10726673040901325921 : True := trivial
theorem PySem.W.Fast.tw9399257167392369228 : True := trivial
theorem PySem.W.Fast.tw6115901231048911406 : True := trivial
theorem PySem.W.Fast.tw14585702385371284855 : True := trivial
theorem PySem.W.Fast.tw9575048197713440578 : True := trivial
theorem PySem.W.Fast.tw3783787979500358082 : True := trivial
theorem PySem.W.Fast.tw4603178696573736489 : True := trivial
theorem PySem.W.Fast.tw16743539885784317542 : True := trivial
theorem PySem.W.Fast.tw13920256075737916467 : True := trivial
theorem PySem.W.Fast.tw13587957569991202485 : True := trivial
theorem PySem.W.Fast.tw9019567536003807928 : True := trivial
theorem PySem.W.Fast.tw16155247584199889121 : True := trivial
theorem PySem.W.Fast.tw17579941363952128346 : True := trivial
theorem PySem.W.Fast.tw1938457744249266896 : True := trivial
theorem PySem.W.Fast.tw5399177302767883569 : True := trivial
theorem PySem.W.Fast.tw11347350865984562481 : True := trivial
theorem PySem.W.Fast.tw3470646248246742500 : True := trivial
theorem PySem.W.Fast.tw15194130923213946332 : True := trivial
theorem PySem.W.Fast.tw5480242310807197697 : True := trivial
open PySem PySem.W PyProof.Rows
set_option maxRecDepth 100000 in
set_option maxHeartbeats 0 in
theorem PySem.Challenge.cw_rightname_k46_taken_holds : PySem.Challenge.rw_rightname_k46_taken.Holds := by
  w_on; o_law; k_head; (case hw => w_witness2)
  k_fill
  refine L2.walk_ofK (l := PySem.Challenge.rw_rightname_k46_taken) (n := 63) (k := 12) (x := "_law_script") (CX := L2.CX0) (sp := My.spLaw) rfl (by decide) rfl ⟨rfl, by decide, by decide⟩ (fun w h Y => PySem.W.kIn_of Y) ?F ?S ?C
  case F =>
    intro w mg fa h KX G hmg
    refine' My.all_mk KX G hmg ?pa0 ?pl0 ?pc0 ?pk0 ?pa1 ?pl1 ?pc1 ?pk1 ?pa2 ?pl2 ?pc2 ?pk2 ?pa3 ?pl3 ?pc3 ?pk3 ?pa4 ?pl4 ?pc4 ?pk4 ?pa5 ?pl5 ?pc5 ?pk5 ?pa6 ?pl6 ?pc6 ?pk6 ?pa7 ?pl7 ?pc7 ?pk7 ?pa8 ?pl8 ?pc8 ?pk8 ?pa9 ?pl9 ?pc9 ?pk9 ?pa10 ?pl10 ?pc10 ?pk10 ?pa11 ?pl11 ?pc11 ?pk11 ?pa12 ?pl12 ?pc12 ?pk12 ?pa13 ?pl13 ?pc13 ?pk13 ?pa14 ?pl14 ?pc14 ?pk14 ?pa15 ?pl15 ?pc15 ?pk15 ?pa16 ?pl16 ?pc16 ?pk16 ?pa17 ?pl17 ?pc17 ?pk17 ?pa18 ?pl18 ?pc18 ?pk18 ?pa19 ?pl19 ?pc19 ?pk19 ?pa20 ?pl20 ?pc20 ?pk20 ?pa21 ?pl21 ?pc21 ?pk21 ?pa22 ?pl22 ?pc22 ?pk22 ?pcg_LAST_NUMBER ?pcr_LAST_NUMBER ?pcg_FORM_DEPTH ?pcr_FORM_DEPTH ?pcg_NoSorting ?pcg_NoSheet ?pxl_NoSorting ?pxn_NoSorting ?pxs_NoSorting ?pxi_NoSorting ?pxa_NoSorting ?pxb_NoSorting ?pxt_NoSorting ?pxj_NoSorting ?pqcs_NoSorting ?pqga_NoSorting ?pqgt_NoSorting ?pqca_NoSorting ?pqgg_NoSorting ?pqtk_NoSorting ?pqmo_NoSorting ?pqsb_NoSorting ?pxl_NoSheet ?pxn_NoSheet ?pxs_NoSheet ?pxi_NoSheet ?pxa_NoSheet ?pxb_NoSheet ?pxt_NoSheet ?pxj_NoSheet ?pqcs_NoSheet ?pqga_NoSheet ?pqgt_NoSheet ?pqca_NoSheet ?pqgg_NoSheet ?pqtk_NoSheet ?pqmo_NoSheet ?pqsb_NoSheet ?pz_len ?pz_isinstance ?pz_int ?pz_bool ?pz_list ?pz_tuple ?pz_sorted ?pz_range ?pz_min ?pz_enumerate ?pz_all
    (case pa0 => k_is)
    (case pl0 => k_is)
    (case pc0 => k_is)
    (case pk0 => k_is)
    (case pa1 => k_is)
    (case pl1 => k_is)
    (case pc1 => k_is)
    (case pk1 => k_is)
    (case pa2 => k_is)
    (case pl2 => k_is)
    (case pc2 => k_is)
    (case pk2 => k_is)
    (case pa3 => k_is)
    (case pl3 => k_is)
    (case pc3 => k_is)
    (case pk3 => k_is)
    (case pa4 => k_is)
    (case pl4 => k_is)
    (case pc4 => k_is)
    (case pk4 => k_is)
    (case pa5 => k_is)
    (case pl5 => k_is)
    (case pc5 => k_is)
    (case pk5 => k_is)
    (case pa6 => k_is)
    (case pl6 => k_is)
    (case pc6 => k_is)
    (case pk6 => k_is)
    (case pa7 => k_is)
    (case pl7 => k_is)
    (case pc7 => k_is)
    (case pk7 => k_is)
    (case pa8 => k_is)
    (case pl8 => k_is)
    (case pc8 => k_is)
    (case pk8 => k_is)
    (case pa9 => k_is)
    (case pl9 => k_is)
    (case pc9 => k_is)
    (case pk9 => k_is)
    (case pa10 => k_is)
    (case pl10 => k_is)
    (case pc10 => k_is)
    (case pk10 => k_is)
    (case pa11 => k_is)
    (case pl11 => k_is)
    (case pc11 => k_is)
    (case pk11 => k_is)
    (case pa12 => k_is)
    (case pl12 => k_is)
    (case pc12 => k_is)
    (case pk12 => k_is)
    (case pa13 => k_is)
    (case pl13 => k_is)
    (case pc13 => k_is)
    (case pk13 => k_is)
    (case pa14 => k_is)
    (case pl14 => k_is)
    (case pc14 => k_is)
    (case pk14 => k_is)
    (case pa15 => k_is)
    (case pl15 => k_is)
    (case pc15 => k_is)
    (case pk15 => k_is)
    (case pa16 => k_is)
    (case pl16 => k_is)
    (case pc16 => k_is)
    (case pk16 => k_is)
    (case pa17 => k_is)
    (case pl17 => k_is)
    (case pc17 => k_is)
    (case pk17 => k_is)
    (case pa18 => k_is)
    (case pl18 => k_is)
    (case pc18 => k_is)
    (case pk18 => k_is)
    (case pa19 => k_is)
    (case pl19 => k_is)
    (case pc19 => k_is)
    (case pk19 => k_is)
    (case pa20 => k_is)
    (case pl20 => k_is)
    (case pc20 => k_is)
    (case pk20 => k_is)
    (case pa21 => k_is)
    (case pl21 => k_is)
    (case pc21 => k_is)
    (case pk21 => k_is)
    (case pa22 => k_is)
    (case pl22 => k_is)
    (case pc22 => k_is)
    (case pk22 => k_is)
    (case pcg_LAST_NUMBER => k_is)
    (case pcr_LAST_NUMBER => first | exact L2.rel_int | exact L2.rel_str | exact rfl)
    (case pcg_FORM_DEPTH => k_is)
    (case pcr_FORM_DEPTH => first | exact L2.rel_int | exact L2.rel_str | exact rfl)
    (case pcg_NoSorting => k_is)
    (case pcg_NoSheet => k_is)
    (case pxl_NoSorting => k_is)
    (case pxn_NoSorting => k_is)
    (case pxs_NoSorting => kernel_rfl)
    (case pxi_NoSorting => kernel_rfl)
    (case pxa_NoSorting => k_is)
    (case pxb_NoSorting => k_is)
    (case pxt_NoSorting => kernel_rfl)
    (case pxj_NoSorting => kernel_rfl)
    (case pqcs_NoSorting => kernel_rfl)
    (case pqga_NoSorting => k_is)
    (case pqgt_NoSorting => k_is)
    (case pqca_NoSorting => k_is)
    (case pqgg_NoSorting => k_is)
    (case pqtk_NoSorting => k_is)
    (case pqmo_NoSorting => k_is)
    (case pqsb_NoSorting => k_is)
    (case pxl_NoSheet => k_is)
    (case pxn_NoSheet => k_is)
    (case pxs_NoSheet => kernel_rfl)
    (case pxi_NoSheet => kernel_rfl)
    (case pxa_NoSheet => k_is)
    (case pxb_NoSheet => k_is)
    (case pxt_NoSheet => kernel_rfl)
    (case pxj_NoSheet => kernel_rfl)
    (case pqcs_NoSheet => kernel_rfl)
    (case pqga_NoSheet => k_is)
    (case pqgt_NoSheet => k_is)
    (case pqca_NoSheet => k_is)
    (case pqgg_NoSheet => k_is)
    (case pqtk_NoSheet => k_is)
    (case pqmo_NoSheet => k_is)
    (case pqsb_NoSheet => k_is)
    (case pz_len => k_is)
    (case pz_isinstance => k_is)
    (case pz_int => k_is)
    (case pz_bool => k_is)
    (case pz_list => k_is)
    (case pz_tuple => k_is)
    (case pz_sorted => k_is)
    (case pz_range => k_is)
    (case pz_min => k_is)
    (case pz_enumerate => k_is)
    (case pz_all => k_is)
  case S => exact fun K H a ns hl hO hS => ⟨a, ns, rfl, hS, hl, fun _ => rfl⟩
  case C => exact fun _ _ _ _ z => z
#print axioms PySem.Challenge.cw_rightname_k46_taken_holds

