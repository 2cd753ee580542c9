import PyProof.Rows.All
import Wide.All
import OpenK.AllK
import Wide.FinOn
import Lean
import PyProof.EqAt
import PyProof.EqKinds
import PyProof.TupleCall
import PySem.Challenge.RW_rightname_k12_books
set_option Elab.async false
set_option linter.all false
set_option maxRecDepth 100000
namespace L2
open PySem PySem.Spec PyProof.Rows
abbrev Key := Sum Int Str
def keyIs : Key → Value → Bool
  | .inl k, v => Value.isInt k v
  | .inr x, v => Value.isStrOf x v
def keyH (w : World) : Key → Int
  | .inl k => hashInt k
  | .inr x => hashStr w x
theorem keyIs_shape : ∀ {k : Key} {v : Value}, keyIs k v = true → (∃ i t, k = Sum.inl i ∧ v = Value.int i t) ∨ (∃ x t, k = Sum.inr x ∧ v = Value.str x t)
  | .inl i, v, h => by
    obtain ⟨t, e⟩ := Value.isInt_shape (k := i) (v := v) h
    exact .inl ⟨i, t, rfl, e⟩
  | .inr x, v, h => by
    obtain ⟨t, e⟩ := Value.isStrOf_shape (x := x) (v := v) h
    exact .inr ⟨x, t, rfl, e⟩
theorem keyIs_int (i : Int) (t : Tok) : keyIs (.inl i) (.int i t) = true := by simp [keyIs, Value.isInt]
theorem keyIs_str (x : Str) (t : Tok) : keyIs (.inr x) (.str x t) = true := by simp [keyIs, Value.isStrOf]
theorem key_ll (a b : Int) : decide ((Sum.inl a : Key) = Sum.inl b) = (a == b) := by
  by_cases e : a = b
  · subst e; simp
  · have h : ¬ (Sum.inl a : Key) = Sum.inl b := fun q => e (Sum.inl.inj q)
    rw [decide_eq_false h]
    exact (beq_eq_false_iff_ne.mpr e).symm
theorem key_rr (a b : Str) : decide ((Sum.inr a : Key) = Sum.inr b) = decide (a = b) := by
  by_cases e : a = b
  · subst e; simp
  · have h : ¬ (Sum.inr a : Key) = Sum.inr b := fun q => e (Sum.inr.inj q)
    rw [decide_eq_false h, decide_eq_false e]
theorem key_lr (a : Int) (b : Str) : decide ((Sum.inl a : Key) = Sum.inr b) = false := decide_eq_false (fun q => nomatch q)
theorem key_rl (a : Str) (b : Int) : decide ((Sum.inr a : Key) = Sum.inl b) = false := decide_eq_false (fun q => nomatch q)
def mixKind (prog : Program) (w : World) : PySem.KeyKind prog w Key where
  is := keyIs
  hash := keyH w
  inj := fun v a b ha hb => by
    rcases keyIs_shape ha with ⟨i, t, rfl, rfl⟩ | ⟨x, t, rfl, rfl⟩
    · rcases keyIs_shape hb with ⟨j, u, rfl, e⟩ | ⟨y, u, rfl, e⟩
      · injection e with e1 _; rw [e1]
      · exact nomatch e
    · rcases keyIs_shape hb with ⟨j, u, rfl, e⟩ | ⟨y, u, rfl, e⟩
      · exact nomatch e
      · injection e with e1 _; rw [e1]
  byValue := fun k v h => by
    rcases keyIs_shape h with ⟨i, t, rfl, rfl⟩ | ⟨x, t, rfl, rfl⟩ <;> rfl
  pyHash := fun hv h => by
    rcases keyIs_shape hv with ⟨i, t, rfl, rfl⟩ | ⟨x, t, rfl, rfl⟩
    · exact wpAny_pyHash_int h
    · exact wpAny_pyHash_str h
  eqBool := fun hu hv h => by
    rcases keyIs_shape hu with ⟨i, t, rfl, rfl⟩ | ⟨x, t, rfl, rfl⟩
    · rcases keyIs_shape hv with ⟨j, u, rfl, rfl⟩ | ⟨y, u, rfl, rfl⟩
      · rw [key_ll] at h; exact wpAny_eqBool_int h
      · rw [key_lr] at h; exact SeqAt.EqAt.int_str i t y u _ _ _ _ h
    · rcases keyIs_shape hv with ⟨j, u, rfl, rfl⟩ | ⟨y, u, rfl, rfl⟩
      · rw [key_rl] at h; exact SeqAt.EqAt.str_int x t j u _ _ _ _ h
      · rw [key_rr] at h; exact wpAny_eqBool_str h
  «strs» := fun k x t v h => by
    rcases keyIs_shape h with ⟨i, u, rfl, e⟩ | ⟨y, u, rfl, e⟩
    · exact nomatch e
    · injection e with e1 _
      subst e1
      cases v <;> rfl
theorem mixKind_int (prog : Program) (w : World) (i : Int) (t : Tok) : (mixKind prog w).is (.inl i) (.int i t) = true := keyIs_int i t
theorem mixKind_str (prog : Program) (w : World) (x : Str) (t : Tok) : (mixKind prog w).is (.inr x) (.str x t) = true := keyIs_str x t
end L2
namespace L2
open PySem PySem.Spec PyProof.Rows
inductive V where
  | non | bl (b : Bool) | int (i : Int) | str (x : Str) | byt (b : Array UInt8) | flt (b : UInt64) | ref (a : Addr) | ty (n : String)
  deriving DecidableEq
def RelV : V → Value → Prop
  | .non, u => u = Value.none
  | .bl b, u => u = Value.bool b
  | .int i, u => ∃ t, u = Value.int i t
  | .str x, u => ∃ t, u = Value.str x t
  | .byt b, u => ∃ t, u = Value.bytes b t
  | .flt b, u => ∃ t, u = Value.float b t
  | .ref a, u => u = Value.ref a
  | .ty n, u => u = Value.type n
abbrev Vals : List V → List Value → Prop := Paired RelV
theorem Vals.length {xs : List V} {us : List Value} (r : Vals xs us) : xs.length = us.length := Paired.length r
theorem Vals.get : ∀ {xs : List V} {us : List Value} {i : Nat} {x : V}, Vals xs us → xs[i]? = some x → ∃ u, us[i]? = some u ∧ RelV x u
  | _, _, _, _, .nil, e => by simp at e
  | _, _, 0, _, .cons r _, e => by simp at e; subst e; exact ⟨_, rfl, r⟩
  | _, _, i + 1, x, .cons _ t, e => by
    obtain ⟨u, h1, h2⟩ := Vals.get (i := i) (x := x) t (by simpa using e)
    exact ⟨u, by simpa using h1, h2⟩
theorem Vals.set {x : V} {u : Value} (r : RelV x u) : ∀ {xs : List V} {us : List Value} (i : Nat), Vals xs us → Vals (xs.set i x) (us.set i u)
  | _, _, _, .nil => .nil
  | _, _, 0, .cons _ t => .cons r t
  | _, _, i + 1, .cons q t => .cons q (Vals.set r i t)
theorem Vals.append : ∀ {xs ys : List V} {us ws : List Value}, Vals xs us → Vals ys ws → Vals (xs ++ ys) (us ++ ws)
  | _, _, _, _, .nil, s => s
  | _, _, _, _, .cons r t, s => .cons r (Vals.append t s)
theorem Vals.take : ∀ {xs : List V} {us : List Value} (n : Nat), Vals xs us → Vals (xs.take n) (us.take n)
  | _, _, 0, _ => .nil
  | _, _, _ + 1, .nil => .nil
  | _, _, n + 1, .cons r t => .cons r (Vals.take n t)
theorem Vals.drop : ∀ {xs : List V} {us : List Value} (n : Nat), Vals xs us → Vals (xs.drop n) (us.drop n)
  | _, _, 0, r => r
  | _, _, _ + 1, .nil => .nil
  | _, _, n + 1, .cons _ t => Vals.drop n t
theorem Vals.none_of : ∀ {xs : List V} {us : List Value} {i : Nat}, Vals xs us → xs[i]? = none → us[i]? = none := fun {xs us i} r e => by
  have h1 := r.length
  have h2 : xs.length ≤ i := List.getElem?_eq_none_iff.mp e
  exact List.getElem?_eq_none_iff.mpr (by omega)
def RelO : Option V → Option Value → Prop
  | some v, some u => RelV v u
  | none, none => True
  | _, _ => False
def KV {κ : Type} : List (κ × V) → List (κ × Value) → Prop := Paired fun (p : κ × V) (q : κ × Value) => p.1 = q.1 ∧ RelV p.2 q.2
def kV : Key → V
  | .inl i => .int i
  | .inr x => .str x
inductive HO where
    | lst (xs : List V)
    | tup (xs : List V)
    | dK (kvs : List (Key × V)) | dT (kvs : List (List Key × V))
    | set (S : Int → Bool) (n : Nat)
    | ins (C dx : Addr) (fs : List (Str × V))
    | own (x : Addr)
    | xd (fs : List (Str × V))
    | met (f x : Addr)
    | rng (lo hi : Int)
    | frz (o : Obj) (u : HO)
    | tbl (ps : Array Value)
    | ext (φ : Heap → Prop)
abbrev Hp := Addr → Option HO
def upd (H : Hp) (a : Addr) (o : HO) : Hp := fun b => if b = a then some o else H b
theorem upd_same {H : Hp} {a : Addr} {o : HO} : upd H a o a = some o := by unfold upd; rw [if_pos rfl]
theorem upd_ne {H : Hp} {a b : Addr} {o : HO} (h : b ≠ a) : upd H a o b = H b := by unfold upd; rw [if_neg h]
theorem upd_upd {H : Hp} {a : Addr} {o u : HO} : upd (upd H a o) a u = upd H a u := by
  funext b; unfold upd; split <;> rfl
theorem ne_of {H : Hp} {a b : Addr} {o u : HO} (h : H a = some o) (h' : H b = some u) (d : o ≠ u) : a ≠ b := by
  intro e; subst e; rw [h] at h'; exact d (Option.some.inj h')
theorem ne_of_none {H : Hp} {a b : Addr} {o : HO} (h : H a = some o) (h' : H b = none) : a ≠ b := by
  intro e; subst e; rw [h] at h'; cases h'
section
variable (P : Program) (w : World)
def ObjOk (H : Hp) (h : Heap) (a : Addr) : HO → Prop
  | .lst xs => xs.length ≤ sizeLine ∧ ∃ (its : List Value) (n : Nat), Vals xs its ∧ h.get? a = some { cls := .type "list", data := .seq its.toArray n }
  | .tup xs => xs.length ≤ sizeLine ∧ ∃ its : List Value, Vals xs its ∧ IsTup h a its.toArray
  | .dK kvs => kvs.length ≤ sizeLine ∧ (a == sysModules) = false ∧ ∃ vs, KV kvs vs ∧ h.DictOf (mixKind P w) a vs
  | .dT kvs => kvs.length ≤ sizeLine ∧ (a == sysModules) = false ∧ ∃ xs : List (List Key × Addr × Value),
      Paired (fun (p : List Key × V) (q : List Key × Addr × Value) => p.1 = q.1 ∧ H q.2.1 = some (.tup (p.1.map kV)) ∧ RelV p.2 q.2.2) kvs xs ∧
      ∃ o es ep, h.get? a = some o ∧ o.ExactDict ∧ o.data = .dict es ep ∧ es.toList = xs.map (entryOfKey (tupleKind (mixKind P w))) ∧ (xs.map (·.1)).Nodup
  | .set S n => h.SetOf (intKind P w) a S n
  | .ins C dx fs => H dx = some (.own a) ∧ fs.length ≤ 1000 ∧ dx ≠ a ∧ h.get? a = some (PySem.W.instObj C dx) ∧
      ∃ mA, h.Ns1 dx mA ∧ (∀ f, RelO (fs.lookup f) (mA f)) ∧ PySem.Within mA (fs.map (·.1))
  | .own _ => ∃ o, h.get? a = some o
  | .xd fs => ∃ mA, h.Ns1 a mA ∧ ∀ f, RelO (fs.lookup f) (mA f)
  | .rng lo hi => ∃ t u v, h.get? a = some { cls := .type "range", data := .fields #[.int lo t, .int hi u, .int 1 v] }
  | .frz o u => h.get? a = some o ∧ ObjOk H h a u
  | .tbl ps => h.get? a = some { cls := .none, data := .fields ps }
  | .met f x => h.get? a = some (PySem.W.methodObj (.ref f) (.ref x))
  | .ext φ => φ h ∧ (∃ o, h.get? a = some o) ∧ ∀ h1 h2 : Heap, φ h1 → (∀ o, h1.get? a = some o → h2.get? a = some o) → φ h2
def HOk (H : Hp) (h : Heap) : Prop := ∀ a o, H a = some o → ObjOk P w H h a o
end
section
variable {P : Program} {w : World} {H H' : Hp} {h h' : Heap} {a : Addr} {o : HO}
theorem ObjOk.lt (x : ObjOk P w H h a o) : a < h.objs.size := by
  cases o with
  | lst xs => obtain ⟨_, _, _, _, e⟩ := x; exact Heap.lt_size e
  | tup xs => obtain ⟨_, _, _, p⟩ := x; exact p.lt
  | dK kvs => obtain ⟨_, _, _, _, o, _, _, e, _⟩ := x; exact Heap.lt_size e
  | dT kvs => obtain ⟨_, _, _, _, o, _, _, e, _⟩ := x; exact Heap.lt_size e
  | set S n => obtain ⟨o, _, _, _, e, _⟩ := x; exact Heap.lt_size e
  | ins C dx fs => obtain ⟨_, _, _, e, _⟩ := x; exact Heap.lt_size e
  | own y => obtain ⟨_, e⟩ := x; exact Heap.lt_size e
  | xd fs => obtain ⟨_, ⟨_, _, _, e, _⟩, _⟩ := x; exact Heap.lt_size e
  | rng lo hi => obtain ⟨_, _, _, e⟩ := x; exact Heap.lt_size e
  | frz ob u => obtain ⟨e, _⟩ := x; exact Heap.lt_size e
  | tbl ps => exact Heap.lt_size (show h.get? a = some _ from x)
  | met f y => exact Heap.lt_size (show h.get? a = some _ from x)
  | ext φ => obtain ⟨_, ⟨_, e⟩, _⟩ := x; exact Heap.lt_size e
theorem Paired.mapP {α β : Type} {F G : α → β → Prop} : ∀ {l₁ : List α} {l₂ : List β}, Paired F l₁ l₂ → (∀ a b, F a b → G a b) → Paired G l₁ l₂
  | _, _, .nil, _ => .nil
  | _, _, .cons r t, f => .cons (f _ _ r) (Paired.mapP t f)
theorem ObjOk.stay (x : ObjOk P w H h a o) (k : ∀ b u, (b = a ∨ H b = some (.own a)) → h.get? b = some u → h'.get? b = some u)
    (ho : ∀ b, H b = some (.own a) → H' b = some (.own a)) (ht : ∀ b xs, H b = some (.tup xs) → H' b = some (.tup xs)) : ObjOk P w H' h' a o := by
  induction o with
  | lst xs => obtain ⟨z, its, n, r, e⟩ := x; exact ⟨z, its, n, r, k _ _ (.inl rfl) e⟩
  | tup xs => obtain ⟨z, its, r, ob, e, c⟩ := x; exact ⟨z, its, r, ob, k _ _ (.inl rfl) e, c⟩
  | dK kvs => obtain ⟨z, y, vs, r, ob, es, ep, e, c⟩ := x; exact ⟨z, y, vs, r, ob, es, ep, k _ _ (.inl rfl) e, c⟩
  | dT kvs =>
    obtain ⟨z, y, xs, r, ob, es, ep, e, c⟩ := x
    exact ⟨z, y, xs, Paired.mapP r fun p q z => ⟨z.1, ht _ _ z.2.1, z.2.2⟩, ob, es, ep, k _ _ (.inl rfl) e, c⟩
  | set S n => obtain ⟨ob, es, ep, t, e, c⟩ := x; exact ⟨ob, es, ep, t, k _ _ (.inl rfl) e, c⟩
  | ins C dx fs =>
    obtain ⟨d, z, ne, e, mA, ⟨od, es, ep, e2, c⟩, r⟩ := x
    exact ⟨ho _ d, z, ne, k _ _ (.inl rfl) e, mA, ⟨od, es, ep, k _ _ (.inr d) e2, c⟩, r⟩
  | own y => obtain ⟨ob, e⟩ := x; exact ⟨ob, k _ _ (.inl rfl) e⟩
  | xd fs => obtain ⟨mA, ⟨od, es, ep, e, c⟩, r⟩ := x; exact ⟨mA, ⟨od, es, ep, k _ _ (.inl rfl) e, c⟩, r⟩
  | rng lo hi => obtain ⟨t, u, v, e⟩ := x; exact ⟨t, u, v, k _ _ (.inl rfl) e⟩
  | frz ob u ih => obtain ⟨e, q⟩ := x; exact ⟨k _ _ (.inl rfl) e, ih q⟩
  | tbl ps =>
    have e : h.get? a = some { cls := .none, data := .fields ps } := x
    show h'.get? a = some { cls := .none, data := .fields ps }
    exact k a _ (.inl rfl) e
  | met f y =>
    have e : h.get? a = some (PySem.W.methodObj (.ref f) (.ref y)) := x
    show h'.get? a = some (PySem.W.methodObj (.ref f) (.ref y))
    exact k a _ (.inl rfl) e
  | ext φ => obtain ⟨p, ⟨o, e⟩, st⟩ := x; exact ⟨st _ _ p fun o q => k _ _ (.inl rfl) q, ⟨o, k _ _ (.inl rfl) e⟩, st⟩
theorem HOk.lt (x : HOk P w H h) (e : H a = some o) : a < h.objs.size := (x a o e).lt
theorem HOk.fresh (x : HOk P w H h) (e : h.objs.size ≤ a) : H a = none := by
  cases q : H a with
  | none => rfl
  | some u => exact absurd (Nat.lt_of_lt_of_le (x.lt q) e) (Nat.lt_irrefl _)
theorem HOk.kept (x : HOk P w H h) (k : ∀ b u, h.get? b = some u → h'.get? b = some u) : HOk P w H h' := fun a o e =>
  (x a o e).stay (fun b u _ q => k b u q) (fun _ q => q) fun _ _ q => q
theorem HOk.laid (x : HOk P w H h) (k : ∀ b u, h.get? b = some u → h'.get? b = some u) (hp : h.objs.size ≤ a) (new : ObjOk P w (upd H a o) h' a o) : HOk P w (upd H a o) h' := fun b u e => by
  have hn := x.fresh hp
  by_cases hb : b = a
  · subst hb; rw [upd_same] at e; cases e; exact new
  · rw [upd_ne hb] at e
    exact (x b u e).stay (fun c v _ q => k c v q) (fun c q => by rw [upd_ne (ne_of_none q hn)]; exact q) fun c xs q => by rw [upd_ne (ne_of_none q hn)]; exact q
end
def Rd (H : Hp) (a : Addr) (u : HO) : Prop := H a = some u ∨ ∃ o, H a = some (.frz o u)
theorem Rd.of {H : Hp} {a : Addr} {u : HO} (h : H a = some u) : Rd H a u := .inl h
theorem Rd.ok {P : Program} {w : World} {H : Hp} {h : Heap} {a : Addr} {u : HO} (r : Rd H a u) (x : HOk P w H h) : ObjOk P w H h a u := by
  rcases r with r | ⟨o, r⟩
  · exact x a u r
  · obtain ⟨_, q⟩ := x a _ r
    exact q
def Mut : Option HO → Prop
  | some (.lst _) => True
  | some (.dK _) => True
  | some (.dT _) => True
  | some (.set _ _) => True
  | some (.ins _ _ _) => True
  | some (.ext _) => True
  | _ => False
section
variable {P : Program} {w : World} {H : Hp} {h h' : Heap} {x e : Addr} {o' : HO}
theorem HOk.write (ok : HOk P w H h) (mu : Mut (H x)) (he : e = x ∨ H e = some (.own x)) (k : ∀ b u, b ≠ e → h.get? b = some u → h'.get? b = some u) (heo : ∃ u, h'.get? e = some u)
    (new : ObjOk P w (upd H x o') h' x o') : HOk P w (upd H x o') h' := fun b u q => by
  have nown : ∀ c y, H c = some (.own y) → c ≠ x := fun c y r z => by subst z; rw [r] at mu; exact mu
  have ntup : ∀ c xs, H c = some (.tup xs) → c ≠ x := fun c xs r z => by subst z; rw [r] at mu; exact mu
  by_cases hb : b = x
  · subst hb; rw [upd_same] at q; cases q; exact new
  · rw [upd_ne hb] at q
    by_cases hbe : b = e
    · have q' : H b = some (.own x) := by
        rcases he with z | z
        · exact absurd (hbe.trans z) hb
        · rw [hbe]; exact z
      rw [q] at q'; cases q'
      obtain ⟨v, hv⟩ := heo
      exact ⟨v, by rw [hbe]; exact hv⟩
    · refine (ok b u q).stay (fun c v hc r => k c v ?_ r) (fun c r => by rw [upd_ne (nown c b r)]; exact r) fun c xs r => by rw [upd_ne (ntup c xs r)]; exact r
      rcases hc with rfl | hc
      · exact hbe
      · rintro rfl
        rcases he with z | z
        · exact nown c b hc z
        · rw [hc] at z; cases z; exact hb rfl
end
structure Un (fs ex : List Addr) (H H' : Hp) (h h' : Heap) : Prop where
  keep : ∀ b o, h.get? b = some o → H b = none → b ∉ fs → b ∉ ex → h'.get? b = some o
  slot : ∀ b o, h.get? b = some o → H b = none → b ∈ fs → b ∉ ex → ∃ sl, h'.get? b = some { o with slots := sl }
  free : ∀ b o, h.get? b = some o → H b = none → b ∉ ex → H' b = none
  there : ∀ b o, h.get? b = some o → b ∉ ex → ∃ o', h'.get? b = some o'
  tups : ∀ b xs, H b = some (.tup xs) → H' b = some (.tup xs)
  frzs : ∀ b o u, H b = some (.frz o u) → H' b = some (.frz o u)
  tbls : ∀ b ps, H b = some (.tbl ps) → ∃ more, H' b = some (.tbl (ps ++ more))
section
variable {fs fs' ex ex' : List Addr} {H H1 H2 : Hp} {h h1 h2 h' : Heap} {a x e : Addr} {o : HO}
theorem Un.any (u : Un fs ex H H1 h h1) {b : Addr} {ob : Obj} (q : h.get? b = some ob) (n : H b = none) (hx : b ∉ ex) : ∃ sl, h1.get? b = some { ob with slots := sl } := by
  by_cases hb : b ∈ fs
  · exact u.slot b ob q n hb hx
  · exact ⟨ob.slots, u.keep b ob q n hb hx⟩
theorem Un.trans (a : Un fs ex H H1 h h1) (b : Un fs ex H1 H2 h1 h2) : Un fs ex H H2 h h2 where
  keep := fun c ob q n hc hx => b.keep c ob (a.keep c ob q n hc hx) (a.free c ob q n hx) hc hx
  slot := fun c ob q n hc hx => by
    obtain ⟨sl, e1⟩ := a.slot c ob q n hc hx
    obtain ⟨sl', e2⟩ := b.slot c _ e1 (a.free c ob q n hx) hc hx
    exact ⟨sl', e2⟩
  free := fun c ob q n hx => by
    obtain ⟨o', e1⟩ := a.there c ob q hx
    exact b.free c o' e1 (a.free c ob q n hx) hx
  there := fun c ob q hx => by
    obtain ⟨o', e1⟩ := a.there c ob q hx
    exact b.there c o' e1 hx
  tups := fun c xs q => b.tups c xs (a.tups c xs q)
  frzs := fun c ob xs q => b.frzs c ob xs (a.frzs c ob xs q)
  tbls := fun c ps q => by
    obtain ⟨m1, e1⟩ := a.tbls c ps q
    obtain ⟨m2, e2⟩ := b.tbls c _ e1
    exact ⟨m1 ++ m2, by rw [e2, Array.append_assoc]⟩
theorem Un.kept (k : ∀ b u, h.get? b = some u → h'.get? b = some u) : Un fs ex H H h h' :=
  ⟨fun b ob q _ _ _ => k b ob q, fun b ob q _ _ _ => ⟨ob.slots, k b ob q⟩, fun _ _ _ n _ => n, fun b ob q _ => ⟨ob, k b ob q⟩, fun _ _ q => q, fun _ _ _ q => q, fun _ ps q => ⟨#[], by rw [q]; simp⟩⟩
theorem Un.refl : Un fs ex H H h h := Un.kept fun _ _ q => q
theorem Un.laid (k : ∀ b u, h.get? b = some u → h'.get? b = some u) (hp : h.objs.size ≤ a) (hn : H a = none) : Un fs ex H (upd H a o) h h' where
  keep := fun b u q _ _ _ => k b u q
  slot := fun b u q _ _ _ => ⟨u.slots, k b u q⟩
  free := fun b u q n _ => by rw [upd_ne (Nat.ne_of_lt (Nat.lt_of_lt_of_le (Heap.lt_size q) hp))]; exact n
  there := fun b u q _ => ⟨u, k b u q⟩
  tups := fun b xs q => by rw [upd_ne (ne_of_none q hn)]; exact q
  frzs := fun b u xs q => by rw [upd_ne (ne_of_none q hn)]; exact q
  tbls := fun b ps q => ⟨#[], by rw [upd_ne (ne_of_none q hn), q]; simp⟩
theorem Un.write (mu : Mut (H x)) (he : e = x ∨ H e = some (.own x)) (k : ∀ b u, b ≠ e → h.get? b = some u → h'.get? b = some u) (heo : ∃ u, h'.get? e = some u) : Un fs ex H (upd H x o) h h' := by
  have hx : ∀ b, H b = none → b ≠ x := fun b n z => by subst z; rw [n] at mu; exact mu
  have hb : ∀ b, H b = none → b ≠ e := fun b n z => by
    subst z
    rcases he with r | r
    · exact hx b n r
    · rw [n] at r; cases r
  have hm : ∀ b u, H b = some u → ¬ Mut (some u) → b ≠ x := fun b u q nm z => by subst z; rw [q] at mu; exact nm mu
  refine ⟨fun b u q n _ _ => k b u (hb b n) q, fun b u q n _ _ => ⟨u.slots, k b u (hb b n) q⟩, fun b u q n _ => by rw [upd_ne (hx b n)]; exact n, fun b u q _ => ?_,
    fun b xs q => by rw [upd_ne (hm b _ q fun z => z)]; exact q, fun b u xs q => by rw [upd_ne (hm b _ q fun z => z)]; exact q, fun b ps q => ⟨#[], by rw [upd_ne (hm b _ q fun z => z), q]; simp⟩⟩
  by_cases hbe : b = e
  · subst hbe; exact heo
  · exact ⟨u, k b u hbe q⟩
theorem Un.mono (u : Un fs ex H H1 h h1) (hs : ∀ b ∈ fs, b ∈ fs') (hx : ∀ b ∈ ex, b ∈ ex') : Un fs' ex' H H1 h h1 :=
  ⟨fun b ob q n hb he => u.keep b ob q n (fun z => hb (hs b z)) fun z => he (hx b z), fun _ _ q n _ he => u.any q n fun z => he (hx _ z), fun b ob q n he => u.free b ob q n fun z => he (hx b z), fun b ob q he => u.there b ob q fun z => he (hx b z), u.tups, u.frzs, u.tbls⟩
end
def trk (h : Heap) (H : Hp) : List Addr := (List.range h.objs.size).filter fun a => (H a).isSome
def hidT (h : Heap) (H : Hp) : Heap := PySem.W.hideAll h (trk h H)
theorem hidT_size (h : Heap) (H : Hp) : (hidT h H).objs.size = h.objs.size := PySem.W.hideAll_size _ _
theorem hidT_get {h : Heap} {H : Hp} {b : Addr} {o : Obj} (e : h.get? b = some o) (n : H b = none) : (hidT h H).get? b = some o :=
  PySem.W.hideAll_get _ e fun hm => by
    have q : (H b).isSome = true := (List.mem_filter.mp hm).2
    rw [n] at q; simp at q
theorem of_hidT {h : Heap} {H : Hp} {b : Addr} {o : Obj} (e : (hidT h H).get? b = some o) : h.get? b = some o ∧ H b = none := by
  have e' : h.get? b = some o := PySem.W.of_hideAll (trk h H) e
  refine ⟨e', ?_⟩
  cases q : H b with
  | none => rfl
  | some x =>
    have hm : b ∈ trk h H := List.mem_filter.mpr ⟨List.mem_range.mpr (Heap.lt_size e'), by simp [q]⟩
    have z : (hidT h H).get? b = none := PySem.W.hideAll_none (trk h H) hm
    rw [z] at e; cases e
def allNews (g h : Heap) (L : Addr) : List (Addr × Obj) := (List.range h.objs.size).filterMap fun a => if a = L ∨ (g.get? a).isSome = true then none else (h.get? a).map fun o => (a, o)
def rest (g h : Heap) (L d : Addr) : List (Addr × Obj) := (allNews g h L).filter fun p => decide (p.1 ≠ d)
end L2
namespace L2
open PySem PySem.Spec PyProof.Rows
structure Mod (K : PySem.W.Frag) (mg : Str → Option Value) (base : Heap) : Prop where
  kin : K.In base
  glob : base.Ns mainGlobals mg
  blt : ∃ mb, base.Ns builtinsNs mb ∧ ∀ x : Str, x ≠ "__name__" → mb x = bootBuiltins x
  nolimit : base.NoLimit
/- the context: a def's body (or a comprehension's block) running. base: fixed through the whole law; s₀, H₀: the entry; outer: the frames whose slots others may change (a def's callers); stack: all frames that run;
   ex: iterators that were made ahead of the entry and are walked here (a comprehension's); fn: the names whose cells were made at the entry (a def: all; a comprehension's block: its own); calm: not within an except suite; pn: pins that every state bears; xe: what is wanted of an exception that leaves the code -/
set_option genInjectivity false in
set_option genSizeOfSpec false in
set_option genSizeOf false in
structure Cx where
  prog : Program
  w : World
  K : PySem.W.Frag
  mg : Str → Option Value
  base : Heap
  A : Around
  N : List Str
  s₀ : Shared
  H₀ : Hp
  env : Env
  outer : List Env
  stack : List Env
  ex : List Addr
  fn : Str → Bool
  calm : Bool
  pn : List (Addr × Obj)
  xe : Value → Shared → Prop
def frs (l : List Env) : List Addr := l.filterMap (·.frame)
abbrev Cx.fs (X : Cx) : List Addr := frs X.outer
def Vis (sc : Scope) (x : Str) : Prop := sc.names.lookup x = some .local ∨ sc.names.lookup x = some .cell ∨ sc.names.lookup x = some .free
def Loc (sc : Scope) (x : Str) : Prop := sc.names.lookup x = some .local ∨ sc.names.lookup x = some .cell
def Look (env : Env) (h : Heap) (m : Str → Option Value) (x : Str) (u : Value) : Prop :=
  (env.kindOf x = some .local ∧ m x = some u) ∨ ((env.kindOf x = some .cell ∨ env.kindOf x = some .free) ∧ ∃ c, env.cells.lookup x = some c ∧ h.IsCell c (some u))
structure Cx.Ok (X : Cx) : Prop where
  mod : Mod X.K X.mg X.base
  kind : X.env.scope.kind = .function
  glob : X.env.globals = mainGlobals
  blt : X.env.builtins = builtinsNs
  above : X.s₀.heap.objs.size ≤ X.env.locals
  inj : ∀ x y c, X.env.cells.lookup x = some c → X.env.cells.lookup y = some c → x = y
  has : ∀ x, (X.env.kindOf x = some .cell ∨ X.env.kindOf x = some .free) → ∃ c, X.env.cells.lookup x = some c
  cab : ∀ x c, X.fn x = true → X.env.cells.lookup x = some c → X.s₀.heap.objs.size ≤ c
  hd : X.calm = true → X.A.handled = none
  frames : X.A.frames = some X.stack
  stk : X.stack = X.outer ∨ (X.stack = X.env :: X.outer ∧ X.env.frame = some X.env.locals)
  exf : ∀ b ∈ X.ex, b ≠ X.env.locals ∧ ∀ x c, X.env.cells.lookup x = some c → c ≠ b
  bs : ∀ b o, X.base.get? b = some o → X.s₀.heap.get? b = some o ∧ X.H₀ b = none
  bsz : X.base.objs.size ≤ X.s₀.heap.objs.size
  noex : ∀ b o, X.base.get? b = some o → b ∉ X.ex
  exfs : ∀ b ∈ X.ex, b ∉ X.fs
  funs : X.s₀.heap.FunFrames X.base X.outer
  frf : ∀ b ∈ X.fs, X.H₀ b = none
structure Inv (X : Cx) (pins : List (Addr × Obj)) (σ : List (Option V)) (H : Hp) (s : Shared) : Prop where
  ok : X.Ok
  os : s.os = X.s₀.os
  bare : AllBare s.gens
  base : Un X.fs X.ex X.H₀ H X.s₀.heap s.heap
  loc : ∃ m, s.heap.Ns X.env.locals m ∧ ∀ (i : Nat) (x : Str) (v : V), X.N[i]? = some x → σ[i]? = some (some v) → Vis X.env.scope x → ∃ u, RelV v u ∧ Look X.env s.heap m x u
  cell : ∀ x c, X.env.cells.lookup x = some c → ∃ v, s.heap.IsCell c v
  free : H X.env.locals = none
  freeC : ∀ x c, X.env.cells.lookup x = some c → H c = none
  pin : ∀ p ∈ X.pn ++ pins, s.heap.get? p.1 = some p.2 ∧ H p.1 = none ∧ p.1 ≠ X.env.locals ∧ p.1 ∉ X.fs ∧ ∀ v, p.2.data ≠ .cell v
  hok : HOk X.prog X.w H s.heap
  len : σ.length = X.N.length
section
variable {X : Cx} {pins : List (Addr × Obj)} {σ : List (Option V)} {H H' : Hp} {s : Shared} {h' : Heap}
theorem Cx.Ok.nofr (ok : X.Ok) {b : Addr} {o : Obj} (e : X.base.get? b = some o) : b ∉ X.fs := fun hb => by
  have := (ok.funs.mem hb).1
  rw [e] at this; cases this
theorem Inv.bs (I : Inv X pins σ H s) : ∀ b o, X.base.get? b = some o → s.heap.get? b = some o ∧ H b = none := fun b o e =>
  ⟨I.base.keep b o (I.ok.bs b o e).1 (I.ok.bs b o e).2 (I.ok.nofr e) (I.ok.noex b o e), I.base.free b o (I.ok.bs b o e).1 (I.ok.bs b o e).2 (I.ok.noex b o e)⟩
theorem Inv.bk (I : Inv X pins σ H s) : ∀ b o, X.base.get? b = some o → s.heap.get? b = some o := fun b o e => (I.bs b o e).1
theorem Inv.mod (I : Inv X pins σ H s) : Mod X.K X.mg X.base := I.ok.mod
theorem Inv.kIn (I : Inv X pins σ H s) : X.K.In s.heap := I.ok.mod.kin.keeps I.bk
theorem Inv.nolimit (I : Inv X pins σ H s) : s.heap.NoLimit := I.ok.mod.nolimit.keeps I.bk
theorem Inv.lt (I : Inv X pins σ H s) : X.env.locals < s.heap.objs.size := let ⟨_, hn, _⟩ := I.loc; hn.lt
theorem Inv.sz (I : Inv X pins σ H s) : X.s₀.heap.objs.size ≤ s.heap.objs.size := Nat.le_trans I.ok.above (Nat.le_of_lt I.lt)
theorem Inv.nofs (I : Inv X pins σ H s) {a : Addr} (h : s.heap.objs.size ≤ a) : a ∉ X.fs := fun hb => by
  obtain ⟨_, o, ho, _⟩ := I.ok.funs.mem hb
  exact absurd (Nat.lt_of_lt_of_le (Heap.lt_size ho) (Nat.le_trans I.sz h)) (Nat.lt_irrefl _)
theorem Inv.cne (I : Inv X pins σ H s) : ∀ x c, X.env.cells.lookup x = some c → c ≠ X.env.locals := fun x c e z => by
  obtain ⟨v, o, ho, hd⟩ := I.cell x c e
  obtain ⟨m, ⟨o', es, ep, ho', hd', _⟩, _⟩ := I.loc
  rw [z, ho'] at ho; cases ho; rw [hd'] at hd; cases hd
theorem Inv.funs (I : Inv X pins σ H s) : s.heap.FunFrames X.base X.outer := by
  have all : ∀ (l : List Env), (∀ b ∈ frs l, b ∈ X.fs) → X.s₀.heap.FunFrames X.base l → s.heap.FunFrames X.base l := by
    intro l
    induction l with
    | nil => intro _ _; trivial
    | cons env r ih =>
      intro hs hl
      obtain ⟨hk, ⟨L, o, hf, hn, ho, hd⟩, hr⟩ := hl
      have hL : L ∈ X.fs := hs L (by unfold frs; rw [List.filterMap_cons, hf]; exact List.mem_cons_self)
      obtain ⟨sl, e⟩ := I.base.slot L o ho (I.ok.frf L hL) hL fun z => I.ok.exfs L z hL
      exact ⟨hk, ⟨L, _, hf, hn, e, hd⟩, ih (fun b hb => hs b (by unfold frs; rw [List.filterMap_cons, hf]; exact List.mem_cons_of_mem _ hb)) hr⟩
  exact all X.outer (fun _ hb => hb) I.ok.funs
theorem Inv.stack (I : Inv X pins σ H s) : s.heap.FunFrames X.base X.stack := by
  rcases I.ok.stk with e | ⟨e, hf⟩
  · rw [e]; exact I.funs
  · rw [e]
    obtain ⟨m, hn, _⟩ := I.loc
    refine .cons (by rw [I.ok.kind]; decide) hf hn ?_ I.funs
    exact Heap.get?_none_of_le (Nat.le_trans I.ok.bsz I.ok.above)
theorem Inv.stkSub (I : Inv X pins σ H s) : ∀ b ∈ frs X.stack, b ∈ X.env.locals :: X.fs := fun b hb => by
  rcases I.ok.stk with e | ⟨e, hf⟩
  · rw [e] at hb; exact List.mem_cons_of_mem _ hb
  · rw [e] at hb
    unfold frs at hb
    rw [List.filterMap_cons, hf] at hb
    exact hb
theorem Inv.stkFree (I : Inv X pins σ H s) : ∀ b ∈ frs X.stack, H b = none := fun b hb => by
  rcases List.mem_cons.mp (I.stkSub b hb) with e | hb
  · rw [e]; exact I.free
  · obtain ⟨_, o, ho, _⟩ := I.ok.funs.mem hb
    exact I.base.free b o ho (I.ok.frf b hb) fun z => I.ok.exfs b z hb
theorem Inv.step {g' : Array GenState} {t' : Nat} {d' : Drawn} {ch : List Addr} (I : Inv X pins σ H s)
    (hch : ∀ b ∈ ch, (b ∈ X.ex ∨ X.s₀.heap.objs.size ≤ b) ∧ b ≠ X.env.locals ∧ (∀ x c, X.env.cells.lookup x = some c → c ≠ b) ∧ ∀ p ∈ X.pn ++ pins, p.1 ≠ b)
    (keep : ∀ b o, b ≠ X.env.locals → b ∉ X.fs → b ∉ ch → s.heap.get? b = some o → H b = none → h'.get? b = some o)
    (slot : ∀ b o, b ≠ X.env.locals → b ∈ X.fs → b ∉ ch → s.heap.get? b = some o → H b = none → ∃ sl, h'.get? b = some { o with slots := sl }) (free : ∀ b o, b ∉ ch → s.heap.get? b = some o → H b = none → H' b = none)
    (there : ∀ b o, b ∉ ch → s.heap.get? b = some o → ∃ o', h'.get? b = some o')
    (tups : ∀ b xs, H b = some (.tup xs) → H' b = some (.tup xs)) (frzs : ∀ b o u, H b = some (.frz o u) → H' b = some (.frz o u)) (tbls : ∀ b ps, H b = some (.tbl ps) → ∃ more, H' b = some (.tbl (ps ++ more)))
    (ns : ∀ m, s.heap.Ns X.env.locals m → h'.Ns X.env.locals m) (hok : HOk X.prog X.w H' h') (hg : AllBare g') :
    Inv X pins σ H' { s with heap := h', gens := g', drawn := d', toks := t' } := by
  have neL : ∀ b o, X.s₀.heap.get? b = some o → b ≠ X.env.locals := fun b o e => Nat.ne_of_lt (Nat.lt_of_lt_of_le (Heap.lt_size e) I.ok.above)
  have neC : ∀ b o, X.s₀.heap.get? b = some o → b ∉ X.ex → b ∉ ch := fun b o e hx hb => by
    rcases (hch b hb).1 with z | z
    · exact hx z
    · exact absurd (Nat.lt_of_lt_of_le (Heap.lt_size e) z) (Nat.lt_irrefl _)
  have cellK : ∀ x c, X.env.cells.lookup x = some c → ∀ v, s.heap.IsCell c v → h'.IsCell c v := fun x c e v ⟨o, ho, hd⟩ => by
    have nch : c ∉ ch := fun z => (hch c z).2.2.1 x c e rfl
    by_cases hc : c ∈ X.fs
    · obtain ⟨sl, q⟩ := slot c o (I.cne x c e) hc nch ho (I.freeC x c e)
      exact ⟨_, q, hd⟩
    · exact ⟨o, keep c o (I.cne x c e) hc nch ho (I.freeC x c e), hd⟩
  refine ⟨I.ok, I.os, hg, ⟨fun b o e n hb hx => ?_, fun b o e n hb hx => ?_, fun b o e n hx => ?_, fun b o e hx => ?_, fun b xs e => tups b xs (I.base.tups b xs e), fun b o xs e => frzs b o xs (I.base.frzs b o xs e), fun b ps e => ?_⟩, ?_, fun x c e => ?_, ?_, fun x c e => ?_, fun p hp => ?_, hok, I.len⟩
  · exact keep b o (neL b o e) hb (neC b o e hx) (I.base.keep b o e n hb hx) (I.base.free b o e n hx)
  · obtain ⟨sl, e1⟩ := I.base.slot b o e n hb hx
    obtain ⟨sl', e2⟩ := slot b _ (neL b o e) hb (neC b o e hx) e1 (I.base.free b o e n hx)
    exact ⟨sl', e2⟩
  · obtain ⟨o', e1⟩ := I.base.there b o e hx
    exact free b o' (neC b o e hx) e1 (I.base.free b o e n hx)
  · obtain ⟨o', e1⟩ := I.base.there b o e hx
    exact there b o' (neC b o e hx) e1
  · obtain ⟨m1, e1⟩ := I.base.tbls b ps e
    obtain ⟨m2, e2⟩ := tbls b _ e1
    exact ⟨m1 ++ m2, by rw [e2, Array.append_assoc]⟩
  · obtain ⟨m, hn, hl⟩ := I.loc
    refine ⟨m, ns m hn, fun i x v e1 e2 e3 => ?_⟩
    obtain ⟨u, r, l⟩ := hl i x v e1 e2 e3
    refine ⟨u, r, ?_⟩
    rcases l with l | ⟨k, c, e, z⟩
    · exact .inl l
    · exact .inr ⟨k, c, e, cellK x c e _ z⟩
  · obtain ⟨v, z⟩ := I.cell x c e
    exact ⟨v, cellK x c e v z⟩
  · obtain ⟨m, ⟨o, _, _, ho, _⟩, _⟩ := I.loc
    exact free _ o (fun z => (hch _ z).2.1 rfl) ho I.free
  · obtain ⟨v, o, ho, hd⟩ := I.cell x c e
    exact free c o (fun z => (hch c z).2.2.1 x c e rfl) ho (I.freeC x c e)
  · obtain ⟨e, n, ne, nf, d⟩ := I.pin p hp
    have nch : p.1 ∉ ch := fun z => (hch p.1 z).2.2.2 p hp rfl
    exact ⟨keep p.1 p.2 ne nf nch e n, free p.1 p.2 nch e n, ne, nf, d⟩
theorem Inv.un {t' : Nat} (I : Inv X pins σ H s) (u : Un X.fs [] H H' s.heap h') (hok : HOk X.prog X.w H' h') : Inv X pins σ H' { s with heap := h', toks := t' } := by
  obtain ⟨m, ⟨o, es, ep, ho, r⟩, _⟩ := id I.loc
  obtain ⟨sl, hL⟩ := u.any ho I.free (by simp)
  exact I.step (g' := s.gens) (d' := s.drawn) (ch := []) (fun _ z => nomatch z) (fun b o _ hb _ e n => u.keep b o e n hb (by simp)) (fun b o _ hb _ e n => u.slot b o e n hb (by simp)) (fun b o _ e n => u.free b o e n (by simp)) (fun b o _ e => u.there b o e (by simp)) u.tups u.frzs u.tbls (fun m' hm => by
    obtain ⟨o', es', ep', ho', r'⟩ := hm
    rw [ho] at ho'; cases ho'
    exact ⟨_, es', ep', hL, r'⟩) hok I.bare
theorem Inv.call {g' : Array GenState} {t' : Nat} {d' : Drawn} {ch : List Addr} (I : Inv X pins σ H s) (u : Un (frs X.stack) ch H H' s.heap h') (hok : HOk X.prog X.w H' h') (hg : AllBare g')
    (hch : ∀ b ∈ ch, (b ∈ X.ex ∨ X.s₀.heap.objs.size ≤ b) ∧ b ≠ X.env.locals ∧ (∀ x c, X.env.cells.lookup x = some c → c ≠ b) ∧ ∀ p ∈ X.pn ++ pins, p.1 ≠ b) :
    Inv X pins σ H' { s with heap := h', gens := g', drawn := d', toks := t' } := by
  obtain ⟨m, ⟨o, es, ep, ho, r⟩, _⟩ := id I.loc
  obtain ⟨sl, hL⟩ := u.any ho I.free fun z => (hch _ z).2.1 rfl
  exact I.step (ch := ch) hch (fun b o hL hb hc e n => u.keep b o e n (fun z => (List.mem_cons.mp (I.stkSub b z)).elim hL hb) hc) (fun b o _ _ hc e n => u.any e n hc) (fun b o hc e n => u.free b o e n hc) (fun b o hc e => u.there b o e hc) u.tups u.frzs u.tbls (fun m' hm => by
    obtain ⟨o', es', ep', ho', r'⟩ := hm
    rw [ho] at ho'; cases ho'
    exact ⟨_, es', ep', hL, r'⟩) hok hg
theorem Inv.turned {t' : Nat} {it : Addr} (I : Inv X pins σ H s) (k : ∀ b o, b ≠ it → s.heap.get? b = some o → h'.get? b = some o) (hn : H it = none) (hL : it ≠ X.env.locals)
    (h1 : it ∈ X.ex ∨ X.s₀.heap.objs.size ≤ it) (h2 : ∀ x c, X.env.cells.lookup x = some c → c ≠ it) (h3 : ∀ p ∈ X.pn ++ pins, p.1 ≠ it) : Inv X pins σ H { s with heap := h', toks := t' } := by
  have nit : ∀ b u, H b = some u → b ≠ it := fun b u e z => by rw [z, hn] at e; cases e
  refine I.step (g' := s.gens) (d' := s.drawn) (ch := [it]) (fun b hb => ?_) (fun b o _ _ hc e _ => k b o (fun z => hc (by simp [z])) e) (fun b o _ _ hc e _ => ⟨o.slots, k b o (fun z => hc (by simp [z])) e⟩) (fun _ _ _ _ n => n)
    (fun b o hc e => ⟨o, k b o (fun z => hc (by simp [z])) e⟩) (fun _ _ e => e) (fun _ _ _ e => e) (fun b ps e => ⟨#[], by rw [e]; simp⟩) (fun m hm => ?_) (fun b u e => ?_) I.bare
  · have e : b = it := by simpa using hb
    subst e
    exact ⟨h1, hL, h2, h3⟩
  · obtain ⟨o, es, ep, ho, r⟩ := hm
    exact ⟨o, es, ep, k _ o (Ne.symm hL) ho, r⟩
  · refine (I.hok b u e).stay (fun c v hc q => k c v ?_ q) (fun _ q => q) fun _ _ q => q
    rcases hc with z | z
    · rw [z]; exact nit b u e
    · exact nit c _ z
theorem Inv.tok (I : Inv X pins σ H s) (t : Nat) : Inv X pins σ H { s with toks := t } := I.un (h' := s.heap) (t' := t) Un.refl I.hok
theorem Inv.kept {t' : Nat} (I : Inv X pins σ H s) (k : ∀ b u, s.heap.get? b = some u → h'.get? b = some u) : Inv X pins σ H { s with heap := h', toks := t' } := I.un (Un.kept k) (I.hok.kept k)
theorem Inv.laid {a : Addr} {o : HO} {t' : Nat} (I : Inv X pins σ H s) (k : ∀ b u, s.heap.get? b = some u → h'.get? b = some u) (hp : s.heap.objs.size ≤ a) (new : ObjOk X.prog X.w (upd H a o) h' a o) :
    Inv X pins σ (upd H a o) { s with heap := h', toks := t' } := I.un (Un.laid k hp (I.hok.fresh hp)) (I.hok.laid k hp new)
theorem Inv.write {x e : Addr} {o : HO} {t' : Nat} (I : Inv X pins σ H s) (mu : Mut (H x)) (he : e = x ∨ H e = some (.own x)) (k : ∀ b u, b ≠ e → s.heap.get? b = some u → h'.get? b = some u) (heo : ∃ u, h'.get? e = some u)
    (new : ObjOk X.prog X.w (upd H x o) h' x o) : Inv X pins σ (upd H x o) { s with heap := h', toks := t' } := I.un (Un.write mu he k heo) (I.hok.write mu he k heo new)
theorem Inv.pins_of {pins' : List (Addr × Obj)} (I : Inv X pins σ H s) (h : ∀ p ∈ pins', s.heap.get? p.1 = some p.2 ∧ H p.1 = none ∧ p.1 ≠ X.env.locals ∧ p.1 ∉ X.fs ∧ ∀ v, p.2.data ≠ .cell v) : Inv X pins' σ H s :=
  ⟨I.ok, I.os, I.bare, I.base, I.loc, I.cell, I.free, I.freeC, fun p hp => (List.mem_append.mp hp).elim (fun z => I.pin p (List.mem_append_left _ z)) (h p), I.hok, I.len⟩
theorem nodup_ix {N : List Str} (hN : N.Nodup) {i j : Nat} {x : Str} (a : N[i]? = some x) (b : N[j]? = some x) : i = j := by
  obtain ⟨h1, e1⟩ := List.getElem?_eq_some_iff.mp a
  obtain ⟨h2, e2⟩ := List.getElem?_eq_some_iff.mp b
  exact (List.getElem_inj hN).mp (e1.trans e2.symm)
theorem store_ok2 {M : Model} {A : Around} {E : Value → Shared → Prop} {i : Nat} {x : Str} {v : V} {u : Value} {Q : Unit → Shared → Prop} (I : Inv X pins σ H s) (hN : X.N.Nodup) (hi : X.N[i]? = some x) (hx : Loc X.env.scope x) (r : RelV v u)
    (h : ∀ s', Inv X pins (σ.set i (some v)) H s' → (∃ a, Heap.SameBut a s.heap s'.heap ∧ (a = X.env.locals ∨ X.env.cells.lookup x = some a)) → Q () s') (hf : X.fn x = true ∨ X.env.scope.names.lookup x = some .local := by first | exact .inl rfl | exact .inr rfl | assumption) : wpAny M A (storeName X.env x u) Q E s := by
  obtain ⟨m, hn, hl⟩ := id I.loc
  have hcls : (X.env.scope.kind == .class || (X.env.scope.kind == .module && X.env.locals != X.env.globals)) = false := by rw [I.ok.kind]; rfl
  have hiσ : i < σ.length := by rw [I.len]; exact (List.getElem?_eq_some_iff.mp hi).1
  have cne := I.cne
  have tracked : ∀ {a : Addr} {h' : Heap}, (∃ o, s.heap.get? a = some o ∧ H a = none) → Heap.SameBut a s.heap h' → HOk X.prog X.w H h' := fun {a h'} ha hs b ob e => by
    obtain ⟨_, _, hfree⟩ := ha
    refine (I.hok b ob e).stay (fun c w' hc q => (hs.2 c ?_).trans q) (fun _ q => q) fun _ _ q => q
    rintro rfl
    rcases hc with rfl | hc
    · rw [hfree] at e; cases e
    · rw [hfree] at hc; cases hc
  rcases hx with hk | hk
  · refine wpAny_storeName_local hk hn (fun h' hn' hs => ?_) hcls
    obtain ⟨oL, _, _, hoL, _⟩ := id hn
    refine h _ ⟨I.ok, I.os, I.bare, ⟨fun b o e n hb hx => ?_, fun b o e n hb hx => ?_, I.base.free, fun b o e hx => ?_, I.base.tups, I.base.frzs, I.base.tbls⟩, ⟨_, hn', fun j y v' e1 e2 e3 => ?_⟩, fun y c e => ?_, I.free, I.freeC, fun p hp => ?_, tracked ⟨oL, hoL, I.free⟩ hs, by simpa using I.len⟩ ⟨_, hs, .inl rfl⟩
    · exact (hs.2 b (Nat.ne_of_lt (Nat.lt_of_lt_of_le (Heap.lt_size e) I.ok.above))).trans (I.base.keep b o e n hb hx)
    · obtain ⟨sl, e1⟩ := I.base.slot b o e n hb hx
      exact ⟨sl, (hs.2 b (Nat.ne_of_lt (Nat.lt_of_lt_of_le (Heap.lt_size e) I.ok.above))).trans e1⟩
    · obtain ⟨o', e1⟩ := I.base.there b o e hx
      exact ⟨o', (hs.2 b (Nat.ne_of_lt (Nat.lt_of_lt_of_le (Heap.lt_size e) I.ok.above))).trans e1⟩
    · by_cases hj : j = i
      · subst hj
        rw [hi] at e1; cases e1
        rw [List.getElem?_set_self hiσ] at e2
        cases e2
        exact ⟨u, r, .inl ⟨hk, by simp⟩⟩
      · rw [List.getElem?_set_ne (Ne.symm hj)] at e2
        obtain ⟨u', r', q⟩ := hl j y v' e1 e2 e3
        refine ⟨u', r', ?_⟩
        rcases q with ⟨k, e⟩ | ⟨k, c, e, z⟩
        · refine .inl ⟨k, ?_⟩
          have : y ≠ x := fun e => hj (nodup_ix hN e1 (e ▸ hi))
          simp [this, e]
        · exact .inr ⟨k, c, e, z.sameBut hs (cne y c e)⟩
    · obtain ⟨w', z⟩ := I.cell y c e
      exact ⟨w', z.sameBut hs (cne y c e)⟩
    · obtain ⟨e, n, ne, nf, d⟩ := I.pin p hp
      exact ⟨(hs.2 p.1 ne).trans e, n, ne, nf, d⟩
  · have hfn : X.fn x = true := by
      rcases hf with z | z
      · exact z
      · rw [z] at hk; cases hk
    obtain ⟨c, hc⟩ := I.ok.has x (.inl hk)
    obtain ⟨w', z⟩ := I.cell x c hc
    refine wpAny_storeName_cell I.ok.kind hk hc z (fun h' hc' hs => ?_)
    obtain ⟨oc, hoc, hocd⟩ := id z
    refine h { s with heap := h' } ⟨I.ok, I.os, I.bare, ⟨fun b o e n hb hx => ?_, fun b o e n hb hx => ?_, I.base.free, fun b o e hx => ?_, I.base.tups, I.base.frzs, I.base.tbls⟩, ⟨m, hn.sameBut hs (Ne.symm (cne x c hc)), fun j y v' e1 e2 e3 => ?_⟩, fun y c' e => ?_, I.free, I.freeC, fun p hp => ?_, tracked ⟨oc, hoc, I.freeC x c hc⟩ hs, by simpa using I.len⟩ ⟨c, hs, .inr hc⟩
    · exact (hs.2 b (Nat.ne_of_lt (Nat.lt_of_lt_of_le (Heap.lt_size e) (I.ok.cab x c hfn hc)))).trans (I.base.keep b o e n hb hx)
    · obtain ⟨sl, e1⟩ := I.base.slot b o e n hb hx
      exact ⟨sl, (hs.2 b (Nat.ne_of_lt (Nat.lt_of_lt_of_le (Heap.lt_size e) (I.ok.cab x c hfn hc)))).trans e1⟩
    · obtain ⟨o', e1⟩ := I.base.there b o e hx
      exact ⟨o', (hs.2 b (Nat.ne_of_lt (Nat.lt_of_lt_of_le (Heap.lt_size e) (I.ok.cab x c hfn hc)))).trans e1⟩
    · by_cases hj : j = i
      · subst hj
        rw [hi] at e1; cases e1
        rw [List.getElem?_set_self hiσ] at e2
        cases e2
        exact ⟨u, r, .inr ⟨.inl hk, c, hc, hc'⟩⟩
      · rw [List.getElem?_set_ne (Ne.symm hj)] at e2
        obtain ⟨u', r', q⟩ := hl j y v' e1 e2 e3
        refine ⟨u', r', ?_⟩
        rcases q with q | ⟨k, c', e, z'⟩
        · exact .inl q
        · refine .inr ⟨k, c', e, z'.sameBut hs ?_⟩
          rintro rfl
          exact hj (nodup_ix hN e1 (I.ok.inj _ _ _ e hc ▸ hi))
    · by_cases hcc : c' = c
      · subst hcc; exact ⟨_, hc'⟩
      · obtain ⟨w2, z2⟩ := I.cell y c' e
        exact ⟨w2, z2.sameBut hs hcc⟩
    · obtain ⟨e, n, ne, nf, d⟩ := I.pin p hp
      refine ⟨(hs.2 p.1 ?_).trans e, n, ne, nf, d⟩
      intro q
      rw [q, hoc] at e
      have q' : oc = p.2 := Option.some.inj e
      exact d w' (by rw [← q']; exact hocd)
theorem store_ok {M : Model} {A : Around} {E : Value → Shared → Prop} {i : Nat} {x : Str} {v : V} {u : Value} {Q : Unit → Shared → Prop} (I : Inv X pins σ H s) (hN : X.N.Nodup) (hi : X.N[i]? = some x) (hx : Loc X.env.scope x) (r : RelV v u)
    (h : ∀ s', Inv X pins (σ.set i (some v)) H s' → Q () s') (hf : X.fn x = true ∨ X.env.scope.names.lookup x = some .local := by first | exact .inl rfl | exact .inr rfl | assumption) : wpAny M A (storeName X.env x u) Q E s :=
  store_ok2 I hN hi hx r (fun s' I' _ => h s' I') hf
theorem Inv.call' {s' : Shared} {ch : List Addr} (I : Inv X pins σ H s) (ho : s'.os = s.os) (u : Un (frs X.stack) ch H H' s.heap s'.heap) (hok : HOk X.prog X.w H' s'.heap) (hg : AllBare s'.gens)
    (hch : ∀ b ∈ ch, (b ∈ X.ex ∨ X.s₀.heap.objs.size ≤ b) ∧ b ≠ X.env.locals ∧ (∀ x c, X.env.cells.lookup x = some c → c ≠ b) ∧ ∀ p ∈ X.pn ++ pins, p.1 ≠ b) : Inv X pins σ H' s' := by
  obtain ⟨h', g', d', t', o'⟩ := s'
  have e : o' = s.os := ho
  subst e
  exact I.call (g' := g') (t' := t') (d' := d') u hok hg hch
end
abbrev XK := Value → Option Addr → Hp → Prop
abbrev St := List (Option V)
abbrev VK := V → Hp → Prop
abbrev TE := St → Hp → VK → Prop
abbrev TT := St → Hp → (Bool → Hp → Prop) → Prop
abbrev TA := St → Hp → (List V → Hp → Prop) → Prop
/- what is wanted behind a statement -/
set_option genInjectivity false in
set_option genSizeOfSpec false in
set_option genSizeOf false in
structure Ends where
  nx : St → Hp → Prop
  rt : VK
  bk : St → Hp → Prop := fun _ _ => False
  ct : St → Hp → Prop := fun _ _ => False
abbrev TS := Ends → St → Hp → Prop
def EP (X : Cx) (pins : List (Addr × Obj)) (σ : St) (Q : VK) (u : Value) (s' : Shared) : Prop := ∃ v H', Inv X pins σ H' s' ∧ RelV v u ∧ Q v H'
def TP (X : Cx) (pins : List (Addr × Obj)) (σ : St) (Q : Bool → Hp → Prop) (b : Bool) (s' : Shared) : Prop := ∃ H', Inv X pins σ H' s' ∧ Q b H'
def AP (X : Cx) (pins : List (Addr × Obj)) (σ : St) (Q : List V → Hp → Prop) (us : List Value) (s' : Shared) : Prop := ∃ vs H', Inv X pins σ H' s' ∧ Vals vs us ∧ Q vs H'
def SP (X : Cx) (pins : List (Addr × Obj)) (D : Ends) (f : Flow) (s' : Shared) : Prop :=
  match f with
  | .next => ∃ σ' H', Inv X pins σ' H' s' ∧ D.nx σ' H'
  | .brk => ∃ σ' H', Inv X pins σ' H' s' ∧ D.bk σ' H'
  | .cont => ∃ σ' H', Inv X pins σ' H' s' ∧ D.ct σ' H'
  | .ret u => ∃ v σ' H', Inv X pins σ' H' s' ∧ RelV v u ∧ D.rt v H'
@[irreducible] def PE (X : Cx) (e : Expr) (t : TE) : Prop :=
  ∀ (pins : List (Addr × Obj)) (s : Shared) (σ : St) (H : Hp) (Q : VK), Inv X pins σ H s → t σ H Q → wpAny (model X.prog X.w) X.A (eval e X.env) (EP X pins σ Q) X.xe s
@[irreducible] def PT (X : Cx) (e : Expr) (t : TT) : Prop :=
  ∀ (pins : List (Addr × Obj)) (s : Shared) (σ : St) (H : Hp) (Q : Bool → Hp → Prop), Inv X pins σ H s → t σ H Q → wpAny (model X.prog X.w) X.A (isTrue e X.env (eval e X.env)) (TP X pins σ Q) X.xe s
@[irreducible] def PW (X : Cx) (e : Expr) (t : TT) : Prop :=
  ∀ (whole : Sem Value) (pins : List (Addr × Obj)) (s : Shared) (σ : St) (H : Hp) (Q : Bool → Hp → Prop), Inv X pins σ H s → t σ H Q → wpAny (model X.prog X.w) X.A (isTrue e X.env whole) (TP X pins σ Q) X.xe s
theorem PW.pt {X : Cx} {e : Expr} {t : TT} (h : PW X e t) : PT X e t := by
  first
  | exact (h _)
  | (unfold PT at *; unfold PW at *; exact (h _))
@[irreducible] def PA (X : Cx) (es : List Expr) (t : TA) : Prop :=
  ∀ (pos : Pos) (pins : List (Addr × Obj)) (s : Shared) (σ : St) (H : Hp) (Q : List V → Hp → Prop), Inv X pins σ H s → t σ H Q → wpAny (model X.prog X.w) X.A (spliced (backTo pos (starEach es X.env))) (AP X pins σ Q) X.xe s
@[irreducible] def PS (X : Cx) (st : Stmt) (t : TS) : Prop :=
  ∀ (pins : List (Addr × Obj)) (s : Shared) (σ : St) (H : Hp) (D : Ends), Inv X pins σ H s → t D σ H → wpAny (model X.prog X.w) X.A (exec st X.env) (SP X pins D) X.xe s
@[irreducible] def PSs (X : Cx) (st : List Stmt) (t : TS) : Prop :=
  ∀ (pins : List (Addr × Obj)) (s : Shared) (σ : St) (H : Hp) (D : Ends), Inv X pins σ H s → t D σ H → wpAny (model X.prog X.w) X.A (execs st X.env) (SP X pins D) X.xe s
theorem thn {α : Type} {t : Sem α} {Q Q' : α → Shared → Prop} {M : Model} {A : Around} {E : Value → Shared → Prop} {s : Shared} (h : wpAny M A t Q E s) (hQ : ∀ a s, Q a s → Q' a s) : wpAny M A t Q' E s := wpAny_mono h hQ fun _ _ x => x
end L2
namespace L2
open PySem PySem.Spec PyProof.Rows
section
variable {X : Cx}
def tVar (i : Nat) : TE := fun σ H Q => ∃ v, σ[i]? = some (some v) ∧ Q v H
def tC (v : V) : TE := fun _ H Q => Q v H
theorem pe_var {i : Nat} {x : Str} {pos : Pos} (hN : X.N[i]? = some x) (hv : Vis X.env.scope x) (hd : (x == ("__debug__" : Str)) = false := by decide) (hcd : (x == ("__classdict__" : Str)) = false := by decide) : PE X (.Name x pos) (tVar i) := by
  unfold PE at *
  exact by
    intro pins s σ H Q I h
    obtain ⟨v, e, h⟩ := h
    obtain ⟨m, hn, hl⟩ := I.loc
    obtain ⟨u, r, l⟩ := hl i x v hN e hv
    have fin : EP X pins σ Q u s := ⟨v, H, I, r, h⟩
    rcases l with ⟨hk, hm⟩ | ⟨hk, c, hc, hcell⟩
    · exact wpAny_Name (wpAny_loadName_local I.ok.kind hk hn hm fin) hd
    · rcases hk with hk | hk
      · exact wpAny_Name (wpAny_loadName_cell I.ok.kind hk hc hcell fin) hd
      · exact wpAny_Name (wpAny_loadName_free I.ok.kind hk hc hcell fin hcd) hd
theorem pe_int {i j pos} : PE X (.Constant (.int i) j pos) (tC (.int i)) := by
  first
  | exact (fun _ _ _ H _ I h => wpAny_Constant_int ⟨.int i, H, I.tok _, ⟨_, rfl⟩, h⟩)
  | (unfold PE at *; exact (fun _ _ _ H _ I h => wpAny_Constant_int ⟨.int i, H, I.tok _, ⟨_, rfl⟩, h⟩))
theorem pe_bl {b j pos} : PE X (.Constant (.bool b) j pos) (tC (.bl b)) := by
  first
  | exact (fun _ _ _ H _ I h => Constant_bool ⟨.bl b, H, I, rfl, h⟩)
  | (unfold PE at *; exact (fun _ _ _ H _ I h => Constant_bool ⟨.bl b, H, I, rfl, h⟩))
theorem pe_non {j pos} : PE X (.Constant .none j pos) (tC .non) := by
  first
  | exact (fun _ _ _ H _ I h => Constant_none ⟨.non, H, I, rfl, h⟩)
  | (unfold PE at *; exact (fun _ _ _ H _ I h => Constant_none ⟨.non, H, I, rfl, h⟩))
theorem pe_str {x j pos} : PE X (.Constant (.str x) j pos) (tC (.str x)) := by
  first
  | exact (fun _ _ _ H _ I h => Calls.Constant_str ⟨.str x, H, I.tok _, ⟨_, rfl⟩, h⟩)
  | (unfold PE at *; exact (fun _ _ _ H _ I h => Calls.Constant_str ⟨.str x, H, I.tok _, ⟨_, rfl⟩, h⟩))
def Gl (X : Cx) (x : Str) : Prop := X.env.kindOf x = some .globalImplicit
theorem ld_glob {E : Value → Shared → Prop} {pins : List (Addr × Obj)} {s : Shared} {σ : St} {H : Hp} {x : Str} {u : Value} {pos : Pos} {Q : Value → Shared → Prop} (I : Inv X pins σ H s) (hg : Gl X x) (hm : X.mg x = some u) (h : Q u s)
    (hd : (x == ("__debug__" : Str)) = false := by decide) : wpAny (model X.prog X.w) X.A (eval (.Name x pos) X.env) Q E s :=
  Calls.Name_function_global I.ok.kind hg (Calls.loadGlobal_global (by rw [I.ok.glob]; exact I.mod.glob.keeps I.bk) hm h) hd
theorem ld_blt {E : Value → Shared → Prop} {pins : List (Addr × Obj)} {s : Shared} {σ : St} {H : Hp} {x : Str} {u : Value} {pos : Pos} {Q : Value → Shared → Prop} (I : Inv X pins σ H s) (hg : Gl X x) (hm : X.mg x = none) (hv : bootBuiltins x = some u) (h : Q u s)
    (hn : x ≠ "__name__" := by decide) (hd : (x == ("__debug__" : Str)) = false := by decide) : wpAny (model X.prog X.w) X.A (eval (.Name x pos) X.env) Q E s := by
  obtain ⟨mb, h1, h2⟩ := I.mod.blt
  exact Calls.Name_function_global I.ok.kind hg (Calls.loadGlobal_builtin (by rw [I.ok.glob]; exact I.mod.glob.keeps I.bk) hm (by rw [I.ok.blt]; exact h1.keeps I.bk) ((h2 x hn).trans hv) h) hd
theorem pe_glob {x : Str} {v : V} {u : Value} {pos : Pos} (hg : Gl X x) (hm : X.mg x = some u) (r : RelV v u) (hd : (x == ("__debug__" : Str)) = false := by decide) : PE X (.Name x pos) (tC v) := by
  first
  | exact (fun _ _ _ H _ I h => ld_glob I hg hm ⟨v, H, I, r, h⟩ hd)
  | (unfold PE at *; exact (fun _ _ _ H _ I h => ld_glob I hg hm ⟨v, H, I, r, h⟩ hd))
theorem pe_bltn {x : Str} {v : V} {u : Value} {pos : Pos} (hg : Gl X x) (hm : X.mg x = none) (hv : bootBuiltins x = some u) (r : RelV v u) (hn : x ≠ "__name__" := by decide) (hd : (x == ("__debug__" : Str)) = false := by decide) : PE X (.Name x pos) (tC v) := by
  first
  | exact (fun _ _ _ H _ I h => ld_blt I hg hm hv ⟨v, H, I, r, h⟩ hn hd)
  | (unfold PE at *; exact (fun _ _ _ H _ I h => ld_blt I hg hm hv ⟨v, H, I, r, h⟩ hn hd))
variable {a b : Expr} {ta tb : TE} {pos : Pos}
@[irreducible] def PC (X : Cx) (op : CmpOp) (a b : Expr) (t : TE) : Prop :=
  ∀ (pins : List (Addr × Obj)) (s : Shared) (σ : St) (H : Hp) (Q : VK), Inv X pins σ H s → t σ H Q →
    wpAny (model X.prog X.w) X.A (eval a X.env) (fun v s₁ => wpAny (model X.prog X.w) X.A (eval b X.env) (fun u s₂ => wpAny (model X.prog X.w) X.A (compareOp op v u) (EP X pins σ Q) X.xe s₂) X.xe s₁) X.xe s
theorem nobehind (b : Expr) {op : CmpOp} (h : op ≠ .In) (h2 : op ≠ .NotIn) : behindInMarks op b = false := by
  have e1 : (op == CmpOp.In) = false := by cases op <;> first | rfl | exact absurd rfl h
  have e2 : (op == CmpOp.NotIn) = false := by cases op <;> first | rfl | exact absurd rfl h2
  cases b <;> simp [behindInMarks, e1, e2]
def tIsN (ta : TE) : TE := fun σ H Q => ta σ H fun x H1 => Q (.bl (decide (x = .non))) H1
def tNotN (ta : TE) : TE := fun σ H Q => ta σ H fun x H1 => Q (.bl (!decide (x = .non))) H1
theorem RelV.none_iff {x : V} {v : Value} (r : RelV x v) : (v == Value.none) = decide (x = .non) := by
  cases x with
  | non => cases r; rfl
  | bl _ => cases r; rfl
  | int _ => obtain ⟨t, rfl⟩ := r; rfl
  | str _ => obtain ⟨t, rfl⟩ := r; rfl
  | byt _ => obtain ⟨t, rfl⟩ := r; rfl
  | flt _ => obtain ⟨t, rfl⟩ := r; rfl
  | ref _ => cases r; rfl
  | ty _ => cases r; rfl
theorem pc_isN {j pos'} (ha : PE X a ta) : PC X .Is a (.Constant .none j pos') (tIsN ta) := by
  unfold PE at *; unfold PC at *
  exact by
    intro pins s σ H Q I h
    refine thn (ha pins s σ H _ I h) fun v s1 ⟨x, H1, I1, r1, q1⟩ => ?_
    exact Constant_none (is_none_gen ⟨.bl _, H1, I1, by rw [r1.none_iff]; rfl, q1⟩)
theorem pc_notN {j pos'} (ha : PE X a ta) : PC X .IsNot a (.Constant .none j pos') (tNotN ta) := by
  unfold PE at *; unfold PC at *
  exact by
    intro pins s σ H Q I h
    refine thn (ha pins s σ H _ I h) fun v s1 ⟨x, H1, I1, r1, q1⟩ => ?_
    exact Constant_none (isnot_none_gen ⟨.bl _, H1, I1, by rw [r1.none_iff]; rfl, q1⟩)
def tB (t : TE) : TT := fun σ H Q => t σ H fun x H1 => ∃ c, x = .bl c ∧ Q c H1
theorem pe_cmp {op : CmpOp} {t : TE} (h : PC X op a b t) (h1 : behindInMarks op b = false := by first | exact nobehind _ (by decide) (by decide) | rfl) : PE X (.Compare a [op] [b] pos) t := by
  first
  | exact (fun pins s σ H Q I hw => wpAny_Compare1 (h pins s σ H Q I hw) h1)
  | (unfold PE at *; unfold PC at *; exact (fun pins s σ H Q I hw => wpAny_Compare1 (h pins s σ H Q I hw) h1))
theorem pt_cmp {op : CmpOp} {t : TE} (h : PC X op a b t) (h1 : behindInMarks op b = false := by first | exact nobehind _ (by decide) (by decide) | rfl) : PT X (.Compare a [op] [b] pos) (tB t) := by
  unfold PT at *; unfold PC at *
  exact by
    intro pins s σ H Q I hw
    refine wpAny_isTrue_Compare1 (thn (h pins s σ H _ I hw) fun v s1 h1 => thn h1 fun u s2 h2 => thn h2 fun c s3 ⟨x, H1, I1, r1, q1⟩ => ?_) h1
    obtain ⟨d, rfl, q⟩ := q1
    cases r1
    exact wpAny_truthy_bool ⟨H1, I1, q⟩
theorem pt_val {e : Expr} {t : TE} (h : PE X e t) (he : ∀ whole, isTrue e X.env whole = (do let v ← whole; standAt e.pos; holding [v] (truthy v)) := by intro _; rfl) : PT X e (tB t) := by
  unfold PE at *; unfold PT at *
  exact by
    intro pins s σ H Q I hw
    refine isTrue_plain (thn (h pins s σ H _ I hw) fun v s1 ⟨x, H1, I1, r1, q1⟩ => ?_) (he _)
    obtain ⟨d, rfl, q⟩ := q1
    cases r1
    exact wpAny_truthy_bool ⟨H1, I1, q⟩
variable {tA tB' : TT} {rest : List Expr}
def tAnd (t u : TT) : TT := fun σ H Q => t σ H fun c H1 => if c = true then u σ H1 Q else Q false H1
def tOr (t u : TT) : TT := fun σ H Q => t σ H fun c H1 => if c = true then Q true H1 else u σ H1 Q
def tNot (t : TT) : TT := fun σ H Q => t σ H fun c H1 => Q (!c) H1
theorem pw_and1 (ha : PT X a tA) : PW X (.BoolOp .And [a] pos) tA := by
  unfold PT at *; unfold PW at *
  exact by
    intro wh pins s σ H Q I h
    refine isTrue_and (thn (ha pins s σ H Q I h) fun c s1 e => ?_)
    cases c with
    | true => exact isTrue_and_nil e
    | false => exact e
theorem pw_or1 (ha : PT X a tA) : PW X (.BoolOp .Or [a] pos) tA := by
  unfold PT at *; unfold PW at *
  exact by
    intro wh pins s σ H Q I h
    refine isTrue_or (thn (ha pins s σ H Q I h) fun c s1 e => ?_)
    cases c with
    | false => exact isTrue_or_nil e
    | true => exact e
theorem pw_and (ha : PT X a tA) (hb : PW X (.BoolOp .And (b :: rest) pos) tB') : PW X (.BoolOp .And (a :: b :: rest) pos) (tAnd tA tB') := by
  unfold PT at *; unfold PW at *
  exact by
    intro wh pins s σ H Q I h
    refine isTrue_and (thn (ha pins s σ H _ I h) fun c s1 ⟨H1, I1, q1⟩ => ?_)
    cases c with
    | true => exact hb wh pins s1 σ H1 Q I1 q1
    | false => exact ⟨H1, I1, q1⟩
theorem pw_or (ha : PT X a tA) (hb : PW X (.BoolOp .Or (b :: rest) pos) tB') : PW X (.BoolOp .Or (a :: b :: rest) pos) (tOr tA tB') := by
  unfold PT at *; unfold PW at *
  exact by
    intro wh pins s σ H Q I h
    refine isTrue_or (thn (ha pins s σ H _ I h) fun c s1 ⟨H1, I1, q1⟩ => ?_)
    cases c with
    | true => exact ⟨H1, I1, q1⟩
    | false => exact hb wh pins s1 σ H1 Q I1 q1
theorem pt_not (ha : PT X a tA) : PT X (.UnaryOp .Not a pos) (tNot tA) := by
  unfold PT at *
  exact by
    intro pins s σ H Q I h
    exact isTrue_not (ha pins s σ H (fun c H1 => Q (!c) H1) I h)
def tAndV (ta tb : TE) : TE := fun σ H Q => ta σ H fun x H1 => ∃ c, x = .bl c ∧ if c = true then tb σ H1 Q else Q (.bl false) H1
def tOrV (ta tb : TE) : TE := fun σ H Q => ta σ H fun x H1 => ∃ c, x = .bl c ∧ if c = true then Q (.bl true) H1 else tb σ H1 Q
def tNotV (ta : TE) : TE := fun σ H Q => ta σ H fun x H1 => ∃ c, x = .bl c ∧ Q (.bl (!c)) H1
theorem pe_one {op} {t : TE} (h : PE X a t) : PE X (.BoolOp op [a] pos) t := by
  first
  | exact (fun pins s σ H Q I hw => BoolOp_one (h pins s σ H Q I hw))
  | (unfold PE at *; exact (fun pins s σ H Q I hw => BoolOp_one (h pins s σ H Q I hw)))
theorem pe_and (ha : PE X a ta) (hb : PE X (.BoolOp .And (b :: rest) pos) tb) : PE X (.BoolOp .And (a :: b :: rest) pos) (tAndV ta tb) := by
  unfold PE at *
  exact by
    intro pins s σ H Q I h
    refine BoolOp_and (thn (ha pins s σ H _ I h) fun v s1 ⟨x, H1, I1, r1, q1⟩ => ?_)
    obtain ⟨c, rfl, q1⟩ := q1
    cases r1
    refine wpAny_truthy_bool ?_
    cases c with
    | true => exact hb pins s1 σ H1 Q I1 q1
    | false => exact ⟨.bl false, H1, I1, rfl, q1⟩
theorem pe_or (ha : PE X a ta) (hb : PE X (.BoolOp .Or (b :: rest) pos) tb) : PE X (.BoolOp .Or (a :: b :: rest) pos) (tOrV ta tb) := by
  unfold PE at *
  exact by
    intro pins s σ H Q I h
    refine BoolOp_or (thn (ha pins s σ H _ I h) fun v s1 ⟨x, H1, I1, r1, q1⟩ => ?_)
    obtain ⟨c, rfl, q1⟩ := q1
    cases r1
    refine wpAny_truthy_bool ?_
    cases c with
    | false => exact hb pins s1 σ H1 Q I1 q1
    | true => exact ⟨.bl true, H1, I1, rfl, q1⟩
theorem pe_not (ha : PE X a ta) : PE X (.UnaryOp .Not a pos) (tNotV ta) := by
  unfold PE at *
  exact by
    intro pins s σ H Q I h
    refine UnaryOp_ (thn (ha pins s σ H _ I h) fun v s1 ⟨x, H1, I1, r1, q1⟩ => ?_)
    obtain ⟨c, rfl, q1⟩ := q1
    cases r1
    exact not_of (wpAny_truthy_bool ⟨.bl (!c), H1, I1, rfl, q1⟩)
def tIf (t : TT) (ta tb : TE) : TE := fun σ H Q => t σ H fun c H1 => if c = true then ta σ H1 Q else tb σ H1 Q
theorem pe_ifExp {c : Expr} (hc : PT X c tA) (ha : PE X a ta) (hb : PE X b tb) : PE X (.IfExp c a b pos) (tIf tA ta tb) := by
  unfold PE at *; unfold PT at *
  exact by
    intro pins s σ H Q I h
    refine wpAny_IfExp (thn (hc pins s σ H _ I h) fun d s1 ⟨H1, I1, q1⟩ => ?_)
    cases d with
    | true => exact ha pins s1 σ H1 Q I1 q1
    | false => exact hb pins s1 σ H1 Q I1 q1
end
end L2
namespace L2
open PySem PySem.Spec PyProof.Rows
def SqL (K : PySem.W.Frag) (H : Hp) (a : Addr) (xs : List V) : Prop :=
  Rd H a (.lst xs) ∨
    ∃ (o : Obj) (its : Array Value) (n : Nat), K.lookup a = some o ∧ o.cls = .type "list" ∧ o.dict = none ∧ o.data = .seq its n ∧ its.size ≤ sizeLine ∧ Vals xs its.toList
def SqT (K : PySem.W.Frag) (H : Hp) (a : Addr) (xs : List V) : Prop :=
  Rd H a (.tup xs) ∨
    ∃ (o : Obj) (its : Array Value) (n : Nat), K.lookup a = some o ∧ o.cls = .type "tuple" ∧ o.data = .seq its n ∧ its.size ≤ sizeLine ∧ Vals xs its.toList
def absV : Value → Option V
  | .none => some .non
  | .bool b => some (.bl b)
  | .int i _ => some (.int i)
  | .str x _ => some (.str x)
  | .bytes b _ => some (.byt b)
  | .float b _ => some (.flt b)
  | .ref a => some (.ref a)
  | .type n => some (.ty n)
  | _ => none
theorem RelV.abs {x : V} {u : Value} (r : RelV x u) : absV u = some x := by
  cases x with
  | non => cases r; rfl
  | bl _ => cases r; rfl
  | int _ => obtain ⟨t, rfl⟩ := r; rfl
  | str _ => obtain ⟨t, rfl⟩ := r; rfl
  | byt _ => obtain ⟨t, rfl⟩ := r; rfl
  | flt _ => obtain ⟨t, rfl⟩ := r; rfl
  | ref _ => cases r; rfl
  | ty _ => cases r; rfl
theorem RelV.inj {x y : V} {u : Value} (r : RelV x u) (q : RelV y u) : x = y := Option.some.inj (r.abs.symm.trans q.abs)
theorem Vals.inj : ∀ {xs ys : List V} {us : List Value}, Vals xs us → Vals ys us → xs = ys
  | _, _, _, .nil, .nil => rfl
  | _, _, _, .cons r t, .cons r' t' => by rw [r.inj r', Vals.inj t t']
section
variable {X : Cx} {pins : List (Addr × Obj)} {σ : St} {H : Hp} {s : Shared} {a : Addr} {xs ys : List V}
theorem SqL.of {K : PySem.W.Frag} (h : H a = some (.lst xs)) : SqL K H a xs := .inl (.inl h)
theorem SqT.of {K : PySem.W.Frag} (h : H a = some (.tup xs)) : SqT K H a xs := .inl (.inl h)
theorem Inv.list (I : Inv X pins σ H s) (h : SqL X.K H a xs) : ∃ its : List Value, Vals xs its ∧ PlainL s.heap a its.toArray ∧ xs.length ≤ sizeLine := by
  rcases h with h | ⟨o, its, n, hk, hc, hd, hs, hz, r⟩
  · obtain ⟨z, its, n, r, e⟩ := h.ok I.hok
    exact ⟨its, r, ⟨_, n, e, rfl, rfl, rfl⟩, z⟩
  · refine ⟨its.toList, r, ⟨o, n, I.kIn a o hk, hc, hd, by simpa using hs⟩, ?_⟩
    have e := r.length
    simp only [Array.length_toList] at e
    omega
theorem Inv.tuple (I : Inv X pins σ H s) (h : SqT X.K H a xs) : ∃ its : List Value, Vals xs its ∧ IsTup s.heap a its.toArray ∧ xs.length ≤ sizeLine := by
  rcases h with h | ⟨o, its, n, hk, hc, hs, hz, r⟩
  · obtain ⟨z, its, r, p⟩ := h.ok I.hok
    exact ⟨its, r, p, z⟩
  · refine ⟨its.toList, r, ⟨o, I.kIn a o hk, hc, n, by simpa using hs⟩, ?_⟩
    have e := r.length
    simp only [Array.length_toList] at e
    omega
theorem Inv.list_inj (I : Inv X pins σ H s) (h : SqL X.K H a xs) (h' : SqL X.K H a ys) : xs = ys := by
  obtain ⟨its, r, ⟨o, n, e, _, _, d⟩, _⟩ := I.list h
  obtain ⟨its', r', ⟨o', n', e', _, _, d'⟩, _⟩ := I.list h'
  rw [e] at e'; cases e'
  rw [d] at d'
  injection d' with d1 _
  have : its = its' := by simpa using congrArg Array.toList d1
  subst this
  exact r.inj r'
theorem Inv.tuple_inj (I : Inv X pins σ H s) (h : SqT X.K H a xs) (h' : SqT X.K H a ys) : xs = ys := by
  obtain ⟨its, r, ⟨o, e, _, n, d⟩, _⟩ := I.tuple h
  obtain ⟨its', r', ⟨o', e', _, n', d'⟩, _⟩ := I.tuple h'
  rw [e] at e'; cases e'
  rw [d] at d'
  injection d' with d1 _
  have : its = its' := by simpa using congrArg Array.toList d1
  subst this
  exact r.inj r'
end
abbrev Cx.wish (X : Cx) (E : Value → Shared → Prop) : Cx := { X with xe := E }
abbrev Cx.nox (X : Cx) : Cx := X.wish fun _ _ => False
theorem Cx.Ok.wish {X : Cx} (ok : X.Ok) (E : Value → Shared → Prop) : (X.wish E).Ok :=
  ⟨ok.mod, ok.kind, ok.glob, ok.blt, ok.above, ok.inj, ok.has, ok.cab, ok.hd, ok.frames, ok.stk, ok.exf, ok.bs, ok.bsz, ok.noex, ok.exfs, ok.funs, ok.frf⟩
theorem Cx.Ok.unwish {X : Cx} {E : Value → Shared → Prop} (ok : (X.wish E).Ok) : X.Ok :=
  ⟨ok.mod, ok.kind, ok.glob, ok.blt, ok.above, ok.inj, ok.has, ok.cab, ok.hd, ok.frames, ok.stk, ok.exf, ok.bs, ok.bsz, ok.noex, ok.exfs, ok.funs, ok.frf⟩
section
variable {X : Cx} {pins : List (Addr × Obj)} {σ : St} {H : Hp} {s : Shared} {E : Value → Shared → Prop}
theorem Inv.wish (I : Inv X pins σ H s) (E : Value → Shared → Prop) : Inv (X.wish E) pins σ H s := ⟨I.ok.wish E, I.os, I.bare, I.base, I.loc, I.cell, I.free, I.freeC, I.pin, I.hok, I.len⟩
theorem Inv.unwish (I : Inv (X.wish E) pins σ H s) : Inv X pins σ H s := ⟨I.ok.unwish, I.os, I.bare, I.base, I.loc, I.cell, I.free, I.freeC, I.pin, I.hok, I.len⟩
theorem SP.unwish {D : Ends} {f : Flow} {s' : Shared} (h : SP (X.wish E) pins D f s') : SP X pins D f s' := by
  cases f with
  | next => obtain ⟨σ', H', I, q⟩ := h; exact ⟨σ', H', I.unwish, q⟩
  | brk => obtain ⟨σ', H', I, q⟩ := h; exact ⟨σ', H', I.unwish, q⟩
  | cont => obtain ⟨σ', H', I, q⟩ := h; exact ⟨σ', H', I.unwish, q⟩
  | ret u => obtain ⟨v, σ', H', I, r, q⟩ := h; exact ⟨v, σ', H', I.unwish, r, q⟩
theorem PE.nox {e : Expr} {t : TE} (h : PE X.nox e t) : PE X e t := by
  unfold PE at *
  exact (fun pins s σ H Q I hw =>
    wpAny_mono (h pins s σ H Q (I.wish _) hw) (fun _ _ ⟨v, H', I', r, q⟩ => ⟨v, H', I'.unwish, r, q⟩) fun _ _ z => False.elim z)
theorem PT.nox {e : Expr} {t : TT} (h : PT X.nox e t) : PT X e t := by
  unfold PT at *
  exact (fun pins s σ H Q I hw =>
    wpAny_mono (h pins s σ H Q (I.wish _) hw) (fun _ _ ⟨H', I', q⟩ => ⟨H', I'.unwish, q⟩) fun _ _ z => False.elim z)
theorem PSs.nox {st : List Stmt} {t : TS} (h : PSs X.nox st t) : PSs X st t := by
  unfold PSs at *
  exact (fun pins s σ H D I hw =>
    wpAny_mono (h pins s σ H D (I.wish _) hw) (fun _ _ q => q.unwish) fun _ _ z => False.elim z)
end
section
variable {X : Cx} {st : Stmt} {rest : List Stmt} {t u : TS} {e : Expr} {te : TE} {pos : Pos}
def tNext : TS := fun D σ H => D.nx σ H
def tSeq (t u : TS) : TS := fun D σ H => t { D with nx := u D } σ H
theorem pss_nil : PSs X [] tNext := by
  first
  | exact (fun _ _ σ H _ I h => wpAny_execs_nil ⟨σ, H, I, h⟩)
  | (unfold PSs at *; exact (fun _ _ σ H _ I h => wpAny_execs_nil ⟨σ, H, I, h⟩))
theorem pss_cons (h1 : PS X st t) (h2 : PSs X rest u) : PSs X (st :: rest) (tSeq t u) := by
  unfold PS at *; unfold PSs at *
  exact by
    intro pins s σ H D I h
    refine wpAny_execs_cons (thn (h1 pins s σ H { D with nx := u D } I h) fun f s1 q => ?_)
    cases f with
    | next =>
      obtain ⟨σ', H', I', q⟩ := q
      exact h2 pins s1 σ' H' D I' q
    | ret v => exact q
    | brk => exact q
    | cont => exact q
theorem pss_one (h1 : PS X st t) : PSs X [st] t := by
  unfold PS at *; unfold PSs at *
  exact by
    intro pins s σ H D I h
    refine wpAny_execs_cons (thn (h1 pins s σ H D I h) fun f s1 q => ?_)
    cases f with
    | next => exact wpAny_execs_nil q
    | ret v => exact q
    | brk => exact q
    | cont => exact q
theorem Inv.quiet {pins : List (Addr × Obj)} {σ : St} {H : Hp} {s : Shared} (I : Inv X pins σ H s) : interactive X.env = false := by simp [interactive, I.ok.kind]
def tDrop (te : TE) : TS := fun D σ H => te σ H fun _ H1 => D.nx σ H1
theorem ps_expr (he : PE X e te) (hs : swapsWith e none pos.line X.env = pure false := by rfl) : PS X (.Expr e pos) (tDrop te) := by
  unfold PE at *; unfold PS at *
  exact by
    intro pins s σ H D I h
    exact wpAny_Expr_any (thn (he pins s σ H _ I h) fun v s1 ⟨x, H1, I1, r1, q1⟩ => ⟨σ, H1, I1, q1⟩) I.quiet hs
def tRet (te : TE) : TS := fun D σ H => te σ H D.rt
theorem ps_ret (he : PE X e te) : PS X (.Return (some e) pos) (tRet te) := by
  unfold PE at *; unfold PS at *
  exact by
    intro pins s σ H D I h
    exact wpAny_Return_some (thn (he pins s σ H _ I h) fun v s1 ⟨x, H1, I1, r1, q1⟩ => ⟨x, σ, H1, I1, r1, q1⟩)
def tIfS (c : TT) (t u : TS) : TS := fun D σ H => c σ H fun b H1 => if b = true then t D σ H1 else u D σ H1
theorem ps_if {c : Expr} {a b : List Stmt} {tc : TT} (hc : PT X c tc) (ha : PSs X a t) (hb : PSs X b u) : PS X (.If c a b pos) (tIfS tc t u) := by
  unfold PT at *; unfold PS at *; unfold PSs at *
  exact by
    intro pins s σ H D I h
    refine wpAny_If (thn (hc pins s σ H _ I h) fun d s1 ⟨H1, I1, q1⟩ => ?_)
    cases d with
    | true => exact ha pins s1 σ H1 D I1 q1
    | false => exact hb pins s1 σ H1 D I1 q1
def tNever : TS := fun _ _ _ => False
theorem ps_never : PS X st tNever := by
  first
  | exact (fun _ _ _ _ _ _ h => h.elim)
  | (unfold PS at *; exact (fun _ _ _ _ _ _ h => h.elim))
end
abbrev TG := V → St → Hp → (St → Hp → Prop) → Prop
abbrev TGs := List V → St → Hp → (St → Hp → Prop) → Prop
@[irreducible] def PG (X : Cx) (target : Expr) (t : TG) : Prop :=
  ∀ (pins : List (Addr × Obj)) (s : Shared) (σ : St) (H : Hp) (v : V) (u : Value) (Q : St → Hp → Prop), Inv X pins σ H s → RelV v u → t v σ H Q →
    wpAny (model X.prog X.w) X.A (assign target X.env u) (fun _ s' => ∃ σ' H', Inv X pins σ' H' s' ∧ Q σ' H') X.xe s
@[irreducible] def PGs (X : Cx) (ts : List Expr) (t : TGs) : Prop :=
  ∀ (pins : List (Addr × Obj)) (s : Shared) (σ : St) (H : Hp) (vs : List V) (us : List Value) (Q : St → Hp → Prop), Inv X pins σ H s → Vals vs us → t vs σ H Q →
    wpAny (model X.prog X.w) X.A (assignInOrder ((assignEach ts X.env).map (·.2)) us) (fun _ s' => ∃ σ' H', Inv X pins σ' H' s' ∧ Q σ' H') X.xe s
abbrev TSet := V → V → V → Hp → (Hp → Prop) → Prop
@[irreducible] def PSet (X : Cx) (t : TSet) : Prop :=
  ∀ (pins : List (Addr × Obj)) (s : Shared) (σ : St) (H : Hp) (o i v : V) (ov iv u : Value) (Q : Hp → Prop), Inv X pins σ H s → RelV o ov → RelV i iv → RelV v u → t o i v H Q →
    wpAny (model X.prog X.w) X.A (setItem ov iv u) (fun _ s' => ∃ H', Inv X pins σ H' s' ∧ Q H') X.xe s
section
variable {X : Cx} {pos : Pos}
def gName (i : Nat) : TG := fun v σ H Q => Q (σ.set i (some v)) H
theorem pg_name {i : Nat} {x : Str} (hN : X.N.Nodup) (hi : X.N[i]? = some x) (hx : Loc X.env.scope x) (hf : X.fn x = true ∨ X.env.scope.names.lookup x = some .local := by first | exact .inl rfl | exact .inr rfl | assumption) : PG X (.Name x pos) (gName i) := by
  unfold PG at *
  exact by
    intro pins s σ H v u Q I r h
    exact wpAny_assign_Name (store_ok I hN hi hx r (fun s' I' => ⟨_, H, I', h⟩) hf)
def gNil : TGs := fun vs σ H Q => vs = [] ∧ Q σ H
def gCons (t : TG) (u : TGs) : TGs := fun vs σ H Q => ∃ v r, vs = v :: r ∧ t v σ H fun σ' H' => u r σ' H' Q
theorem pgs_nil : PGs X [] gNil := by
  unfold PGs at *
  exact by
    intro pins s σ H vs us Q I r h
    obtain ⟨e, h⟩ := h
    subst e
    cases r
    exact assignInOrder_nil ⟨σ, H, I, h⟩
theorem pgs_cons {e : Expr} {es : List Expr} {t : TG} {u : TGs} (h1 : PG X e t) (h2 : PGs X es u)
    (hs : (assignEach (e :: es) X.env).map (·.2) = assign e X.env :: (assignEach es X.env).map (·.2) := by rfl) : PGs X (e :: es) (gCons t u) := by
  unfold PG at *; unfold PGs at *
  exact by
    intro pins s σ H vs us Q I r h
    obtain ⟨v, vr, e1, h⟩ := h
    subst e1
    cases r with
    | cons r rr =>
      rw [hs]
      refine assignInOrder_cons (thn (h1 pins s σ H _ _ _ I r h) fun _ s1 ⟨σ1, H1, I1, q1⟩ => ?_)
      exact h2 pins s1 σ1 H1 _ _ Q I1 rr q1
def gTup (K : PySem.W.Frag) (n : Nat) (t : TGs) : TG := fun v σ H Q => ∃ a xs, v = .ref a ∧ SqT K H a xs ∧ xs.length = n ∧ t xs σ H Q
theorem pg_tup {es : List Expr} {k : Nat} {t : TGs} {n : Nat} (hc : X.calm = true) (h : PGs X es t)
    (hn : (assignEach es X.env).length = n := by rfl) (hst : (assignEach es X.env).findIdx? (·.1) = none := by rfl) : PG X (.Tuple es k pos) (gTup X.K n t) := by
  unfold PG at *; unfold PGs at *
  exact by
    intro pins s σ H v u Q I r hw
    obtain ⟨a, xs, e1, hq, hl, hw⟩ := hw
    subst e1
    cases r
    obtain ⟨its, rv, ht, hz⟩ := I.tuple hq
    refine assign_Tuple_tuple (I.ok.hd hc) ht (by simp [hn, ← hl, rv.length]) hst fun h' hx => ?_
    have I1 : Inv X pins σ H { s with heap := h' } := I.kept (t' := s.toks) fun b o e => hx b o (Nat.ne_of_lt (Heap.lt_size e)) e
    exact h pins _ σ H xs _ Q I1 (by simpa using rv) hw
def gSub (to ti : TE) (t : TSet) : TG := fun v σ H Q => to σ H fun o H1 => ti σ H1 fun i H2 => t o i v H2 fun H3 => Q σ H3
theorem pg_sub {o i : Expr} {to ti : TE} {t : TSet} (ho : PE X o to) (hi : PE X i ti) (hs : PSet X t)
    (ha : ∀ v, assign (.Subscript o i pos) X.env v = (do
      let ov ← holding [v] (eval o X.env)
      let iv ← holding [v, ov] (eval i X.env)
      standAt pos
      holding [v, ov, iv] (setItem ov iv v)
      release [v, ov, iv] []) := by intro _; rfl) : PG X (.Subscript o i pos) (gSub to ti t) := by
  unfold PE at *; unfold PG at *; unfold PSet at *
  exact by
    intro pins s σ H v u Q I r h
    rw [ha]
    refine wpAny_bind (wpAny_holding (thn (ho pins s σ H _ I h) fun ov s1 ⟨x, H1, I1, r1, q1⟩ => ?_))
    refine wpAny_bind (wpAny_holding (thn (hi pins s1 σ H1 _ I1 q1) fun iv s2 ⟨y, H2, I2, r2, q2⟩ => ?_))
    refine wpAny_bind (wpAny_standAt (wpAny_bind (wpAny_holding (thn (hs pins s2 σ H2 x y v ov iv u _ I2 r1 r2 r q2) fun _ s3 ⟨H3, I3, q3⟩ => ?_))))
    exact wpAny_release ⟨σ, H3, I3, q3⟩
def tAsg (te : TE) (g : TG) : TS := fun D σ H => te σ H fun x H1 => g x σ H1 D.nx
theorem ps_asg {tg e : Expr} {te : TE} {g : TG} (he : PE X e te) (hg : PG X tg g) (hs : swapsWithSole [tg] e pos.line X.env = pure false := by rfl) (hw : swappedStores [tg] e X.env = pure none := by rfl)
    (h1 : (assignEach [tg] X.env).map (·.2) = [assign tg X.env] := by rfl) : PS X (.Assign [tg] e pos) (tAsg te g) := by
  unfold PE at *; unfold PS at *; unfold PG at *
  exact by
    intro pins s σ H D I h
    refine wpAny_Assign_stores (thn (he pins s σ H _ I h) fun v s1 ⟨x, H1, I1, r1, q1⟩ => ?_) hs hw
    rw [h1]
    exact thn (hg pins s1 σ H1 x v _ I1 r1 q1) fun _ s2 q => q
theorem ps_set {i : Nat} {x : Str} {e : Expr} {te : TE} {pos' : Pos} (hN : X.N.Nodup) (hi : X.N[i]? = some x) (hx : Loc X.env.scope x) (he : PE X e te) (hs : swapsWith e (some (.Name x pos')) pos.line X.env = pure false := by rfl) (hf : X.fn x = true ∨ X.env.scope.names.lookup x = some .local := by first | exact .inl rfl | exact .inr rfl | assumption) :
    PS X (.Assign [.Name x pos'] e pos) (tAsg te (gName i)) := by
  unfold PE at *; unfold PS at *
  exact by
    intro pins s σ H D I h
    refine wpAny_Assign_Name (thn (he pins s σ H _ I h) fun v s1 ⟨y, H1, I1, r1, q1⟩ => ?_) hs
    exact store_ok I1 hN hi hx r1 (fun s2 I2 => ⟨_, H1, I2, q1⟩) hf
end
section
variable {X : Cx} {pos : Pos}
def tWhile (c : TT) (tb : TS) : TS := fun D σ H => ∃ W : Nat → St → Hp → Prop, (∃ m, W m σ H) ∧ ∀ m σ H, W m σ H →
  c σ H fun b H1 => if b = true then ∃ N : St → Hp → Prop, (∀ σ' H', N σ' H' → ∃ m', m' < m ∧ W m' σ' H') ∧ tb { D with nx := N, ct := N, bk := D.nx } σ H1 else D.nx σ H1
theorem ps_while {c : Expr} {body : List Stmt} {tc : TT} {tb : TS} (hp : PassesOwn (model X.prog X.w) X.A X.env X.xe) (hc : PT X c tc) (hb : PSs X body tb) : PS X (.While c body [] pos) (tWhile tc tb) := by
  unfold PT at *; unfold PS at *; unfold PSs at *
  exact by
    intro pins s σ H D I h
    obtain ⟨W, ⟨m0, w0⟩, turn⟩ := h
    refine wpAny_While (codeAny_whileLoop (fun n s' => ∃ σ' H', Inv X pins σ' H' s' ∧ W n σ' H') ?_ m0 ⟨σ, H, I, w0⟩)
    rintro n s1 ⟨σ1, H1, I1, w1⟩
    refine wpAny_passesOwn hp (thn (hc pins s1 σ1 H1 _ I1 (turn n σ1 H1 w1)) fun b s2 ⟨H2, I2, q2⟩ => ?_)
    cases b with
    | true =>
      obtain ⟨N, hN, q2⟩ := q2
      rw [if_pos rfl]
      refine wpAny_passesOwn hp (thn (hb pins s2 σ1 H2 _ I2 q2) fun f s3 q3 => ?_)
      cases f with
      | next =>
        obtain ⟨σ3, H3, I3, n3⟩ := q3
        obtain ⟨m', hm, w3⟩ := hN σ3 H3 n3
        exact ⟨m', hm, σ3, H3, I3, w3⟩
      | cont =>
        obtain ⟨σ3, H3, I3, n3⟩ := q3
        obtain ⟨m', hm, w3⟩ := hN σ3 H3 n3
        exact ⟨m', hm, σ3, H3, I3, w3⟩
      | brk => exact q3
      | ret v => exact q3
    | false =>
      rw [if_neg Bool.false_ne_true]
      exact wpAny_execs_nil ⟨σ1, H2, I2, q2⟩
end
/- at turn i: it yields x (the heap may grow), or it stops -/
set_option genInjectivity false in
set_option genSizeOfSpec false in
set_option genSizeOf false in
structure It where
  go : Nat → Hp → Prop
  yld : Nat → Hp → V → Hp → Prop
  stop : Nat → Hp → Prop
def FpOk (X : Cx) (pins : List (Addr × Obj)) (H : Hp) (b : Addr) : Prop :=
  H b = none ∧ b ≠ X.env.locals ∧ b ∉ X.fs ∧ (b ∈ X.ex ∨ X.s₀.heap.objs.size ≤ b) ∧ (∀ x c, X.env.cells.lookup x = some c → c ≠ b) ∧ ∀ p ∈ X.pn ++ pins, p.1 ≠ b
theorem Inv.fpOk {X : Cx} {pins : List (Addr × Obj)} {σ : St} {H H' : Hp} {s : Shared} {b : Addr} (I : Inv X pins σ H s) (hb : s.heap.objs.size ≤ b) (hn : H' b = none) : FpOk X pins H' b := by
  refine ⟨hn, Nat.ne_of_gt (Nat.lt_of_lt_of_le I.lt hb), I.nofs hb, .inr (Nat.le_trans I.sz hb), fun x c e z => ?_, fun p hp z => ?_⟩
  · obtain ⟨v, q⟩ := I.cell x c e
    exact absurd (Nat.lt_of_lt_of_le q.lt (by rw [z]; exact hb)) (Nat.lt_irrefl _)
  · exact absurd (Nat.lt_of_lt_of_le (Heap.lt_size (I.pin p hp).1) (by rw [z]; exact hb)) (Nat.lt_irrefl _)
structure Turn (P : Program) (w : World) (K : PySem.W.Frag) (tg : Expr) (J : It) (fp : List Addr) (it : Addr) (tn : Nat → Heap → Prop) : Prop where
  mem : it ∈ fp
  obj : ∀ i h, tn i h → ∀ b ∈ fp, ∃ o, h.get? b = some o ∧ ∀ v, o.data ≠ .cell v
  keep : ∀ i h h', tn i h → (∀ b ∈ fp, ∀ o, h.get? b = some o → h'.get? b = some o) → tn i h'
  item : ∀ (X : Cx), X.prog = P → X.w = w → X.K = K → X.calm = true → ∀ (i : Nat) (pins : List (Addr × Obj)) (s : Shared) (σ : St) (H : Hp) (E : Value → Shared → Prop), Inv X pins σ H s → (∀ b ∈ fp, FpOk X pins H b) → tn i s.heap → J.go i H →
    wpAny (model P w) X.A (pyNext (.ref it)) (fun r s1 => ∃ u, r = some u ∧
      wpAny (model P w) X.A (letOwnedTupleGo tg (.ref it) u) (fun _ s2 => ∃ x H', Inv X pins σ H' s2 ∧ RelV x u ∧ J.yld i H x H' ∧ tn (i + 1) s2.heap ∧ ∀ b ∈ fp, H' b = none) E s1) E s
  done : ∀ (X : Cx), X.prog = P → X.w = w → X.K = K → X.calm = true → ∀ (i : Nat) (pins : List (Addr × Obj)) (s : Shared) (σ : St) (H : Hp) (E : Value → Shared → Prop), Inv X pins σ H s → (∀ b ∈ fp, FpOk X pins H b) → tn i s.heap → J.stop i H →
    wpAny (model P w) X.A (pyNext (.ref it)) (fun r s1 => r = none ∧ Inv X pins σ H s1) E s
  self : ∀ (A : Around) (i : Nat) (s : Shared) (Q : Value → Shared → Prop) (E : Value → Shared → Prop), tn i s.heap → Q (.ref it) s → wpAny (model P w) A (pyIter (.ref it)) Q E s
abbrev TI := St → Hp → (It → Hp → Prop) → Prop
def PIE (X : Cx) (pins : List (Addr × Obj)) (σ : St) (tg : Expr) (R : It → Hp → Prop) (itv : Value) (s2 : Shared) : Prop :=
  ∃ (it : Addr) (fp : List Addr) (tn : Nat → Heap → Prop) (J : It) (H' : Hp), itv = .ref it ∧ Inv X pins σ H' s2 ∧ Turn X.prog X.w X.K tg J fp it tn ∧ tn 0 s2.heap ∧ (∀ b ∈ fp, FpOk X pins H' b) ∧ R J H'
@[irreducible] def PI (X : Cx) (tg iter : Expr) (wi : TI) : Prop :=
  ∀ (pins : List (Addr × Obj)) (s : Shared) (σ : St) (H : Hp) (R : It → Hp → Prop), Inv X pins σ H s → wi σ H R →
    wpAny (model X.prog X.w) X.A (eval iter X.env) (fun v s1 => wpAny (model X.prog X.w) X.A (pyIter v) (PIE X pins σ tg R) X.xe s1) X.xe s
theorem go_of {M : Model} {A : Around} {E : Value → Shared → Prop} {s : Shared} {tg : Expr} {it : Addr} {u : Value} {o : Obj} {n : String} {vs : Array Value} {Q : Unit → Shared → Prop} (ho : s.heap.get? it = some o) (hc : o.cls = .type n) (hd : o.data = .fields vs)
    (hn : ["enumerate", "zip", "dict_itemiterator", "dict_reverseitemiterator", "odict_iterator", "itertools.zip_longest", "itertools.pairwise"].contains n = false) (hQ : Q () s) : wpAny M A (letOwnedTupleGo tg (.ref it) u) Q E s := by
  unfold letOwnedTupleGo
  cases tg <;> first
    | exact wpAny_pure hQ
    | (cases u <;> first
        | exact wpAny_pure hQ
        | (refine wpAny_bind (wpAny_load ho ?_)
           rw [hc, hd]
           show wpAny M A (if (["enumerate", "zip", "dict_itemiterator", "dict_reverseitemiterator", "odict_iterator", "itertools.zip_longest", "itertools.pairwise"].contains n && vs[0]? == some (rawInt _)) = true then _ else _) Q E s
           rw [if_neg (by intro h; rw [hn, Bool.false_and] at h; cases h)]
           exact wpAny_pure hQ))
def Itl (K : PySem.W.Frag) (a : Addr) : It :=
  ⟨fun i H => ∃ xs x, SqL K H a xs ∧ xs[i]? = some x, fun i H x H' => H' = H ∧ ∀ xs, SqL K H a xs → xs[i]? = some x, fun i H => ∃ xs, SqL K H a xs ∧ xs.length ≤ i⟩
def Itr (lo : Int) (n : Nat) : It := ⟨fun i _ => i < n, fun i H x H' => H' = H ∧ x = .int (lo + i), fun i _ => n ≤ i⟩
theorem turn_list {P : Program} {w : World} {K : PySem.W.Frag} {tg : Expr} (a it : Addr) : Turn P w K tg (Itl K a) [it] it (fun i h => h.IsListIter it a i) where
  mem := by simp
  obj := fun i h st b hb => by
    have e : b = it := by simpa using hb
    subst e
    obtain ⟨o, e, c, d⟩ := st
    exact ⟨o, e, fun v z => by rw [d] at z; cases z⟩
  keep := fun i h h' st k => st.at fun o e => k it (by simp) o e
  item := by
    intro X hP hw hK hc i pins s σ H E I hf st hg
    subst hP hw hK
    obtain ⟨xs, x, hq, hx⟩ := hg
    obtain ⟨its, rv, p, hz⟩ := I.list hq
    obtain ⟨u, hu, ru⟩ := rv.get hx
    obtain ⟨f0, f1, f2, f3, f4, f5⟩ := hf it (by simp)
    refine wpAny_pyNext_list_item st p.isList (x := u) (by simpa using hu) fun h' st' sb => ?_
    have I1 : Inv X pins σ H { s with heap := h' } := I.turned (t' := s.toks) (fun b o hb e => (sb.2 b hb).trans e) f0 f1 f3 f4 f5
    obtain ⟨o, e, c, d⟩ := id st'
    exact ⟨u, rfl, go_of (s := { s with heap := h' }) e c d (by decide) ⟨x, H, I1, ru, ⟨rfl, fun ys hy => by rw [I.list_inj hy hq]; exact hx⟩, st', fun b hb => (hf b hb).1⟩⟩
  done := by
    intro X hP hw hK hc i pins s σ H E I hf st hg
    subst hP hw hK
    obtain ⟨xs, hq, hx⟩ := hg
    obtain ⟨its, rv, p, hz⟩ := I.list hq
    obtain ⟨f0, f1, f2, f3, f4, f5⟩ := hf it (by simp)
    have hl := rv.length
    exact wpAny_pyNext_list_end (I.ok.hd hc) st p.isList (by simp; omega) fun h' eb => ⟨rfl, I.turned (t' := s.toks) (fun b o hb e => eb b o hb e) f0 f1 f3 f4 f5⟩
  self := fun _ _ _ _ _ st h => wpAny_pyIter_listiter st h
theorem turn_range {P : Program} {w : World} {K : PySem.W.Frag} {tg : Expr} (it : Addr) (lo : Int) (n : Nat) : Turn P w K tg (Itr lo n) [it] it (fun i h => IsRangeIter h it (lo + (i : Nat) * 1) ((n : Int) - (i : Nat)) 1) where
  mem := by simp
  obj := fun i h st b hb => by
    have e : b = it := by simpa using hb
    subst e
    exact ⟨_, st, fun v z => by
      have z' : Data.fields _ = Data.cell v := z
      cases z'⟩
  keep := fun i h h' st k => k it (by simp) _ st
  item := by
    intro X hP hw hK hc i pins s σ H E I hf st hg
    subst hP hw hK
    obtain ⟨f0, f1, f2, f3, f4, f5⟩ := hf it (by simp)
    have W := Walks.range (prog := X.prog) (w := X.w) (I.ok.hd hc) it lo 1 n
    refine W.item i s _ _ hg st fun v h' tk hv st' kk => ?_
    obtain ⟨t, rfl⟩ := hv
    have I1 : Inv X pins σ H { s with heap := h', toks := tk } := I.turned (fun b o hb e => kk b o (by simpa using hb) e) f0 f1 f3 f4 f5
    refine ⟨_, rfl, go_of (s := { s with heap := h', toks := tk }) (n := "range_iterator") st' rfl rfl (by decide) ⟨.int (lo + i), H, I1, ⟨t, ?_⟩, ⟨rfl, rfl⟩, st', fun b hb => (hf b hb).1⟩⟩
    rw [Int.mul_one]
  done := by
    intro X hP hw hK hc i pins s σ H E I hf st hg
    subst hP hw hK
    obtain ⟨f0, f1, f2, f3, f4, f5⟩ := hf it (by simp)
    exact wpAny_pyNext_range_end (I.ok.hd hc) st (by have : n ≤ i := hg; omega) fun h' eb => ⟨rfl, I.turned (t' := s.toks) (fun b o hb e => eb b o hb e) f0 f1 f3 f4 f5⟩
  self := fun _ _ _ _ _ st h => wpAny_pyIter_rangeiter st h
end L2
namespace L2
open PySem PySem.Spec PyProof.Rows
section
variable {X : Cx} {tg : Expr}
def iList (K : PySem.W.Frag) (tl : TE) : TI := fun σ H R => tl σ H fun x H1 => ∃ a, x = .ref a ∧ (∃ xs, SqL K H1 a xs) ∧ R (Itl K a) H1
theorem pi_list {l : Expr} {tl : TE} (hl : PE X l tl) : PI X tg l (iList X.K tl) := by
  unfold PE at *; unfold PI at *
  exact by
    intro pins s σ H R I h
    refine thn (hl pins s σ H _ I h) fun v s1 ⟨x, H1, I1, r1, q1⟩ => ?_
    obtain ⟨a, e, ⟨xs, hq⟩, q⟩ := q1
    subst e
    cases r1
    obtain ⟨its, rv, p, hz⟩ := I1.list hq
    refine wpAny_pyIter_list p.isList ?_
    refine ⟨s1.heap.objs.size, [s1.heap.objs.size], _, _, H1, rfl, I1.kept (t' := s1.toks) fun b o e => Heap.get?_push_of_some _ e, turn_list a _, ⟨_, Heap.get?_push_size _ rfl, rfl, rfl⟩, fun b hb => ?_, q⟩
    have e : b = s1.heap.objs.size := by simpa using hb
    subst e
    exact I1.fpOk (Nat.le_refl _) (I1.hok.fresh (Nat.le_refl _))
theorem range_it {pins : List (Addr × Obj)} {σ : St} {H : Hp} {s : Shared} {R : It → Hp → Prop} {E : Value → Shared → Prop} {lo hi : Int} {t u v : Tok} {tk : Nat} (I : Inv X pins σ H s) (h1 : -(2 ^ 62) ≤ lo) (h2 : lo < 2 ^ 62) (h3 : -(2 ^ 62) ≤ hi) (h4 : hi < 2 ^ 62)
    (q : R (Itr lo (hi - lo).toNat) H) : wpAny (model X.prog X.w) X.A (pyIter (.ref s.heap.objs.size)) (PIE X pins σ tg R) E { s with heap := s.heap.push { cls := .type "range", data := .fields #[.int lo t, .int hi u, .int 1 v] }, toks := tk } := by
  refine wpAny_pyIter_range (IsRange.new ..) (small_one h1 h2 h3 h4) ?_
  have I1 : Inv X pins σ H { s with heap := s.heap.push { cls := .type "range", data := .fields #[.int lo t, .int hi u, .int 1 v] }, toks := tk } := I.kept fun b o e => Heap.get?_push_of_some _ e
  refine ⟨(s.heap.push { cls := .type "range", data := .fields #[.int lo t, .int hi u, .int 1 v] }).objs.size, [(s.heap.push { cls := .type "range", data := .fields #[.int lo t, .int hi u, .int 1 v] }).objs.size], _, _, H, rfl,
    I1.kept (t' := tk) fun b o e => Heap.get?_push_of_some _ e, turn_range _ lo (hi - lo).toNat, ?_, fun b hb => ?_, q⟩
  · have e1 : lo + ((0 : Nat) : Int) * 1 = lo := by simp
    have e2 : (((hi - lo).toNat : Nat) : Int) - ((0 : Nat) : Int) = Builtin.Range.rangeSize lo hi 1 := by rw [rangeSize_one]; split <;> omega
    show IsRangeIter _ _ (lo + ((0 : Nat) : Int) * 1) ((((hi - lo).toNat : Nat) : Int) - ((0 : Nat) : Int)) 1
    rw [e1, e2]
    exact Heap.get?_push_size _ rfl
  · have e : b = (s.heap.push { cls := .type "range", data := .fields #[.int lo t, .int hi u, .int 1 v] }).objs.size := by simpa using hb
    subst e
    exact I1.fpOk (Nat.le_refl _) (I1.hok.fresh (Nat.le_refl _))
def iRng1 (ta : TA) : TI := fun σ H R => ta σ H fun vs H1 => ∃ j : Int, vs = [.int j] ∧ -(2 ^ 62) ≤ j ∧ j < 2 ^ 62 ∧ R (Itr 0 j.toNat) H1
def iRng2 (ta : TA) : TI := fun σ H R => ta σ H fun vs H1 => ∃ i j : Int, vs = [.int i, .int j] ∧ (-(2 ^ 62) ≤ i ∧ i < 2 ^ 62 ∧ -(2 ^ 62) ≤ j ∧ j < 2 ^ 62) ∧ R (Itr i (j - i).toNat) H1
theorem pi_range1 {a : Expr} {ta : TA} {p pos : Pos} (hg : Gl X "range") (hm : X.mg "range" = none) (ha : PA X [a] ta) (hs : starEach [a] X.env = [(false, eval a X.env)] := by rfl) : PI X tg (.Call (.Name "range" p) [a] [] pos) (iRng1 ta) := by
  unfold PA at *; unfold PI at *
  exact by
    intro pins s σ H R I h
    refine Call_ (ld_blt I hg hm boot_range (PyProof.Rows.callWith_type1 (thn (ha pos pins s σ H _ I h) fun us s1 ⟨vs, H1, I1, r1, q1⟩ => ?_) hs rfl))
    obtain ⟨j, e, q1, q2, q⟩ := q1
    subst e
    cases r1 with
    | cons r rr =>
      cases rr
      obtain ⟨t, rfl⟩ := r
      exact call_range_1 (range_it I1 (by omega) (by omega) q1 q2 (by simpa using q))
theorem pi_range2 {a b : Expr} {ta : TA} {p pos : Pos} (hg : Gl X "range") (hm : X.mg "range" = none) (ha : PA X [a, b] ta) (hs : starEach [a, b] X.env = [(false, eval a X.env), (false, eval b X.env)] := by rfl) (hs2 : starEach [b] X.env = [(false, eval b X.env)] := by rfl) :
    PI X tg (.Call (.Name "range" p) [a, b] [] pos) (iRng2 ta) := by
  unfold PA at *; unfold PI at *
  exact by
    intro pins s σ H R I h
    refine Call_ (ld_blt I hg hm boot_range (PyProof.Rows.callWith_type1 (thn (ha pos pins s σ H _ I h) fun us s1 ⟨vs, H1, I1, r1, q1⟩ => ?_) (by rw [hs, hs2]) (by rw [hs2]; rfl)))
    obtain ⟨i, j, e, ⟨q1, q2, q3, q4⟩, q⟩ := q1
    subst e
    cases r1 with
    | cons r rr =>
      cases rr with
      | cons r' rr =>
        cases rr
        obtain ⟨t, rfl⟩ := r
        obtain ⟨t', rfl⟩ := r'
        exact call_range_2 (range_it I1 q1 q2 q3 q4 q)
def tFor (wi : TI) (g : TG) (tb : TS) : TS := fun D σ H => wi σ H fun J H1 => ∃ W : Nat → Nat → St → Hp → Prop, (∃ m, W 0 m σ H1) ∧ ∀ i m σ H, W i m σ H →
  (J.stop i H ∧ D.nx σ H) ∨ (J.go i H ∧ ∃ N : St → Hp → Prop, (∀ σ' H', N σ' H' → ∃ m', m' < m ∧ W (i + 1) m' σ' H') ∧ ∀ x H', J.yld i H x H' → g x σ H' fun σ2 H2 => tb { D with nx := N, ct := N, bk := D.nx } σ2 H2)
def pinsAt (fp : List Addr) (h : Heap) : List (Addr × Obj) := fp.filterMap fun b => (h.get? b).map fun o => (b, o)
theorem mem_pinsAt {fp : List Addr} {h : Heap} {b : Addr} {o : Obj} (hb : b ∈ fp) (e : h.get? b = some o) : (b, o) ∈ pinsAt fp h := List.mem_filterMap.mpr ⟨b, hb, by rw [e]; rfl⟩
theorem of_pinsAt {fp : List Addr} {h : Heap} {p : Addr × Obj} (hp : p ∈ pinsAt fp h) : p.1 ∈ fp ∧ h.get? p.1 = some p.2 := by
  obtain ⟨b, hb, e⟩ := List.mem_filterMap.mp hp
  cases q : h.get? b with
  | none => rw [q] at e; cases e
  | some o =>
    rw [q] at e
    have e' : (b, o) = p := Option.some.inj e
    subst e'
    exact ⟨hb, q⟩
theorem Inv.pinned {pins : List (Addr × Obj)} {σ : St} {H : Hp} {s : Shared} {fp : List Addr} (I : Inv X pins σ H s) (hf : ∀ b ∈ fp, FpOk X pins H b) (ho : ∀ b ∈ fp, ∃ o, s.heap.get? b = some o ∧ ∀ v, o.data ≠ .cell v) : Inv X (pins ++ pinsAt fp s.heap) σ H s :=
  I.pins_of fun p hp => (List.mem_append.mp hp).elim (fun z => I.pin p (List.mem_append_right _ z)) fun z => by
    obtain ⟨hb, e⟩ := of_pinsAt z
    obtain ⟨f0, f1, f2, _⟩ := hf p.1 hb
    obtain ⟨o, e', d⟩ := ho p.1 hb
    rw [e] at e'; cases e'
    exact ⟨e, f0, f1, f2, d⟩
theorem Inv.unpinned {pins pl : List (Addr × Obj)} {σ : St} {H : Hp} {s : Shared} (I : Inv X (pins ++ pl) σ H s) : Inv X pins σ H s := I.pins_of fun p hp => I.pin p (List.mem_append_right _ (List.mem_append_left _ hp))
theorem ps_for {iter : Expr} {body : List Stmt} {wi : TI} {g : TG} {tb : TS} {pos : Pos} (hp : PassesOwn (model X.prog X.w) X.A X.env X.xe) (hc : X.calm = true) (hi : PI X tg iter wi) (hg : PG X tg g) (hb : PSs X body tb)
    (hs : ∀ x, foldedSetIterable iter X.env x = pure x := by intro _; rfl) : PS X (.For tg iter body [] pos) (tFor wi g tb) := by
  unfold PS at *; unfold PSs at *; unfold PG at *; unfold PI at *
  exact by
    intro pins s σ H D I h
    refine wpAny_For (thn (hi pins s σ H _ I h) fun v s1 h1 => thn h1 fun itv s2 h2 => ?_) hs
    obtain ⟨it, fp, tn, J, H2, e, I2, T, st2, f2, W, ⟨m0, w0⟩, turn⟩ := h2
    subst e
    -- what stays true of the iterator's objects through the loop
    have stat : ∀ {H' : Hp}, (∀ b ∈ fp, H' b = none) → ∀ b ∈ fp, FpOk X pins H' b := fun hn b hb => ⟨hn b hb, (f2 b hb).2⟩
    refine codeAny_forLoop_any (fun n s' => ∃ i σ' H', Inv X pins σ' H' s' ∧ tn i s'.heap ∧ (∀ b ∈ fp, H' b = none) ∧ W i n σ' H') ?_ m0 ⟨0, σ, H2, I2, st2, fun b hb => (f2 b hb).1, w0⟩
    rintro n s3 ⟨i, σ3, H3, I3, st3, fr3, w3⟩
    rcases turn i n σ3 H3 w3 with ⟨stop, qn⟩ | ⟨go, N, hN, step⟩
    · refine wpAny_passesOwn hp (thn (T.done X rfl rfl rfl hc i pins s3 σ3 H3 X.xe I3 (stat fr3) st3 stop) fun r s4 ⟨hr, I4⟩ => ?_)
      subst hr
      exact wpAny_execs_nil ⟨σ3, H3, I4, qn⟩
    · refine wpAny_passesOwn hp (thn (T.item X rfl rfl rfl hc i pins s3 σ3 H3 X.xe I3 (stat fr3) st3 go) fun r s4 ⟨u, hr, h4⟩ => ?_)
      subst hr
      refine wpAny_passesOwn hp (thn h4 fun _ s5 ⟨x, H5, I5, r5, y5, st5, fr5⟩ => ?_)
      have I5' := I5.pinned (stat fr5) (T.obj _ _ st5)
      refine wpAny_passesOwn hp (thn (hg _ s5 σ3 H5 x u _ I5' r5 (step x H5 y5)) fun _ s6 ⟨σ6, H6, I6, q6⟩ => ?_)
      refine wpAny_passesOwn hp (thn (hb _ s6 σ6 H6 _ I6 q6) fun f s7 q7 => ?_)
      have again : ∀ {σ7 : St} {H7 : Hp}, Inv X (pins ++ pinsAt fp s5.heap) σ7 H7 s7 → N σ7 H7 → ∃ m, m < n ∧ ∃ i σ' H', Inv X pins σ' H' s7 ∧ tn i s7.heap ∧ (∀ b ∈ fp, H' b = none) ∧ W i m σ' H' := fun {σ7 H7} I7 n7 => by
        obtain ⟨m', hm, w7⟩ := hN σ7 H7 n7
        refine ⟨m', hm, i + 1, σ7, H7, I7.unpinned, T.keep _ _ _ st5 fun b hb o e => (I7.pin (b, o) (List.mem_append_right _ (List.mem_append_right _ (mem_pinsAt hb e)))).1, fun b hb => ?_, w7⟩
        obtain ⟨o, e, d⟩ := T.obj _ _ st5 b hb
        exact (I7.pin (b, o) (List.mem_append_right _ (List.mem_append_right _ (mem_pinsAt hb e)))).2.1
      cases f with
      | next => obtain ⟨σ7, H7, I7, n7⟩ := q7; exact again I7 n7
      | cont => obtain ⟨σ7, H7, I7, n7⟩ := q7; exact again I7 n7
      | brk => obtain ⟨σ7, H7, I7, q7⟩ := q7; exact ⟨σ7, H7, I7.unpinned, q7⟩
      | ret v => obtain ⟨x7, σ7, H7, I7, r7, q7⟩ := q7; exact ⟨x7, σ7, H7, I7.unpinned, r7, q7⟩
end
theorem for_list {K : PySem.W.Frag} {a : Addr} {xs : List V} {g : TG} {tb : TS} {D : Ends} {σ : St} {H : Hp} (Pv : Nat → St → Hp → Prop) (h0 : Pv 0 σ H) (hl : ∀ i σ H, i ≤ xs.length → Pv i σ H → SqL K H a xs)
    (hs : ∀ i x σ H, xs[i]? = some x → Pv i σ H → g x σ H fun σ2 H2 => tb { D with nx := Pv (i + 1), ct := Pv (i + 1), bk := D.nx } σ2 H2) (hd : ∀ σ H, Pv xs.length σ H → D.nx σ H) :
    ∃ W : Nat → Nat → St → Hp → Prop, (∃ m, W 0 m σ H) ∧ ∀ i m σ H, W i m σ H →
      ((Itl K a).stop i H ∧ D.nx σ H) ∨ ((Itl K a).go i H ∧ ∃ N : St → Hp → Prop, (∀ σ' H', N σ' H' → ∃ m', m' < m ∧ W (i + 1) m' σ' H') ∧ ∀ x H', (Itl K a).yld i H x H' → g x σ H' fun σ2 H2 => tb { D with nx := N, ct := N, bk := D.nx } σ2 H2) := by
  refine ⟨fun i m σ H => m = xs.length - i ∧ i ≤ xs.length ∧ Pv i σ H, ⟨xs.length, by simp, Nat.zero_le _, h0⟩, ?_⟩
  rintro i m σ H ⟨rfl, hi, p⟩
  have q := hl i σ H hi p
  by_cases hlt : i < xs.length
  · refine .inr ⟨⟨xs, xs[i], q, by simp [hlt]⟩, Pv (i + 1), fun σ' H' p' => ⟨xs.length - (i + 1), by omega, rfl, hlt, p'⟩, fun x H' y => ?_⟩
    obtain ⟨e, y⟩ := y
    subst e
    exact hs i x σ _ (y xs q) p
  · have e : i = xs.length := by omega
    subst e
    exact .inl ⟨⟨xs, q, Nat.le_refl _⟩, hd σ H p⟩
theorem for_range {lo : Int} {n : Nat} {g : TG} {tb : TS} {D : Ends} {σ : St} {H : Hp} (Pv : Nat → St → Hp → Prop) (h0 : Pv 0 σ H)
    (hs : ∀ i σ H, i < n → Pv i σ H → g (.int (lo + i)) σ H fun σ2 H2 => tb { D with nx := Pv (i + 1), ct := Pv (i + 1), bk := D.nx } σ2 H2) (hd : ∀ σ H, Pv n σ H → D.nx σ H) :
    ∃ W : Nat → Nat → St → Hp → Prop, (∃ m, W 0 m σ H) ∧ ∀ i m σ H, W i m σ H →
      ((Itr lo n).stop i H ∧ D.nx σ H) ∨ ((Itr lo n).go i H ∧ ∃ N : St → Hp → Prop, (∀ σ' H', N σ' H' → ∃ m', m' < m ∧ W (i + 1) m' σ' H') ∧ ∀ x H', (Itr lo n).yld i H x H' → g x σ H' fun σ2 H2 => tb { D with nx := N, ct := N, bk := D.nx } σ2 H2) := by
  refine ⟨fun i m σ H => m = n - i ∧ i ≤ n ∧ Pv i σ H, ⟨n, by simp, Nat.zero_le _, h0⟩, ?_⟩
  rintro i m σ H ⟨rfl, hi, p⟩
  by_cases hlt : i < n
  · refine .inr ⟨hlt, Pv (i + 1), fun σ' H' p' => ⟨n - (i + 1), by omega, rfl, hlt, p'⟩, fun x H' y => ?_⟩
    obtain ⟨e, y⟩ := y
    subst e y
    exact hs i σ _ hlt p
  · have e : i = n := by omega
    subst e
    exact .inl ⟨Nat.le_refl _, hd σ H p⟩
end L2
namespace L2
open PySem PySem.Spec PyProof.Rows
abbrev R2 := V → V → Hp → VK → Prop
@[irreducible] def OpR (X : Cx) (f : Value → Value → Sem Value) (r : R2) : Prop :=
  ∀ (pins : List (Addr × Obj)) (s : Shared) (σ : St) (H : Hp) (x y : V) (v u : Value) (Q : VK), Inv X pins σ H s → RelV x v → RelV y u → r x y H Q →
    wpAny (model X.prog X.w) X.A (f v u) (EP X pins σ Q) X.xe s
@[irreducible] def UnR (X : Cx) (f : Value → Sem Value) (r : V → Hp → VK → Prop) : Prop :=
  ∀ (pins : List (Addr × Obj)) (s : Shared) (σ : St) (H : Hp) (x : V) (v : Value) (Q : VK), Inv X pins σ H s → RelV x v → r x H Q →
    wpAny (model X.prog X.w) X.A (f v) (EP X pins σ Q) X.xe s
@[irreducible] def CallR (X : Cx) (f : Value) (r : List V → Hp → VK → Prop) : Prop :=
  ∀ (pins : List (Addr × Obj)) (s : Shared) (σ : St) (H : Hp) (xs : List V) (us : List Value) (Q : VK), Inv X pins σ H s → Vals xs us → r xs H Q →
    wpAny (model X.prog X.w) X.A (call f us) (EP X pins σ Q) X.xe s
def tOp (r : R2) (ta tb : TE) : TE := fun σ H Q => ta σ H fun x H1 => tb σ H1 fun y H2 => r x y H2 Q
def tUn (r : V → Hp → VK → Prop) (ta : TE) : TE := fun σ H Q => ta σ H fun x H1 => r x H1 Q
def rI (C : Int → Int → Prop) (g : Int → Int → V) : R2 := fun x y H Q => ∃ i j, x = .int i ∧ y = .int j ∧ C i j ∧ Q (g i j) H
def rI0 (g : Int → Int → V) : R2 := fun x y H Q => ∃ i j, x = .int i ∧ y = .int j ∧ Q (g i j) H
def rU (g : Int → V) : V → Hp → VK → Prop := fun x H Q => ∃ i, x = .int i ∧ Q (g i) H
section
variable {X : Cx} {a b c : Expr} {ta tb tc : TE} {pos : Pos}
theorem binT (ha : PE X a ta) (hb : PE X b tb) {pins : List (Addr × Obj)} {s : Shared} {σ : St} {H : Hp} {R : V → V → Hp → Prop} (I : Inv X pins σ H s)
    (h : ta σ H fun x H1 => tb σ H1 fun y H2 => R x y H2) {Q : Value → Shared → Prop} {f : Value → Value → Sem Value}
    (hf : ∀ v u s2 x y H2, Inv X pins σ H2 s2 → RelV x v → RelV y u → R x y H2 → wpAny (model X.prog X.w) X.A (f v u) Q X.xe s2) :
    wpAny (model X.prog X.w) X.A (eval a X.env) (fun v s₁ => wpAny (model X.prog X.w) X.A (eval b X.env) (fun u s₂ => wpAny (model X.prog X.w) X.A (f v u) Q X.xe s₂) X.xe s₁) X.xe s := by
  unfold PE at *
  exact by
    refine thn (ha pins s σ H _ I h) fun v s1 ⟨x, H1, I1, r1, q1⟩ => ?_
    refine thn (hb pins s1 σ H1 _ I1 q1) fun u s2 ⟨y, H2, I2, r2, q2⟩ => ?_
    exact hf v u s2 x y H2 I2 r1 r2 q2
theorem pe_op {op : Operator} {r : R2} (ho : OpR X (binaryOp op) r) (ha : PE X a ta) (hb : PE X b tb) : PE X (.BinOp a op b pos) (tOp r ta tb) := by
  unfold PE; unfold OpR at ho
  exact by
    intro pins s σ H Q I h
    exact wpAny_BinOp (binT ha hb I h fun v u s2 x y H2 I2 rx ry q => ho pins s2 σ H2 x y v u Q I2 rx ry q)
theorem pe_un {op : UnaryOp} {r : V → Hp → VK → Prop} (ho : UnR X (unaryOp op) r) (ha : PE X a ta) : PE X (.UnaryOp op a pos) (tUn r ta) := by
  unfold PE at *; unfold UnR at *
  exact by
    intro pins s σ H Q I h
    exact UnaryOp_ (thn (ha pins s σ H _ I h) fun v s1 ⟨x, H1, I1, r1, q1⟩ => ho pins s1 σ H1 x v Q I1 r1 q1)
theorem opI {f : Value → Value → Sem Value} {C : Int → Int → Prop} {g : Int → Int → Int}
    (rule : ∀ (i j : Int) (t u : Tok) (s : Shared) (Q : Value → Shared → Prop) (E : Value → Shared → Prop), C i j → Q (.int (g i j) s.toks) { s with toks := s.toks + 1 } → wpAny (model X.prog X.w) X.A (f (.int i t) (.int j u)) Q E s) :
    OpR X f (rI C fun i j => .int (g i j)) := by
  unfold OpR at *
  exact by
    intro pins s σ H x y v u Q I rx ry h
    obtain ⟨i, j, rfl, rfl, hc, q⟩ := h
    obtain ⟨t, rfl⟩ := rx
    obtain ⟨t', rfl⟩ := ry
    exact rule i j t t' s _ _ hc ⟨.int (g i j), H, I.tok _, ⟨_, rfl⟩, q⟩
theorem opI0 {f : Value → Value → Sem Value} {g : Int → Int → Int}
    (rule : ∀ (i j : Int) (t u : Tok) (s : Shared) (Q : Value → Shared → Prop) (E : Value → Shared → Prop), Q (.int (g i j) s.toks) { s with toks := s.toks + 1 } → wpAny (model X.prog X.w) X.A (f (.int i t) (.int j u)) Q E s) :
    OpR X f (rI0 fun i j => .int (g i j)) := by
  unfold OpR at *
  exact by
    intro pins s σ H x y v u Q I rx ry h
    obtain ⟨i, j, rfl, rfl, q⟩ := h
    obtain ⟨t, rfl⟩ := rx
    obtain ⟨t', rfl⟩ := ry
    exact rule i j t t' s _ _ ⟨.int (g i j), H, I.tok _, ⟨_, rfl⟩, q⟩
theorem opB0 {f : Value → Value → Sem Value} {g : Int → Int → Bool}
    (rule : ∀ (i j : Int) (t u : Tok) (s : Shared) (Q : Value → Shared → Prop) (E : Value → Shared → Prop), Q (.bool (g i j)) s → wpAny (model X.prog X.w) X.A (f (.int i t) (.int j u)) Q E s) :
    OpR X f (rI0 fun i j => .bl (g i j)) := by
  unfold OpR at *
  exact by
    intro pins s σ H x y v u Q I rx ry h
    obtain ⟨i, j, rfl, rfl, q⟩ := h
    obtain ⟨t, rfl⟩ := rx
    obtain ⟨t', rfl⟩ := ry
    exact rule i j t t' s _ _ ⟨.bl (g i j), H, I, rfl, q⟩
def CDiv (i j : Int) : Prop := 0 < j ∧ j < 1073741824
def CPow (i j : Int) : Prop := 0 ≤ j ∧ j ≤ 1000000 ∧ i.natAbs < 2 ^ 64
def CMul (i j : Int) : Prop := (-(2 ^ 64) < i ∧ i < 2 ^ 64) ∨ (-(2 ^ 64) < j ∧ j < 2 ^ 64)
theorem CMul.ok {i j : Int} (h : CMul i j) : IntMulOk i j := by
  rcases h with ⟨h1, h2⟩ | ⟨h1, h2⟩
  · exact .of_left (intBits_le_64 h1 h2)
  · exact .of_right (intBits_le_64 h1 h2)
theorem op_add : OpR X (binaryOp .Add) (rI0 fun i j => .int (i + j)) := by
  first
  | exact (opI0 fun _ _ _ _ _ _ _ q => add_int q)
  | (unfold OpR at *; exact (opI0 fun _ _ _ _ _ _ _ q => add_int q))
theorem op_sub : OpR X (binaryOp .Sub) (rI0 fun i j => .int (i - j)) := by
  first
  | exact (opI0 fun _ _ _ _ _ _ _ q => sub_int q)
  | (unfold OpR at *; exact (opI0 fun _ _ _ _ _ _ _ q => sub_int q))
theorem op_mul : OpR X (binaryOp .Mult) (rI CMul fun i j => .int (i * j)) := by
  first
  | exact (opI fun _ _ _ _ _ _ _ hc q => mul_int q hc.ok)
  | (unfold OpR at *; exact (opI fun _ _ _ _ _ _ _ hc q => mul_int q hc.ok))
theorem op_fdiv : OpR X (binaryOp .FloorDiv) (rI CDiv fun i j => .int (i / j)) := opI fun i j _ _ _ _ _ hc q => by
  have h1 : (0 : Int) < j := hc.1
  have h2 : j < 1073741824 := hc.2
  exact floordiv_int (by omega) (by rw [Int.fdiv_eq_ediv_of_nonneg i (by omega)]; exact q) (.inl (PyProof.noPylong_small (by omega)))
theorem op_mod : OpR X (binaryOp .Mod) (rI (fun _ j => 0 < j) fun i j => .int (i % j)) := opI fun i j _ _ _ _ _ hc q => by
  have h1 : (0 : Int) < j := hc
  exact mod_int' (by omega) (by rw [Int.fmod_eq_emod_of_nonneg i (by omega)]; exact q)
theorem op_pow : OpR X (binaryOp .Pow) (rI CPow fun i j => .int (i ^ j.toNat)) := by
  first
  | exact (opI fun _ _ _ _ _ _ _ hc q => pow_int_small hc.1 hc.2.1 hc.2.2 q)
  | (unfold OpR at *; exact (opI fun _ _ _ _ _ _ _ hc q => pow_int_small hc.1 hc.2.1 hc.2.2 q))
theorem unI {f : Value → Sem Value} {g : Int → Int}
    (rule : ∀ (i : Int) (t : Tok) (s : Shared) (Q : Value → Shared → Prop) (E : Value → Shared → Prop), Q (.int (g i) s.toks) { s with toks := s.toks + 1 } → wpAny (model X.prog X.w) X.A (f (.int i t)) Q E s) :
    UnR X f (rU fun i => .int (g i)) := by
  unfold UnR at *
  exact by
    intro pins s σ H x v Q I rx h
    obtain ⟨i, rfl, q⟩ := h
    obtain ⟨t, rfl⟩ := rx
    exact rule i t s _ _ ⟨.int (g i), H, I.tok _, ⟨_, rfl⟩, q⟩
theorem un_neg : UnR X (unaryOp .USub) (rU fun i => .int (-i)) := by
  first
  | exact (unI fun _ _ _ _ _ q => neg_int q)
  | (unfold UnR at *; exact (unI fun _ _ _ _ _ q => neg_int q))
end
def scal : V → V → Bool
  | .non, .non => true | .non, .int _ => true | .int _, .non => true | .non, .bl _ => true | .bl _, .non => true | .non, .str _ => true | .str _, .non => true
  | .int _, .int _ => true | .bl _, .bl _ => true | .str _, .str _ => true | .byt _, .byt _ => true
  | .int _, .str _ => true | .str _, .int _ => true | .bl _, .str _ => true | .str _, .bl _ => true
  | _, _ => false
def rEq : R2 := fun x y H Q => scal x y = true ∧ Q (.bl (decide (x = y))) H
def rNe : R2 := fun x y H Q => scal x y = true ∧ Q (.bl (!decide (x = y))) H
theorem dec_int {i j : Int} : decide (V.int i = V.int j) = (i == j) := by
  rw [Bool.eq_iff_iff]
  simp
theorem dec_bl {i j : Bool} : decide (V.bl i = V.bl j) = (i == j) := by
  rw [Bool.eq_iff_iff]
  simp
theorem dec_str {i j : Str} : decide (V.str i = V.str j) = (i == j) := by
  rw [Bool.eq_iff_iff]
  simp
theorem dec_byt {i j : Array UInt8} : decide (V.byt i = V.byt j) = (i.toList == j.toList) := by
  rw [Bool.eq_iff_iff]
  cases i
  cases j
  simp
section
variable {X : Cx} {a b c : Expr} {ta tb tc : TE} {pos : Pos}
theorem fin_bl {pins : List (Addr × Obj)} {σ : St} {H : Hp} {s : Shared} {Q : VK} {k k' : Bool} (I : Inv X pins σ H s) (q : Q (.bl k) H) (e : k = k') : EP X pins σ Q (.bool k') s := by
  subst e
  exact ⟨.bl k, H, I, rfl, q⟩
theorem op_eq : OpR X (compareOp .Eq) rEq := by
  unfold OpR at *
  exact by
    intro pins s σ H x y v u Q I rx ry h
    obtain ⟨hs, q⟩ := h
    cases x with
    | non =>
      cases rx
      cases y with
      | non => cases ry; exact PySem.EqNone.eq_none_none (fin_bl I q (by simp))
      | bl j => cases ry; exact PySem.EqNone.eq_none_bool (fin_bl I q (by simp))
      | int j => obtain ⟨t', rfl⟩ := ry; exact PySem.EqNone.eq_none_int (fin_bl I q (by simp))
      | str j => obtain ⟨t', rfl⟩ := ry; exact PySem.EqNone.eq_none_str (fin_bl I q (by simp))
      | _ => exact absurd (show false = true from hs) Bool.false_ne_true
    | bl i =>
      cases rx
      cases y with
      | non => cases ry; exact PySem.EqNone.eq_bool_none (fin_bl I q (by simp))
      | bl j => cases ry; exact eq_bool (fin_bl I q dec_bl)
      | str j => obtain ⟨t', rfl⟩ := ry; exact PySem.EqMixed.eq_bool_str (fin_bl I q (by simp))
      | _ => exact absurd (show false = true from hs) Bool.false_ne_true
    | int i =>
      obtain ⟨t, rfl⟩ := rx
      cases y with
      | non => cases ry; exact PySem.EqNone.eq_int_none (fin_bl I q (by simp))
      | int j => obtain ⟨t', rfl⟩ := ry; exact eq_int (fin_bl I q dec_int)
      | str j => obtain ⟨t', rfl⟩ := ry; exact PySem.EqMixed.eq_int_str (fin_bl I q (by simp))
      | _ => exact absurd (show false = true from hs) Bool.false_ne_true
    | str i =>
      obtain ⟨t, rfl⟩ := rx
      cases y with
      | non => cases ry; exact PySem.EqNone.eq_str_none (fin_bl I q (by simp))
      | bl j => cases ry; exact PySem.EqMixed.eq_str_bool (fin_bl I q (by simp))
      | int j => obtain ⟨t', rfl⟩ := ry; exact PySem.EqMixed.eq_str_int (fin_bl I q (by simp))
      | str j => obtain ⟨t', rfl⟩ := ry; exact eq_str (fin_bl I q dec_str)
      | _ => exact absurd (show false = true from hs) Bool.false_ne_true
    | byt i =>
      obtain ⟨t, rfl⟩ := rx
      cases y with
      | byt j => obtain ⟨t', rfl⟩ := ry; exact PySem.W.eq_bytes (fin_bl I q dec_byt)
      | _ => exact absurd (show false = true from hs) Bool.false_ne_true
    | _ => cases y <;> exact absurd (show false = true from hs) Bool.false_ne_true
theorem op_ne : OpR X (compareOp .NotEq) rNe := by
  unfold OpR at *
  exact by
    intro pins s σ H x y v u Q I rx ry h
    obtain ⟨hs, q⟩ := h
    cases x with
    | non =>
      cases rx
      cases y with
      | non => cases ry; exact PySem.EqNone.ne_none_none (fin_bl I q (by simp))
      | bl j => cases ry; exact PySem.EqNone.ne_none_bool (fin_bl I q (by simp))
      | int j => obtain ⟨t', rfl⟩ := ry; exact PySem.EqNone.ne_none_int (fin_bl I q (by simp))
      | str j => obtain ⟨t', rfl⟩ := ry; exact PySem.EqNone.ne_none_str (fin_bl I q (by simp))
      | _ => exact absurd (show false = true from hs) Bool.false_ne_true
    | bl i =>
      cases rx
      cases y with
      | non => cases ry; exact PySem.EqNone.ne_bool_none (fin_bl I q (by simp))
      | bl j => cases ry; exact ne_bool (fin_bl I q (congrArg not dec_bl))
      | str j => obtain ⟨t', rfl⟩ := ry; exact PySem.EqMixed.ne_bool_str (fin_bl I q (by simp))
      | _ => exact absurd (show false = true from hs) Bool.false_ne_true
    | int i =>
      obtain ⟨t, rfl⟩ := rx
      cases y with
      | non => cases ry; exact PySem.EqNone.ne_int_none (fin_bl I q (by simp))
      | int j => obtain ⟨t', rfl⟩ := ry; exact ne_int (fin_bl I q (congrArg not dec_int))
      | str j => obtain ⟨t', rfl⟩ := ry; exact PySem.EqMixed.ne_int_str (fin_bl I q (by simp))
      | _ => exact absurd (show false = true from hs) Bool.false_ne_true
    | str i =>
      obtain ⟨t, rfl⟩ := rx
      cases y with
      | non => cases ry; exact PySem.EqNone.ne_str_none (fin_bl I q (by simp))
      | bl j => cases ry; exact PySem.EqMixed.ne_str_bool (fin_bl I q (by simp))
      | int j => obtain ⟨t', rfl⟩ := ry; exact PySem.EqMixed.ne_str_int (fin_bl I q (by simp))
      | str j => obtain ⟨t', rfl⟩ := ry; exact ne_str (fin_bl I q (congrArg not dec_str))
      | _ => exact absurd (show false = true from hs) Bool.false_ne_true
    | byt i =>
      obtain ⟨t, rfl⟩ := rx
      cases y with
      | byt j => obtain ⟨t', rfl⟩ := ry; exact PySem.W.ne_bytes (fin_bl I q (congrArg not dec_byt))
      | _ => exact absurd (show false = true from hs) Bool.false_ne_true
    | _ => cases y <;> exact absurd (show false = true from hs) Bool.false_ne_true
theorem op_lt : OpR X (compareOp .Lt) (rI0 fun i j => .bl (decide (i < j))) := by
  first
  | exact (opB0 fun _ _ _ _ _ _ _ q => lt_int q)
  | (unfold OpR at *; exact (opB0 fun _ _ _ _ _ _ _ q => lt_int q))
theorem op_le : OpR X (compareOp .LtE) (rI0 fun i j => .bl (decide (i ≤ j))) := by
  first
  | exact (opB0 fun _ _ _ _ _ _ _ q => le_int q)
  | (unfold OpR at *; exact (opB0 fun _ _ _ _ _ _ _ q => le_int q))
theorem op_gt : OpR X (compareOp .Gt) (rI0 fun i j => .bl (decide (j < i))) := by
  first
  | exact (opB0 fun _ _ _ _ _ _ _ q => gt_int q)
  | (unfold OpR at *; exact (opB0 fun _ _ _ _ _ _ _ q => gt_int q))
theorem op_ge : OpR X (compareOp .GtE) (rI0 fun i j => .bl (decide (j ≤ i))) := by
  first
  | exact (opB0 fun _ _ _ _ _ _ _ q => ge_int q)
  | (unfold OpR at *; exact (opB0 fun _ _ _ _ _ _ _ q => ge_int q))
theorem OpR.or {f : Value → Value → Sem Value} {r r' : R2} (h : OpR X f r) (h' : OpR X f r') : OpR X f (fun x y H Q => r x y H Q ∨ r' x y H Q) := by
  unfold OpR at *
  exact by
    intro pins s σ H x y v u Q I rx ry q
    rcases q with q | q
    · exact h pins s σ H x y v u Q I rx ry q
    · exact h' pins s σ H x y v u Q I rx ry q
theorem nomark (b : Expr) {op : CmpOp} (h : op ≠ .In := by decide) (h2 : op ≠ .NotIn := by decide) : behindInMarks op b = false := by
  have e1 : (op == CmpOp.In) = false := by cases op <;> first | rfl | exact absurd rfl h
  have e2 : (op == CmpOp.NotIn) = false := by cases op <;> first | rfl | exact absurd rfl h2
  cases b <;> simp [behindInMarks, e1, e2]
theorem pe_cmpR {op : CmpOp} {r : R2} (ho : OpR X (compareOp op) r) (ha : PE X a ta) (hb : PE X b tb) (hm : behindInMarks op b = false) : PE X (.Compare a [op] [b] pos) (tOp r ta tb) := by
  unfold PE; unfold OpR at ho
  exact by
    intro pins s σ H Q I h
    exact wpAny_Compare1 (binT ha hb I h fun v u s2 x y H2 I2 rx ry q => ho pins s2 σ H2 x y v u Q I2 rx ry q) hm
def tTest (t : TE) : TT := fun σ H Q => t σ H fun x H' => ∃ k, x = .bl k ∧ Q k H'
theorem pt_cmpR {op : CmpOp} {r : R2} (ho : OpR X (compareOp op) r) (ha : PE X a ta) (hb : PE X b tb) (hm : behindInMarks op b = false) : PT X (.Compare a [op] [b] pos) (tTest (tOp r ta tb)) := by
  unfold PE at *; unfold PT at *; unfold OpR at *
  exact by
    intro pins s σ H Q I h
    refine wpAny_isTrue_Compare1 (thn (ha pins s σ H _ I h) fun v s1 ⟨x, H1, I1, r1, q1⟩ => thn (hb pins s1 σ H1 _ I1 q1) fun u s2 ⟨y, H2, I2, r2, q2⟩ =>
      thn (ho pins s2 σ H2 x y v u _ I2 r1 r2 q2) fun c s3 ⟨z, H3, I3, r3, k, e, q3⟩ => ?_) hm
    subst e
    cases r3
    exact wpAny_truthy_bool ⟨H3, I3, q3⟩
def tChain (r r' : R2) (ta tb tc : TE) : TE := fun σ H Q => ta σ H fun x H1 => tb σ H1 fun y H2 => r x y H2 fun z H3 => ∃ k, z = .bl k ∧
  (if k = true then tc σ H3 fun w' H4 => r' y w' H4 Q else Q (.bl false) H3)
theorem pe_chain {op op' : CmpOp} {r r' : R2} (ho : OpR X (compareOp op) r) (ho' : OpR X (compareOp op') r') (ha : PE X a ta) (hb : PE X b tb) (hc : PE X c tc)
    (hm : lastMarks [op, op'] [b, c] = false := by with_unfolding_all rfl) : PE X (.Compare a [op, op'] [b, c] pos) (tChain r r' ta tb tc) := by
  unfold PE at *; unfold OpR at *
  exact by
    intro pins s σ H Q I h
    refine Compare_chain (thn (ha pins s σ H _ I h) fun v s1 ⟨x, H1, I1, r1, q1⟩ => chain_link (thn (hb pins s1 σ H1 _ I1 q1) fun u s2 ⟨y, H2, I2, r2, q2⟩ =>
      thn (ho pins s2 σ H2 x y v u _ I2 r1 r2 q2) fun d s3 ⟨z, H3, I3, r3, k, e, q3⟩ => ?_)) hm
    subst e
    cases r3
    refine wpAny_truthy_bool ?_
    cases k with
    | false => exact ite_ff ⟨.bl false, H3, I3, rfl, q3⟩
    | true => exact ite_tt (chain_last (thn (hc pins s3 σ H3 _ I3 q3) fun w' s4 ⟨z', H4, I4, r4, q4⟩ => ho' pins s4 σ H4 y z' u w' Q I4 r2 r4 q4))
theorem pt_chain {op op' : CmpOp} {r r' : R2} (ho : OpR X (compareOp op) r) (ho' : OpR X (compareOp op') r') (ha : PE X a ta) (hb : PE X b tb) (hc : PE X c tc)
    (hm : lastMarks [op, op'] [b, c] = false := by with_unfolding_all rfl) : PT X (.Compare a [op, op'] [b, c] pos) (tTest (tChain r r' ta tb tc)) := by
  unfold PE at *; unfold PT at *; unfold OpR at *
  exact by
    intro pins s σ H Q I h
    refine isTrue_chain (thn (ha pins s σ H _ I h) fun v s1 ⟨x, H1, I1, r1, q1⟩ => test_link (thn (hb pins s1 σ H1 _ I1 q1) fun u s2 ⟨y, H2, I2, r2, q2⟩ =>
      thn (ho pins s2 σ H2 x y v u _ I2 r1 r2 q2) fun d s3 ⟨z, H3, I3, r3, k, e, q3⟩ => ?_)) hm
    subst e
    cases r3
    refine wpAny_truthy_bool ?_
    cases k with
    | false =>
      obtain ⟨k', e', q'⟩ := q3
      cases e'
      exact ite_ff ⟨H3, I3, q'⟩
    | true =>
      refine ite_tt (test_last (thn (hc pins s3 σ H3 _ I3 q3) fun w' s4 ⟨z', H4, I4, r4, q4⟩ => thn (ho' pins s4 σ H4 y z' u w' _ I4 r2 r4 q4) fun d' s5 ⟨z2, H5, I5, r5, k2, e2, q5⟩ => ?_))
      subst e2
      cases r5
      exact wpAny_truthy_bool ⟨H5, I5, q5⟩
theorem line63 : (sizeLine : Nat) < 2 ^ 63 := by rw [sizeLine_eq]; decide
theorem op_add_str : OpR X (binaryOp .Add) (fun x y H Q => ∃ i j, x = .str i ∧ y = .str j ∧ i.length + j.length ≤ sizeLine ∧ Q (.str (i ++ j)) H) := by
  unfold OpR at *
  exact by
    intro pins s σ H x y v u Q I rx ry h
    obtain ⟨i, j, rfl, rfl, hz, q⟩ := h
    obtain ⟨t, rfl⟩ := rx
    obtain ⟨t', rfl⟩ := ry
    exact add_str (fun t' tk => ⟨.str (i ++ j), H, I.tok _, ⟨_, rfl⟩, q⟩) hz
theorem vals1 {x : V} {us : List Value} (r : Vals [x] us) : ∃ u, us = [u] ∧ RelV x u := by
  cases r with
  | cons r1 r2 => cases r2; exact ⟨_, rfl, r1⟩
theorem vals2 {x y : V} {us : List Value} (r : Vals [x, y] us) : ∃ u w', us = [u, w'] ∧ RelV x u ∧ RelV y w' := by
  cases r with
  | cons r1 r2 =>
    cases r2 with
    | cons r3 r4 => cases r4; exact ⟨_, _, rfl, r1, r3⟩
theorem call_min2 (hc : X.calm = true) : CallR X (.builtin "min") (fun xs H Q => ∃ i j, xs = [.int i, .int j] ∧ Q (.int (if j < i then j else i)) H) := by
  unfold CallR at *
  exact by
    intro pins s σ H xs us Q I r h
    obtain ⟨i, j, rfl, q⟩ := h
    obtain ⟨u, w', rfl, ⟨t, rfl⟩, ⟨t', rfl⟩⟩ := vals2 r
    refine min_two_ints (I.ok.hd hc) fun h' tk k => ⟨_, H, I.kept k, ?_, q⟩
    by_cases hj : j < i
    · rw [if_pos hj, if_pos hj]; exact ⟨_, rfl⟩
    · rw [if_neg hj, if_neg hj]; exact ⟨_, rfl⟩
theorem call_int1 : CallR X (.type "int") (fun xs H Q => (∃ i, xs = [.int i] ∧ Q (.int i) H) ∨ ∃ k, xs = [.bl k] ∧ Q (.int (if k then 1 else 0)) H) := by
  unfold CallR at *
  exact by
    intro pins s σ H xs us Q I r h
    rcases h with ⟨i, rfl, q⟩ | ⟨k, rfl, q⟩
    · obtain ⟨u, rfl, t, rfl⟩ := vals1 r
      exact call_int_int ⟨.int i, H, I, ⟨_, rfl⟩, q⟩
    · obtain ⟨u, rfl, r1⟩ := vals1 r
      cases r1
      exact call_int_bool ⟨.int (if k then 1 else 0), H, I.tok _, ⟨_, rfl⟩, q⟩
end
end L2
namespace L2
open PySem PySem.Spec PyProof.Rows
structure ObjM (h : Heap) (x dx C : Addr) (mA : Str → Option Value) : Prop where
  obj : h.get? x = some (PySem.W.instObj C dx)
  ns : h.Ns1 dx mA
  ne : dx ≠ x
theorem lookIn_ns {h : Heap} {dx : Addr} {mA : Str → Option Value} (n : h.Ns1 dx mA) : ∃ od, h.get? dx = some od ∧ ∀ name, PySem.W.lookIn name od = some (mA name) := by
  obtain ⟨o, es, ep, ho, hd, hk, _, hm⟩ := n
  refine ⟨o, ho, fun name => ?_⟩
  have e := hm name
  unfold nsFind findBy at e
  rw [← Array.find?_toList] at e
  unfold PySem.W.lookIn
  rw [hd]
  dsimp only
  split
  · rename_i y q
    rw [q] at e
    exact congrArg some e
  · rename_i q
    rw [q] at e
    have a : es.toList.any (·.refKey) = false := by
      rw [List.any_eq_false]
      intro y hy
      obtain ⟨z, t, hkey⟩ := hk y (Array.mem_toList_iff.mp hy)
      simp [DictEntry.refKey, hkey]
    have a' : ¬ es.toList.any (·.refKey) = true := by rw [a]; exact Bool.false_ne_true
    rw [if_neg a']
    exact congrArg some e
theorem ObjM.look {h : Heap} {x dx C : Addr} {mA : Str → Option Value} (I : ObjM h x dx C mA) : ∃ od, PySem.W.InstAt h x (PySem.W.instObj C dx) C (some od) ∧ ∀ name, PySem.W.lookIn name od = some (mA name) :=
  let ⟨od, ho, hl⟩ := lookIn_ns I.ns
  ⟨od, ⟨I.obj, rfl, rfl, ho⟩, hl⟩
section
variable {prog : Program} {w : World} {A : Around} {E : Value → Shared → Prop} {s : Shared} {K : PySem.W.Frag} {x dx C f : Addr} {mA : Str → Option Value} {name : Str} {v : Value}
theorem get_map {expr : Bool} {Q : Value → Shared → Prop} (X : K.In s.heap) (I : ObjM s.heap x dx C mA) (hg : PySem.W.plainGet K C name = true) (hh : PySem.W.hasDictIn K C = true)
    (ha : PySem.W.findIn K (.ref C) name = some none) (hv : mA name = some v) (hv' : PySem.W.handedIn v = true) (h : Q v { s with toks := s.toks + 1 }) :
    wpAny (model prog w) A (getAttr (.ref x) name expr) Q E s := by
  obtain ⟨od, J, hl⟩ := I.look
  exact PySem.W.get_value X J (PySem.W.plainGet_of hg).1 (PySem.W.findObj_own hh ha rfl (by rw [hl, hv])) hv' h
theorem get_meth {pl : Sem Bool} {Q : Value × List Value → Shared → Prop} (X : K.In s.heap) (I : ObjM s.heap x dx C mA) (hg : PySem.W.plainGet K C name = true)
    (hf : PySem.W.findIn K (.ref C) name = some (some (.ref f))) (ht : PySem.W.isFn K (.ref f) = true) (hv : mA name = none) (h : Q (.ref f, [.ref x]) s) :
    wpAny (model prog w) A (getMethod (.ref x) name pl) Q E s := by
  obtain ⟨od, J, hl⟩ := I.look
  exact PySem.W.method_fn X J (PySem.W.plainGet_of hg).1 (PySem.W.plainGet_of hg).2 hf (beq_iff_eq.mp ht) (by show (PySem.W.lookIn name od).map (·.isSome) = some false; rw [hl, hv]; rfl) h
theorem set_map {ns : List Str} {Q : Unit → Shared → Prop} (X : K.In s.heap) (I : ObjM s.heap x dx C mA)
    (hs : PySem.W.findIn K (.ref C) "__setattr__" = some (some (.builtin "object.__setattr__"))) (hp : PySem.W.plainOver K C = true) (ht : PySem.W.takerIn K C name = some none) (hh : PySem.W.hasDictIn K C = true)
    (hw : PySem.Within mA ns) (hsz : ns.length ≤ sizeLine)
    (h : ∀ h', ObjM h' x dx C (fun y => if y = name then some v else mA y) → Heap.SameBut dx s.heap h' → Q () { s with heap := h', toks := s.toks + 2 }) :
    wpAny (model prog w) A (setAttr (.ref x) name v) Q E s := by
  obtain ⟨od, J, hl⟩ := I.look
  refine PySem.W.set_plain X J hs (PySem.W.osa_open (s := { s with toks := s.toks + 1 }) (r := none) X J hp ht fun b => ?_)
  obtain ⟨cd, hc, hd'⟩ := PySem.W.any_some hh
  have hx : s.heap.get? x = some ⟨.ref C, some dx, .plain, #[]⟩ := I.obj
  refine wpAny_bind (wpAny_pure (wpAny_bind (wpAny_bind (wpAny_loadPart hx (wpAny_bind (PySem.W.Looks.here (s := { s with toks := s.toks + 1 }) (PySem.W.looks_clsIn X hc) ?_))))))
  rw [hd']
  refine wpAny_pure (a := some dx) (wpAny_bind (wpAny_pure (wpAny_bind ?_)))
  refine wpAny_nsSet1 (s := { s with toks := s.toks + 1 }) I.ns fun h' hn2 hs2 => ?_
  obtain ⟨oD, esD, epD, hoD, hdD, hcD⟩ := hn2.count (PySem.Within.cons name v hw)
  refine wpAny_bind (wpAny_lookBehind hoD (by rw [hdD]; exact pastItsLine_dict (Nat.le_trans hcD (by rw [List.length_cons]; omega))) ?_)
  exact wpAny_pure (h _ ⟨(hs2.2 _ (Ne.symm I.ne)).trans I.obj, hn2, I.ne⟩ hs2)
theorem make_map {R : Result → Shared → Prop} {vs : List Value} {kw : List (Str × Value)} (X : K.In s.heap) (hm : PySem.W.makesIn K C = true)
    (hi : PySem.W.findIn K (.ref C) "__init__" = some (some (.ref f))) (hf : PySem.W.typeIn K (.ref f) = some (.type "function"))
    (h : codeAny (model prog w) (A.under (.builtin "type.__call__" ⟨.ref C :: vs, kw⟩)) (.call (.ref f) ⟨.ref (s.heap.objs.size + 1) :: vs, kw⟩) (PySem.W.InitBack (s.heap.objs.size + 1) R)
      { s with heap := (s.heap.push PySem.W.emptyDict).push (PySem.W.instObj C s.heap.objs.size) }) :
    codeAny (model prog w) A (.call (.ref C) ⟨vs, kw⟩) R s := by
  obtain ⟨hh, g, d, t, os⟩ := s
  exact PySem.W.make_core (PySem.W.makes_of X hm) (PySem.W.looks_findIn X hi) (fun self => PySem.W.bind_fn X self hf) (.inl rfl) h
end
def putF (f : Str) (v : V) : List (Str × V) → List (Str × V)
  | [] => [(f, v)]
  | (g, x) :: r => if g = f then (g, v) :: r else (g, x) :: putF f v r
theorem lookup_putF (f g : Str) (v : V) : ∀ fs : List (Str × V), (putF f v fs).lookup g = if g = f then some v else fs.lookup g
  | [] => by
    show List.lookup g [(f, v)] = _
    by_cases h : g = f
    · have hb : (g == f) = true := beq_iff_eq.mpr h
      simp only [List.lookup, hb, if_pos h]
    · have hb : (g == f) = false := beq_eq_false_iff_ne.mpr h
      simp only [List.lookup, hb, if_neg h]
  | (k, x) :: r => by
    have ih := lookup_putF f g v r
    rw [show putF f v ((k, x) :: r) = (if k = f then (k, v) :: r else (k, x) :: putF f v r) from rfl]
    by_cases hk : k = f
    · rw [if_pos hk]
      by_cases h : g = k
      · have hb : (g == k) = true := beq_iff_eq.mpr h
        simp only [List.lookup, hb, if_pos (h.trans hk)]
      · have hb : (g == k) = false := beq_eq_false_iff_ne.mpr h
        simp only [List.lookup, hb, if_neg (fun e : g = f => h (e.trans hk.symm))]
    · rw [if_neg hk]
      by_cases h : g = k
      · have hb : (g == k) = true := beq_iff_eq.mpr h
        simp only [List.lookup, hb, if_neg (fun e : g = f => hk (h.symm.trans e))]
      · have hb : (g == k) = false := beq_eq_false_iff_ne.mpr h
        simp only [List.lookup, hb]
        exact ih
theorem keys_putF (f : Str) (v : V) : ∀ fs : List (Str × V), f ∈ (putF f v fs).map (·.1) ∧ ∀ g, g ∈ fs.map (·.1) → g ∈ (putF f v fs).map (·.1)
  | [] => ⟨by simp [putF], fun g h => by simp at h⟩
  | (k, x) :: r => by
    obtain ⟨i1, i2⟩ := keys_putF f v r
    rw [show putF f v ((k, x) :: r) = (if k = f then (k, v) :: r else (k, x) :: putF f v r) from rfl]
    by_cases hk : k = f
    · rw [if_pos hk]
      subst hk
      exact ⟨by simp, fun g h => by simpa using h⟩
    · rw [if_neg hk]
      refine ⟨?_, fun g h => ?_⟩
      · rw [List.map_cons]
        exact List.mem_cons_of_mem _ i1
      · rw [List.map_cons] at h ⊢
        rcases List.mem_cons.mp h with e | e
        · exact List.mem_cons.mpr (.inl e)
        · exact List.mem_cons_of_mem _ (i2 g e)
theorem length_putF (f : Str) (v : V) : ∀ fs : List (Str × V), (putF f v fs).length ≤ fs.length + 1
  | [] => by simp [putF]
  | (k, x) :: r => by
    have ih := length_putF f v r
    rw [show putF f v ((k, x) :: r) = (if k = f then (k, v) :: r else (k, x) :: putF f v r) from rfl]
    by_cases hk : k = f
    · rw [if_pos hk, List.length_cons, List.length_cons]; omega
    · rw [if_neg hk, List.length_cons, List.length_cons]; omega
theorem RelO.some_of {v : V} {o : Option Value} (r : RelO (some v) o) : ∃ u, o = some u ∧ RelV v u := by
  cases o with
  | none => exact (show False from r).elim
  | some u => exact ⟨u, rfl, r⟩
theorem RelO.none_of {o : Option Value} (r : RelO none o) : o = none := by
  cases o with
  | none => rfl
  | some u => exact (show False from r).elim
theorem handed_of {v : V} {u : Value} (r : RelV v u) : PySem.W.handedIn u = true := by
  cases v with
  | non => cases (show u = Value.none from r); rfl
  | bl b => cases (show u = Value.bool b from r); rfl
  | int i => obtain ⟨t, e⟩ := (show ∃ t, u = Value.int i t from r); cases e; rfl
  | str x => obtain ⟨t, e⟩ := (show ∃ t, u = Value.str x t from r); cases e; rfl
  | byt b => obtain ⟨t, e⟩ := (show ∃ t, u = Value.bytes b t from r); cases e; rfl
  | flt b => obtain ⟨t, e⟩ := (show ∃ t, u = Value.float b t from r); cases e; rfl
  | ref a => cases (show u = Value.ref a from r); rfl
  | ty n => cases (show u = Value.type n from r); rfl
section
variable {P : Program} {w : World} {H H' : Hp} {h h' : Heap} {a C dx : Addr} {fs fs' : List (Str × V)}
theorem ins_get (hok : HOk P w H h) (e : H a = some (.ins C dx fs)) : ∃ mA, ObjM h a dx C mA ∧ (∀ f, RelO (fs.lookup f) (mA f)) ∧ PySem.Within mA (fs.map (·.1)) ∧ fs.length ≤ 1000 ∧ H dx = some (.own a) := by
  obtain ⟨d, z, ne, ob, mA, n, r, q⟩ := (show ObjOk P w H h a (.ins C dx fs) from hok a _ e)
  exact ⟨mA, ⟨ob, n, ne⟩, r, q, z, d⟩
end
structure Cls (K : PySem.W.Frag) (C : Addr) : Prop where
  pg : PySem.W.plainGet K C Str.empty = true
  hd : PySem.W.hasDictIn K C = true
  po : PySem.W.plainOver K C = true
  sa : PySem.W.findIn K (.ref C) "__setattr__" = some (some (.builtin "object.__setattr__"))
theorem Cls.get {K : PySem.W.Frag} {C : Addr} (c : Cls K C) (f : Str) : PySem.W.plainGet K C f = true := c.pg
def NoAttr (K : PySem.W.Frag) (C : Addr) (f : Str) : Prop := PySem.W.findIn K (.ref C) f = some none
theorem NoAttr.taker {K : PySem.W.Frag} {C : Addr} {f : Str} (n : NoAttr K C f) : PySem.W.takerIn K C f = some none := by
  unfold PySem.W.takerIn
  rw [show PySem.W.findIn K (.ref C) f = some none from n]
  rfl
structure Meth (K : PySem.W.Frag) (C : Addr) (m : Str) (f : Addr) : Prop where
  at_ : PySem.W.findIn K (.ref C) m = some (some (.ref f))
  fn : PySem.W.isFn K (.ref f) = true
  kp : PySem.W.keepIn K (.ref f) = true
section
variable {X : Cx} {pins : List (Addr × Obj)} {σ : St} {H : Hp} {s : Shared} {a C dx : Addr} {fs : List (Str × V)} {f : Str} {v : V} {A : Around} {E : Value → Shared → Prop}
theorem getattr_ok {b : Bool} {Q : Value → Shared → Prop} (I : Inv X pins σ H s) (e : H a = some (.ins C dx fs)) (c : Cls X.K C) (n : NoAttr X.K C f) (l : fs.lookup f = some v)
    (h : ∀ u s', Inv X pins σ H s' → RelV v u → Q u s') : wpAny (model X.prog X.w) A (getAttr (.ref a) f b) Q E s := by
  obtain ⟨mA, O, r, _, _, _⟩ := ins_get I.hok e
  obtain ⟨u, hu, ru⟩ := RelO.some_of (v := v) (o := mA f) (by rw [← l]; exact r f)
  exact get_map I.kIn O (c.get f) c.hd n hu (handed_of ru) (h u _ (I.tok _) ru)
theorem getmeth_ok {m : Str} {g : Addr} {pl : Sem Bool} {Q : Value × List Value → Shared → Prop} (I : Inv X pins σ H s) (e : H a = some (.ins C dx fs)) (c : Cls X.K C) (k : Meth X.K C m g) (l : fs.lookup m = none)
    (h : Q (.ref g, [.ref a]) s) : wpAny (model X.prog X.w) A (getMethod (.ref a) m pl) Q E s := by
  obtain ⟨mA, O, r, _, _, _⟩ := ins_get I.hok e
  have hn : mA m = none := RelO.none_of (by rw [← l]; exact r m)
  exact get_meth I.kIn O (c.get m) k.at_ k.fn hn h
theorem setattr_ok {y : V} {u : Value} {Q : Unit → Shared → Prop} (I : Inv X pins σ H s) (e : H a = some (.ins C dx fs)) (c : Cls X.K C) (n : NoAttr X.K C f) (hl : fs.length < 1000) (ry : RelV y u)
    (h : ∀ s', Inv X pins σ (upd H a (.ins C dx (putF f y fs))) s' → Q () s') : wpAny (model X.prog X.w) A (setAttr (.ref a) f u) Q E s := by
  obtain ⟨mA, O, r, wi, _, ho⟩ := ins_get I.hok e
  have hz : (fs.map (·.1)).length ≤ sizeLine := by rw [List.length_map, sizeLine_eq]; omega
  refine set_map I.kIn O c.sa c.po n.taker c.hd wi hz fun h' O' sb => h _ ?_
  have hd : ∃ o, h'.get? dx = some o := let ⟨o, _, _, e', _⟩ := O'.ns; ⟨o, e'⟩
  refine I.write (x := a) (e := dx) (by rw [e]; exact True.intro) (.inr ho) (fun b q hb z => (sb.2 b hb).trans z) hd ?_
  refine ⟨by rw [upd_ne O.ne]; exact ho, ?_, O.ne, O'.obj, _, O'.ns, fun g => ?_, fun g hg => ?_⟩
  · have := length_putF f y fs; omega
  · show RelO ((putF f y fs).lookup g) (if g = f then some u else mA g)
    rw [lookup_putF]
    by_cases q : g = f
    · rw [if_pos q, if_pos q]; exact ry
    · rw [if_neg q, if_neg q]; exact r g
  · by_cases q : g = f
    · rw [q]; exact (keys_putF f y fs).1
    · refine (keys_putF f y fs).2 g (wi g fun z => hg ?_)
      show (if g = f then some u else mA g) = none
      rw [if_neg q]; exact z
theorem Inv.made (I : Inv X pins σ H s) : Inv X pins σ (upd (upd H s.heap.objs.size (.own (s.heap.objs.size + 1))) (s.heap.objs.size + 1) (.ins C s.heap.objs.size []))
    { s with heap := (s.heap.push PySem.W.emptyDict).push (PySem.W.instObj C s.heap.objs.size) } := by
  have e1 : (s.heap.push PySem.W.emptyDict).get? s.heap.objs.size = some PySem.W.emptyDict := Heap.get?_push_size s.heap rfl
  have e2 : ((s.heap.push PySem.W.emptyDict).push (PySem.W.instObj C s.heap.objs.size)).get? (s.heap.objs.size + 1) = some (PySem.W.instObj C s.heap.objs.size) := by
    have := Heap.get?_push_size (s.heap.push PySem.W.emptyDict) (o := PySem.W.instObj C s.heap.objs.size) rfl
    rwa [Heap.size_push] at this
  have e3 : (s.heap.push PySem.W.emptyDict).Ns s.heap.objs.size (fun _ => none) := ⟨PySem.W.emptyDict, #[], _, e1, rfl, (fun e he => absurd he (by simp)), fun _ => rfl⟩
  have I1 := I.laid (a := s.heap.objs.size) (o := .own (s.heap.objs.size + 1)) (h' := s.heap.push PySem.W.emptyDict) (t' := s.toks) (fun b u q => Heap.get?_push_of_some _ q) (Nat.le_refl _) ⟨_, e1⟩
  refine I1.laid (a := s.heap.objs.size + 1) (o := .ins C s.heap.objs.size []) (t' := s.toks) (fun b u q => Heap.get?_push_of_some _ q) (Nat.le_of_eq (Heap.size_push _ _)) ?_
  have ne : s.heap.objs.size ≠ s.heap.objs.size + 1 := Nat.ne_of_lt (Nat.lt_succ_self _)
  refine ⟨by rw [upd_ne ne, upd_same], Nat.zero_le _, ne, e2, fun _ => none, (Heap.Ns1.of_empty e3).at fun o q => Heap.get?_push_of_some _ q, fun _ => True.intro, fun y hy => absurd rfl hy⟩
theorem attr_of {prog : Program} {w : World} {env : Env} {e : Expr} {f : Str} {pos : Pos} {s : Shared} {Q : Value → Shared → Prop} (hb : attributeBase e f env (eval e env) = eval e env)
    (h : wpAny (model prog w) A (eval e env) (fun o s₁ => wpAny (model prog w) A (getAttr o f true) Q E s₁) E s) : wpAny (model prog w) A (eval (.Attribute e f pos) env) Q E s :=
  Attribute_any_ h (by rw [arm_eval_Attribute, hb])
end
def tFld (K : PySem.W.Frag) (ta : TE) (f : Str) : TE := fun σ H Q => ta σ H fun x H1 => ∃ a C dx fs v, x = .ref a ∧ H1 a = some (.ins C dx fs) ∧ Cls K C ∧ NoAttr K C f ∧ fs.lookup f = some v ∧ Q v H1
def sFld (K : PySem.W.Frag) (ta tv : TE) (f : Str) : TS := fun D σ H => tv σ H fun y H1 => ta σ H1 fun x H2 => ∃ a C dx fs, x = .ref a ∧ H2 a = some (.ins C dx fs) ∧ Cls K C ∧ NoAttr K C f ∧ fs.length < 1000 ∧
  D.nx σ (upd H2 a (.ins C dx (putF f y fs)))
section
variable {X : Cx} {o e value : Expr} {f : Str} {pos pos' tpos : Pos} {ta tv : TE}
theorem pe_fld (he : PE X e ta) (hb : attributeBase e f X.env (eval e X.env) = eval e X.env) : PE X (.Attribute e f pos) (tFld X.K ta f) := by
  unfold PE at *
  exact by
    intro pins s σ H Q I h
    refine attr_of hb (thn (he pins s σ H _ I h) fun u s1 ⟨x, H1, I1, rx, a, C, dx, fs, v, ex, ea, c, n, l, q⟩ => ?_)
    subst ex
    obtain rfl : u = Value.ref a := rx
    exact getattr_ok I1 ea c n l fun u' s2 I2 ru => ⟨v, H1, I2, ru, q⟩
theorem ps_fld (ha : PE X o ta) (hv : PE X value tv) (hs : swapsWith value (some (.Attribute o f pos')) pos.line X.env = pure false) : PS X (.Assign [.Attribute o f pos'] value pos) (sFld X.K ta tv f) := by
  unfold PE at *; unfold PS at *
  exact by
    intro pins s σ H D I h
    refine plainObj_wpAny_Assign_Attribute (thn (hv pins s σ H _ I h) fun u s1 ⟨y, H1, I1, ry, q⟩ => thn (ha pins s1 σ H1 _ I1 q) fun ov s2 ⟨x, H2, I2, rx, a, C, dx, fs, ex, ea, c, n, l, q2⟩ => ?_) hs
    subst ex
    obtain rfl : ov = Value.ref a := rx
    exact setattr_ok I2 ea c n l ry fun s3 I3 => ⟨σ, _, I3, q2⟩
end
section
variable {X : Cx} {pins : List (Addr × Obj)} {σ : St} {H : Hp} {s : Shared} {A : Around} {E : Value → Shared → Prop} {Q : Value → Shared → Prop} {c : Value} {b : Bool}
inductive TyOf (K : PySem.W.Frag) (H : Hp) : V → Value → Prop where
  | non : TyOf K H .non (.type "NoneType")
  | bl (x : Bool) : TyOf K H (.bl x) (.type "bool")
  | int (i : Int) : TyOf K H (.int i) (.type "int")
  | str (x : Str) : TyOf K H (.str x) (.type "str")
  | flt (x : UInt64) : TyOf K H (.flt x) (.type "float")
  | lst {a : Addr} {xs : List V} (e : H a = some (.lst xs)) : TyOf K H (.ref a) (.type "list")
  | frz {a : Addr} {o : Obj} {xs : List V} (e : H a = some (.frz o (.lst xs))) : TyOf K H (.ref a) (.type "list")
  | tup {a : Addr} {xs : List V} (e : H a = some (.tup xs)) : TyOf K H (.ref a) (.type "tuple")
  | dK {a : Addr} {kvs : List (Key × V)} (e : H a = some (.dK kvs)) : TyOf K H (.ref a) (.type "dict")
  | dT {a : Addr} {kvs : List (List Key × V)} (e : H a = some (.dT kvs)) : TyOf K H (.ref a) (.type "dict")
  | ins {a C dx : Addr} {fs : List (Str × V)} (e : H a = some (.ins C dx fs)) (cl : Cls K C) (ha : PySem.W.findIn K (.ref C) "__class__" = some (some (.builtin "object.__class__")))
      (hn : PySem.W.specialIn K (.builtin "object.__class__") "__get__" = some (some (.builtin "getset_descriptor.__get__"))) (htk : PySem.W.takesIn K (.builtin "object.__class__") = some true)
      (hm : PySem.W.mroIn K C (.type "object") = some true) : TyOf K H (.ref a) (.ref C)
theorem isinst_ok {x : V} {u t : Value} (I : Inv X pins σ H s) (rx : RelV x u) (ty : TyOf X.K H x t) (e : PySem.W.kitOne X.K t c = some b) (h : ∀ tk, Q (.bool b) { s with toks := tk }) :
    wpAny (model X.prog X.w) A (call (.builtin "isinstance") [u, c]) Q E s := by
  cases ty with
  | non => cases (show u = Value.none from rx); exact PySem.W.kia_one PySem.W.kitx_none I.kIn True.intro e (fun z => nomatch z) h
  | bl y => cases (show u = Value.bool y from rx); exact PySem.W.kia_one PySem.W.kitx_bool I.kIn True.intro e (fun z => nomatch z) h
  | int i => obtain ⟨t, q⟩ := (show ∃ t, u = Value.int i t from rx); cases q; exact PySem.W.kia_one PySem.W.kitx_int I.kIn True.intro e (fun z => nomatch z) h
  | str y => obtain ⟨t, q⟩ := (show ∃ t, u = Value.str y t from rx); cases q; exact PySem.W.kia_one PySem.W.kitx_str I.kIn True.intro e (fun z => nomatch z) h
  | flt y => obtain ⟨t, q⟩ := (show ∃ t, u = Value.float y t from rx); cases q; exact PySem.W.kia_one PySem.W.kitx_float I.kIn True.intro e (fun z => nomatch z) h
  | @lst a xs ea =>
    cases (show u = Value.ref a from rx)
    obtain ⟨_, _, n, _, h1⟩ := (show ObjOk X.prog X.w H s.heap a (.lst xs) from I.hok a _ ea)
    exact PySem.W.kia_one PySem.W.kitx_list I.kIn ⟨_, h1, rfl⟩ e (fun z => nomatch z) h
  | @frz a ob xs ea =>
    cases (show u = Value.ref a from rx)
    obtain ⟨_, _, _, n, _, h1⟩ := (show ObjOk X.prog X.w H s.heap a (.frz ob (.lst xs)) from I.hok a _ ea)
    exact PySem.W.kia_one PySem.W.kitx_list I.kIn ⟨_, h1, rfl⟩ e (fun z => nomatch z) h
  | @tup a xs ea =>
    cases (show u = Value.ref a from rx)
    obtain ⟨_, _, _, p⟩ := (show ObjOk X.prog X.w H s.heap a (.tup xs) from I.hok a _ ea)
    obtain ⟨o, h1, h2, _⟩ := p
    exact PySem.W.kia_one PySem.W.kitx_tuple I.kIn ⟨o, h1, h2⟩ e (fun z => nomatch z) h
  | @dK a kvs ea =>
    cases (show u = Value.ref a from rx)
    obtain ⟨_, _, vs, _, p⟩ := (show ObjOk X.prog X.w H s.heap a (.dK kvs) from I.hok a _ ea)
    obtain ⟨o, es, ep, h1, h2, _⟩ := p
    exact PySem.W.kia_one PySem.W.kitx_dict I.kIn ⟨o, h1, h2.1⟩ e (fun z => nomatch z) h
  | @dT a kvs ea =>
    cases (show u = Value.ref a from rx)
    obtain ⟨_, _, xs, _, o, es, ep, h1, h2, _⟩ := (show ObjOk X.prog X.w H s.heap a (.dT kvs) from I.hok a _ ea)
    exact PySem.W.kia_one PySem.W.kitx_dict I.kIn ⟨o, h1, h2.1⟩ e (fun z => nomatch z) h
  | @ins a C dx fs ea cl ha hn htk hm =>
    cases (show u = Value.ref a from rx)
    obtain ⟨mA, O, _⟩ := ins_get I.hok ea
    obtain ⟨od, J, _⟩ := O.look
    exact PySem.W.kia_one (PySem.W.kitx_own (cl.get _) cl.hd ha hn htk hm) I.kIn J e (fun z => nomatch z) h
end
end L2
namespace L2
open PySem PySem.Spec PyProof.Rows
structure Room (k : Nat) (A : Around) : Prop where
  hd : A.handled = none
  dp : A.depth + 3 * k + 5 < recursionLimit
  un : A.units + 16 * k + 200 < cLine
theorem Room.mono {j k : Nat} {A : Around} (r : Room k A) (h : j ≤ k) : Room j A := ⟨r.hd, by have := r.dp; omega, by have := r.un; omega⟩
theorem Room.deeper {k : Nat} {A : Around} (r : Room (k + 1) A) (env : Env) : Room k (A.deeper env) :=
  ⟨r.hd, by have := r.dp; show A.depth + 1 + 3 * k + 5 < _; omega, by have := r.un; show A.units + 3 + 16 * k + 200 < _; omega⟩
theorem Room.in1 {k : Nat} {A : Around} (r : Room (k + 1) A) : Room k A.in1 :=
  ⟨r.hd, by have := r.dp; show A.depth + 3 * k + 5 < _; omega, by have := r.un; show A.units + 1 + 16 * k + 200 < _; omega⟩
theorem make_depth {A : Around} {C : Addr} {us : List Value} {kw : List (Str × Value)} : (A.under (.builtin "type.__call__" ⟨.ref C :: us, kw⟩)).depth = A.depth + 1 := by
  first | rfl | simp [Around.under, Code.weight, Code.isCreation, Code.isGuard, Code.isCaller, Code.frames, Code.isFrame, guardIds]
theorem make_units {A : Around} {C : Addr} {us : List Value} {kw : List (Str × Value)} : (A.under (.builtin "type.__call__" ⟨.ref C :: us, kw⟩)).units = A.units + 1 := by
  first | rfl | simp [Around.under, Code.cUnits, Code.frames, Code.isFrame]
theorem Room.make {k : Nat} {A : Around} (r : Room (k + 1) A) (C : Addr) (us : List Value) (kw : List (Str × Value)) : Room k (A.under (.builtin "type.__call__" ⟨.ref C :: us, kw⟩)) :=
  ⟨r.hd, by have := r.dp; rw [make_depth]; omega, by have := r.un; rw [make_units]; omega⟩
theorem Room.depth {k : Nat} {A : Around} (r : Room k A) : A.depth < recursionLimit := by have := r.dp; omega
theorem Room.units {k : Nat} {A : Around} (r : Room k A) : A.units + 64 < cLine := by have := r.un; omega
theorem Room.units0 {k : Nat} {A : Around} (r : Room k A) : A.units < cLine := by have := r.un; omega
def tNil : TA := fun _ H Q => Q [] H
def tCons (ta : TE) (tr : TA) : TA := fun σ H Q => ta σ H fun x H1 => tr σ H1 fun xs H2 => Q (x :: xs) H2
section
variable {X : Cx} {e : Expr} {es : List Expr} {te : TE} {t : TA} {pos : Pos}
theorem pa_nil : PA X [] tNil := by
  first
  | exact (fun _ _ _ _ H Q I h => Calls.spliced_nil ⟨[], H, I, .nil, h⟩)
  | (unfold PA at *; exact (fun _ _ _ _ H Q I h => Calls.spliced_nil ⟨[], H, I, .nil, h⟩))
theorem pa_cons (ha : PE X e te) (hr : PA X es t) (hs : starEach (e :: es) X.env = (false, eval e X.env) :: starEach es X.env := by rfl) : PA X (e :: es) (tCons te t) := by
  unfold PE at *; unfold PA at *
  exact by
    intro pos pins s σ H Q I h
    rw [hs]
    show wpAny _ _ (spliced ((false, eval e X.env) :: backTo pos (starEach es X.env))) _ _ s
    refine Calls.spliced_cons (thn (ha pins s σ H _ I h) fun u s1 ⟨x, H1, I1, r1, q1⟩ => ?_)
    exact thn (hr pos pins s1 σ H1 _ I1 q1) fun us s2 ⟨xs, H2, I2, r2, q2⟩ => ⟨x :: xs, H2, I2, .cons r1 r2, q2⟩
def tTup (t : TA) : TE := fun σ H Q => t σ H fun xs H1 => xs.length ≤ sizeLine ∧ ∀ p, H1 p = none → Q (.ref p) (upd H1 p (.tup xs))
def tLst (t : TA) : TE := fun σ H Q => t σ H fun xs H1 => xs.length ≤ sizeLine ∧ ∀ p, H1 p = none → Q (.ref p) (upd H1 p (.lst xs))
theorem pe_tup {x1} (h : PA X es t) : PE X (.Tuple es x1 pos) (tTup t) := by
  unfold PE at *; unfold PA at *
  exact by
    intro pins s σ H Q I hq
    refine wpAny_Tuple_spliced (thn (h pos pins s σ H _ I hq) fun us s1 ⟨xs, H1, I1, r, z, q⟩ => ⟨by rw [← r.length]; exact z, ?_⟩)
    have hf : H1 s1.heap.objs.size = none := I1.hok.fresh (Nat.le_refl _)
    refine ⟨.ref s1.heap.objs.size, upd H1 s1.heap.objs.size (.tup xs), I1.laid (t' := s1.toks) (fun b u e => Heap.get?_push_of_some _ e) (Nat.le_refl _) ?_, rfl, q _ hf⟩
    exact ⟨z, us, r, ⟨_, Heap.get?_push_size _ rfl, rfl, _, rfl⟩⟩
theorem pe_lst (h : PA X es t) : PE X (.List es pos) (tLst t) := by
  unfold PE at *; unfold PA at *
  exact by
    intro pins s σ H Q I hq
    refine wpAny_List_spliced (thn (h pos pins s σ H _ I hq) fun us s1 ⟨xs, H1, I1, r, z, q⟩ => ⟨by rw [← r.length]; exact z, ?_⟩)
    have hf : H1 s1.heap.objs.size = none := I1.hok.fresh (Nat.le_refl _)
    refine ⟨.ref s1.heap.objs.size, upd H1 s1.heap.objs.size (.lst xs), I1.laid (t' := s1.toks) (fun b u e => Heap.get?_push_of_some _ e) (Nat.le_refl _) ?_, rfl, q _ hf⟩
    exact ⟨z, us, 0, r, Heap.get?_push_size _ rfl⟩
end
abbrev Sp := List V → Hp → VK → XK → Prop
abbrev CXT := List Env → Hp → Shared → XK → Value → Shared → Prop
structure Env0 (P : Program) (w : World) (K : PySem.W.Frag) (mg : Str → Option Value) (base : Heap) (A : Around) (outer : List Env) (s : Shared) (H : Hp) : Prop where
  frames : A.frames = some outer
  mod : Mod K mg base
  bs : ∀ b o, base.get? b = some o → s.heap.get? b = some o ∧ H b = none
  bsz : base.objs.size ≤ s.heap.objs.size
  funs : s.heap.FunFrames base outer
  frf : ∀ b ∈ frs outer, H b = none
  hok : HOk P w H s.heap
  bare : AllBare s.gens
def CE (outer : List Env) (P : Program) (w : World) (H : Hp) (s : Shared) (Q : VK) (u : Value) (s' : Shared) : Prop :=
  ∃ v H', s'.os = s.os ∧ AllBare s'.gens ∧ Un (frs outer) [] H H' s.heap s'.heap ∧ HOk P w H' s'.heap ∧ RelV v u ∧ Q v H'
def CR (CX : CXT) (outer : List Env) (P : Program) (w : World) (H : Hp) (s : Shared) (Q : VK) (E : XK) (r : Result) (s' : Shared) : Prop :=
  match r with
  | .ok (.ret u) => CE outer P w H s Q u s'
  | .ok _ => False
  | .error e => CX outer H s E e s'
structure FnOk (P : Program) (w : World) (K : PySem.W.Frag) (mg : Str → Option Value) (base : Heap) (CX : CXT) (k : Nat) (f : Addr) (fd : FuncData) (ps : List Str) (sp : Sp) : Prop where
  len : ∀ vs H Q E, sp vs H Q E → vs.length = ps.length
  run : ∀ (A : Around) (outer : List Env) (s : Shared) (H : Hp) (args : Args) (us : List Value) (vs : List V) (Q : VK) (E : XK), Room k A → Env0 P w K mg base A outer s H → BindsTo s fd args (ps.zip us) → Vals vs us → sp vs H Q E →
    codeAny (model P w) A (.call (.ref f) args) (CR CX outer P w H s Q E) s
theorem FnOk.mono {P : Program} {w : World} {K : PySem.W.Frag} {mg : Str → Option Value} {base : Heap} {CX : CXT} {j k : Nat} {f : Addr} {fd : FuncData} {ps : List Str} {sp : Sp} (F : FnOk P w K mg base CX j f fd ps sp) (h : j ≤ k) :
    FnOk P w K mg base CX k f fd ps sp := ⟨F.len, fun A outer s H args us vs Q E hr => F.run A outer s H args us vs Q E (hr.mono h)⟩
theorem FnOk.imp {P : Program} {w : World} {K : PySem.W.Frag} {mg : Str → Option Value} {base : Heap} {CX : CXT} {k : Nat} {f : Addr} {fd : FuncData} {ps : List Str} {sp sp' : Sp} (F : FnOk P w K mg base CX k f fd ps sp)
    (h : ∀ vs H Q E, sp' vs H Q E → sp vs H Q E) : FnOk P w K mg base CX k f fd ps sp' :=
  ⟨fun vs H Q E q => F.len vs H Q E (h _ _ _ _ q), fun A outer s H args us vs Q E hr he hb hv hs => F.run A outer s H args us vs Q E hr he hb hv (h _ _ _ _ hs)⟩
theorem Env0.make {P : Program} {w : World} {K : PySem.W.Frag} {mg : Str → Option Value} {base : Heap} {A : Around} {outer : List Env} {s : Shared} {H : Hp} (e : Env0 P w K mg base A outer s H) (C : Addr) (us : List Value) (kw : List (Str × Value)) :
    Env0 P w K mg base (A.under (.builtin "type.__call__" ⟨.ref C :: us, kw⟩)) outer s H := ⟨by first | exact e.frames | (simpa [Around.under, Code.envs, Code.isFrame, pushEnvs] using e.frames), e.mod, e.bs, e.bsz, e.funs, e.frf, e.hok, e.bare⟩
theorem Env0.in1 {P : Program} {w : World} {K : PySem.W.Frag} {mg : Str → Option Value} {base : Heap} {A : Around} {outer : List Env} {s : Shared} {H : Hp} (e : Env0 P w K mg base A outer s H) :
    Env0 P w K mg base A.in1 outer s H := ⟨e.frames, e.mod, e.bs, e.bsz, e.funs, e.frf, e.hok, e.bare⟩
section
variable {X : Cx} {pins : List (Addr × Obj)} {σ : St} {H : Hp} {s s' : Shared}
theorem Inv.env0 (I : Inv X pins σ H s) : Env0 X.prog X.w X.K X.mg X.base X.A X.stack s H :=
  ⟨I.ok.frames, I.ok.mod, I.bs, Nat.le_trans I.ok.bsz I.sz, I.stack, I.stkFree, I.hok, I.bare⟩
theorem Inv.after {Q : VK} {u : Value} (I : Inv X pins σ H s) (h : CE X.stack X.prog X.w H s Q u s') : EP X pins σ Q u s' := by
  obtain ⟨v, H', os, bare, un, hok, r, q⟩ := h
  obtain ⟨hh, g, d, t, os'⟩ := s'
  obtain rfl : os' = s.os := os
  exact ⟨v, H', I.call (h' := hh) (g' := g) (d' := d) (t' := t) (ch := []) un hok bare (fun b z => absurd z (by simp)), r, q⟩
end
def tCall (sp : Sp) (dvs : List V) (E : XK) (t : TA) : TE := fun σ H Q => t σ H fun vs H1 => sp (vs ++ dvs) H1 Q E
def tMeth (C : Addr) (m : Str) (sp : Sp) (dvs : List V) (E : XK) (ta : TE) (t : TA) : TE := fun σ H Q => ta σ H fun x H1 => ∃ a dx fs, x = .ref a ∧ H1 a = some (.ins C dx fs) ∧ fs.lookup m = none ∧
  t σ H1 fun vs H2 => sp (x :: (vs ++ dvs)) H2 Q E
def tMake (C : Addr) (sp : Sp) (dvs : List V) (E : XK) (t : TA) : TE := fun σ H Q => t σ H fun vs H1 => ∀ x dx, H1 x = none → H1 dx = none → dx ≠ x →
  sp (.ref x :: (vs ++ dvs)) (upd (upd H1 dx (.own x)) x (.ins C dx [])) (fun v H2 => v = .non ∧ Q (.ref x) H2) E
def Binds (K : PySem.W.Frag) (fd : FuncData) (ps : List Str) (ds : List Value) : Prop :=
  ∀ (s : Shared) (us : List Value), K.In s.heap → (us ++ ds).length = ps.length → BindsTo s fd ⟨us, []⟩ (ps.zip (us ++ ds))
theorem Binds.all {K : PySem.W.Frag} {fd : FuncData} {ps : List Str} (h : ∀ us : List Value, us.length = ps.length → bindArgs fd ⟨us, []⟩ = pure (ps.zip us)) : Binds K fd ps [] := fun s us _ hl => by
  rw [List.append_nil] at hl ⊢
  exact .of_eq (h us hl)
def Passes (CX : CXT) (X : Cx) (E : XK) : Prop := ∀ (pins : List (Addr × Obj)) (σ : St) (H : Hp) (s : Shared) (e : Value) (s' : Shared), Inv X pins σ H s → CX X.stack H s E e s' → X.xe e s'
section
variable {X : Cx} {CX : CXT} {k : Nat} {f C : Addr} {fd : FuncData} {ps : List Str} {sp : Sp} {dvs : List V} {ds : List Value} {E : XK} {x m : Str} {p pos apos : Pos} {e o : Expr} {es : List Expr} {ta : TE} {t : TA}
theorem run_fn {pins : List (Addr × Obj)} {σ : St} {H : Hp} {s : Shared} {Q : VK} {us : List Value} {vs : List V} (F : FnOk X.prog X.w X.K X.mg X.base CX k f fd ps sp) (hr : Room k X.A) (hb : Binds X.K fd ps ds) (hd : Vals dvs ds) (hx : Passes CX X E)
    (I : Inv X pins σ H s) (r : Vals vs us) (h : sp (vs ++ dvs) H Q E) : wpAny (model X.prog X.w) X.A (call (.ref f) us) (EP X pins σ Q) X.xe s := by
  have r2 : Vals (vs ++ dvs) (us ++ ds) := r.append hd
  have hl : (us ++ ds).length = ps.length := by rw [← r2.length]; exact F.len _ _ _ _ h
  refine wpAny_call (codeAny_mono (F.run X.A X.stack s H ⟨us, []⟩ (us ++ ds) (vs ++ dvs) Q E hr I.env0 (hb s us I.kIn hl) r2 h) fun r s' hq => ?_)
  cases r with
  | error e => exact hx pins σ H s e s' I hq
  | ok fl =>
    cases fl with
    | ret u => exact I.after hq
    | next => exact False.elim hq
    | brk => exact False.elim hq
    | cont => exact False.elim hq
theorem pe_call (F : FnOk X.prog X.w X.K X.mg X.base CX k f fd ps sp) (hr : Room k X.A) (hg : Gl X x) (hm : X.mg x = some (.ref f)) (hk : PySem.W.keepIn X.K (.ref f) = true) (hb : Binds X.K fd ps ds) (hd : Vals dvs ds) (hx : Passes CX X E)
    (ha : PA X (e :: es) t) (hdb : (x == ("__debug__" : Str)) = false := by decide) (he : starEach (e :: es) X.env = (false, eval e X.env) :: starEach es X.env := by rfl) (hpl : (backTo pos (starEach es X.env)).any (·.1) = false := by rfl) :
    PE X (.Call (.Name x p) (e :: es) [] pos) (tCall sp dvs E t) := by
  unfold PE at *; unfold PA at *
  exact by
    intro pins s σ H Q I h
    refine wpAny_Call_Name_kw (ld_glob I hg hm ?_ hdb)
    refine PySem.W.callWith_K (h₀ := X.base) I.ok.mod.kin hk (thn (ha pos pins s σ H _ I h) fun us s1 ⟨vs, H1, I1, r, q⟩ => ⟨I1.kIn, ?_⟩) he hpl
    exact run_fn F hr hb hd hx I1 r q
theorem pe_meth {pl : Sem Bool} (he : PE X o ta) (c : Cls X.K C) (hm : Meth X.K C m f) (F : FnOk X.prog X.w X.K X.mg X.base CX k f fd ps sp) (hr : Room k X.A) (hb : Binds X.K fd ps ds) (hd : Vals dvs ds) (hx : Passes CX X E) (ha : PA X (e :: es) t)
    (hst : starEach (e :: es) X.env = (false, eval e X.env) :: starEach es X.env := by rfl) (hpl : (backTo pos (starEach es X.env)).any (·.1) = false := by rfl)
    (ht : eval (.Call (.Attribute o m apos) (e :: es) [] pos) X.env = (do
      let ov ← eval o X.env
      standAt apos.atName
      let (f, first) ← holding [ov] (getMethod ov m pl)
      callWith pos f first (backTo pos (starEach (e :: es) X.env)) (backToKw pos (keywordEach [] X.env))) := by rfl) :
    PE X (.Call (.Attribute o m apos) (e :: es) [] pos) (tMeth C m sp dvs E ta t) := by
  unfold PE at *; unfold PA at *
  exact by
    intro pins s σ H Q I h
    refine PySem.W.methodCall_KW (pl := pl) (thn (he pins s σ H _ I h) fun u s1 ⟨x, H1, I1, rx, a, dx, fs, ex, ea, l, q⟩ => ?_) ht
    subst ex
    obtain rfl : u = Value.ref a := rx
    refine getmeth_ok I1 ea c hm l ?_
    refine PySem.W.callWith_K (first := [.ref a]) (h₀ := X.base) I.ok.mod.kin hm.kp (thn (ha pos pins s1 σ H1 _ I1 q) fun us s2 ⟨vs, H2, I2, r, q2⟩ => ⟨I2.kIn, ?_⟩) hst hpl
    exact run_fn (us := .ref a :: us) (vs := .ref a :: vs) F hr hb hd hx I2 (.cons rfl r) q2
structure Mk (K : PySem.W.Frag) (C f : Addr) : Prop where
  makes : PySem.W.makesIn K C = true
  init : PySem.W.findIn K (.ref C) "__init__" = some (some (.ref f))
  fn : PySem.W.isFn K (.ref f) = true
  kp : PySem.W.keepIn K (.ref C) = true
theorem run_make {pins : List (Addr × Obj)} {σ : St} {H : Hp} {s : Shared} {Q : VK} {us : List Value} {vs : List V} (M : Mk X.K C f) (F : FnOk X.prog X.w X.K X.mg X.base CX k f fd ps sp) (hr : Room (k + 1) X.A) (hb : Binds X.K fd ps ds) (hd : Vals dvs ds)
    (hx : Passes CX X E) (I : Inv X pins σ H s) (r : Vals vs us)
    (h : ∀ x dx, H x = none → H dx = none → dx ≠ x → sp (.ref x :: (vs ++ dvs)) (upd (upd H dx (.own x)) x (.ins C dx [])) (fun v H2 => v = .non ∧ Q (.ref x) H2) E) :
    wpAny (model X.prog X.w) X.A (call (.ref C) us) (EP X pins σ Q) X.xe s := by
  have hq := h (s.heap.objs.size + 1) s.heap.objs.size (I.hok.fresh (Nat.le_succ _)) (I.hok.fresh (Nat.le_refl _)) (Nat.ne_of_lt (Nat.lt_succ_self _))
  have I2 := Inv.made (C := C) I
  have r2 : Vals (V.ref (s.heap.objs.size + 1) :: (vs ++ dvs)) (Value.ref (s.heap.objs.size + 1) :: (us ++ ds)) := .cons rfl (r.append hd)
  have hl : (Value.ref (s.heap.objs.size + 1) :: us ++ ds).length = ps.length := by
    have e := r2.length
    rw [F.len _ _ _ _ hq] at e
    exact e.symm
  refine wpAny_call (make_map (f := f) I.kIn M.makes M.init (beq_iff_eq.mp M.fn) (codeAny_mono (F.run _ X.stack _ _ ⟨Value.ref (s.heap.objs.size + 1) :: us, []⟩ (Value.ref (s.heap.objs.size + 1) :: (us ++ ds)) _ _ E (hr.make C us [])
    (I2.env0.make C us []) (hb _ (Value.ref (s.heap.objs.size + 1) :: us) I2.kIn hl) r2 hq) fun r s' hq' => ?_))
  cases r with
  | error e => exact hx pins σ _ _ e s' I2 hq'
  | ok fl =>
    cases fl with
    | ret u =>
      obtain ⟨v, H', I3, rv, ev, q3⟩ := I2.after hq'
      subst ev
      exact ⟨rv, ⟨V.ref (s.heap.objs.size + 1), H', I3, rfl, q3⟩⟩
    | next => exact False.elim hq'
    | brk => exact False.elim hq'
    | cont => exact False.elim hq'
theorem pe_make0 (M : Mk X.K C f) (F : FnOk X.prog X.w X.K X.mg X.base CX k f fd ps sp) (hr : Room (k + 1) X.A) (hg : Gl X x) (hm : X.mg x = some (.ref C)) (hb : Binds X.K fd ps ds) (hd : Vals dvs ds) (hx : Passes CX X E)
    (hdb : (x == ("__debug__" : Str)) = false := by decide) : PE X (.Call (.Name x p) [] [] pos) (tMake C sp dvs E tNil) := by
  unfold PE at *
  exact by
    intro pins s σ H Q I h
    refine wpAny_Call_Name_kw (ld_glob I hg hm ?_ hdb)
    exact PySem.W.callWith_K0 I.kIn M.kp (run_make (us := []) M F hr hb hd hx I .nil h)
end
@[irreducible] def PK (X : Cx) (kws : List Keyword) (t : TA) : Prop :=
  ∀ (pos : Pos) (pins : List (Addr × Obj)) (s : Shared) (σ : St) (H : Hp) (Q : List V → Hp → Prop), Inv X pins σ H s → t σ H Q → wpAny (model X.prog X.w) X.A (evalAll ((backToKw pos (keywordEach kws X.env)).map (·.2))) (AP X pins σ Q) X.xe s
section
variable {X : Cx} {CX : CXT} {k : Nat} {f C : Addr} {fd : FuncData} {ps ks : List Str} {sp : Sp} {E : XK} {x m : Str} {p pos apos kpos : Pos} {e o : Expr} {es : List Expr} {kws : List Keyword} {te ta : TE} {t tk : TA} {nm : Option Str}
theorem pk_nil : PK X [] tNil := by
  first
  | exact (fun _ _ _ _ H Q I h => wpAny_evalAll_nil ⟨[], H, I, .nil, h⟩)
  | (unfold PK at *; exact (fun _ _ _ _ H Q I h => wpAny_evalAll_nil ⟨[], H, I, .nil, h⟩))
variable {g : List Value → List Value → List Value} {gV : List V → List V → List V}
end
structure FnScope (N P : List Str) (sc : Scope) : Prop where
  kind : sc.kind = .function
  co : sc.isCoroutine = false
  gen : sc.isGenerator = false
  nd : N.Nodup
  pre : N.take P.length = P
  par : ∀ x ∈ P, sc.names.lookup x = some .local ∨ sc.names.lookup x = some .cell
  nofree : ∀ y ∈ sc.names, y.2 ≠ .free
theorem bindL_out {kindOf : Str → Option NameKind} {x : Str} : ∀ {binds : List (Str × Value)} {m : Str → Option Value}, (∀ v, (x, v) ∉ binds) → bindL kindOf binds m x = m x
  | [], _, _ => rfl
  | (n, v) :: r, m, h => by
    unfold bindL
    rw [bindL_out fun w hw => h w (List.mem_cons_of_mem _ hw)]
    split
    · have : x ≠ n := by rintro rfl; exact h v List.mem_cons_self
      simp [this]
    · rfl
theorem bindC_out {kindOf : Str → Option NameKind} {x : Str} : ∀ {binds : List (Str × Value)} {m : Str → Option Value}, (∀ v, (x, v) ∉ binds) → bindC kindOf binds m x = m x
  | [], _, _ => rfl
  | (n, v) :: r, m, h => by
    unfold bindC
    rw [bindC_out fun w hw => h w (List.mem_cons_of_mem _ hw)]
    split
    · rfl
    · have : x ≠ n := by rintro rfl; exact h v List.mem_cons_self
      simp [this]
theorem bindL_get {kindOf : Str → Option NameKind} {x : Str} {v : Value} : ∀ {P : List Str} {vs : List Value} {i : Nat} {m : Str → Option Value}, P.Nodup → P[i]? = some x → vs[i]? = some v → kindOf x = some .local →
    bindL kindOf (P.zip vs) m x = some v
  | [], _, _, _, _, h, _, _ => by simp at h
  | _ :: _, [], _, _, _, _, h, _ => by simp at h
  | p :: P, w :: vs, 0, m, nd, h1, h2, hk => by
    simp at h1 h2; subst h1; subst h2
    show bindL kindOf ((p, w) :: P.zip vs) m p = _
    unfold bindL
    rw [bindL_out fun v hv => (List.nodup_cons.mp nd).1 (List.of_mem_zip hv).1, if_pos hk]
    simp
  | p :: P, w :: vs, i + 1, m, nd, h1, h2, hk => by
    show bindL kindOf ((p, w) :: P.zip vs) m x = _
    unfold bindL
    exact bindL_get (i := i) (List.nodup_cons.mp nd).2 (by simpa using h1) (by simpa using h2) hk
theorem bindC_get {kindOf : Str → Option NameKind} {x : Str} {v : Value} : ∀ {P : List Str} {vs : List Value} {i : Nat} {m : Str → Option Value}, P.Nodup → P[i]? = some x → vs[i]? = some v → kindOf x ≠ some .local →
    bindC kindOf (P.zip vs) m x = some v
  | [], _, _, _, _, h, _, _ => by simp at h
  | _ :: _, [], _, _, _, _, h, _ => by simp at h
  | p :: P, w :: vs, 0, m, nd, h1, h2, hk => by
    simp at h1 h2; subst h1; subst h2
    show bindC kindOf ((p, w) :: P.zip vs) m p = _
    unfold bindC
    rw [bindC_out fun v hv => (List.nodup_cons.mp nd).1 (List.of_mem_zip hv).1, if_neg hk]
    simp
  | p :: P, w :: vs, i + 1, m, nd, h1, h2, hk => by
    show bindC kindOf ((p, w) :: P.zip vs) m x = _
    unfold bindC
    exact bindC_get (i := i) (List.nodup_cons.mp nd).2 (by simpa using h1) (by simpa using h2) hk
def start (N : List Str) (vs : List V) : St := vs.map some ++ List.replicate (N.length - vs.length) none
def cxOf (CX : CXT) (P : Program) (w : World) (K : PySem.W.Frag) (mg : Str → Option Value) (base : Heap) (N : List Str) (qual : Str) (scope : Scope) (f : Addr) (cd : Value) (A : Around) (outer : List Env) (s : Shared) (H : Hp) (E : XK) : Cx where
  prog := P
  w := w
  K := K
  mg := mg
  base := base
  A := A.deeper (envOfC qual scope s.heap.objs.size f cd)
  N := N
  s₀ := s
  H₀ := H
  env := envOfC qual scope s.heap.objs.size f cd
  outer := outer
  stack := envOfC qual scope s.heap.objs.size f cd :: outer
  ex := []
  calm := true
  fn := fun _ => true
  pn := []
  xe := fun e s' => wpAny (model P w) (A.deeper (envOfC qual scope s.heap.objs.size f cd)) (leaving (envOfC qual scope s.heap.objs.size f cd) e) (fun _ s'' => CX outer H s E e s'') (fun e' s'' => CX outer H s E e' s'') s'
theorem cell_has {sc : Scope} {n : Nat} {x : Str} (h : sc.names.lookup x = some .cell) : ∃ c, (cellsFrom n sc.names []).lookup x = some c := by
  have q := PySem.W.cellsFrom_some sc.names n [] (.inl h)
  exact Option.isSome_iff_exists.mp q
theorem inv_start {CX : CXT} {P : Program} {w : World} {K : PySem.W.Frag} {mg : Str → Option Value} {base : Heap} {N ps : List Str} {qual : Str} {scope : Scope} {f : Addr} {cd : Value} {A : Around} {outer : List Env} {s s1 : Shared} {H : Hp} {E : XK} {us : List Value} {vs : List V}
    (S : FnScope N ps scope) (hd : A.handled = none) (e0 : Env0 P w K mg base A outer s H) (hl : vs.length = ps.length) (r : Vals vs us)
    (x : InCallC s s.heap.objs.size (bindL (envOfC qual scope s.heap.objs.size f cd).kindOf (ps.zip us) fun _ => none) (cellsFrom (s.heap.objs.size + 1) scope.names []) (bindC (envOfC qual scope s.heap.objs.size f cd).kindOf (ps.zip us) fun _ => none) s1) :
    Inv (cxOf CX P w K mg base N qual scope f cd A outer s H E) [] (start N vs) H s1 := by
  have hpl : ps.length ≤ N.length := by have := congrArg List.length S.pre; rw [List.length_take] at this; omega
  obtain ⟨h1, tk, rfl, hk⟩ := x.done
  have noA : ∀ b : Addr, b ∉ (cxOf CX P w K mg base N qual scope f cd A outer s H E).ex := fun b z => absurd (show b ∈ ([] : List Addr) from z) (by simp)
  refine ⟨⟨e0.mod, S.kind, rfl, rfl, Nat.le_refl _, fun y z c h1 h2 => ?_, fun y hy => ?_, fun y c _ h => ?_, fun _ => hd, Around.frames_deeper e0.frames, .inr ⟨rfl, rfl⟩, fun b z => absurd z (noA b), e0.bs, e0.bsz, fun b _ _ => noA b, fun b z => absurd z (noA b), e0.funs, e0.frf⟩,
    rfl, e0.bare, Un.kept hk, ⟨_, x.toInCall.ns, fun i y v h1 h2 h3 => ?_⟩, fun y c h => ⟨_, x.cell y c h⟩, e0.hok.fresh (Nat.le_refl _), fun y c h => ?_, fun p hp => absurd (show p ∈ ([] : List (Addr × Obj)) from hp) (by simp), e0.hok.kept hk, ?_⟩
  · exact name_of_addr x.apart (PySem.mem_of_lookup h1) (PySem.mem_of_lookup h2)
  · have hy : scope.names.lookup y = some .cell ∨ scope.names.lookup y = some .free := hy
    rcases hy with hy | hy
    · exact cell_has hy
    · exact absurd rfl (S.nofree _ (PySem.mem_of_lookup hy))
  · exact Nat.le_of_lt (x.above y c (PySem.mem_of_lookup h))
  · have hi : i < vs.length := by
      unfold start at h2
      by_cases hi : i < vs.length
      · exact hi
      · rw [List.getElem?_append_right (by simpa using hi)] at h2
        rw [List.getElem?_replicate] at h2
        split at h2 <;> cases h2
    have ha : vs[i]? = some v := by
      unfold start at h2
      rw [List.getElem?_append_left (by simpa using hi), List.getElem?_map] at h2
      cases e : vs[i]? with
      | none => rw [e] at h2; cases h2
      | some a => rw [e] at h2; cases h2; rfl
    obtain ⟨u, hu, rv⟩ := r.get ha
    have hp : ps[i]? = some y := by
      rw [← S.pre, List.getElem?_take_of_lt (by omega)]; exact h1
    have ndP : ps.Nodup := by rw [← S.pre]; exact S.nd.sublist (List.take_sublist _ _)
    refine ⟨u, rv, ?_⟩
    rcases S.par y (List.mem_of_getElem? hp) with k | k
    · exact .inl ⟨k, bindL_get ndP hp hu k⟩
    · obtain ⟨c, e⟩ := cell_has (n := s.heap.objs.size + 1) k
      refine .inr ⟨.inl k, c, e, ?_⟩
      have q := x.cell y c e
      rw [bindC_get ndP hp hu (by show scope.names.lookup y ≠ _; rw [k]; decide)] at q
      exact q
  · exact e0.hok.fresh (Nat.le_of_lt (x.above y c (PySem.mem_of_lookup h)))
  · unfold start
    show _ = N.length
    rw [List.length_append, List.length_map, List.length_replicate]
    omega
theorem fn_of {CX : CXT} {P : Program} {w : World} {K : PySem.W.Frag} {mg : Str → Option Value} {base : Heap} {k : Nat} {f : Addr} {name qual : Str} {params : Arguments} {body : List Stmt} {scope : Scope} {dV kV doc pm cdv ct oc : Value} {an od : Option Addr}
    {osl : Array (Option Value)} {N ps : List Str} {sp : Sp} (lk : K.lookup f = some ⟨oc, od, .func (PySem.W.fnOf name qual params body scope dV kV doc pm an cdv ct), osl⟩) (hcd : PySem.W.codeIn K cdv qual = true) (S : FnScope N ps scope)
    (len : ∀ vs H Q E, sp vs H Q E → vs.length = ps.length)
    (hbody : ∀ (A : Around) (outer : List Env) (s : Shared) (H : Hp) (vs : List V) (Q : VK) (E : XK), Room k (A.deeper (envOfC qual scope s.heap.objs.size f cdv)) → sp vs H Q E →
      ∃ t, PSs (cxOf CX P w K mg base N qual scope f cdv A outer s H E) body t ∧ t { nx := fun _ H' => Q .non H', rt := Q } (start N vs) H) :
    FnOk P w K mg base CX (k + 1) f (PySem.W.fnOf name qual params body scope dV kV doc pm an cdv ct) ps sp := by
  unfold PSs at *
  exact by
    refine ⟨len, fun A outer s H args us vs Q E hr e0 hb r hsp => ?_⟩
    have hl := len _ _ _ _ hsp
    have KX : K.In s.heap := e0.mod.kin.keeps fun b o e => (e0.bs b o e).1
    have lim : s.heap.NoLimit := e0.mod.nolimit.keeps fun b o e => (e0.bs b o e).1
    have hkind : ∀ y ∈ ps.zip us, scope.names.lookup y.1 = some .local ∨ (scope.names.lookup y.1 = some .cell ∧ ((cellsFrom (s.heap.objs.size + 1) scope.names []).lookup y.1).isSome = true) := fun ⟨n, v⟩ hy => by
      rcases S.par n (List.of_mem_zip hy).1 with q | q
      · exact .inl q
      · exact .inr ⟨q, PySem.W.cellsFrom_some _ _ _ (.inl q)⟩
    refine codeAny_call_function hr.depth (KX _ _ lk) rfl S.co S.gen rfl (PySem.W.codeRec_of KX hcd) (hb _ _ _ _ ?_)
    refine wpAny_newFunctionEnv_cells S.kind hkind fun env he s1 x => ?_
    subst he
    refine ⟨lim.keeps x.toInCall.keep, codeAny_func ?_⟩
    obtain ⟨t, ht, hq⟩ := hbody A outer s H vs Q E (hr.deeper _) hsp
    have I : Inv (cxOf CX P w K mg base N qual scope f cdv A outer s H E) [] (start N vs) H s1 := inv_start S hr.hd e0 hl r x
    refine wpAny_mono (ht [] s1 (start N vs) H _ I hq) (fun fl s' hs => ?_) fun e s' hs => hs
    have fin : ∀ {σ' : St} {H' : Hp} {v : V} {u : Value}, Inv (cxOf CX P w K mg base N qual scope f cdv A outer s H E) [] σ' H' s' → RelV v u → Q v H' → CE outer P w H s Q u s' :=
      fun {σ' H' v u} J rv q => ⟨v, H', J.os, J.bare, J.base, J.hok, rv, q⟩
    cases fl with
    | ret u =>
      obtain ⟨v, σ', H', J, rv, q⟩ := hs
      exact fin J rv q
    | next =>
      obtain ⟨σ', H', J, q⟩ := hs
      exact fin (v := V.non) (u := Value.none) J rfl q
    | brk =>
      obtain ⟨_, _, _, q⟩ := hs
      exact False.elim q
    | cont =>
      obtain ⟨_, _, _, q⟩ := hs
      exact False.elim q
end L2
namespace L2
open PySem PySem.Spec PyProof.Rows
section
variable {X : Cx} {x : Str} {p pos : Pos} {e : Expr} {es : List Expr} {t : TA} {id T : String} {r : List V → Hp → VK → Prop}
def tCB (r : List V → Hp → VK → Prop) (t : TA) : TE := fun σ H Q => t σ H fun vs H1 => r vs H1 Q
theorem pe_callB (hc : CallR X (.builtin id) r) (hg : Gl X x) (hm : X.mg x = none) (hv : bootBuiltins x = some (.builtin id)) (ha : PA X (e :: es) t) (hn : x ≠ "__name__" := by decide) (hdb : (x == ("__debug__" : Str)) = false := by decide)
    (he : starEach (e :: es) X.env = (false, eval e X.env) :: starEach es X.env := by rfl) (hpl : (backTo pos (starEach es X.env)).any (·.1) = false := by rfl) : PE X (.Call (.Name x p) (e :: es) [] pos) (tCB r t) := by
  unfold PE at *; unfold PA at *; unfold CallR at *
  exact by
    intro pins s σ H Q I h
    refine wpAny_Call_Name_kw (ld_blt I hg hm hv ?_ hn hdb)
    exact PyProof.Rows.callWith_builtin1 (thn (ha pos pins s σ H _ I h) fun us s1 ⟨vs, H1, I1, r1, q1⟩ => hc pins s1 σ H1 vs us Q I1 r1 q1) he hpl
theorem pe_callTy (hc : CallR X (.type T) r) (hg : Gl X x) (hm : X.mg x = none) (hv : bootBuiltins x = some (.type T)) (ha : PA X (e :: es) t) (hn : x ≠ "__name__" := by decide) (hdb : (x == ("__debug__" : Str)) = false := by decide)
    (he : starEach (e :: es) X.env = (false, eval e X.env) :: starEach es X.env := by rfl) (hpl : (backTo pos (starEach es X.env)).any (·.1) = false := by rfl) : PE X (.Call (.Name x p) (e :: es) [] pos) (tCB r t) := by
  unfold PE at *; unfold PA at *; unfold CallR at *
  exact by
    intro pins s σ H Q I h
    refine wpAny_Call_Name_kw (ld_blt I hg hm hv ?_ hn hdb)
    exact PyProof.Rows.callWith_type1 (thn (ha pos pins s σ H _ I h) fun us s1 ⟨vs, H1, I1, r1, q1⟩ => hc pins s1 σ H1 vs us Q I1 r1 q1) he hpl
end
end L2
namespace HT
open PySem PyProof.Rows
def lexLt : List Int → List Int → Bool
  | [], [] => false
  | [], _ :: _ => true
  | _ :: _, [] => false
  | x :: xs, y :: ys => if x = y then lexLt xs ys else decide (x < y)
theorem lexLt_cons (x y : Int) (xs ys : List Int) : lexLt (x :: xs) (y :: ys) = if x = y then lexLt xs ys else decide (x < y) := rfl
theorem lexLt_nil_nil : lexLt [] [] = false := rfl
theorem lexLt_nil_cons (y : Int) (ys : List Int) : lexLt [] (y :: ys) = true := rfl
theorem lexLt_cons_nil (x : Int) (xs : List Int) : lexLt (x :: xs) [] = false := rfl
theorem eqAt_int (A : Around) (s : Shared) (a : Int) (t : Tok) (c : Int) (u : Tok) : ∃ e, SeqAt.EqAt A s (.int a t) (.int c u) e ∧ (e = true ↔ a = c) :=
  ⟨(a == c), SeqAt.EqAt.int_int a t c u, by simp⟩
theorem rcLt_int (A : Around) (s : Shared) (a : Int) (t : Tok) (c : Int) (u : Tok) (prog : Program) (w : World) (E : Value → Shared → Prop) (Q : Value → Shared → Prop) (h : Q (.bool (decide (a < c))) s) :
    wpAny (model prog w) A (richCompare .Lt (.int a t) (.int c u)) Q E s :=
  (PyProof.Rows.lt_int h : wpAny (model prog w) A (compareOp .Lt (.int a t) (.int c u)) Q E s)
section
open PySem.SeqAt
open PySem.AutoSeq1 (wpAny_loadPart')
open PySem.MeetsSeq PySem.MeetsSeq2 PySem.MeetsSeq3
theorem tuple_lt_ints (l b : Addr) (items items2 : Array Value) (n n2 : Nat) (dd dd2 : Option Addr) (sl sl2 : Array (Option Value)) (ns ms : List Int) (hi : IntsAre items.toList ns) (hj : IntsAre items2.toList ms) :
    Meets (Builtin.«tuple.__lt__» ⟨[.ref l, .ref b], []⟩)
      (fun _ R s => s.heap.get? l = some { cls := .type "tuple", dict := dd, data := .seq items n, slots := sl } ∧ s.heap.get? b = some { cls := .type "tuple", dict := dd2, data := .seq items2 n2, slots := sl2 } ∧
        R (.ok (.ret (.bool (lexLt ns ms)))) s) :=
  .of_wp fun prog w A R s h => by
    obtain ⟨hp, g, d, tk, os⟩ := s; obtain ⟨hl, hb, h⟩ := h
    have f2 := AutoSeq1.sub_tuple_tuple
    have z1 : items.size = ns.length := by rw [← hi.length]; simp
    have z2 : items2.size = ms.length := by rw [← hj.length]; simp
    wp_walk using wpAny_loadPart' hl, wpAny_loadPart' hb, wpAny_forIn_list _ (fun rest b s' => b.1 = none ∧ s' = ⟨hp, g, d, tk, os⟩ ∧ ∃ (vs ws : List Value) (ns' ms' : List Int), rest = vs.zip ws ∧
      IntsAre vs ns' ∧ IntsAre ws ms' ∧ ns'.length + items2.size = ms'.length + items.size ∧ R (.ok (.ret (.bool (lexLt ns' ms')))) ⟨hp, g, d, tk, os⟩) _
    case turn =>
      rintro ⟨y, x⟩ rest b s' ⟨hb', rfl, vs, ws, ns', ms', hz, hvi, hwi, hlen, hR⟩
      cases hvi with
      | nil => rw [List.zip_nil_left] at hz; cases hz
      | cons a t hvi' =>
        cases hwi with
        | nil => rw [List.zip_nil_right] at hz; cases hz
        | cons c u hwi' =>
          rw [List.zip_cons_cons] at hz
          injection hz with hyx hrest
          injection hyx with hy hx
          subst hy hx
          rw [lexLt_cons] at hR
          simp only [List.length_cons] at hlen
          obtain ⟨e, he, hiff⟩ := eqAt_int A.in1 ⟨hp, g, d, tk, os⟩ a t c u
          refine wpAny_bind (he prog w _ _ ?_)
          cases e with
          | true =>
            rw [if_pos (hiff.mp rfl)] at hR
            wp_walk
            exact ⟨rfl, rfl, _, _, _, _, hrest, hvi', hwi', by omega, hR⟩
          | false =>
            rw [if_neg (fun q => absurd (hiff.mpr q) Bool.false_ne_true)] at hR
            have hri := rcLt_int A.in1 ⟨hp, g, d, tk, os⟩ a t c u prog w
            wp_walk using hri
            exact ⟨_, rfl, by simpa using hR⟩
    case fin =>
      rintro ⟨b1, b2⟩ s' ⟨hb', rfl, vs, ws, ns', ms', hz, hvi, hwi, hlen, hR⟩
      simp only at hb'
      subst hb'
      have hv : lexLt ns' ms' = decide (items.size < items2.size) := by
        cases hvi with
        | nil =>
          cases hwi with
          | nil =>
            simp only [List.length_nil] at hlen
            rw [lexLt_nil_nil]
            exact (decide_eq_false (by omega)).symm
          | cons c u hw =>
            simp only [List.length_nil, List.length_cons] at hlen
            rw [lexLt_nil_cons]
            exact (decide_eq_true (by omega)).symm
        | cons a t hv =>
          cases hwi with
          | nil =>
            simp only [List.length_nil, List.length_cons] at hlen
            rw [lexLt_cons_nil]
            exact (decide_eq_false (by omega)).symm
          | cons c u hw =>
            rw [List.zip_cons_cons] at hz
            cases hz
      rw [hv] at hR
      wp_walk
      exact ⟨_, rfl, by simpa [Builtin.Tuple.tupleCompareSizes] using hR⟩
    case h =>
      exact ⟨rfl, rfl, items.toList, items2.toList, ns, ms, rfl, hi, hj, by omega, h⟩
end
section
variable {prog : Program} {w : World} {A : Around} {E : Value → Shared → Prop} {s : Shared}
theorem lt_tupInts {l b : Addr} {items items2 : Array Value} {ns ms : List Int} {Q : Value → Shared → Prop} (hl : IsTup s.heap l items) (hb : IsTup s.heap b items2) (hi : IntsAre items.toList ns) (hj : IntsAre items2.toList ms)
    (hu : A.units < cLine) (h : Q (.bool (lexLt ns ms)) s) : wpAny (model prog w) A (compareOp .Lt (.ref l) (.ref b)) Q E s := by
  obtain ⟨⟨cls, dd, data, sl⟩, ho, hc, n, hd⟩ := id hl
  obtain ⟨⟨cls2, dd2, data2, sl2⟩, ho2, hc2, n2, hd2⟩ := id hb
  simp only at hc hd hc2 hd2
  subst hc hd hc2 hd2
  exact richCompare_meets_room (op := .Lt) ⟨_, ho, rfl⟩ ⟨_, ho2, rfl⟩ PySem.F.slot_tuple_lt PySem.F.entry_tuple_lt (PySem.F.args_tuple_lt_2 _ _) (tuple_lt_ints l b items items2 n n2 dd dd2 sl sl2 ns ms hi hj)
    ⟨ho, ho2, show Value.bool (lexLt ns ms) ≠ Value.notImplemented ∧ Q (.bool (lexLt ns ms)) s from ⟨(fun x => nomatch x), h⟩⟩ hu
theorem cat_tup {t b : Addr} {vs ws : List Value} {Q : Value → Shared → Prop} (ht : IsTup s.heap t vs.toArray) (hb : IsTup s.heap b ws.toArray) (hv : vs ≠ [])
    (h1 : ws = [] → Q (.ref t) s) (h2 : ws ≠ [] → Q (.ref s.heap.objs.size) { s with heap := s.heap.push { cls := .type "tuple", data := .seq (vs ++ ws).toArray } })
    (hsz : vs.length + ws.length ≤ sizeLine) : wpAny (model prog w) A (binaryOp .Add (.ref t) (.ref b)) Q E s := by
  obtain ⟨⟨cls, dd, data, sl⟩, ho, hc, n, hd⟩ := id ht
  obtain ⟨⟨cls2, dd2, data2, sl2⟩, ho2, hc2, n2, hd2⟩ := id hb
  simp only at hc hd hc2 hd2
  subst hc hd hc2 hd2
  have e : vs.toArray ++ ws.toArray = (vs ++ ws).toArray := by simp
  by_cases hw : ws = []
  · exact concat_meets ⟨_, ho, rfl⟩ ⟨_, ho2, rfl⟩ noFill_tuple_add seq_tuple_add PySem.F.slot_tuple_add PySem.F.entry_tuple_add (PySem.F.args_tuple_add_2 _ _)
      (tuple_addW1 t b vs.toArray ws.toArray n n2 dd dd2 sl sl2 (by simpa using hv) (by simp [hw])) ⟨ho, ho2, h1 hw⟩
  · refine concat_meets ⟨_, ho, rfl⟩ ⟨_, ho2, rfl⟩ noFill_tuple_add seq_tuple_add PySem.F.slot_tuple_add PySem.F.entry_tuple_add (PySem.F.args_tuple_add_2 _ _)
      (tuple_addW2 t b vs.toArray ws.toArray n n2 dd dd2 sl sl2 (by simpa using hv) (by simpa using hw) (by rw [List.size_toArray, List.size_toArray]; exact hsz)) ⟨ho, ho2, ?_⟩
    rw [e]
    exact h2 hw
def sIx (n d : Nat) : Option Int → Nat
  | none => d
  | some v => if v < 0 then (v + (n : Int)).toNat else min v.toNat n
theorem sIx_none (n d : Nat) : sIx n d none = d := rfl
theorem sIx_nat (n d k : Nat) : sIx n d (some (k : Int)) = min k n := by
  show (if (k : Int) < 0 then ((k : Int) + (n : Int)).toNat else min (k : Int).toNat n) = min k n
  rw [if_neg (by omega), Int.toNat_natCast]
end
end HT
namespace L2
open PySem PySem.Spec PyProof.Rows
abbrev TO := St → Hp → (Option Int → Hp → Prop) → Prop
@[irreducible] def PO (X : Cx) (e : Option Expr) (t : TO) : Prop :=
  ∀ (pins : List (Addr × Obj)) (s : Shared) (σ : St) (H : Hp) (Q : Option Int → Hp → Prop), Inv X pins σ H s → t σ H Q →
    wpAny (model X.prog X.w) X.A (evalPart e X.env) (fun u s' => ∃ o H', Inv X pins σ H' s' ∧ IsPart u o ∧ Q o H') X.xe s
def tNoPart : TO := fun _ H Q => Q none H
def tPart (t : TE) : TO := fun σ H Q => t σ H fun x H1 => ∃ i, x = .int i ∧ Q (some i) H1
theorem intsAre_of {ns : List Int} : ∀ {us : List Value}, Vals (ns.map V.int) us → IntsAre us ns := by
  induction ns with
  | nil => intro us r; rw [List.map_nil] at r; cases r; exact .nil
  | cons n ns ih =>
    intro us r
    rw [List.map_cons] at r
    cases r with
    | cons r1 r2 =>
      obtain ⟨t, e⟩ := r1
      subst e
      exact .cons n t (ih r2)
section
variable {X : Cx} {e : Expr} {te : TE} {lo hi : Option Expr} {tl th : TO} {pos p2 : Pos}
theorem po_none : PO X none tNoPart := by
  unfold PO at *
  exact by
    intro pins s σ H Q I h
    rw [evalPart_none]
    exact wpAny_pure ⟨none, H, I, .none, h⟩
theorem po_some (h : PE X e te) : PO X (some e) (tPart te) := by
  unfold PE at *; unfold PO at *
  exact by
    intro pins s σ H Q I hw
    rw [evalPart_some]
    refine thn (h pins s σ H _ I hw) fun u s1 ⟨x, H1, I1, r1, q1⟩ => ?_
    obtain ⟨i, rfl, q⟩ := q1
    obtain ⟨t, rfl⟩ := r1
    exact ⟨some i, H1, I1, .int i t, q⟩
@[irreducible] def SlR (X : Cx) (r : V → Option Int → Option Int → Hp → VK → Prop) : Prop :=
  ∀ (pins : List (Addr × Obj)) (s : Shared) (σ : St) (H : Hp) (x : V) (v vl vu : Value) (lo hi : Option Int) (sl : Addr) (Q : VK), Inv X pins σ H s → RelV x v → s.heap.IsSliceOf sl vl vu .none → IsPart vl lo → IsPart vu hi → r x lo hi H Q →
    ∃ T id, typeLookup (.type T) "__getitem__" = pure (some (.builtin id)) ∧ s.TypeIs v T ∧ wpAny (model X.prog X.w) X.A (getItem v (.ref sl)) (EP X pins σ Q) X.xe s
theorem SlR.or {r r' : V → Option Int → Option Int → Hp → VK → Prop} (h : SlR X r) (h' : SlR X r') : SlR X (fun x lo hi H Q => r x lo hi H Q ∨ r' x lo hi H Q) := by
  unfold SlR at *
  exact by
    intro pins s σ H x v vl vu lo hi sl Q I rx hs pl pu q
    rcases q with q | q
    · exact h pins s σ H x v vl vu lo hi sl Q I rx hs pl pu q
    · exact h' pins s σ H x v vl vu lo hi sl Q I rx hs pl pu q
def tSl (r : V → Option Int → Option Int → Hp → VK → Prop) (te : TE) (tl th : TO) : TE := fun σ H Q => te σ H fun x H1 => tl σ H1 fun l H2 => th σ H2 fun u H3 => r x l u H3 Q
theorem pe_slice {r : V → Option Int → Option Int → Hp → VK → Prop} (hr : SlR X r) (he : PE X e te) (hl : PO X lo tl) (hu : PO X hi th) : PE X (.Subscript e (.Slice lo hi none p2) pos) (tSl r te tl th) := by
  unfold PE at *; unfold PO at *; unfold SlR at *
  exact by
    intro pins s σ H Q I h
    refine Subscript_ (thn (he pins s σ H _ I h) fun v s1 ⟨x, H1, I1, r1, q1⟩ => ?_)
    refine wpAny_Slice (thn (hl pins s1 σ H1 _ I1 q1) fun vl s2 ⟨l, H2, I2, pl, q2⟩ => thn (hu pins s2 σ H2 _ I2 q2) fun vu s3 ⟨u, H3, I3, pu, q3⟩ => ?_)
    rw [evalPart_none]
    refine wpAny_pure ?_
    have I4 : Inv X pins σ H3 { s3 with heap := s3.heap.push { cls := .type "slice", data := .fields #[vl, vu, .none] } } := I3.kept (t' := s3.toks) fun b ob q => Heap.get?_push_of_some _ q
    obtain ⟨T, id, hT, ht, hg⟩ := hr pins { s3 with heap := s3.heap.push { cls := .type "slice", data := .fields #[vl, vu, .none] } } σ H3 x v vl vu l u s3.heap.objs.size Q I4 r1 (Heap.IsSliceOf.new ..) pl pu q3
    show wpAny (model X.prog X.w) X.A (subscriptTail e (.Slice lo hi none p2) v (.ref s3.heap.objs.size)) (EP X pins σ Q) X.xe { s3 with heap := s3.heap.push { cls := .type "slice", data := .fields #[vl, vu, .none] } }
    exact tail_any (ops := [.ref s3.heap.objs.size, v]) ht hT hg (by with_unfolding_all rfl)
def cutV (xs : List V) (lo hi : Option Int) : List V := (xs.drop (HT.sIx xs.length 0 lo)).take (HT.sIx xs.length xs.length hi - HT.sIx xs.length 0 lo)
theorem cutV_length (xs : List V) (lo hi : Option Int) : (cutV xs lo hi).length ≤ xs.length := by
  unfold cutV
  rw [List.length_take, List.length_drop]
  omega
def rLtT (K : PySem.W.Frag) : R2 := fun x y H Q => ∃ a b ns ms, x = .ref a ∧ y = .ref b ∧ SqT K H a (ns.map V.int) ∧ SqT K H b (ms.map V.int) ∧ Q (.bl (HT.lexLt ns ms)) H
theorem op_ltT (hu : X.A.units < cLine) : OpR X (compareOp .Lt) (rLtT X.K) := by
  unfold OpR at *
  exact by
    intro pins s σ H x y v u Q I rx ry h
    obtain ⟨a, b, ns, ms, rfl, rfl, ha, hb, q⟩ := h
    cases rx
    cases ry
    obtain ⟨its, r1, p1, _⟩ := I.tuple ha
    obtain ⟨its2, r2, p2, _⟩ := I.tuple hb
    have i1 : IntsAre its.toArray.toList ns := intsAre_of r1
    have i2 : IntsAre its2.toArray.toList ms := intsAre_of r2
    exact HT.lt_tupInts p1 p2 i1 i2 hu ⟨.bl (HT.lexLt ns ms), H, I, rfl, q⟩
def rCatT (K : PySem.W.Frag) : R2 := fun x y H Q => ∃ a b xs ys, x = .ref a ∧ y = .ref b ∧ SqT K H a xs ∧ SqT K H b ys ∧ xs ≠ [] ∧ xs.length + ys.length ≤ sizeLine ∧
  (ys = [] → Q (.ref a) H) ∧ (ys ≠ [] → ∀ p, H p = none → Q (.ref p) (upd H p (.tup (xs ++ ys))))
theorem Vals.nil_iff {xs : List V} {us : List Value} (r : Vals xs us) : us = [] ↔ xs = [] := by
  cases r with
  | nil => simp
  | cons _ _ => simp
theorem op_catT : OpR X (binaryOp .Add) (rCatT X.K) := by
  unfold OpR at *
  exact by
    intro pins s σ H x y v u Q I rx ry h
    obtain ⟨a, b, xs, ys, rfl, rfl, ha, hb, hx, hz, q1, q2⟩ := h
    cases rx
    cases ry
    obtain ⟨its, r1, p1, _⟩ := I.tuple ha
    obtain ⟨its2, r2, p2, _⟩ := I.tuple hb
    refine HT.cat_tup p1 p2 (fun z => hx (r1.nil_iff.mp z)) (fun z => ⟨.ref a, H, I, rfl, q1 (r2.nil_iff.mp z)⟩) (fun z => ?_) (by rw [← r1.length, ← r2.length]; exact hz)
    refine ⟨.ref s.heap.objs.size, _, I.laid (t' := s.toks) (o := .tup (xs ++ ys)) (fun b ob q => Heap.get?_push_of_some _ q) (Nat.le_refl _) ?_, rfl, q2 (fun w => z (r2.nil_iff.mpr w)) _ (I.hok.fresh (Nat.le_refl _))⟩
    exact ⟨by rw [List.length_append]; exact hz, _, r1.append r2, IsTup.new _ _⟩
end
end L2
namespace L2
open PySem PySem.Spec PyProof.Rows
def ixN (n : Nat) (i : Int) : Option Nat := if 0 ≤ i then (if i < n then some i.toNat else none) else if -(n : Int) ≤ i then some (i + n).toNat else none
def atI {α : Type} (xs : List α) (i : Int) : Option α := (ixN xs.length i).bind fun j => xs[j]?
theorem ixN_seq {n : Nat} {i : Int} {j : Nat} (h : ixN n i = some j) : seqIndex? i n = some j ∧ j < n ∧ -(n : Int) ≤ i ∧ i < n := by
  unfold ixN at h
  by_cases h0 : 0 ≤ i
  · rw [if_pos h0] at h
    by_cases h1 : i < n
    · rw [if_pos h1] at h
      have e : i.toNat = j := Option.some.inj h
      exact ⟨by rw [seqIndex_of h0 h1, e], by omega, by omega, h1⟩
    · rw [if_neg h1] at h; cases h
  · rw [if_neg h0] at h
    by_cases h1 : -(n : Int) ≤ i
    · rw [if_pos h1] at h
      have e : (i + n).toNat = j := Option.some.inj h
      exact ⟨by rw [seqIndex_neg (by omega) h1, e], by omega, h1, by omega⟩
    · rw [if_neg h1] at h; cases h
theorem atI_get {α : Type} {xs : List α} {i : Int} {v : α} (h : atI xs i = some v) : ∃ j, seqIndex? i xs.length = some j ∧ xs[j]? = some v ∧ j < xs.length ∧ -(xs.length : Int) ≤ i ∧ i < xs.length := by
  unfold atI at h
  cases e : ixN xs.length i with
  | none => rw [e] at h; cases h
  | some j =>
    rw [e] at h
    obtain ⟨h1, h2, h3, h4⟩ := ixN_seq e
    exact ⟨j, h1, h, h2, h3, h4⟩
theorem atI_nat {α : Type} {xs : List α} {j : Nat} {v : α} (h : xs[j]? = some v) : atI xs (j : Int) = some v := by
  have hj : j < xs.length := (List.getElem?_eq_some_iff.mp h).1
  have e : ixN xs.length (j : Int) = some j := by
    unfold ixN
    rw [if_pos (by omega), if_pos (by omega)]; simp
  unfold atI; rw [e]; exact h
theorem atI_last {α : Type} (xs : List α) (v : α) : atI (xs ++ [v]) (-1) = some v := by
  have hl : (xs ++ [v]).length = xs.length + 1 := by simp
  have e : ixN (xs ++ [v]).length (-1) = some xs.length := by
    unfold ixN
    rw [hl, if_neg (by decide), if_pos (by omega)]
    congr 1
    omega
  unfold atI
  rw [e]
  show (xs ++ [v])[xs.length]? = some v
  simp
def PlainIx (b : Expr) : Prop := ∀ o i, subscripted b false o i = operate [o, i] (getItem o i)
@[irreducible] def IxR (X : Cx) (r : R2) : Prop :=
  ∀ (value slice : Expr) (pins : List (Addr × Obj)) (s : Shared) (σ : St) (H : Hp) (x y : V) (v u : Value) (Q : VK), Inv X pins σ H s → RelV x v → RelV y u → r x y H Q →
    subscripted slice false v u = operate [v, u] (getItem v u) → wpAny (model X.prog X.w) X.A (subscriptTail value slice v u) (EP X pins σ Q) X.xe s
@[irreducible] def MtR (X : Cx) (id : String) (r : V → List V → Hp → VK → Prop) : Prop :=
  ∀ (pins : List (Addr × Obj)) (s : Shared) (σ : St) (H : Hp) (x : V) (xs : List V) (v : Value) (us : List Value) (Q : VK), Inv X pins σ H s → RelV x v → Vals xs us → r x xs H Q →
    wpAny (model X.prog X.w) X.A (call (.builtin id) (v :: us)) (EP X pins σ Q) X.xe s
section
variable {X : Cx} {a b : Expr} {ta tb : TE} {pos : Pos}
theorem IxR.or {r r' : R2} (h : IxR X r) (h' : IxR X r') : IxR X (fun x y H Q => r x y H Q ∨ r' x y H Q) := by
  unfold IxR at *
  exact by
    intro value slice pins s σ H x y v u Q I rx ry q hs
    rcases q with q | q
    · exact h value slice pins s σ H x y v u Q I rx ry q hs
    · exact h' value slice pins s σ H x y v u Q I rx ry q hs
theorem MtR.or {id : String} {r r' : V → List V → Hp → VK → Prop} (h : MtR X id r) (h' : MtR X id r') : MtR X id (fun x xs H Q => r x xs H Q ∨ r' x xs H Q) := by
  unfold MtR at *
  exact by
    intro pins s σ H x xs v us Q I rx rs q
    rcases q with q | q
    · exact h pins s σ H x xs v us Q I rx rs q
    · exact h' pins s σ H x xs v us Q I rx rs q
theorem pe_ix {r : R2} (hr : IxR X r) (ha : PE X a ta) (hb : PE X b tb) (hs : PlainIx b) : PE X (.Subscript a b pos) (tOp r ta tb) := by
  unfold PE; unfold IxR at hr
  exact by
    intro pins s σ H Q I h
    exact Subscript_ (binT ha hb I h fun v u s2 x y H2 I2 rx ry q => hr a b pins s2 σ H2 x y v u Q I2 rx ry q (hs _ _))
def rIxL (K : PySem.W.Frag) : R2 := fun x y H Q => ∃ p xs i v, x = .ref p ∧ y = .int i ∧ SqL K H p xs ∧ atI xs i = some v ∧ Q v H
def rIxS : R2 := fun x y H Q => ∃ z i c, x = .str z ∧ y = .int i ∧ z.length ≤ sizeLine ∧ atI z.cps.toList i = some c ∧ Q (.str ⟨#[c]⟩) H
theorem ix_list : IxR X (rIxL X.K) := by
  unfold IxR at *
  exact by
    intro value slice pins s σ H x y v u Q I rx ry h hs
    obtain ⟨p, xs, i, z, rfl, rfl, hq, he, q⟩ := h
    cases rx
    obtain ⟨t, rfl⟩ := ry
    obtain ⟨its, r, pl, hz⟩ := I.list hq
    obtain ⟨j, h1, h2, h3, h4, h5⟩ := atI_get he
    obtain ⟨w, ew, rw'⟩ := r.get h2
    have hl := r.length
    have hn := line63
    have fin : EP X pins σ Q w s := ⟨z, H, I, rw', q⟩
    by_cases h0 : 0 ≤ i
    · have hj : i.toNat = j := by
        rw [seqIndex_of h0 h5] at h1
        exact Option.some.inj h1
      exact item_listR pl.isList h0 (by omega) (by rw [hj]; simpa using ew) fin hs
    · have hj : (i + (its.toArray.size : Int)).toNat = j := by
        rw [seqIndex_neg (by omega) h4] at h1
        rw [List.size_toArray, ← hl]
        exact Option.some.inj h1
      exact subscriptTail_builtinR (x := w) pl.isList.typeIs slot_list_getitem.lookup
        (wpAny_getItem_list_neg (Q := fun r s' => r = w ∧ EP X pins σ Q r s') pl.isList (by omega) (by rw [List.size_toArray] <;> omega) (by omega) (by rw [hj]; simpa using ew) ⟨rfl, fin⟩) hs
theorem ix_str : IxR X rIxS := by
  unfold IxR at *
  exact by
    intro value slice pins s σ H x y v u Q I rx ry h hs
    obtain ⟨z, i, c, rfl, rfl, hz, he, q⟩ := h
    obtain ⟨t, rfl⟩ := rx
    obtain ⟨t', rfl⟩ := ry
    obtain ⟨j, h1, h2, h3, h4, h5⟩ := atI_get he
    have hl : z.cps.toList.length = z.length := by simp [Str.length]
    rw [hl] at h1 h4 h5
    have hn := line63
    exact tail_any (typeIs_str s z t) slot_str_getitem.lookup (getItem_str (c := c) (by
      have e1 : decide (i < -(2 ^ 63 : Int)) = false := decide_eq_false (by omega)
      have e2 : decide (i ≥ 2 ^ 63) = false := decide_eq_false (by omega)
      rw [e1, e2, Bool.or_false]) (by rw [h1]; simpa using h2) ⟨.str ⟨#[c]⟩, H, I.tok _, ⟨_, rfl⟩, q⟩) hs
theorem mapSeq_set (its : List Value) (n j : Nat) (u : Value) : Obj.mapSeq (·.setIfInBounds j u) { cls := .type "list", data := .seq its.toArray n } = { cls := .type "list", data := .seq (its.set j u).toArray n } := by
  simp [Obj.mapSeq]
theorem Inv.lst {pins : List (Addr × Obj)} {σ : St} {H : Hp} {s : Shared} {p : Addr} {xs : List V} (I : Inv X pins σ H s) (h : H p = some (.lst xs)) :
    ∃ (its : List Value) (n : Nat), Vals xs its ∧ s.heap.get? p = some { cls := .type "list", data := .seq its.toArray n } ∧ xs.length ≤ sizeLine := by
  obtain ⟨z, its, n, r, e⟩ := I.hok p _ h
  exact ⟨its, n, r, e, z⟩
theorem Inv.lstUpd {pins : List (Addr × Obj)} {σ : St} {H : Hp} {s : Shared} {p : Addr} {xs ys : List V} {its its' : List Value} {n n' : Nat} {f : Obj → Obj} (I : Inv X pins σ H s) (h : H p = some (.lst xs))
    (ho : s.heap.get? p = some { cls := .type "list", data := .seq its.toArray n }) (hf : f { cls := .type "list", data := .seq its.toArray n } = { cls := .type "list", data := .seq its'.toArray n' }) (r : Vals ys its') (hz : ys.length ≤ sizeLine) (t : Nat) :
    Inv X pins σ (upd H p (.lst ys)) { s with heap := s.heap.update p f, toks := t } := by
  have e : (s.heap.update p f).get? p = some { cls := .type "list", data := .seq its'.toArray n' } := by
    rw [Heap.get?_update_self f ho (by rw [hf] <;> rfl), hf]
  refine I.write (x := p) (e := p) (by rw [h]; trivial) (.inl rfl) (fun b u hb q => (Heap.get?_update_other _ _ (Ne.symm hb)).trans q) ⟨_, e⟩ ?_
  exact ⟨hz, its', n', r, e⟩
def rSetL : V → V → V → Hp → (Hp → Prop) → Prop := fun o i v H Q => ∃ p xs k j, o = .ref p ∧ i = .int k ∧ H p = some (.lst xs) ∧ ixN xs.length k = some j ∧ Q (upd H p (.lst (xs.set j v)))
theorem set_list : PSet X rSetL := by
  unfold PSet at *
  exact by
    intro pins s σ H o i v ov iv u Q I ro ri rv h
    obtain ⟨p, xs, k, j, rfl, rfl, hp, hj, q⟩ := h
    cases ro
    obtain ⟨t, rfl⟩ := ri
    obtain ⟨its, n, r, ho, hz⟩ := I.lst hp
    obtain ⟨h1, h2, h3, h4⟩ := ixN_seq hj
    have hl := r.length
    have hn := line63
    have I' : Inv X pins σ (upd H p (.lst (xs.set j v))) { s with heap := s.heap.update p (Obj.mapSeq (·.setIfInBounds j u)) } :=
      I.lstUpd hp ho (mapSeq_set its n j u) (r.set rv j) (by rw [List.length_set]; exact hz) s.toks
    by_cases h0 : 0 ≤ k
    · have hk : k.toNat = j := by
        rw [seqIndex_of h0 h4] at h1
        exact Option.some.inj h1
      exact PySem.W.ki_setAt ho h0 (by omega) (by rw [List.size_toArray, ← hl]; exact h4) (by rw [hk]; exact ⟨_, I', q⟩)
    · have hk : (k + (its.toArray.size : Int)).toNat = j := by
        rw [seqIndex_neg (by omega) h3] at h1
        rw [List.size_toArray, ← hl]
        exact Option.some.inj h1
      exact PySem.W.ki_setBack ho (by omega) (by rw [List.size_toArray, ← hl]; exact h3) (by omega) (by rw [hk]; exact ⟨_, I', q⟩)
theorem slice_bounds (lo hi : Option Int) (n : Nat) : (sliceBounds lo hi none n).1 = ((HT.sIx n 0 lo : Nat) : Int) ∧ (sliceBounds lo hi none n).2.1 = ((HT.sIx n n hi : Nat) : Int) ∧ (sliceBounds lo hi none n).2.2 = 1 := by
  refine ⟨?_, ?_, rfl⟩
  · cases lo with
    | none => simp [sliceBounds, HT.sIx]
    | some i =>
      simp only [sliceBounds, HT.sIx, Option.getD_none, show (1 : Int) > 0 by decide, if_true]
      by_cases h : i < 0
      · simp only [h, if_true] <;> omega
      · simp only [h, if_false] <;> omega
  · cases hi with
    | none => simp [sliceBounds, HT.sIx]
    | some i =>
      simp only [sliceBounds, HT.sIx, Option.getD_none, show (1 : Int) > 0 by decide, if_true]
      by_cases h : i < 0
      · simp only [h, if_true] <;> omega
      · simp only [h, if_false] <;> omega
theorem slicePick_cut (its : List Value) (lo hi : Option Int) : slicePick its.toArray lo hi none = ((its.drop (HT.sIx its.length 0 lo)).take (HT.sIx its.length its.length hi - HT.sIx its.length 0 lo)).toArray := by
  obtain ⟨h1, h2, h3⟩ := slice_bounds lo hi its.toArray.size
  unfold slicePick
  rw [h1, h2, h3]
  simp only [sliceRange_one, pick_run, List.size_toArray] <;> rfl
def rSlL (K : PySem.W.Frag) : V → Option Int → Option Int → Hp → VK → Prop := fun x lo hi H Q => ∃ a xs, x = .ref a ∧ SqL K H a xs ∧ ∀ p, H p = none → Q (.ref p) (upd H p (.lst (cutV xs lo hi)))
theorem sl_list : SlR X (rSlL X.K) := by
  unfold SlR at *
  exact by
    intro pins s σ H x v vl vu lo hi sl Q I rx hs pl pu h
    obtain ⟨a, xs, rfl, hx, q⟩ := h
    cases rx
    obtain ⟨its, r, ht, hz⟩ := I.list hx
    have hlen := r.length
    refine ⟨"list", _, slot_list_getitem.lookup, ht.isList.typeIs, ?_⟩
    refine wpAny_getItem_list_slice ht.isList hs pl pu .none (by simp) ?_ (by rw [List.size_toArray] <;> omega)
    rw [slicePick_cut, ← hlen]
    refine ⟨.ref s.heap.objs.size, _, I.laid (t' := s.toks) (o := .lst (cutV xs lo hi)) (fun b ob q => Heap.get?_push_of_some _ q) (Nat.le_refl _) ?_, rfl, q _ (I.hok.fresh (Nat.le_refl _))⟩
    exact ⟨Nat.le_trans (cutV_length xs lo hi) hz, _, 0, (r.drop (HT.sIx xs.length 0 lo)).take (HT.sIx xs.length xs.length hi - HT.sIx xs.length 0 lo), Heap.get?_push_size _ rfl⟩
def flatV : V → Bool
  | .non => true
  | .bl _ => true
  | .int _ => true
  | .str _ => true
  | _ => false
def eqV : V → V → Bool
  | .non, .non => true
  | .bl a, .bl b => a == b
  | .bl a, .int b => (if a then 1 else 0) == b
  | .int a, .bl b => a == (if b then 1 else 0)
  | .int a, .int b => a == b
  | .str a, .str b => a == b
  | _, _ => false
theorem eqAt_V {A : Around} {s : Shared} {y x : V} {u v : Value} (ry : RelV y u) (rx : RelV x v) (fy : flatV y = true) (fx : flatV x = true) : SeqAt.EqAt A s u v (eqV y x) := by
  cases y with
  | non =>
    cases ry
    cases x with
    | non => cases rx; exact SeqAt.EqAt.same _
    | bl b => cases rx; exact SeqAt.EqAt.none_bool b
    | int b => obtain ⟨t, rfl⟩ := rx; exact SeqAt.EqAt.none_int b t
    | str b => obtain ⟨t, rfl⟩ := rx; exact SeqAt.EqAt.none_str b t
    | _ => exact absurd (show false = true from fx) Bool.false_ne_true
  | bl a =>
    cases ry
    cases x with
    | non => cases rx; exact SeqAt.EqAt.bool_none a
    | bl b => cases rx; exact SeqAt.EqAt.bool_bool a b
    | int b => obtain ⟨t, rfl⟩ := rx; exact SeqAt.EqAt.bool_int a b t
    | str b => obtain ⟨t, rfl⟩ := rx; exact SeqAt.EqAt.bool_str a b t
    | _ => exact absurd (show false = true from fx) Bool.false_ne_true
  | int a =>
    obtain ⟨t', rfl⟩ := ry
    cases x with
    | non => cases rx; exact SeqAt.EqAt.int_none a t'
    | bl b => cases rx; exact SeqAt.EqAt.int_bool a t' b
    | int b => obtain ⟨t, rfl⟩ := rx; exact SeqAt.EqAt.int_int a t' b t
    | str b => obtain ⟨t, rfl⟩ := rx; exact SeqAt.EqAt.int_str a t' b t
    | _ => exact absurd (show false = true from fx) Bool.false_ne_true
  | str a =>
    obtain ⟨t', rfl⟩ := ry
    cases x with
    | non => cases rx; exact SeqAt.EqAt.str_none a t'
    | bl b => cases rx; exact SeqAt.EqAt.str_bool a t' b
    | int b => obtain ⟨t, rfl⟩ := rx; exact SeqAt.EqAt.str_int a t' b t
    | str b => obtain ⟨t, rfl⟩ := rx; exact SeqAt.EqAt.str_str a t' b t
    | _ => exact absurd (show false = true from fx) Bool.false_ne_true
  | _ => exact absurd (show false = true from fy) Bool.false_ne_true
def eqU (x : V) (u : Value) : Bool := match u with
  | .none => eqV .non x
  | .bool b => eqV (.bl b) x
  | .int i _ => eqV (.int i) x
  | .str z _ => eqV (.str z) x
  | _ => false
theorem eqU_of {x y : V} {u : Value} (r : RelV y u) (f : flatV y = true) : eqU x u = eqV y x := by
  cases y with
  | non => cases r; rfl
  | bl b => cases r; rfl
  | int i => obtain ⟨t, rfl⟩ := r; rfl
  | str z => obtain ⟨t, rfl⟩ := r; rfl
  | _ => exact absurd (show false = true from f) Bool.false_ne_true
theorem any_eqU {x : V} : ∀ {xs : List V} {us : List Value}, Vals xs us → xs.all flatV = true → us.any (eqU x) = xs.any fun y => eqV y x
  | _, _, .nil, _ => rfl
  | y :: xs, u :: us, .cons r t, f => by
    rw [List.all_cons, Bool.and_eq_true] at f
    rw [List.any_cons, List.any_cons, eqU_of r f.1, any_eqU t f.2]
theorem mem_eqAt {A : Around} {s : Shared} {x : V} {v : Value} (rx : RelV x v) (fx : flatV x = true) : ∀ {xs : List V} {us : List Value}, Vals xs us → xs.all flatV = true → ∀ u ∈ us, SeqAt.EqAt A s u v (eqU x u)
  | _, _, .nil, _ => fun u hu => by cases hu
  | y :: xs, u :: us, .cons r t, f => fun u' hu => by
    rw [List.all_cons, Bool.and_eq_true] at f
    rcases List.mem_cons.mp hu with rfl | hu
    · rw [eqU_of r f.1]; exact eqAt_V r rx f.1 fx
    · exact mem_eqAt rx fx t f.2 u' hu
def inV (x : V) (xs : List V) : Bool := xs.any fun y => eqV y x
def rIn (K : PySem.W.Frag) (neg : Bool) : R2 := fun x y H Q => ∃ p xs, y = .ref p ∧ (SqL K H p xs ∨ SqT K H p xs) ∧ flatV x = true ∧ xs.all flatV = true ∧ Q (.bl (if neg then !inV x xs else inV x xs)) H
theorem op_in_seq : OpR X (compareOp .In) (rIn X.K false) := by
  unfold OpR at *
  exact by
    intro pins s σ H x y v u Q I rx ry h
    obtain ⟨p, xs, rfl, hq, fx, fs, q⟩ := h
    cases ry
    rcases hq with hq | hq
    · obtain ⟨its, r, pl, hz⟩ := I.list hq
      refine SeqAt.in_listAt (eqU x) pl.isList (fun w hw => mem_eqAt rx fx r fs w (by simpa using hw)) ⟨.bl _, H, I, rfl, ?_⟩
      rw [show its.toArray.any (eqU x) = its.any (eqU x) by simp, any_eqU r fs]
      exact q
    · obtain ⟨its, r, pl, hz⟩ := I.tuple hq
      refine SeqAt.in_tupleAt (eqU x) pl (fun w hw => mem_eqAt rx fx r fs w (by simpa using hw)) ⟨.bl _, H, I, rfl, ?_⟩
      rw [show its.toArray.any (eqU x) = its.any (eqU x) by simp, any_eqU r fs]
      exact q
theorem call_len_seq : CallR X (.builtin "len") (fun xs H Q => ∃ p ys, xs = [.ref p] ∧ (SqL X.K H p ys ∨ SqT X.K H p ys) ∧ Q (.int ys.length) H) := by
  unfold CallR at *
  exact by
    intro pins s σ H xs us Q I r h
    obtain ⟨p, ys, rfl, hq, q⟩ := h
    obtain ⟨u, rfl, rx⟩ := vals1 r
    cases rx
    have hn := line63
    rcases hq with hq | hq
    · obtain ⟨its, r', pl, hz⟩ := I.list hq
      have hlen := r'.length
      exact Calls.call_len_list pl.isList (by simp only [List.size_toArray] <;> omega) ⟨.int ys.length, H, I.tok _, ⟨s.toks + 1, by rw [List.size_toArray, hlen]⟩, q⟩
    · obtain ⟨its, r', pl, hz⟩ := I.tuple hq
      have hlen := r'.length
      exact len_tuple pl (by simp only [List.size_toArray] <;> omega) ⟨.int ys.length, H, I.tok _, ⟨s.toks + 1, by rw [List.size_toArray, hlen]⟩, q⟩
theorem call_len_str : CallR X (.builtin "len") (fun xs H Q => ∃ z, xs = [.str z] ∧ z.length ≤ sizeLine ∧ Q (.int z.length) H) := by
  unfold CallR at *
  exact by
    intro pins s σ H xs us Q I r h
    obtain ⟨z, rfl, hz, q⟩ := h
    obtain ⟨u, rfl, t, rfl⟩ := vals1 r
    have hn := line63
    exact len_str (by omega) ⟨.int z.length, H, I.tok _, ⟨_, rfl⟩, q⟩
theorem CallR.or {f : Value} {r r' : List V → Hp → VK → Prop} (h : CallR X f r) (h' : CallR X f r') : CallR X f (fun xs H Q => r xs H Q ∨ r' xs H Q) := by
  unfold CallR at *
  exact by
    intro pins s σ H xs us Q I rs q
    rcases q with q | q
    · exact h pins s σ H xs us Q I rs q
    · exact h' pins s σ H xs us Q I rs q
theorem call_list_of : CallR X (.type "list") (fun xs H Q => ∃ p ys, xs = [.ref p] ∧ (SqL X.K H p ys ∨ SqT X.K H p ys) ∧ ∀ l, H l = none → Q (.ref l) (upd H l (.lst ys))) := by
  unfold CallR at *
  exact by
    intro pins s σ H xs us Q I r h
    obtain ⟨p, ys, rfl, hq, q⟩ := h
    obtain ⟨u, rfl, rx⟩ := vals1 r
    cases rx
    have fin : ∀ (its : List Value), Vals ys its → ys.length ≤ sizeLine → ∀ (h' : Heap) (c' : Nat), (∀ b o', s.heap.get? b = some o' → h'.get? b = some o') →
        h'.get? s.heap.objs.size = some { cls := .type "list", dict := none, data := .seq its.toArray c', slots := #[] } → EP X pins σ Q (.ref s.heap.objs.size) { s with heap := h' } := fun its r' hz h' c' kp e =>
      ⟨.ref s.heap.objs.size, _, I.laid (t' := s.toks) kp (Nat.le_refl _) (show ObjOk X.prog X.w _ h' _ (.lst ys) from ⟨hz, its, c', r', e⟩), rfl, q _ (I.hok.fresh (Nat.le_refl _))⟩
    rcases hq with hq | hq
    · obtain ⟨its, r', pl, hz⟩ := I.list hq
      have hlen := r'.length
      obtain ⟨o, ho, hc, n, hd⟩ := pl.isList
      exact call_list_seq p (.inl rfl) ho hc hd (fun h' c' kp e => fin its r' hz h' c' kp e) (by simp only [List.size_toArray] <;> omega)
    · obtain ⟨its, r', pl, hz⟩ := I.tuple hq
      have hlen := r'.length
      obtain ⟨o, ho, hc, n, hd⟩ := pl
      exact call_list_seq p (.inr rfl) ho hc hd (fun h' c' kp e => fin its r' hz h' c' kp e) (by simp only [List.size_toArray] <;> omega)
theorem call_tuple_of : CallR X (.type "tuple") (fun xs H Q => ∃ p ys, xs = [.ref p] ∧ ((SqL X.K H p ys ∧ ∀ l, H l = none → Q (.ref l) (upd H l (.tup ys))) ∨ (SqT X.K H p ys ∧ Q (.ref p) H))) := by
  unfold CallR at *
  exact by
    intro pins s σ H xs us Q I r h
    obtain ⟨p, ys, rfl, h⟩ := h
    obtain ⟨u, rfl, rx⟩ := vals1 r
    cases rx
    rcases h with ⟨hq, q⟩ | ⟨hq, q⟩
    · obtain ⟨its, r', pl, hz⟩ := I.list hq
      have hlen := r'.length
      refine call_tuple_list pl.isList (fun h' kp => ?_) (by simp only [List.size_toArray] <;> omega)
      have I1 : Inv X pins σ H { s with heap := h' } := I.kept (t' := s.toks) kp
      have I2 : Inv X pins σ (upd H h'.objs.size (.tup ys)) { s with heap := h'.push { cls := .type "tuple", data := .seq its.toArray } } :=
        I1.laid (t' := s.toks) (fun b o e => Heap.get?_push_of_some _ e) (Nat.le_refl _) (show ObjOk X.prog X.w _ _ _ (.tup ys) from ⟨hz, its, r', IsTup.new _ _⟩)
      exact ⟨.ref h'.objs.size, _, I2, rfl, q _ (I1.hok.fresh (Nat.le_refl _))⟩
    · obtain ⟨its, r', pl, hz⟩ := I.tuple hq
      exact call_tuple_same pl ⟨.ref p, H, I, rfl, q⟩
def tyV (K : PySem.W.Frag) (T : String) (x : V) (H : Hp) : Prop := match x with
  | .str _ => T = "str"
  | .int _ => T = "int"
  | .ref p => (T = "list" ∧ ∃ xs, SqL K H p xs) ∨ (T = "tuple" ∧ ∃ o, K.lookup p = some o ∧ o.cls = .type "tuple" ∧ o.dict = none) ∨
      (T = "dict" ∧ ((∃ kvs, H p = some (.dK kvs)) ∨ ∃ kvs, H p = some (.dT kvs))) ∨ (T = "set" ∧ ∃ S n, H p = some (.set S n))
  | _ => False
theorem tyV_is {pins : List (Addr × Obj)} {σ : St} {H : Hp} {s : Shared} {T : String} {x : V} {v : Value} (I : Inv X pins σ H s) (r : RelV x v) (ty : tyV X.K T x H) :
    s.TypeIs v T ∧ ∀ a, v = .ref a → ∃ ob, s.heap.get? a = some ob ∧ ob.dict = none := by
  cases x with
  | str z =>
    obtain ⟨t, rfl⟩ := r
    cases (show T = "str" from ty)
    exact ⟨typeIs_str s z t, fun _ e => nomatch e⟩
  | int i =>
    obtain ⟨t, rfl⟩ := r
    cases (show T = "int" from ty)
    exact ⟨typeIs_int s i t, fun _ e => nomatch e⟩
  | ref p =>
    cases r
    rcases ty with ⟨rfl, xs, hq⟩ | ⟨rfl, o, hk, hc, hd⟩ | ⟨rfl, hk⟩ | ⟨rfl, S, n, hk⟩
    · obtain ⟨its, _, pl, _⟩ := I.list hq
      refine ⟨pl.isList.typeIs, fun a e => ?_⟩
      cases e
      obtain ⟨o, n, e, c, hd, _⟩ := pl
      exact ⟨o, e, hd⟩
    · refine ⟨⟨o, I.kIn p o hk, hc⟩, fun a e => ?_⟩
      cases e
      exact ⟨o, I.kIn _ o hk, hd⟩
    · have z : ∃ o, s.heap.get? p = some o ∧ o.ExactDict := by
        rcases hk with ⟨kvs, hk⟩ | ⟨kvs, hk⟩
        · obtain ⟨_, _, _, _, o, _, _, e, ex, _⟩ := I.hok p _ hk
          exact ⟨o, e, ex⟩
        · obtain ⟨_, _, _, _, o, _, _, e, ex, _⟩ := I.hok p _ hk
          exact ⟨o, e, ex⟩
      obtain ⟨o, e, ex⟩ := z
      refine ⟨⟨o, e, ex.1⟩, fun a e2 => ?_⟩
      cases e2
      exact ⟨o, e, ex.2.1⟩
    · obtain ⟨o, _, _, _, e, ex, _⟩ := I.hok p _ hk
      refine ⟨⟨o, e, ex.1⟩, fun a e2 => ?_⟩
      cases e2
      exact ⟨o, e, ex.2.1⟩
  | _ => exact False.elim ty
def tBM0 (K : PySem.W.Frag) (T : String) (r : V → List V → Hp → VK → Prop) (to : TE) : TE := fun σ H Q => to σ H fun x H1 => tyV K T x H1 ∧ r x [] H1 Q
def tBM (K : PySem.W.Frag) (T : String) (r : V → List V → Hp → VK → Prop) (to : TE) (t : TA) : TE := fun σ H Q => to σ H fun x H1 => tyV K T x H1 ∧ t σ H1 fun xs H2 => r x xs H2 Q
variable {o e : Expr} {es : List Expr} {to : TE} {t : TA} {name : Str} {apos cpos : Pos} {T id : String} {r : V → List V → Hp → VK → Prop}
theorem pe_bm0 (pa : PlainAttrs T) (slot : Slot T name id) (hty : typeOf (.builtin id) = pure (.type "method_descriptor")) (hm : MtR X id r) (ho : PE X o to)
    (hbase : attributeBase o name X.env (eval o X.env) = eval o X.env := by rfl) (hline : (apos.endLine == cpos.line) = true := by rfl) : PE X (.Call (.Attribute o name apos) [] [] cpos) (tBM0 X.K T r to) := by
  unfold PE at *; unfold MtR at *
  exact by
    intro pins s σ H Q I h
    refine wpAny_Call_method0_late hbase hline (thn (ho pins s σ H _ I h) fun v s1 ⟨x, H1, I1, r1, ty, q1⟩ => ?_)
    obtain ⟨h1, h2⟩ := tyV_is I1 r1 ty
    exact ⟨T, id, pa, slot, hty, h1, h2, Calls.callWith_builtin rfl (PySem.evalArgs_none (hm pins s1 σ H1 x [] v [] Q I1 r1 .nil q1))⟩
theorem pe_bm (pa : PlainAttrs T) (slot : Slot T name id) (hty : typeOf (.builtin id) = pure (.type "method_descriptor")) (hm : MtR X id r) (ho : PE X o to) (ha : PA X (e :: es) t)
    (hbase : attributeBase o name X.env (eval o X.env) = eval o X.env := by rfl)
    (hfew : ((backTo cpos (starEach (e :: es) X.env)).all (fun x => !x.1) && (backToKw cpos (keywordEach [] X.env)).all (fun x => x.1.isSome)
      && decide ((e :: es).length + ([] : List Keyword).length + (if ([] : List Keyword).isEmpty then 0 else 1) < 30)) = true := by rfl)
    (hline : (apos.endLine == cpos.line) = true := by rfl) (hs : starEach (e :: es) X.env = (false, eval e X.env) :: starEach es X.env := by rfl) (hplain : (backTo cpos (starEach es X.env)).any (·.1) = false := by rfl) :
    PE X (.Call (.Attribute o name apos) (e :: es) [] cpos) (tBM X.K T r to t) := by
  unfold PE at *; unfold PA at *; unfold MtR at *
  exact by
    intro pins s σ H Q I h
    refine wpAny_Call_method_late hbase hfew hline rfl (thn (ho pins s σ H _ I h) fun v s1 ⟨x, H1, I1, r1, ty, q1⟩ => ?_)
    obtain ⟨h1, h2⟩ := tyV_is I1 r1 ty
    refine ⟨T, id, pa, slot, hty, h1, h2, ?_⟩
    have hA := ha cpos pins s1 σ H1 _ I1 q1
    rw [hs] at hA ⊢
    refine Calls.callWith_builtin (by show (false || (backTo cpos (starEach es X.env)).any (·.1)) = false; rw [hplain] <;> rfl) (Calls.evalArgs_plain ?_)
    exact thn hA fun us s2 ⟨vs, H2, I2, r2, q2⟩ => hm pins s2 σ H2 x vs v us Q I2 r1 r2 q2
/- xs.append(e), list.index on a module's tuple .. are MtR facts of 06m -/
end
end L2
namespace L2
open PySem PySem.Spec PyProof.Rows
@[irreducible] def MtM (X : Cx) (id : String) (r : V → List V → Hp → VK → Prop) : Prop :=
  ∀ (pins : List (Addr × Obj)) (s : Shared) (σ : St) (H : Hp) (x : V) (xs : List V) (v : Value) (us : List Value) (Q : VK), Inv X pins σ H s → RelV x v → Vals xs us → r x xs H Q →
    wpAny (model X.prog X.w) X.A (call (.builtin id) (v :: us)) (EP X pins σ Q) X.xe s
theorem Vals.one : ∀ {x : V} {us : List Value}, Vals [x] us → ∃ u, us = [u] ∧ RelV x u
  | _, _, .cons r .nil => ⟨_, rfl, r⟩
theorem Vals.two : ∀ {x y : V} {us : List Value}, Vals [x, y] us → ∃ u v, us = [u, v] ∧ RelV x u ∧ RelV y v
  | _, _, _, .cons r (.cons q .nil) => ⟨_, _, rfl, r, q⟩
theorem Vals.reverse {xs : List V} {us : List Value} (h : Vals xs us) : Vals xs.reverse us.reverse := by
  induction h with
  | nil => exact .nil
  | cons r t ih => rw [List.reverse_cons, List.reverse_cons]; exact Vals.append ih (.cons r .nil)
section
variable {X : Cx} {pins : List (Addr × Obj)} {σ : St} {H : Hp} {s : Shared} {l b : Addr} {xs ys zs : List V}
theorem Inv.lset {its its' : List Value} {n : Nat} {f : Array Value → Array Value} {t' : Nat} (I : Inv X pins σ H s) (hH : H l = some (.lst xs))
    (e : s.heap.get? l = some { cls := .type "list", data := .seq its.toArray n }) (hf : f its.toArray = its'.toArray) (hv : Vals ys its') (hz : ys.length ≤ sizeLine) :
    Inv X pins σ (upd H l (.lst ys)) { s with heap := s.heap.update l (Obj.mapSeq f), toks := t' } := by
  have q := PySem.IsL.update e f
  rw [hf] at q
  refine I.write (x := l) (e := l) (by rw [hH]; exact trivial) (.inl rfl) (fun b' u hb hu => (Heap.get?_update_other s.heap (Obj.mapSeq f) (Ne.symm hb)).trans hu) ⟨_, q⟩ ?_
  exact ⟨hz, its', _, hv, q⟩
theorem Inv.lnew {its : List Value} {t' : Nat} (I : Inv X pins σ H s) (hv : Vals ys its) (hz : ys.length ≤ sizeLine) :
    Inv X pins σ (upd H s.heap.objs.size (.lst ys)) { s with heap := s.heap.push { cls := .type "list", data := .seq its.toArray }, toks := t' } :=
  I.laid (fun _ _ q => Heap.get?_push_of_some _ q) (Nat.le_refl _) ⟨hz, its, 0, hv, Heap.get?_push_size _ rfl⟩
theorem Inv.fresh (I : Inv X pins σ H s) : H s.heap.objs.size = none := I.hok.fresh (Nat.le_refl _)
theorem Inv.lstM (I : Inv X pins σ H s) (hH : H l = some (.lst xs)) : xs.length ≤ sizeLine ∧ ∃ (its : List Value) (n : Nat), Vals xs its ∧ xs.length = its.length ∧ s.heap.get? l = some { cls := .type "list", data := .seq its.toArray n } := by
  obtain ⟨z, its, n, r, e⟩ := I.hok l _ hH
  exact ⟨z, its, n, r, r.length, e⟩
end
section
variable {X : Cx}
def rAppend : V → List V → Hp → VK → Prop := fun x vs H Q => ∃ l xs y, x = .ref l ∧ vs = [y] ∧ H l = some (.lst xs) ∧ xs.length < sizeLine ∧ Q .non (upd H l (.lst (xs ++ [y])))
theorem mt_append : MtM X "list.append" rAppend := by
  unfold MtM at *
  exact by
    intro pins s σ H x vs v us Q I rx rv h
    obtain ⟨l, xs, y, rfl, rfl, hH, hz, q⟩ := h
    cases rx
    obtain ⟨u, rfl, ru⟩ := rv.one
    obtain ⟨z, its, n, r, hl, e⟩ := I.lstM hH
    refine call_meets F.slot_list_append ⟨_, e, rfl⟩ F.entry_list_append (F.args_list_append_2 _ _) (PySem.list_append l its.toArray n u (by rw [List.size_toArray]; omega)) ⟨e, ?_⟩
    refine ⟨.non, _, I.lset (its' := its ++ [u]) hH e (by simp) (r.append (.cons ru .nil)) ?_, rfl, q⟩
    rw [List.length_append, List.length_singleton]
    omega
def rCat : R2 := fun x y H Q => ∃ l b xs zs, x = .ref l ∧ y = .ref b ∧ H l = some (.lst xs) ∧ H b = some (.lst zs) ∧ xs.length + zs.length ≤ sizeLine ∧ ∀ p, H p = none → Q (.ref p) (upd H p (.lst (xs ++ zs)))
theorem op_cat : OpR X (binaryOp .Add) rCat := by
  unfold OpR at *
  exact by
    intro pins s σ H x y v u Q I rx ry h
    obtain ⟨l, b, xs, zs, rfl, rfl, hH, hB, hz, q⟩ := h
    cases rx
    cases ry
    obtain ⟨z, its, n, r, hl, e⟩ := I.lstM hH
    obtain ⟨z2, its2, n2, r2, hl2, e2⟩ := I.lstM hB
    refine PySem.P.add_list e e2 ?_ (by rw [List.size_toArray, List.size_toArray]; omega)
    have ea : its.toArray ++ its2.toArray = (its ++ its2).toArray := by simp
    rw [ea]
    exact ⟨.ref _, _, I.lnew (t' := s.toks) (r.append r2) (by rw [List.length_append]; omega), rfl, q _ I.fresh⟩
end
section
variable {prog : Program} {w : World} {A : Around} {E : Value → Shared → Prop} {s : Shared}
set_option maxRecDepth 100000 in
end
section
variable {X : Cx}
end
end L2
namespace L2
open PySem PySem.Spec PyProof.Rows
section
variable {κ : Type} [DecidableEq κ]
def valV (kvs : List (κ × V)) (k : κ) : Option V := (kvs.find? fun kv => decide (kv.1 = k)).map (·.2)
def putK (kvs : List (κ × V)) (k : κ) (v : V) : List (κ × V) :=
  if (kvs.any fun kv => decide (kv.1 = k)) = true then kvs.map (fun kv => if kv.1 = k then (kv.1, v) else kv) else kvs ++ [(k, v)]
def dropK (kvs : List (κ × V)) (k : κ) : List (κ × V) := kvs.filter fun kv => decide (kv.1 ≠ k)
theorem valV_pos {p : κ × V} {r : List (κ × V)} {k : κ} (e : p.1 = k) : valV (p :: r) k = some p.2 := by simp [valV, List.find?_cons, e]
theorem valV_neg {p : κ × V} {r : List (κ × V)} {k : κ} (e : ¬ p.1 = k) : valV (p :: r) k = valV r k := by simp [valV, List.find?_cons, e]
theorem valV_any (k : κ) : ∀ kvs : List (κ × V), (kvs.any fun kv => decide (kv.1 = k)) = (valV kvs k).isSome
  | [] => rfl
  | p :: r => by
    rw [List.any_cons]
    by_cases e : p.1 = k
    · simp only [valV_pos e, decide_eq_true e, Bool.true_or, Option.isSome_some]
    · rw [valV_neg e, decide_eq_false e, Bool.false_or]; exact valV_any k r
theorem valV_map (k j : κ) (y : V) : ∀ kvs : List (κ × V), valV (kvs.map fun kv => if kv.1 = k then (kv.1, y) else kv) j = (valV kvs j).map fun x => if j = k then y else x
  | [] => rfl
  | p :: r => by
    have ih := valV_map k j y r
    rw [List.map_cons]
    by_cases h : p.1 = k
    · rw [if_pos h]
      by_cases e : p.1 = j
      · rw [valV_pos (p := (p.1, y)) e, valV_pos e, Option.map_some, if_pos (e.symm.trans h)]
      · rw [valV_neg (p := (p.1, y)) e, valV_neg e, ih]
    · rw [if_neg h]
      by_cases e : p.1 = j
      · rw [valV_pos (p := p) e, valV_pos e, Option.map_some, if_neg (fun z => h (e.trans z))]
      · rw [valV_neg (p := p) e, valV_neg e, ih]
theorem valV_snoc (k j : κ) (y : V) : ∀ kvs : List (κ × V), valV kvs k = none → valV (kvs ++ [(k, y)]) j = if j = k then some y else valV kvs j
  | [], _ => by
    by_cases e : k = j
    · rw [if_pos e.symm]; exact valV_pos (p := (k, y)) e
    · rw [if_neg (fun z => e z.symm)]; exact valV_neg (p := (k, y)) e
  | p :: r, hn => by
    rw [List.cons_append]
    have hk : ¬ p.1 = k := fun z => by rw [valV_pos z] at hn; cases hn
    rw [valV_neg hk] at hn
    have ih := valV_snoc k j y r hn
    by_cases e : p.1 = j
    · rw [valV_pos e, valV_pos e, if_neg (fun z => hk (e.trans z))]
    · rw [valV_neg e, valV_neg e, ih]
theorem valV_put (kvs : List (κ × V)) (k j : κ) (y : V) : valV (putK kvs k y) j = if j = k then some y else valV kvs j := by
  unfold putK
  by_cases a : (kvs.any fun kv => decide (kv.1 = k)) = true
  · rw [if_pos a, valV_map]
    rw [valV_any] at a
    by_cases e : j = k
    · obtain ⟨x, hx⟩ := Option.isSome_iff_exists.mp a
      rw [if_pos e, e, hx, Option.map_some, if_pos rfl]
    · rw [if_neg e]
      cases valV kvs j with
      | none => rfl
      | some x => rw [Option.map_some, if_neg e]
  · rw [if_neg a]
    refine valV_snoc k j y kvs ?_
    rw [valV_any] at a
    cases q : valV kvs k with
    | none => rfl
    | some x => rw [q] at a; exact (a rfl).elim
theorem length_putK (kvs : List (κ × V)) (k : κ) (v : V) : (putK kvs k v).length ≤ kvs.length + 1 := by
  unfold putK
  split
  · rw [List.length_map]; omega
  · rw [List.length_append, List.length_cons, List.length_nil]; omega
theorem putK_new {kvs : List (κ × V)} {k : κ} (v : V) (h : valV kvs k = none) : putK kvs k v = kvs ++ [(k, v)] := by
  unfold putK
  rw [valV_any, h]
  exact if_neg (by decide)
theorem RelO.isSome_eq {o : Option V} {u : Option Value} (r : RelO o u) : o.isSome = u.isSome := by
  cases o with
  | none => cases u with
    | none => rfl
    | some _ => exact (show False from r).elim
  | some _ => cases u with
    | none => exact (show False from r).elim
    | some _ => rfl
theorem RelO.getD {o : Option V} {u : Option Value} {d : V} {d' : Value} (r : RelO o u) (rd : RelV d d') : RelV (o.getD d) (u.getD d') := by
  cases o with
  | none => cases u with
    | none => exact rd
    | some _ => exact (show False from r).elim
  | some _ => cases u with
    | none => exact (show False from r).elim
    | some _ => exact r
theorem KV.val {kvs : List (κ × V)} {vs : List (κ × Value)} (r : KV kvs vs) (k : κ) : RelO (valV kvs k) (valueAt vs k) := by
  unfold KV at r
  induction r with
  | nil => exact True.intro
  | @cons p q ps qs h t ih =>
    obtain ⟨h1, h2⟩ := h
    by_cases e : p.1 = k
    · have e' : q.1 = k := h1.symm.trans e
      have b : valueAt (q :: qs) k = some q.2 := by simp [valueAt, List.find?_cons, e']
      rw [valV_pos e, b]; exact h2
    · have e' : ¬ q.1 = k := fun z => e (h1.trans z)
      have b : valueAt (q :: qs) k = valueAt qs k := by simp [valueAt, List.find?_cons, e']
      rw [valV_neg e, b]; exact ih
theorem KV.any {kvs : List (κ × V)} {vs : List (κ × Value)} (r : KV kvs vs) (k : κ) : (kvs.any fun kv => decide (kv.1 = k)) = vs.any fun kv => decide (kv.1 = k) := by
  unfold KV at r
  induction r with
  | nil => rfl
  | cons h t ih => rw [List.any_cons, List.any_cons, ih, h.1]
theorem KV.repl {kvs : List (κ × V)} {vs : List (κ × Value)} (r : KV kvs vs) (k : κ) {y : V} {u : Value} (ry : RelV y u) :
    KV (kvs.map fun kv => if kv.1 = k then (kv.1, y) else kv) (vs.map fun kv => if kv.1 = k then (kv.1, u) else kv) := by
  unfold KV at r ⊢
  induction r with
  | nil => exact .nil
  | @cons p q ps qs h t ih =>
    rw [List.map_cons, List.map_cons]
    refine .cons ?_ ih
    obtain ⟨h1, h2⟩ := h
    by_cases e : p.1 = k
    · rw [if_pos e, if_pos (h1.symm.trans e)]; exact ⟨h1, ry⟩
    · rw [if_neg e, if_neg (fun z => e (h1.trans z))]; exact ⟨h1, h2⟩
theorem KV.put {kvs : List (κ × V)} {vs : List (κ × Value)} (r : KV kvs vs) (k : κ) {y : V} {u : Value} (ry : RelV y u) : KV (putK kvs k y) (stored vs k u) := by
  unfold putK stored
  rw [r.any k]
  by_cases e : (vs.any fun kv => decide (kv.1 = k)) = true
  · rw [if_pos e, if_pos e]; exact r.repl k ry
  · rw [if_neg e, if_neg e]; exact Paired.snoc r ⟨rfl, ry⟩
theorem KV.drop {kvs : List (κ × V)} {vs : List (κ × Value)} (r : KV kvs vs) (k : κ) : KV (dropK kvs k) (without vs k) := by
  unfold KV at r ⊢
  unfold dropK without
  induction r with
  | nil => exact .nil
  | @cons p q ps qs h t ih =>
    obtain ⟨h1, h2⟩ := h
    rw [List.filter_cons, List.filter_cons]
    by_cases e : p.1 = k
    · have a : ¬ decide (p.1 ≠ k) = true := by simp [e]
      have b : ¬ decide (q.1 ≠ k) = true := by simp [h1.symm.trans e]
      rw [if_neg a, if_neg b]; exact ih
    · have e' : ¬ q.1 = k := fun z => e (h1.trans z)
      have a : decide (p.1 ≠ k) = true := by simp [e]
      have b : decide (q.1 ≠ k) = true := by simp [e']
      rw [if_pos a, if_pos b]; exact .cons ⟨h1, h2⟩ ih
theorem KV.length {kvs : List (κ × V)} {vs : List (κ × Value)} (r : KV kvs vs) : kvs.length = vs.length := Paired.length r
end
theorem kV_is {P : Program} {w : World} {k : Key} {u : Value} (r : RelV (kV k) u) : (mixKind P w).is k u = true := by
  cases k with
  | inl i => obtain ⟨t, e⟩ := (show ∃ t, u = Value.int i t from r); subst e; exact mixKind_int P w i t
  | inr x => obtain ⟨t, e⟩ := (show ∃ t, u = Value.str x t from r); subst e; exact mixKind_str P w x t
theorem items_are {P : Program} {w : World} : ∀ {ks : List Key} {us : List Value}, Vals (ks.map kV) us → ItemsAre (mixKind P w) ks us
  | [], _, r => by rw [List.map_nil] at r; cases r; exact .nil
  | k :: ks, _, r => by
    rw [List.map_cons] at r
    cases r with
    | cons h t => exact .cons (kV_is h) (items_are t)
abbrev KT (H : Hp) : List (List Key × V) → List (List Key × Addr × Value) → Prop := Paired fun p q => p.1 = q.1 ∧ H q.2.1 = some (.tup (p.1.map kV)) ∧ RelV p.2 q.2.2
theorem KT.val {H : Hp} {kvs : List (List Key × V)} {xs : List (List Key × Addr × Value)} (r : KT H kvs xs) (k : List Key) : RelO (valV kvs k) ((atKey xs k).map (·.2)) := by
  induction r with
  | nil => exact True.intro
  | @cons p q ps qs h t ih =>
    obtain ⟨h1, _, h2⟩ := h
    by_cases e : p.1 = k
    · have e' : q.1 = k := h1.symm.trans e
      have b : atKey (q :: qs) k = some q.2 := by simp [atKey, List.find?_cons, e']
      rw [valV_pos e, b]; exact h2
    · have e' : ¬ q.1 = k := fun z => e (h1.trans z)
      have b : atKey (q :: qs) k = atKey qs k := by simp [atKey, List.find?_cons, e']
      rw [valV_neg e, b]; exact ih
theorem KT.repl {H : Hp} {kvs : List (List Key × V)} {xs : List (List Key × Addr × Value)} (r : KT H kvs xs) (k : List Key) {y : V} {u : Value} (ry : RelV y u) :
    KT H (kvs.map fun kv => if kv.1 = k then (kv.1, y) else kv) (xs.map (putAt k u)) := by
  induction r with
  | nil => exact .nil
  | @cons p q ps qs h t ih =>
    rw [List.map_cons, List.map_cons]
    refine .cons ?_ ih
    obtain ⟨h1, h2, h3⟩ := h
    unfold putAt
    by_cases e : p.1 = k
    · rw [if_pos e, if_pos (h1.symm.trans e)]; exact ⟨h1, h2, ry⟩
    · rw [if_neg e, if_neg (fun z => e (h1.trans z))]; exact ⟨h1, h2, h3⟩
theorem KT.put {H : Hp} {kvs : List (List Key × V)} {xs : List (List Key × Addr × Value)} (r : KT H kvs xs) (k : List Key) {b : Addr} {y : V} {u : Value} (hb : H b = some (.tup (k.map kV))) (ry : RelV y u) :
    KT H (putK kvs k y) (storedH xs k b u) := by
  have e : (kvs.any fun kv => decide (kv.1 = k)) = (atKey xs k).isSome := by
    rw [valV_any, (r.val k).isSome_eq, Option.isSome_map]
  unfold putK storedH
  rw [e]
  by_cases q : (atKey xs k).isSome = true
  · rw [if_pos q, if_pos q]; exact r.repl k ry
  · rw [if_neg q, if_neg q]; exact Paired.snoc r ⟨rfl, hb, ry⟩
theorem KT.keeps {H H' : Hp} {kvs : List (List Key × V)} {xs : List (List Key × Addr × Value)} (r : KT H kvs xs) (ht : ∀ b ys, H b = some (.tup ys) → H' b = some (.tup ys)) : KT H' kvs xs :=
  Paired.mapP r fun _ _ z => ⟨z.1, ht _ _ z.2.1, z.2.2⟩
section
variable {P : Program} {w : World} {H : Hp} {h : Heap} {a : Addr}
theorem rd_of {u : HO} (ok : HOk P w H h) (e : Rd H a u) : ObjOk P w H h a u := e.ok ok
theorem dk_rd {kvs : List (Key × V)} (ok : HOk P w H h) (e : Rd H a (.dK kvs)) : kvs.length ≤ sizeLine ∧ (a == sysModules) = false ∧ ∃ vs, KV kvs vs ∧ h.DictOf (mixKind P w) a vs :=
  show ObjOk P w H h a (.dK kvs) from rd_of ok e
theorem dk_of {kvs : List (Key × V)} (ok : HOk P w H h) (e : H a = some (.dK kvs)) : kvs.length ≤ sizeLine ∧ (a == sysModules) = false ∧ ∃ vs, KV kvs vs ∧ h.DictOf (mixKind P w) a vs := dk_rd ok (.inl e)
theorem key_of {ks : List Key} (ok : HOk P w H h) (e : H a = some (.tup (ks.map kV))) : (tupleKind (mixKind P w)).is h ks a := by
  obtain ⟨_, its, r, o, h1, h2, n, h3⟩ := (show ObjOk P w H h a (.tup (ks.map kV)) from ok a _ e)
  exact ⟨o, its.toArray, n, h1, h2, h3, by simpa using items_are r⟩
theorem dt_rd {kvs : List (List Key × V)} (ok : HOk P w H h) (e : Rd H a (.dT kvs)) : kvs.length ≤ sizeLine ∧ (a == sysModules) = false ∧
    ∃ xs, KT H kvs xs ∧ h.DictOfH (tupleKind (mixKind P w)) a xs := by
  obtain ⟨z, y, xs, r, o, es, ep, h1, h2, h3, h4, h5⟩ := (show ObjOk P w H h a (.dT kvs) from rd_of ok e)
  refine ⟨z, y, xs, r, o, es, ep, h1, h2, h3, h4, fun x hx => ?_, h5⟩
  have all : ∀ {l : List (List Key × V)} {m : List (List Key × Addr × Value)}, KT H l m → ∀ x ∈ m, (tupleKind (mixKind P w)).is h x.1 x.2.1 := by
    intro l m q
    induction q with
    | nil => intro x hx; exact nomatch hx
    | @cons p q ps qs hq t ih =>
      intro x hx
      rcases List.mem_cons.mp hx with e | hx
      · subst e
        exact key_of ok (by rw [← hq.1]; exact hq.2.1)
      · exact ih x hx
  exact all r x hx
theorem dt_of {kvs : List (List Key × V)} (ok : HOk P w H h) (e : H a = some (.dT kvs)) : kvs.length ≤ sizeLine ∧ (a == sysModules) = false ∧
    ∃ xs, KT H kvs xs ∧ h.DictOfH (tupleKind (mixKind P w)) a xs := dt_rd ok (.inl e)
end
def DGet (H : Hp) (a : Addr) (y : V) (r : Option V) : Prop :=
  (∃ kvs k, Rd H a (.dK kvs) ∧ y = kV k ∧ r = valV kvs k) ∨ ∃ kvs k b, Rd H a (.dT kvs) ∧ y = .ref b ∧ H b = some (.tup (k.map kV)) ∧ r = valV kvs k
def DPut (H : Hp) (a : Addr) (y v : V) (H' : Hp) : Prop :=
  (∃ kvs k, H a = some (.dK kvs) ∧ y = kV k ∧ kvs.length < sizeLine ∧ H' = upd H a (.dK (putK kvs k v))) ∨
  ∃ kvs k b, H a = some (.dT kvs) ∧ y = .ref b ∧ H b = some (.tup (k.map kV)) ∧ kvs.length < sizeLine ∧ H' = upd H a (.dT (putK kvs k v))
theorem DGet.k {H : Hp} {a : Addr} {kvs : List (Key × V)} {k : Key} (e : H a = some (.dK kvs)) : DGet H a (kV k) (valV kvs k) := .inl ⟨kvs, k, .inl e, rfl, rfl⟩
theorem DGet.t {H : Hp} {a b : Addr} {kvs : List (List Key × V)} {k : List Key} (e : H a = some (.dT kvs)) (eb : H b = some (.tup (k.map kV))) : DGet H a (.ref b) (valV kvs k) := .inr ⟨kvs, k, b, .inl e, rfl, eb, rfl⟩
theorem DPut.k {H : Hp} {a : Addr} {kvs : List (Key × V)} {k : Key} {v : V} (e : H a = some (.dK kvs)) (hl : kvs.length < sizeLine) : DPut H a (kV k) v (upd H a (.dK (putK kvs k v))) := .inl ⟨kvs, k, e, rfl, hl, rfl⟩
theorem DPut.t {H : Hp} {a b : Addr} {kvs : List (List Key × V)} {k : List Key} {v : V} (e : H a = some (.dT kvs)) (eb : H b = some (.tup (k.map kV))) (hl : kvs.length < sizeLine) :
    DPut H a (.ref b) v (upd H a (.dT (putK kvs k v))) := .inr ⟨kvs, k, b, e, rfl, eb, hl, rfl⟩
section
variable {X : Cx} {pins : List (Addr × Obj)} {σ : St} {H : Hp} {s : Shared} {a : Addr} {y v : V} {u r : Value} {o : Option V} {A : Around} {E : Value → Shared → Prop}
theorem Inv.big (I : Inv X pins σ H s) : sysModules < s.heap.objs.size := by
  have h : mainGlobals < s.heap.objs.size := (I.mod.glob.keeps I.bk).lt
  exact Nat.lt_trans (by decide) h
theorem d_getItem {Q : Value → Shared → Prop} (hu : A.units + 1 < cLine) (I : Inv X pins σ H s) (g : DGet H a y (some v)) (ry : RelV y u) (h : ∀ w' s', Inv X pins σ H s' → RelV v w' → Q w' s') :
    wpAny (model X.prog X.w) A (getItem (.ref a) u) Q E s := by
  rcases g with ⟨kvs, k, e, ey, l⟩ | ⟨kvs, k, b, e, ey, eb, l⟩
  · subst ey
    obtain ⟨z, hd, vs, rel, dd⟩ := dk_rd I.hok e
    obtain ⟨w', hw, rw'⟩ := RelO.some_of (v := v) (o := valueAt vs k) (by rw [l]; exact rel.val k)
    exact wpAny_getItem_of (kV_is ry) dd.mapOf hw (h w' _ (I.tok _) rw')
  · subst ey
    cases (show u = Value.ref b from ry)
    obtain ⟨z, hd, xs, rel, dd⟩ := dt_rd I.hok e
    obtain ⟨w', hw, rw'⟩ := RelO.some_of (v := v) (o := (atKey xs k).map (·.2)) (by rw [l]; exact rel.val k)
    obtain ⟨p, hp, hp2⟩ := Option.map_eq_some_iff.mp hw
    refine wpAny_getItem_heap (tupleKind_room_in1 hu) (key_of I.hok eb) dd hp ?_
    rw [hp2]
    exact h w' _ (I.tok _) rw'
theorem d_in {Q : Value → Shared → Prop} (hu : A.units + 1 < cLine) (I : Inv X pins σ H s) (g : DGet H a y o) (ry : RelV y u) (h : ∀ s', Inv X pins σ H s' → Q (.bool o.isSome) s') :
    wpAny (model X.prog X.w) A (compareOp .In u (.ref a)) Q E s := by
  rcases g with ⟨kvs, k, e, ey, l⟩ | ⟨kvs, k, b, e, ey, eb, l⟩
  · subst ey
    obtain ⟨z, hd, vs, rel, dd⟩ := dk_rd I.hok e
    refine wpAny_in_of (kV_is ry) hd dd.mapOf ?_
    rw [← (rel.val k).isSome_eq, ← l]
    exact h _ (I.tok _)
  · subst ey
    cases (show u = Value.ref b from ry)
    obtain ⟨z, hd, xs, rel, dd⟩ := dt_rd I.hok e
    refine wpAny_in_heap (tupleKind_room_in1 hu) (key_of I.hok eb) hd dd ?_
    have q := (rel.val k).isSome_eq
    rw [Option.isSome_map] at q
    rw [← q, ← l]
    exact h _ (I.tok _)
theorem d_write {h' : Heap} {t' : Nat} {ob : HO} (I : Inv X pins σ H s) (mu : Mut (H a)) (hs : Heap.SameBut a s.heap h') (he : ∃ q, h'.get? a = some q) (new : ObjOk X.prog X.w (upd H a ob) h' a ob) :
    Inv X pins σ (upd H a ob) { s with heap := h', toks := t' } :=
  I.write (x := a) (e := a) mu (.inl rfl) (fun b q hb z => (hs.2 b hb).trans z) he new
theorem dk_new {P : Program} {w : World} {H' : Hp} {h' : Heap} {kvs : List (Key × V)} {vs : List (Key × Value)} (z : kvs.length ≤ sizeLine) (hd : (a == sysModules) = false) (rel : KV kvs vs) (dd : h'.DictOf (mixKind P w) a vs) :
    ObjOk P w H' h' a (.dK kvs) := ⟨z, hd, vs, rel, dd⟩
theorem d_setItem {H' : Hp} {Q : Unit → Shared → Prop} (hu : A.units + 1 < cLine) (I : Inv X pins σ H s) (g : DPut H a y v H') (ry : RelV y u) (rv : RelV v r) (h : ∀ s', Inv X pins σ H' s' → Q () s') :
    wpAny (model X.prog X.w) A (setItem (.ref a) u r) Q E s := by
  rcases g with ⟨kvs, k, e, ey, l, eH⟩ | ⟨kvs, k, b, e, ey, eb, l, eH⟩
  · subst ey eH
    obtain ⟨z, hd, vs, rel, dd⟩ := dk_of I.hok e
    have hz : vs.length ≤ sizeLine := by rw [← rel.length]; exact z
    have hl : (putK kvs k v).length ≤ sizeLine := by have := length_putK kvs k v; omega
    refine wpAny_setItem_pairs (hsz := hz) (kV_is ry) dd fun h' dd' hs => h _ ?_
    have he : ∃ q, h'.get? a = some q := let ⟨q, _, _, hq, _⟩ := dd'; ⟨q, hq⟩
    exact d_write I (by rw [e]; exact True.intro) hs he (dk_new hl hd (rel.put k rv) dd')
  · subst ey eH
    cases (show u = Value.ref b from ry)
    obtain ⟨z, hd, xs, rel, dd⟩ := dt_of I.hok e
    have hz : xs.length ≤ sizeLine := by rw [← Paired.length rel]; exact z
    have hl : (putK kvs k v).length ≤ sizeLine := by have := length_putK kvs k v; omega
    refine wpAny_setItem_heap (hsz := hz) (tupleKind_room_in1 hu) (key_of I.hok eb) dd fun h' dd' hs => h _ ?_
    obtain ⟨q, es, ep, hq, h2, h3, h4, _, h5⟩ := dd'
    refine d_write I (by rw [e]; exact True.intro) hs ⟨q, hq⟩ ⟨hl, hd, _, (rel.put k eb rv).keeps fun c ys ec => ?_, q, es, ep, hq, h2, h3, h4, h5⟩
    rw [upd_ne (ne_of ec e (fun z => nomatch z))]
    exact ec
end
section
variable {X : Cx} {pins : List (Addr × Obj)} {σ : St} {H : Hp} {s : Shared} {a : Addr} {kvs : List (Key × V)} {k : Key} {u : Value} {A : Around} {E : Value → Shared → Prop}
end
def NoSl (i : Expr) : Prop := ∀ ov iv, subscripted i false ov iv = operate [ov, iv] (getItem ov iv)
theorem subD_of {prog : Program} {w : World} {A : Around} {E : Value → Shared → Prop} {s : Shared} {env : Env} {value slice : Expr} {pos : Pos} {T id : String} {Q : Value → Shared → Prop}
    (hl : typeLookup (.type T) "__getitem__" = pure (some (.builtin id))) (hs : NoSl slice)
    (h : wpAny (model prog w) A (eval value env) (fun o s₁ => wpAny (model prog w) A (eval slice env) (fun i s₂ => s₂.TypeIs o T ∧ wpAny (model prog w) A (getItem o i) Q E s₂) E s₁) E s) :
    wpAny (model prog w) A (eval (.Subscript value slice pos) env) Q E s := by
  refine Subscript_ (wpAny_mono h (fun o s₁ h₁ => wpAny_mono h₁ (fun i s₂ h₂ => ?_) fun _ _ x => x) fun _ _ x => x)
  obtain ⟨hT, h₂⟩ := h₂
  unfold subscriptTail
  refine wpAny_bind ?_
  rw [getitemInPython_of_ne hT.not_modules]
  refine wpAny_bind (wpAny_specialOf hT hl ?_)
  have fin : wpAny (model prog w) A (subscripted slice false o i) (fun r s₃ => wpAny (model prog w) A (letTemporaryGo value o r >>= fun _ => pure r) Q E s₃) E s₂ := by
    rw [hs o i]
    exact wpAny_operating (wpAny_mono h₂ (fun r s₃ h₃ => wpAny_bind (wpAny_letTemporaryGo (wpAny_pure h₃))) fun _ _ x => x)
  first
    | exact wpAny_pure (wpAny_bind fin)
    | exact wpAny_bind (wpAny_pure (wpAny_bind fin))
    | exact wpAny_bind fin
theorem dict_typeIs {X : Cx} {pins : List (Addr × Obj)} {σ : St} {H : Hp} {s : Shared} {a : Addr} {y : V} {o : Option V} (I : Inv X pins σ H s) (g : DGet H a y o) : s.TypeIs (.ref a) "dict" := by
  rcases g with ⟨kvs, k, e, _, _⟩ | ⟨kvs, k, b, e, _, _, _⟩
  · obtain ⟨_, _, vs, _, dd⟩ := dk_rd I.hok e
    exact dd.typeIs
  · obtain ⟨_, _, xs, _, dd⟩ := dt_rd I.hok e
    exact dd.typeIs
def tDGet (td ty : TE) : TE := fun σ H Q => td σ H fun x H1 => ty σ H1 fun y H2 => ∃ a v, x = .ref a ∧ DGet H2 a y (some v) ∧ Q v H2
def tDIn (ty td : TE) : TE := fun σ H Q => ty σ H fun y H1 => td σ H1 fun x H2 => ∃ a o, x = .ref a ∧ DGet H2 a y o ∧ Q (.bl o.isSome) H2
def sDPut (td ty tv : TE) : TS := fun D σ H => tv σ H fun v H1 => td σ H1 fun x H2 => ty σ H2 fun y H3 => ∃ a H4, x = .ref a ∧ DPut H3 a y v H4 ∧ D.nx σ H4
section
variable {X : Cx} {o i e value : Expr} {pos pos' tpos : Pos} {td ty tv : TE}
theorem pe_dget (hu : X.A.units + 1 < cLine) (ho : PE X o td) (hi : PE X i ty) (hs : NoSl i) : PE X (.Subscript o i pos) (tDGet td ty) := by
  unfold PE at *
  exact by
    intro pins s σ H Q I h
    refine subD_of PySem.F.slot_dict_getitem.lookup hs (thn (ho pins s σ H _ I h) fun u s1 ⟨x, H1, I1, rx, q1⟩ => thn (hi pins s1 σ H1 _ I1 q1) fun iv s2 ⟨y, H2, I2, ry, a, v, ex, g, q2⟩ => ?_)
    subst ex
    obtain rfl : u = Value.ref a := rx
    exact ⟨dict_typeIs I2 g, d_getItem hu I2 g ry fun w' s3 I3 rw' => ⟨v, H2, I3, rw', q2⟩⟩
theorem pc_din (hu : X.A.units + 1 < cLine) (hi : PE X i ty) (ho : PE X o td) : PC X .In i o (tDIn ty td) := by
  unfold PE at *; unfold PC at *
  exact by
    intro pins s σ H Q I h
    refine thn (hi pins s σ H _ I h) fun iv s1 ⟨y, H1, I1, ry, q1⟩ => thn (ho pins s1 σ H1 _ I1 q1) fun u s2 ⟨x, H2, I2, rx, a, ov, ex, g, q2⟩ => ?_
    subst ex
    obtain rfl : u = Value.ref a := rx
    exact d_in hu I2 g ry fun s3 I3 => ⟨.bl ov.isSome, H2, I3, rfl, q2⟩
theorem ps_dput (hu : X.A.units + 1 < cLine) (ho : PE X o td) (hi : PE X i ty) (hv : PE X value tv) (hs : swapsWith value (some (.Subscript o i pos')) pos.line X.env = pure false) :
    PS X (.Assign [.Subscript o i pos'] value pos) (sDPut td ty tv) := by
  unfold PE at *; unfold PS at *
  exact by
    intro pins s σ H D I h
    refine wpAny_Assign_Subscript (thn (hv pins s σ H _ I h) fun r s1 ⟨v, H1, I1, rv, q1⟩ => thn (ho pins s1 σ H1 _ I1 q1) fun u s2 ⟨x, H2, I2, rx, q2⟩ => thn (hi pins s2 σ H2 _ I2 q2) fun iv s3 ⟨y, H3, I3, ry, a, H4, ex, g, q3⟩ => ?_) hs
    subst ex
    obtain rfl : u = Value.ref a := rx
    exact d_setItem hu I3 g ry rv fun s4 I4 => ⟨σ, H4, I4, q3⟩
end
theorem dk_empty {P : Program} {w : World} {H : Hp} (h : Heap) (hb : sysModules < h.objs.size) : ObjOk P w H (h.push { cls := .type "dict", data := .dict #[] }) h.objs.size (.dK []) :=
  ⟨Nat.zero_le _, beq_eq_false_iff_ne.mpr (Ne.symm (Nat.ne_of_lt hb)), [], .nil, Heap.DictOf.new h⟩
theorem dt_empty {P : Program} {w : World} {H : Hp} (h : Heap) (hb : sysModules < h.objs.size) : ObjOk P w H (h.push { cls := .type "dict", data := .dict #[] }) h.objs.size (.dT []) :=
  ⟨Nat.zero_le _, beq_eq_false_iff_ne.mpr (Ne.symm (Nat.ne_of_lt hb)), [], .nil, _, #[], 0, Heap.get?_push_size _ rfl, ⟨rfl, rfl, rfl⟩, rfl, rfl, List.nodup_nil⟩
def tDNewK : TE := fun _ H Q => ∀ p, H p = none → Q (.ref p) (upd H p (.dK []))
def tDNewT : TE := fun _ H Q => ∀ p, H p = none → Q (.ref p) (upd H p (.dT []))
section
variable {X : Cx} {pos : Pos}
theorem pe_dnewK : PE X (.Dict [] [] pos) tDNewK := by
  unfold PE at *
  exact (fun pins s σ H Q I h =>
    wpAny_Dict_empty ⟨.ref s.heap.objs.size, _, I.laid (a := s.heap.objs.size) (o := .dK []) (t' := s.toks) (fun _ _ q => Heap.get?_push_of_some _ q) (Nat.le_refl _) (dk_empty s.heap I.big), rfl, h _ (I.hok.fresh (Nat.le_refl _))⟩)
theorem pe_dnewT : PE X (.Dict [] [] pos) tDNewT := by
  unfold PE at *
  exact (fun pins s σ H Q I h =>
    wpAny_Dict_empty ⟨.ref s.heap.objs.size, _, I.laid (a := s.heap.objs.size) (o := .dT []) (t' := s.toks) (fun _ _ q => Heap.get?_push_of_some _ q) (Nat.le_refl _) (dt_empty s.heap I.big), rfl, h _ (I.hok.fresh (Nat.le_refl _))⟩)
end
def tPairs : List (TE × TE) → St → Hp → (List (V × V) → Hp → Prop) → Prop
  | [], _, H, Q => Q [] H
  | (tk, tv) :: r, σ, H, Q => tk σ H fun x H1 => tv σ H1 fun y H2 => tPairs r σ H2 fun ps H3 => Q ((x, y) :: ps) H3
abbrev VV : List (V × V) → List (Value × Value) → Prop := Paired fun p q => RelV p.1 q.1 ∧ RelV p.2 q.2
def PPs (X : Cx) (pos : Pos) (keys : List (Option Expr)) (values : List Expr) (trs : List (TE × TE)) : Prop :=
  ∀ (pins : List (Addr × Obj)) (s : Shared) (σ : St) (H : Hp) (Q : List (V × V) → Hp → Prop), Inv X pins σ H s → tPairs trs σ H Q →
    wpAny (model X.prog X.w) X.A (evalPairs (pairTrees keys values X.env pos)) (fun vs s' => ∃ ps H', Inv X pins σ H' s' ∧ VV ps vs ∧ Q ps H') X.xe s
theorem pps_nil {X : Cx} {pos : Pos} : PPs X pos [] [] [] := fun pins s σ H Q I h => pairTrees_nil_walk ⟨[], H, I, .nil, h⟩
theorem pps_cons {X : Cx} {pos : Pos} {k v : Expr} {ks : List (Option Expr)} {vs : List Expr} {tk tv : TE} {trs : List (TE × TE)} (hk : PE X k tk) (hv : PE X v tv) (hr : PPs X pos ks vs trs) :
    PPs X pos (some k :: ks) (v :: vs) ((tk, tv) :: trs) := by
  unfold PE at *
  exact (fun pins s σ H Q I h =>
    pairTrees_cons_walk (thn (hk pins s σ H _ I h) fun u s1 ⟨x, H1, I1, rx, q1⟩ => thn (hv pins s1 σ H1 _ I1 q1) fun w2 s2 ⟨y, H2, I2, ry, q2⟩ =>
      thn (hr pins s2 σ H2 _ I2 q2) fun ws s3 ⟨ps, H3, I3, rel, q3⟩ => ⟨(x, y) :: ps, H3, I3, .cons ⟨rx, ry⟩ rel, q3⟩))
def mergeK (kvs more : List (Key × V)) : List (Key × V) := more.foldl (fun acc kv => putK acc kv.1 kv.2) kvs
theorem KV.merge : ∀ {more : List (Key × V)} {rs : List (Key × Value)} {kvs : List (Key × V)} {vs : List (Key × Value)}, KV more rs → KV kvs vs → KV (mergeK kvs more) (merged vs rs) := by
  intro more rs kvs vs r
  unfold KV at r
  induction r generalizing kvs vs with
  | nil => intro q; exact q
  | @cons p q ps qs h t ih =>
    intro r0
    have e : KV (putK kvs p.1 p.2) (stored vs q.1 q.2) := by
      have := r0.put p.1 h.2
      rw [← h.1]; exact this
    exact ih e
theorem length_mergeK : ∀ (more kvs : List (Key × V)), (mergeK kvs more).length ≤ kvs.length + more.length
  | [], kvs => by show kvs.length ≤ kvs.length + 0; omega
  | p :: r, kvs => by
    have h1 := length_mergeK r (putK kvs p.1 p.2)
    have h2 := length_putK kvs p.1 p.2
    show (mergeK (putK kvs p.1 p.2) r).length ≤ _
    rw [List.length_cons]; omega
theorem carries_of {P : Program} {w : World} : ∀ {kvs : List (Key × V)} {ws : List (Value × Value)}, VV (kvs.map fun kv => (kV kv.1, kv.2)) ws → ∃ rs, Carries (mixKind P w) ws rs ∧ KV kvs rs
  | [], _, r => by rw [List.map_nil] at r; cases r; exact ⟨[], True.intro, .nil⟩
  | p :: kvs, _, r => by
    rw [List.map_cons] at r
    cases r with
    | @cons a b as bs h t =>
      obtain ⟨rs, c, q⟩ := carries_of (P := P) (w := w) t
      obtain ⟨b1, b2⟩ := b
      exact ⟨(p.1, b2) :: rs, ⟨kV_is h.1, rfl, c⟩, .cons ⟨rfl, h.2⟩ q⟩
def tDisp (trs : List (TE × TE)) : TE := fun σ H Q => ∀ p, H p = none → tPairs trs σ (upd H p (.dK [])) fun ps H2 => H2 p = some (.dK []) ∧ ∃ kvs : List (Key × V), ps = kvs.map (fun kv => (kV kv.1, kv.2)) ∧ kvs.length ≤ 15 ∧ Q (.ref p) (upd H2 p (.dK (mergeK [] kvs)))
theorem pe_disp {X : Cx} {pos : Pos} {keys : List (Option Expr)} {values : List Expr} {trs : List (TE × TE)} (h : PPs X pos keys values trs) (hall : keys.all (·.isSome) = true) (hl : keys.length = values.length) (h0 : keys ≠ [])
    (h15 : keys.length ≤ 15) : PE X (.Dict keys values pos) (tDisp trs) := by
  unfold PE at *
  exact by
    intro pins s σ H Q I q
    have hn := I.hok.fresh (Nat.le_refl s.heap.objs.size)
    have I1 := I.laid (a := s.heap.objs.size) (o := .dK []) (h' := s.heap.push { cls := .type "dict", data := .dict #[] }) (t' := s.toks) (fun _ _ q => Heap.get?_push_of_some _ q) (Nat.le_refl _) (dk_empty s.heap I.big)
    refine wpAny_Dict_walk (knd := mixKind X.prog X.w) hall hl h0 h15 (thn (h pins _ σ _ _ I1 (q _ hn)) fun ws s2 ⟨ps, H2, I2, rel, e, kvs, ep, lk, q2⟩ => ?_)
    subst ep
    obtain ⟨rs, c, rk⟩ := carries_of (P := X.prog) (w := X.w) rel
    obtain ⟨z, hd, vs0, r0, dd⟩ := dk_of I2.hok e
    cases r0
    refine ⟨rs, c, dd, fun h' dd' hs => ⟨.ref s.heap.objs.size, _, ?_, rfl, q2⟩⟩
    have hz : (mergeK [] kvs).length ≤ sizeLine := by
      have h1 := length_mergeK kvs []
      rw [List.length_nil] at h1
      rw [sizeLine_eq]; omega
    have he : ∃ q, h'.get? s.heap.objs.size = some q := let ⟨q, _, _, hq, _⟩ := dd'; ⟨q, hq⟩
    exact d_write I2 (by rw [e]; exact True.intro) hs he (dk_new hz hd (rk.merge .nil) dd')
structure M1 (X : Cx) (o : Expr) (m : Str) (apos : Pos) (e : Expr) (cpos : Pos) : Prop where
  base : attributeBase o m X.env (eval o X.env) = eval o X.env
  few : ((backTo cpos (starEach [e] X.env)).all (fun x => !x.1) && (backToKw cpos (keywordEach [] X.env)).all (fun x => x.1.isSome)
    && decide (([e] : List Expr).length + ([] : List Keyword).length + (if ([] : List Keyword).isEmpty then 0 else 1) < 30)) = true
  line : (apos.endLine == cpos.line) = true
  trees : backTo cpos (starEach [e] X.env) = [(false, eval e X.env)]
def IsD (H : Hp) (a : Addr) : Prop := (∃ kvs, Rd H a (.dK kvs)) ∨ ∃ kvs, Rd H a (.dT kvs)
theorem isD_at {X : Cx} {pins : List (Addr × Obj)} {σ : St} {H : Hp} {s : Shared} {a : Addr} (I : Inv X pins σ H s) (d : IsD H a) :
    s.TypeIs (.ref a) "dict" ∧ (∀ b, Value.ref a = .ref b → ∃ ob, s.heap.get? b = some ob ∧ ob.dict = none) ∧ (a == sysModules) = false := by
  rcases d with ⟨kvs, e⟩ | ⟨kvs, e⟩
  · obtain ⟨_, hd, vs, _, dd⟩ := dk_rd I.hok e
    refine ⟨dd.typeIs, fun b q => ?_, hd⟩
    cases q
    obtain ⟨ob, _, _, h1, h2, _⟩ := dd
    exact ⟨ob, h1, h2.2.1⟩
  · obtain ⟨_, hd, xs, _, dd⟩ := dt_rd I.hok e
    refine ⟨dd.typeIs, fun b q => ?_, hd⟩
    cases q
    obtain ⟨ob, _, _, h1, h2, _⟩ := dd
    exact ⟨ob, h1, h2.2.1⟩
section
variable {X : Cx} {pins : List (Addr × Obj)} {σ : St} {H : Hp} {s : Shared} {a : Addr} {y d : V} {u r : Value} {o : Option V} {A : Around} {E : Value → Shared → Prop}
theorem d_get1 {Q : Value → Shared → Prop} (hu : A.units + 1 < cLine) (I : Inv X pins σ H s) (g : DGet H a y o) (ry : RelV y u) (h : ∀ w' s', Inv X pins σ H s' → RelV (o.getD .non) w' → Q w' s') :
    wpAny (model X.prog X.w) A (call (.builtin "dict.get") [.ref a, u]) Q E s := by
  rcases g with ⟨kvs, k, e, ey, l⟩ | ⟨kvs, k, b, e, ey, eb, l⟩
  · subst ey
    obtain ⟨z, hd, vs, rel, dd⟩ := dk_rd I.hok e
    refine call_meetsIn PySem.F.slot_dict_get dd.typeIs PySem.F.entry_dict_get (PySem.F.args_dict_get_2 _ _) (meets_dict_get (mixKind X.prog X.w) a (kV_is ry) hd) ⟨_, dd.mapOf, h _ _ (I.tok _) ?_⟩
    rw [l]
    exact (rel.val k).getD rfl
  · subst ey
    cases (show u = Value.ref b from ry)
    obtain ⟨z, hd, xs, rel, dd⟩ := dt_rd I.hok e
    refine call_meetsIn PySem.F.slot_dict_get dd.typeIs PySem.F.entry_dict_get (PySem.F.args_dict_get_2 _ _) (meetsH_dict_get (tupleKind (mixKind X.prog X.w)) a b hd) ⟨tupleKind_room_in1 hu, k, xs, key_of I.hok eb, dd, h _ _ (I.tok _) ?_⟩
    rw [l]
    exact (rel.val k).getD rfl
end
def tDGet1 (td ty : TE) : TE := fun σ H Q => td σ H fun x H1 => ∃ a, x = .ref a ∧ IsD H1 a ∧ ty σ H1 fun y H2 => ∃ o, DGet H2 a y o ∧ Q (o.getD .non) H2
section
variable {X : Cx} {o e f : Expr} {apos cpos : Pos} {td ty tx : TE}
theorem pe_dget1 (hu : X.A.units + 1 < cLine) (ho : PE X o td) (he : PE X e ty) (m : M1 X o "get" apos e cpos) : PE X (.Call (.Attribute o "get" apos) [e] [] cpos) (tDGet1 td ty) := by
  unfold PE at *
  exact by
    intro pins s σ H Q I h
    refine wpAny_Call_method m.base m.few m.line PySem.F.plainAttrs_dict PySem.F.slot_dict_get PySem.F.type_dict_get (thn (ho pins s σ H _ I h) fun u s1 ⟨x, H1, I1, rx, a, ex, d, q1⟩ => ?_)
    subst ex
    obtain rfl : u = Value.ref a := rx
    obtain ⟨t1, t2, _⟩ := isD_at I1 d
    refine ⟨t1, t2, ?_⟩
    rw [m.trees]
    refine Calls.callWith_builtin rfl (Calls.evalArgs_plain (Calls.spliced_cons (thn (he pins s1 σ H1 _ I1 q1) fun iv s2 ⟨y, H2, I2, ry, ov, g, q2⟩ => Calls.spliced_nil ?_)))
    exact d_get1 hu I2 g ry fun w' s3 I3 rw' => ⟨_, H2, I3, rw', q2⟩
end
section
variable {X : Cx} {pins : List (Addr × Obj)} {σ : St} {H : Hp} {s : Shared} {a : Addr} {kvs : List (Key × V)} {A : Around} {E : Value → Shared → Prop}
end
section
variable {X : Cx} {pins : List (Addr × Obj)} {σ : St} {H : Hp} {s : Shared} {a : Addr} {y : V} {u : Value} {A : Around} {E : Value → Shared → Prop}
end
end L2
namespace Att
open PySem PySem.W PySem.Calls PyProof.Rows
theorem ints_of_wellAll {P : Params} {h : Heap} : ∀ (ns : List Int) (vs : List Value), WellAll P h vs (ns.map WData.int) → IntsAre vs ns := by
  intro ns
  induction ns with
  | nil =>
    intro vs w
    rw [List.map_nil] at w
    cases w
    exact .nil
  | cons n ns ih =>
    intro vs w
    rw [List.map_cons] at w
    cases w with
    | cons a b =>
      cases a
      exact .cons _ _ (ih _ b)
theorem script_of {l : OpenLaw} {n : Nat} (hn : l.most = some n) {P : Params} {h : Heap} {args : List WData} {vals : List Value}
    (hpre : l.row.toRowW.claim.pre args = true) (hwl : WellAll P h vals args) :
    ∃ a vs ns, vals = [Value.ref a] ∧ args = [WData.list (ns.map WData.int)] ∧ h.get? a = some { cls := .type "list", data := .seq vs.toArray } ∧ IntsAre vs ns ∧ ns.length ≤ n := by
  have hsh : WShape.hasAll [] args [.list .int] = true := (pre_splitW hpre).1
  have hc : l.pre.holds [] { args := args } = true := (pre_splitW hpre).2
  obtain ⟨d, r, rfl, h1, h2⟩ := hasAllW_cons hsh
  obtain rfl := hasAllW_nil h2
  obtain ⟨xs, rfl, h3⟩ := hasW_list h1
  obtain ⟨ns, rfl⟩ := items_int h3
  have hlen : ns.length ≤ n := by
    unfold OpenLaw.pre at hc
    have h4 : (WTm.not (.lt (.lit (.int (n : Int))) (.len (.arg 0)))).holds [] { args := [.list (ns.map .int)] } = true := by
      have h4 := (holds_andW hc).1
      rw [hn] at h4
      exact h4
    have h5 := condW_of h4 (w_not (w_lt w_lit (w_len_list (w_arg rfl))))
    rw [List.length_map] at h5
    refine Nat.le_of_not_lt fun q => ?_
    have q' : (n : Int) < ((ns.length : Nat) : Int) := by omega
    first
      | (rw [decide_eq_true q'] at h5; exact absurd h5 (by decide))
      | (simp at h5; omega)
  cases hwl with
  | cons w1 w2 =>
    cases w2
    cases w1 with
    | list ho hall => exact ⟨_, _, ns, rfl, rfl, ho, ints_of_wellAll ns _ hall, hlen⟩
theorem post_true (l : OpenLaw) (args : List WData) : l.row.toRowW.claim.post args (.bool true) args = true :=
  postW_of (r := l.row.toRowW) (X := (true == true))
    (show WShape.has [] (.bool true) .bool = true by first | rfl | decide | simp [WShape.has, WShape.arms, WShape.armsAll])
    (show (WTm.eq .res (.lit (.bool true))).value [] { args := args, res := some (.bool true), after := args } = some (.bool (true == true)) from w_eq_bool (w_res rfl) w_lit) rfl
theorem attach_call {l : OpenLaw} {n : Nat} {q : Program} {loose : List Str} {XP : (Str → Option Value) → Heap → Prop} {YP : World → Heap → Prop} {d : DefRec}
    (hn : l.most = some n) (hdf : d.params.defaults = [])
    (call : ∀ (w : World) (s₀ s₁ : Shared) (mg mb : Str → Option Value) (fa : Addr) (o : Obj) (pm cd doc : Value) (a : Addr) (vs : List Value) (ns : List Int),
      Ground q loose [] XP w s₀ mg mb s₁.heap → YP w s₁.heap →
      s₁.heap.get? fa = some o → o.data = .func (docDef d.name d.params d.body d.scope pm cd doc) → s₁.heap.CodeRec cd d.name → mg d.name = some (.ref fa) →
      s₁.heap.get? a = some { cls := .type "list", data := .seq vs.toArray } → IntsAre vs ns → ns.length ≤ n → s₁.gens = #[] →
      codeAny (model l.prog w) callerA (.call (.ref fa) ⟨[.ref a], []⟩) (fun r s' => r = .ok (.ret (.bool true)) ∧ OldK s₁.heap s'.heap ∧ s'.os = s₁.os ∧ AllBare s'.gens) s₁) :
    WalkO q loose XP YP l.row.toRowW d [] (fun f vs => PySem.call f vs) := by
  intro w s₀ s₁ mg mb G Y fa o pm cd doc dV kV ho hd hcd hD hmg hg args vals as hpre hlay hrd hwl hlo
  obtain rfl : dV = .none := Dflts.none hD hdf
  obtain rfl : kV = .none := Dflts.noKw hD
  obtain ⟨a, vs, ns, rfl, rfl, hobj, hints, hlen⟩ := script_of hn hpre hwl
  refine enter_call (codeAny_mono (call w s₀ s₁ mg mb fa o pm cd doc a vs ns G Y ho (fd_plain hd) hcd hmg hobj hints hlen hg) fun r s' hq => ?_)
  obtain ⟨rfl, h2, h3, h4⟩ := hq
  exact ⟨.inl ⟨.bool true, .bool true, [], rfl, fun _ => rfl, .bool true, post_true l _, fun _ => ⟨List.Pairwise.nil, fun _ hm => (nomatch hm)⟩⟩, h2, h3, h4⟩
section
variable {prog : Program} {w : World} {A : Around} {E : Value → Shared → Prop} {s : Shared} {K : Frag}
def ledger (h : Heap) (L d : Addr) : List (Addr × Obj) := (List.range h.objs.size).filterMap fun a => if a = L ∨ a = d then none else (h.get? a).map fun o => (a, o)
end
end Att
namespace L2
open PySem PySem.Spec PyProof.Rows
theorem vals_ints : ∀ {vs : List Value} {ns : List Int}, IntsAre vs ns → Vals (ns.map V.int) vs
  | _, _, .nil => .nil
  | _, _, .cons n t h => .cons ⟨t, rfl⟩ (vals_ints h)
def Only (H : Hp) : Prop := ∀ b, H b = none ∨ ∃ o xs, H b = some (.frz o (.lst xs))
theorem law_call {P : Program} {w : World} {K : PySem.W.Frag} {mg mb : Str → Option Value} {CX : CXT} {k : Nat} {fa a : Addr} {fd : FuncData} {x : Str} {sp : Sp} {s₁ : Shared} {vs : List Value} {ns : List Int}
    (KX : K.In s₁.heap) (hns : s₁.heap.Ns mainGlobals mg) (hb : s₁.heap.Ns builtinsNs mb) (hbb : ∀ x : Str, x ≠ "__name__" → mb x = bootBuiltins x) (hlim : s₁.heap.NoLimit) (hg : s₁.gens = #[])
    (ha : s₁.heap.get? a = some { cls := .type "list", data := .seq vs.toArray }) (hi : IntsAre vs ns) (hl : ns.length ≤ sizeLine) (hr : Room k callerA)
    (F : ∀ base : Heap, K.In base → base.Ns mainGlobals mg → FnOk P w K mg base CX k fa fd [x] sp) (hbind : ∀ (s : Shared) (u : Value), BindsTo s fd ⟨[u], []⟩ [(x, u)])
    (hsp : ∀ H : Hp, Only H → SqL K H a (ns.map V.int) → sp [.ref a] H (fun v _ => v = .bl true) fun _ _ _ => False)
    (hCX : ∀ H e s', CX [] H s₁ (fun _ _ _ => False) e s' → False) :
    codeAny (model P w) callerA (.call (.ref fa) ⟨[.ref a], []⟩) (fun r s' => r = .ok (.ret (.bool true)) ∧ OldK s₁.heap s'.heap ∧ s'.os = s₁.os ∧ AllBare s'.gens) s₁ := by
  have rv := vals_ints hi
  have lenV := hi.length
  -- from an abstract heap in which nothing but the script may be tracked
  have core : ∀ H : Hp, Only H → SqL K H a (ns.map V.int) → HOk P w H s₁.heap → (∀ b, H b ≠ none → b = a) → (H a ≠ none → K.lookup a = none) →
      codeAny (model P w) callerA (.call (.ref fa) ⟨[.ref a], []⟩) (fun r s' => r = .ok (.ret (.bool true)) ∧ OldK s₁.heap s'.heap ∧ s'.os = s₁.os ∧ AllBare s'.gens) s₁ := by
    intro H hO hS hok hA hK
    have base_of : ∀ {b : Addr} {o : Obj}, s₁.heap.get? b = some o → H b = none → (hidT s₁.heap H).get? b = some o := fun e n => hidT_get e n
    have noA : ∀ {b : Addr} {o : Obj} {es : Array DictEntry} {ep : Nat}, s₁.heap.get? b = some o → o.data = .dict es ep → H b = none := fun {b o es ep} e d => by
      cases q : H b with
      | none => rfl
      | some u =>
        have e' : b = a := hA b (by rw [q]; simp)
        subst e'
        rw [ha] at e; cases e
        have d' : Data.seq vs.toArray _ = Data.dict es ep := d
        cases d'
    have nsK : ∀ {b : Addr} {m : Str → Option Value}, s₁.heap.Ns b m → (hidT s₁.heap H).Ns b m := fun {b m} ⟨o, es, ep, e, d, r⟩ => ⟨o, es, ep, base_of e (noA e d), d, r⟩
    have hKb : K.In (hidT s₁.heap H) := fun b o e => base_of (KX b o e) (by
      cases q : H b with
      | none => rfl
      | some u =>
        have e' : b = a := hA b (by rw [q]; simp)
        subst e'
        rw [hK (by rw [q]; simp)] at e; cases e)
    have hM : Mod K mg (hidT s₁.heap H) := ⟨hKb, nsK hns, ⟨mb, nsK hb, hbb⟩, let ⟨mc, h1, h2⟩ := hlim; ⟨mc, nsK h1, h2⟩⟩
    have e0 : Env0 P w K mg (hidT s₁.heap H) callerA [] s₁ H := ⟨rfl, hM, fun b o e => of_hidT e, Nat.le_of_eq (hidT_size _ _), trivial, fun b hb => absurd (show b ∈ ([] : List Addr) from hb) (by simp), hok, .of_eq hg⟩
    refine codeAny_mono ((F _ hKb (nsK hns)).run callerA [] s₁ H ⟨[.ref a], []⟩ [.ref a] [.ref a] _ _ hr e0 (hbind s₁ (.ref a)) (.cons rfl .nil) (hsp H hO hS)) fun r s' h => ?_
    cases r with
    | error e => exact (hCX H e s' h).elim
    | ok fl =>
      cases fl with
      | next => exact False.elim h
      | brk => exact False.elim h
      | cont => exact False.elim h
      | ret u =>
        obtain ⟨v, H', os, bare, un, hok', r', q⟩ := h
        have q' : v = .bl true := q
        subst q'
        obtain rfl : u = Value.bool true := r'
        refine ⟨rfl, OldK.of_keep fun b o e => ?_, os, bare⟩
        cases q : H b with
        | none => exact un.keep b o e q (by intro z; exact absurd (show b ∈ ([] : List Addr) from z) (by simp)) (by simp)
        | some u =>
          rcases hO b with z | ⟨ob, xs, z⟩
          · rw [q] at z; cases z
          · have z2 := un.frzs b ob _ z
            obtain ⟨e1, _⟩ := hok b _ z
            obtain ⟨e2, _⟩ := hok' b _ z2
            rw [e] at e1; cases e1
            exact e2
  cases hk : K.lookup a with
  | some o =>
    -- the script is one of the module's own objects
    have e := KX a o hk
    rw [ha] at e
    cases e
    refine core (fun _ => none) (fun _ => .inl rfl) (.inr ⟨_, vs.toArray, _, hk, rfl, rfl, rfl, by rw [List.size_toArray, lenV]; exact hl, by simpa using rv⟩) (fun b u z => by have z' : (none : Option HO) = some u := z; cases z') (fun b z => absurd rfl z) fun z => absurd rfl z
  | none =>
    refine core (fun b => if b = a then some (.frz { cls := .type "list", data := .seq vs.toArray } (.lst (ns.map V.int))) else none) (fun b => ?_) (.inl (.inr ⟨{ cls := .type "list", data := .seq vs.toArray }, if_pos rfl⟩)) (fun b u z => ?_) (fun b z => ?_) fun _ => hk
    · by_cases hb : b = a
      · exact .inr ⟨_, _, if_pos hb⟩
      · exact .inl (if_neg hb)
    · by_cases hb : b = a
      · have z' := (if_pos hb).symm.trans z
        cases z'
        subst hb
        exact ⟨ha, by rw [List.length_map]; exact hl, vs, _, rv, ha⟩
      · have z' := (if_neg hb).symm.trans z
        cases z'
    · by_cases hb : b = a
      · exact hb
      · exact absurd (if_neg hb) z
end L2
namespace L2
open PySem PySem.Spec PyProof.Rows
theorem walk_of {l : PySem.W.OpenLaw} {n k : Nat} {q : Program} {loose : List Str} {XP : (Str → Option Value) → Heap → Prop} {YP : World → Heap → Prop} {d : DefRec} {K : Params → PySem.W.Frag} {CX : World → CXT} {sp : World → Sp} {x : Str}
    (hn : l.most = some n) (hn2 : n ≤ sizeLine) (hdf : d.params.defaults = []) (hr : Room k callerA)
    (hY : ∀ (w : World) (h : Heap), YP w h → (K w.params).In h)
    (F : ∀ (w : World) (mg : Str → Option Value) (fa : Addr) (h : Heap), (K w.params).In h → h.Ns mainGlobals mg → mg d.name = some (.ref fa) →
      ∃ fd : FuncData, (∀ (s : Shared) (u : Value), BindsTo s fd ⟨[u], []⟩ [(x, u)]) ∧
        ∀ base : Heap, (K w.params).In base → base.Ns mainGlobals mg → FnOk l.prog w (K w.params) mg base (CX w) k fa fd [x] (sp w))
    (hsp : ∀ (w : World) (H : Hp) (a : Addr) (ns : List Int), ns.length ≤ n → Only H → SqL (K w.params) H a (ns.map V.int) → sp w [.ref a] H (fun v _ => v = .bl true) fun _ _ _ => False)
    (hCX : ∀ (w : World) (H : Hp) (s : Shared) (e : Value) (s' : Shared), CX w [] H s (fun _ _ _ => False) e s' → False) :
    PySem.W.WalkO q loose XP YP l.row.toRowW d [] (fun f vs => PySem.call f vs) := by
  refine Att.attach_call hn hdf fun w s₀ s₁ mg mb fa o pm cd doc a vs ns G Y ho hd hcd hmg hobj hints hlen hg => ?_
  have KX := hY w _ Y
  obtain ⟨fd, hb, hF⟩ := F w mg fa _ KX G.T.g hmg
  exact law_call KX G.T.g G.T.b G.T.builtins G.T.nolimit hg hobj hints (Nat.le_trans hlen hn2) hr hF hb (fun H hO hS => hsp w H a ns hlen hO hS) fun H e s' => hCX w H s₁ e s'
theorem walk_ofK {l : PySem.W.OpenLaw} {n k : Nat} {q : Program} {loose : List Str} {XP : (Str → Option Value) → Heap → Prop} {YP : World → Heap → Prop} {d : DefRec} {K : Params → PySem.W.Frag} {CX : CXT} {sp : PySem.W.Frag → Sp} {x : Str}
    (hn : l.most = some n) (hn2 : n ≤ sizeLine) (hdf : d.params.defaults = []) (hr : Room k callerA)
    (hY : ∀ (w : World) (h : Heap), YP w h → (K w.params).In h)
    (F : ∀ (w : World) (mg : Str → Option Value) (fa : Addr) (h : Heap), (K w.params).In h → h.Ns mainGlobals mg → mg d.name = some (.ref fa) →
      ∃ fd : FuncData, (∀ (s : Shared) (u : Value), BindsTo s fd ⟨[u], []⟩ [(x, u)]) ∧
        ∀ base : Heap, (K w.params).In base → base.Ns mainGlobals mg → FnOk l.prog w (K w.params) mg base CX k fa fd [x] (sp (K w.params)))
    (hsp : ∀ (K : PySem.W.Frag) (H : Hp) (a : Addr) (ns : List Int), ns.length ≤ n → Only H → SqL K H a (ns.map V.int) → sp K [.ref a] H (fun v _ => v = .bl true) fun _ _ _ => False)
    (hCX : ∀ (H : Hp) (s : Shared) (e : Value) (s' : Shared), CX [] H s (fun _ _ _ => False) e s' → False) :
    PySem.W.WalkO q loose XP YP l.row.toRowW d [] (fun f vs => PySem.call f vs) :=
  walk_of (K := K) (CX := fun _ => CX) (sp := fun w => sp (K w.params)) hn hn2 hdf hr hY F (fun w H a ns h1 h2 h3 => hsp (K w.params) H a ns h1 h2 h3) fun _ H s e s' => hCX H s e s'
end L2
/- THE LAST THEOREM (shape; LID, My.* are yours):
   My.Adr: a structure of the addresses that your layer names (classes, functions); My.Txt K t: a structure (Prop) of the equations over K;
   My.txt_mk : {K} {implicit addresses ..} (e1 : nsIn K mainGlobals "law" = some (some (.ref f))) (e2 : K.lookup f = some ⟨oc, od, .func (fnOf "law" "law" params body scope dV kV doc pm an cdv ct), sl⟩) (e3 : codeIn K cdv "law" = true) .. : ∃ t, My.Txt K t
set_option maxRecDepth 100000 in
set_option maxHeartbeats 0 in
(the tactic k_is has no namespace: write k_is) -/
namespace L2
open PySem PySem.Spec PyProof.Rows
def inClass (s : Stmt) (j : Nat) : Stmt := match s with
  | .ClassDef _ _ _ body _ _ _ _ _ _ _ => body.getD j (.Pass ⟨0, 0, 0, 0⟩)
  | _ => .Pass ⟨0, 0, 0, 0⟩
def defArgs (s : Stmt) : Arguments := match s with
  | .FunctionDef _ a _ _ _ _ _ _ _ _ => a
  | _ => { posonlyargs := [], args := [], vararg := none, kwonlyargs := [], kw_defaults := [], kwarg := none, defaults := [] }
def defBody (s : Stmt) : List Stmt := match s with
  | .FunctionDef _ _ b _ _ _ _ _ _ _ => b
  | _ => []
def defScope (s : Stmt) : Scope := match s with
  | .FunctionDef _ _ _ _ _ _ sc _ _ _ => sc
  | _ => { kind := .function, names := [], isGenerator := false, isCoroutine := false }
abbrev CX0 : CXT := fun _ _ _ _ _ _ => False
abbrev E0 : XK := fun _ _ _ => False
theorem pass0 {X : Cx} : Passes CX0 X E0 := fun _ _ _ _ _ _ _ h => h.elim
structure Fun (K : PySem.W.Frag) (x qual : Str) (st : Stmt) (f : Addr) (fd : FuncData) : Prop where
  ex : ∃ (oc : Value) (od : Option Addr) (kV doc pm : Value) (an : Option Addr) (cdv ct : Value) (osl : Array (Option Value)),
    fd = PySem.W.fnOf x qual (defArgs st) (defBody st) (defScope st) .none kV doc pm an cdv ct ∧ K.lookup f = some ⟨oc, od, .func fd, osl⟩ ∧ PySem.W.codeIn K cdv qual = true
  kp : PySem.W.keepIn K (.ref f) = true
section
variable {P : Program} {w : World} {K : PySem.W.Frag} {mg : Str → Option Value} {base : Heap}
theorem Fun.ok {x qual : Str} {st : Stmt} {f : Addr} {fd : FuncData} {N ps : List Str} {k : Nat} {sp : Sp} (F : Fun K x qual st f fd) (S : FnScope N ps (defScope st)) (len : ∀ vs H Q E, sp vs H Q E → vs.length = ps.length)
    (hbody : ∀ (cdv : Value) (A : Around) (outer : List Env) (s : Shared) (H : Hp) (vs : List V) (Q : VK) (E : XK), Room k (A.deeper (envOfC qual (defScope st) s.heap.objs.size f cdv)) → sp vs H Q E →
      ∃ t, PSs (cxOf CX0 P w K mg base N qual (defScope st) f cdv A outer s H E).nox (defBody st) t ∧ t { nx := fun _ H' => Q .non H', rt := Q } (start N vs) H) : FnOk P w K mg base CX0 (k + 1) f fd ps sp := by
  obtain ⟨oc, od, kV, doc, pm, an, cdv, ct, osl, rfl, lk, hcd⟩ := F.ex
  refine fn_of lk hcd S len fun A outer s H vs Q E hr hsp => ?_
  obtain ⟨t, h, q⟩ := hbody cdv A outer s H vs Q E hr hsp
  exact ⟨t, h.nox, q⟩
theorem Fun.binds {x qual : Str} {st : Stmt} {f : Addr} {fd : FuncData} {ps : List Str} (F : Fun K x qual st f fd)
    (h : ∀ (kV doc pm : Value) (an : Option Addr) (cdv ct : Value) (us : List Value), us.length = ps.length → bindArgs (PySem.W.fnOf x qual (defArgs st) (defBody st) (defScope st) .none kV doc pm an cdv ct) ⟨us, []⟩ = pure (ps.zip us)) : Binds K fd ps [] := by
  obtain ⟨oc, od, kV, doc, pm, an, cdv, ct, osl, rfl, lk, hcd⟩ := F.ex
  exact .all (h kV doc pm an cdv ct)
theorem fun_mk {x qual : Str} {st : Stmt} {f : Addr} {oc : Value} {od an : Option Addr} {osl : Array (Option Value)} {kV doc pm cdv ct : Value} (l : K.lookup f = some ⟨oc, od, .func (PySem.W.fnOf x qual (defArgs st) (defBody st) (defScope st) .none kV doc pm an cdv ct), osl⟩)
    (c : PySem.W.codeIn K cdv qual = true) (k : PySem.W.keepIn K (.ref f) = true) : Fun K x qual st f (PySem.W.fnOf x qual (defArgs st) (defBody st) (defScope st) .none kV doc pm an cdv ct) := ⟨⟨oc, od, kV, doc, pm, an, cdv, ct, osl, rfl, l, c⟩, k⟩
end
theorem hu_of {A : Around} {k : Nat} (hr : Room k A) : A.units + 1 < cLine := Nat.lt_of_le_of_lt (Nat.add_le_add_left (by decide : 1 ≤ 64) _) hr.units
section
variable {X : Cx}
theorem pv (i : Nat) {x : Str} {pos : Pos} (hN : X.N[i]? = some x := by rfl) (hv : Vis X.env.scope x := by first | exact Or.inl rfl | exact Or.inr (Or.inl rfl) | exact Or.inr (Or.inr rfl)) (hd : (x == ("__debug__" : Str)) = false := by decide)
    (hcd : (x == ("__classdict__" : Str)) = false := by decide) : PE X (.Name x pos) (tVar i) := by
  first
  | exact (pe_var hN hv hd hcd)
  | (unfold PE at *; exact (pe_var hN hv hd hcd))
end
theorem iteF {A B : Prop} (h : B) : if false = true then A else B := by
  rw [if_neg Bool.false_ne_true]
  exact h
theorem iteT {A B : Prop} (h : A) : if true = true then A else B := by
  rw [if_pos rfl]
  exact h
theorem ite2 {c A B : Prop} [Decidable c] (h1 : c → A) (h2 : ¬ c → B) : if c then A else B := by
  by_cases h : c
  · rw [if_pos h]
    exact h1 h
  · rw [if_neg h]
    exact h2 h
def Same (H H' : Hp) : Prop := ∀ b o, H b = some o → H' b = some o
theorem Same.refl (H : Hp) : Same H H := fun _ _ h => h
theorem Same.trans {H H1 H2 : Hp} (a : Same H H1) (b : Same H1 H2) : Same H H2 := fun c o h => b c o (a c o h)
theorem Same.free {H H' : Hp} (e : Same H H') {l : Addr} (h : H' l = Option.none) : H l = Option.none := by
  cases q : H l with
  | none => rfl
  | some o =>
    rw [e l o q] at h
    cases h
theorem Same.seq {K : PySem.W.Frag} {H H' : Hp} {a : Addr} {xs : List V} (e : Same H H') (h : SqL K H a xs) : SqL K H' a xs := by
  rcases h with (h | ⟨o, h⟩) | h
  · exact .inl (.inl (e _ _ h))
  · exact .inl (.inr ⟨o, e _ _ h⟩)
  · exact .inr h
section
variable {κ : Type} [DecidableEq κ]
end
end L2
set_option maxHeartbeats 4000000
namespace L2
open PySem PySem.Spec PyProof.Rows
section
variable {X : Cx} {a b c : Expr} {ta tb tc : TE} {pos : Pos}
inductive ClsV : V → Value → Prop where
  | ty (n : String) : ClsV (.ty n) (.type n)
  | own (C : Addr) : ClsV (.ref C) (.ref C)
def rIsi (K : PySem.W.Frag) : List V → Hp → VK → Prop := fun xs H Q => ∃ x c cv t b, xs = [x, c] ∧ ClsV c cv ∧ TyOf K H x t ∧ PySem.W.kitOne K t cv = some b ∧ Q (.bl b) H
theorem call_isi : CallR X (.builtin "isinstance") (rIsi X.K) := by
  unfold CallR at *
  exact by
    intro pins s σ H xs us Q I rv h
    obtain ⟨x, c, cv, t, b, rfl, hc, ty, e, q⟩ := h
    obtain ⟨u, cu, rfl, ru, rc⟩ := rv.two
    have ec : cu = cv := by cases hc <;> exact rc
    subst ec
    exact isinst_ok I ru ty e fun tk => ⟨.bl b, H, I.tok tk, rfl, q⟩
theorem RelV.bool_iff {x : V} {v : Value} {k : Bool} (r : RelV x v) : (v == Value.bool k) = decide (x = .bl k) := by
  cases x with
  | bl j => cases r; cases j <;> cases k <;> rfl
  | non => cases r; rfl
  | int _ => obtain ⟨t, rfl⟩ := r; rfl
  | str _ => obtain ⟨t, rfl⟩ := r; rfl
  | byt _ => obtain ⟨t, rfl⟩ := r; rfl
  | flt _ => obtain ⟨t, rfl⟩ := r; rfl
  | ref _ => cases r; rfl
  | ty _ => cases r; rfl
theorem isSame_bool {M : Model} {A : Around} {E : Value → Shared → Prop} {s : Shared} {x : V} {v : Value} {k : Bool} {Q : Bool → Shared → Prop} (r : RelV x v) (h : Q (v == Value.bool k) s) : wpAny M A (isSame v (.bool k)) Q E s := by
  unfold isSame
  cases x <;> first
    | (cases r; exact wpAny_pure h)
    | (obtain ⟨t, rfl⟩ := r; exact wpAny_pure h)
def rIsnB : R2 := fun x y H Q => ∃ k, y = .bl k ∧ Q (.bl (!decide (x = .bl k))) H
theorem op_isnotB : OpR X (compareOp .IsNot) rIsnB := by
  unfold OpR at *
  exact by
    intro pins s σ H x y v u Q I rx ry h
    obtain ⟨k, rfl, q⟩ := h
    cases ry
    show wpAny _ _ (do return Value.bool (!(← isSame v (.bool k)))) _ _ _
    exact wpAny_bind (isSame_bool rx (wpAny_pure (fin_bl I q (by rw [rx.bool_iff]))))
end
end L2
namespace L2
open PySem PySem.Spec PyProof.Rows
/- what a block's context hangs on: the closure's cells, the state and abstract heap ahead of the block, the iterator's records -/
set_option genInjectivity false in
set_option genSizeOfSpec false in
set_option genSizeOf false in
structure Bk where
  cl : List (Str × Addr)
  s2 : Shared
  H2 : Hp
  fp : List Addr
def cxComp (X : Cx) (scope : Scope) (N' : List Str) (B : Bk) : Cx :=
  { X with N := N', s₀ := B.s2, H₀ := B.H2, env := compEnvC scope B.cl B.s2.heap.objs.size X.env, outer := X.stack, stack := X.stack, ex := B.fp, fn := fun _ => false, pn := [], xe := fun _ _ => False }
def capS (js : List (Option Nat)) (σ : St) : St := js.map fun o => o.bind fun j => (σ[j]?).join
structure Cap (X : Cx) (scope : Scope) (N' : List Str) (js : List (Option Nat)) : Prop where
  len : js.length = N'.length
  ok : ∀ (i j : Nat) (x : Str), js[i]? = some (some j) → N'[i]? = some x → X.N[j]? = some x ∧ scope.names.lookup x = some .free ∧ (X.env.kindOf x = some .cell ∨ X.env.kindOf x = some .free)
theorem closure_go {env : Env} : ∀ (names : List (Str × NameKind)) (cs : List (Str × Addr)), (∀ x ∈ names, x.2 = .free → ∃ c, env.cells.lookup x.1 = some c) → (∀ x c, cs.lookup x = some c → env.cells.lookup x = some c) →
    ∃ cl, (forIn names cs (fun (x : Str × NameKind) (r : List (Str × Addr)) => match x with
      | (name, kind) => if (kind == NameKind.free) = true then (do let y ← cellOf env name; pure (ForInStep.yield ((name, y) :: r))) else pure (ForInStep.yield r)) : Sem (List (Str × Addr))) = pure cl ∧
      (∀ x c, cl.lookup x = some c → env.cells.lookup x = some c) ∧ (∀ x c, cs.lookup x = some c → ∃ c', cl.lookup x = some c') ∧ ∀ x, (x, NameKind.free) ∈ names → ∃ c, cl.lookup x = some c := by
  intro names
  induction names with
  | nil => intro cs _ h2; exact ⟨cs, rfl, h2, fun x c e => ⟨c, e⟩, fun x hx => absurd hx (by simp)⟩
  | cons y r ih =>
    intro cs h1 h2
    obtain ⟨n, k⟩ := y
    have h1r : ∀ x ∈ r, x.2 = .free → ∃ c, env.cells.lookup x.1 = some c := fun x hx => h1 x (List.mem_cons_of_mem _ hx)
    by_cases hk : k = .free
    · subst hk
      obtain ⟨c, hc⟩ := h1 (n, .free) List.mem_cons_self rfl
      have h2' : ∀ x d, List.lookup x ((n, c) :: cs) = some d → env.cells.lookup x = some d := fun x d e => by
        by_cases hx : x = n
        · subst hx
          simp only [List.lookup_cons, beq_self_eq_true] at e
          rw [hc]; exact e
        · have hb : (x == n) = false := by simpa using hx
          simp only [List.lookup_cons, hb] at e
          exact h2 x d e
      obtain ⟨cl, e1, e2, e3, e4⟩ := ih ((n, c) :: cs) h1r h2'
      refine ⟨cl, ?_, e2, fun x d e => ?_, fun x hx => ?_⟩
      · rw [List.forIn_cons]
        have q : cellOf env n = pure c := by unfold cellOf; rw [hc]
        show ((if (NameKind.free == NameKind.free) = true then (do let y ← cellOf env n; pure (ForInStep.yield ((n, y) :: cs))) else pure (ForInStep.yield cs)) >>= _) = _
        rw [if_pos (by decide), q]
        exact e1
      · by_cases hx : x = n
        · exact e3 x c (by subst hx; simp [List.lookup_cons])
        · exact e3 x d (by have hb : (x == n) = false := by simpa using hx
                           simp only [List.lookup_cons, hb]; exact e)
      · rcases List.mem_cons.mp hx with z | z
        · injection z with z1 _
          exact e3 x c (by subst z1; simp [List.lookup_cons])
        · exact e4 x z
    · obtain ⟨cl, e1, e2, e3, e4⟩ := ih cs h1r h2
      refine ⟨cl, ?_, e2, e3, fun x hx => ?_⟩
      · rw [List.forIn_cons]
        have hb : (k == NameKind.free) = false := by simpa using hk
        show ((if (k == NameKind.free) = true then _ else pure (ForInStep.yield cs)) >>= _) = _
        rw [if_neg (by rw [hb]; decide)]
        exact e1
      · rcases List.mem_cons.mp hx with z | z
        · injection z with _ z2
          exact absurd z2.symm hk
        · exact e4 x z
theorem closure_of {scope : Scope} {env : Env} (h : ∀ x ∈ scope.names, x.2 = .free → ∃ c, env.cells.lookup x.1 = some c) :
    ∃ cl, closureFor scope env = pure cl ∧ (∀ x c, cl.lookup x = some c → env.cells.lookup x = some c) ∧ ∀ x, (x, NameKind.free) ∈ scope.names → ∃ c, cl.lookup x = some c := by
  obtain ⟨cl, e1, e2, _, e4⟩ := closure_go (env := env) scope.names [] h (fun x c e => by simp at e)
  refine ⟨cl, ?_, e2, e4⟩
  have q : closureFor scope env = (forIn scope.names [] (fun (x : Str × NameKind) (r : List (Str × Addr)) => match x with
      | (name, kind) => if (kind == NameKind.free) = true then (do let y ← cellOf env name; pure (ForInStep.yield ((name, y) :: r))) else pure (ForInStep.yield r)) : Sem (List (Str × Addr))) >>= fun r => pure r := rfl
  rw [q, e1]
  rfl
theorem relabel_free {env : Env} : ∀ {names : List (Str × NameKind)} {x : Str}, names.lookup x = some .free →
    (names.map fun (n, k) => if (k == NameKind.free && env.scope.kind == .function && env.kindOf n == some .cell) then (n, NameKind.cell) else (n, k)).lookup x = some .cell ∨
    (names.map fun (n, k) => if (k == NameKind.free && env.scope.kind == .function && env.kindOf n == some .cell) then (n, NameKind.cell) else (n, k)).lookup x = some .free
  | [], _, h => by simp at h
  | (n, k) :: r, x, h => by
    have ih := @relabel_free env r x
    simp only [List.map_cons]
    cases hx : x == n with
    | true =>
      simp only [List.lookup_cons, hx] at h
      cases h
      by_cases hc : (NameKind.free == NameKind.free && env.scope.kind == .function && env.kindOf n == some .cell) = true
      · rw [if_pos hc]; left; simp only [List.lookup_cons, hx]
      · rw [if_neg hc]; right; simp only [List.lookup_cons, hx]
    | false =>
      simp only [List.lookup_cons, hx] at h
      by_cases hc : (k == NameKind.free && env.scope.kind == .function && env.kindOf n == some .cell) = true
      · rw [if_pos hc]; simp only [List.lookup_cons, hx]; exact ih h
      · rw [if_neg hc]; simp only [List.lookup_cons, hx]; exact ih h
theorem relabel_inv {env : Env} : ∀ {names : List (Str × NameKind)} {x : Str},
    ((names.map fun (n, k) => if (k == NameKind.free && env.scope.kind == .function && env.kindOf n == some .cell) then (n, NameKind.cell) else (n, k)).lookup x = some .cell ∨
    (names.map fun (n, k) => if (k == NameKind.free && env.scope.kind == .function && env.kindOf n == some .cell) then (n, NameKind.cell) else (n, k)).lookup x = some .free) →
    names.lookup x = some .cell ∨ names.lookup x = some .free
  | [], _, h => by simp at h
  | (n, k) :: r, x, h => by
    have ih := @relabel_inv env r x
    simp only [List.map_cons] at h
    cases hx : x == n with
    | true =>
      simp only [List.lookup_cons, hx]
      by_cases hc : (k == NameKind.free && env.scope.kind == .function && env.kindOf n == some .cell) = true
      · right
        have : k = .free := by
          simp only [Bool.and_eq_true] at hc
          simpa using hc.1.1
        rw [this]
      · rw [if_neg hc] at h
        simp only [List.lookup_cons, hx] at h
        exact h
    | false =>
      simp only [List.lookup_cons, hx]
      apply ih
      by_cases hc : (k == NameKind.free && env.scope.kind == .function && env.kindOf n == some .cell) = true
      · rw [if_pos hc] at h; simp only [List.lookup_cons, hx] at h; exact h
      · rw [if_neg hc] at h; simp only [List.lookup_cons, hx] at h; exact h
theorem comp_start {X : Cx} {pins : List (Addr × Obj)} {σ : St} {H2 : Hp} {s2 : Shared} {scope : Scope} {cl : List (Str × Addr)} {N' : List Str} {js : List (Option Nat)} {fp : List Addr} {h' : Heap} {t' : Nat} {m0 : Str → Option Value}
    (I : Inv X pins σ H2 s2) (hk : scope.kind = .function) (hcell : ∀ y ∈ scope.names, y.2 ≠ .cell)
    (hf : ∀ b ∈ fp, FpOk X pins H2 b) (ho : ∀ b ∈ fp, ∃ o, s2.heap.get? b = some o)
    (c1 : ∀ x c, cl.lookup x = some c → X.env.cells.lookup x = some c) (c2 : ∀ x, (x, NameKind.free) ∈ scope.names → ∃ c, cl.lookup x = some c)
    (cap : Cap X scope N' js) (ns : h'.Ns s2.heap.objs.size m0) (sb : ∀ b o, s2.heap.get? b = some o → h'.get? b = some o) :
    Inv (cxComp X scope N' ⟨cl, s2, H2, fp⟩) [] (capS js σ) H2 { s2 with heap := h', toks := t' } := by
  have isc : ∀ c v, s2.heap.IsCell c v → h'.IsCell c v := fun c v ⟨o, e, d⟩ => ⟨o, sb _ _ e, d⟩
  refine ⟨⟨I.ok.mod, hk, I.ok.glob, I.ok.blt, Nat.le_refl _, fun x y c h1 h2 => I.ok.inj x y c (c1 x c h1) (c1 y c h2), fun x hx => ?_, fun x c h => absurd h (by simp [cxComp]), I.ok.hd, I.ok.frames, .inl rfl, fun b hb => ⟨?_, fun x c e => ?_⟩, I.bs, Nat.le_trans I.ok.bsz I.sz,
    fun b o e hb => ?_, fun b hb hs => ?_, I.stack, I.stkFree⟩, rfl, I.bare, Un.kept sb, ⟨m0, ns, fun i x v e1 e2 e3 => ?_⟩, fun x c e => ?_, I.hok.fresh (Nat.le_refl _), fun x c e => I.freeC x c (c1 x c e), fun p hp => absurd hp (by simp [cxComp]), I.hok.kept sb, ?_⟩
  · have hx' := relabel_inv (env := X.env) (names := scope.names) (x := x) hx
    rcases hx' with z | z
    · exact absurd rfl (hcell _ (PySem.mem_of_lookup z))
    · exact c2 x (PySem.mem_of_lookup z)
  · obtain ⟨o, e⟩ := ho b hb
    exact Nat.ne_of_lt (Heap.lt_size e)
  · exact (hf b hb).2.2.2.2.1 x c (c1 x c e)
  · rcases (hf b hb).2.2.2.1 with z | z
    · exact I.ok.noex b o e z
    · exact absurd (Nat.lt_of_lt_of_le (Heap.lt_size e) (Nat.le_trans I.ok.bsz z)) (Nat.lt_irrefl _)
  · rcases List.mem_cons.mp (I.stkSub b hs) with z | z
    · exact (hf b hb).2.1 z
    · exact (hf b hb).2.2.1 z
  · have e2' : ((js.map fun o => o.bind fun j => (σ[j]?).join) : St)[i]? = some (some v) := e2
    rw [List.getElem?_map] at e2'
    cases q : js[i]? with
    | none => rw [q] at e2'; cases e2'
    | some o =>
      rw [q] at e2'
      cases o with
      | none => simp at e2'
      | some j =>
        have q2 : (σ[j]?).join = some v := by simpa using e2'
        have q3 : σ[j]? = some (some v) := by
          cases z : σ[j]? with
          | none => rw [z] at q2; cases q2
          | some w => rw [z] at q2; exact congrArg some q2
        obtain ⟨n1, n2, n3⟩ := cap.ok i j x q e1
        obtain ⟨m, hm, hl⟩ := I.loc
        obtain ⟨u, r, l⟩ := hl j x v n1 q3 (.inr n3)
        refine ⟨u, r, .inr ⟨relabel_free (env := X.env) n2, ?_⟩⟩
        obtain ⟨c, hc⟩ := c2 x (PySem.mem_of_lookup n2)
        refine ⟨c, hc, ?_⟩
        rcases l with ⟨l, _⟩ | ⟨_, c', e', z'⟩
        · rcases n3 with n3 | n3 <;> (rw [n3] at l; cases l)
        · have := c1 x c hc
          rw [e'] at this; cases this
          exact isc _ _ z'
  · obtain ⟨v, z⟩ := I.cell x c (c1 x c e)
    exact ⟨v, isc _ _ z⟩
  · show (js.map _).length = N'.length
    rw [List.length_map]; exact cap.len
@[irreducible] def PIfs (X : Cx) (ifs : List Expr) (t : TT) : Prop :=
  ∀ (pins : List (Addr × Obj)) (s : Shared) (σ : St) (H : Hp) (Q : Bool → Hp → Prop), Inv X pins σ H s → t σ H Q →
    wpAny (model X.prog X.w) X.A (forIn ifs true fun c r => if r = true then do let ok ← isTrue c X.env (eval c X.env); pure (ForInStep.yield ok) else pure (ForInStep.yield r)) (TP X pins σ Q) X.xe s
def tAll : TT := fun _ H Q => Q true H
theorem pifs_nil {X : Cx} : PIfs X [] tAll := by
  first
  | exact (fun _ _ _ H _ I h => wpAny_tests_nil ⟨H, I, h⟩)
  | (unfold PIfs at *; exact (fun _ _ _ H _ I h => wpAny_tests_nil ⟨H, I, h⟩))
theorem pifs_one {X : Cx} {c : Expr} {t : TT} (hc : PT X c t) : PIfs X [c] t := by
  first
  | exact (fun pins s σ H Q I h => wpAny_tests_one (hc pins s σ H Q I h))
  | (unfold PT at *; unfold PIfs at *; exact (fun pins s σ H Q I h => wpAny_tests_one (hc pins s σ H Q I h)))
section
variable {prog : Program} {w : World} {A : Around} {R : Result → Shared → Prop} {s : Shared}
theorem compLoop_go {elt target iter : Expr} {ifs : List Expr} {scope : Scope} {pos : Pos} {it acc : Value} {env : Env} (I : Nat → Shared → Prop)
    (turn : ∀ n s, I n s → wpAny (model prog w) A (pyNext it) (fun r s₁ => match r with
      | none => R (.ok .next) s₁
      | some v => wpAny (model prog w) A (letOwnedTupleGo target it v) (fun _ s₁ => wpAny (model prog w) A (assign target env v) (fun _ s₂ =>
          wpAny (model prog w) A (forIn ifs true fun c r => if r = true then do let ok ← isTrue c env (eval c env); pure (ForInStep.yield ok) else pure (ForInStep.yield r)) (fun ok s₃ =>
            if ok = true then wpAny (model prog w) A (eval elt env) (fun x s₄ =>
              wpAny (model prog w) A (call (.builtin "list.append") [acc, x]) (fun _ s₅ => ∃ m, m < n ∧ I m s₅) (fun _ _ => False) s₄) (fun _ _ => False) s₃
            else ∃ m, m < n ∧ I m s₃) (fun _ _ => False) s₂) (fun _ _ => False) s₁) (fun _ _ => False) s₁) (fun _ _ => False) s)
    (n : Nat) (h : I n s) :
    codeAny (model prog w) A (.compLoop (.ListComp elt [⟨target, iter, ifs, 0⟩] scope pos) 0 it acc env) R s := by
  refine codeAny_loop rfl I (fun n s hI => ?_) n h
  show wpAny _ A ((compTurn (.ListComp elt [⟨target, iter, ifs, 0⟩] scope pos) 0 it acc env).onRaise (fun x => do noteFrame x env; theTreesLotGoes x)) _ _ s
  refine wpAny_noted ?_
  rw [compTurn_list]
  refine wpAny_bind (wpAny_standAt (wpAny_bind (wpAny_mono (turn n s hI) (fun r s₁ h₁ => ?_) fun _ _ h' => h'.elim)))
  cases r with
  | none => exact wpAny_pure h₁
  | some v =>
    refine wpAny_bind (wpAny_mono h₁ (fun _ s₁ h₁ => ?_) fun _ _ h' => h'.elim)
    refine wpAny_bind (wpAny_mono h₁ (fun _ s₂ h₂ => wpAny_bind (wpAny_mono h₂ (fun ok s₃ h₃ => ?_) fun _ _ h' => h'.elim)) fun _ _ h' => h'.elim)
    cases ok with
    | false => exact wpAny_pure ⟨rfl, h₃⟩
    | true =>
      exact wpAny_bind (wpAny_bind (wpAny_mono h₃ (fun x s₄ h₄ => wpAny_bind (wpAny_mono h₄ (fun _ s₅ h₅ => wpAny_pure (wpAny_pure ⟨rfl, h₅⟩)) fun _ _ h' => h'.elim)) fun _ _ h' => h'.elim))
end
def tLoop (J : It) (l : Addr) (g : TG) (tc : TT) (te : TE) (σ : St) (H : Hp) (Q : VK) : Prop :=
  ∃ W : Nat → Nat → St → List V → Hp → Prop, (∃ m, W 0 m σ [] H) ∧ ∀ i m σ acc H, W i m σ acc H → H l = some (.lst acc) ∧ ((J.stop i H ∧ Q (.ref l) H) ∨
    (J.go i H ∧ acc.length < sizeLine ∧ ∀ x H', J.yld i H x H' → g x σ H' fun σ2 H2 => tc σ2 H2 fun b H3 => if b = true then
      te σ2 H3 fun v H4 => H4 l = some (.lst acc) ∧ ∃ m', m' < m ∧ W (i + 1) m' σ2 (acc ++ [v]) (upd H4 l (.lst (acc ++ [v])))
      else ∃ m', m' < m ∧ W (i + 1) m' σ2 acc H3))
def tComp (js : List (Option Nat)) (wi : TI) (g : Bk → TG) (tc : Bk → TT) (te : Bk → TE) : TE := fun σ H Q => wi σ H fun J H1 => ∀ l B, H1 l = none → tLoop J l (g B) (tc B) (te B) (capS js σ) (upd H1 l (.lst [])) Q
section
variable {X : Cx} {elt tg iter : Expr} {ifs : List Expr} {scope : Scope} {pos : Pos} {N' : List Str} {js : List (Option Nat)} {wi : TI} {g : Bk → TG} {tc : Bk → TT} {te : Bk → TE}
theorem comp_block {pins : List (Addr × Obj)} {σ : St} {H1 : Hp} {s1 : Shared} {it : Addr} {fp : List Addr} {tn : Nat → Heap → Prop} {J : It} {cl : List (Str × Addr)} {Q : VK} {RR : Value → Addr → Result → Shared → Prop}
    (hc : X.calm = true) (hk : scope.kind = .function) (hcell : ∀ y ∈ scope.names, y.2 ≠ .cell) (cap : Cap X scope N' js)
    (blk : ∀ B, PG (cxComp X scope N' B) tg (g B) ∧ PIfs (cxComp X scope N' B) ifs (tc B) ∧ PE (cxComp X scope N' B) elt (te B))
    (c1 : ∀ x c, cl.lookup x = some c → X.env.cells.lookup x = some c) (c2 : ∀ x, (x, NameKind.free) ∈ scope.names → ∃ c, cl.lookup x = some c)
    (I : Inv X pins σ H1 s1) (T : Turn X.prog X.w X.K tg J fp it tn) (st : tn 0 s1.heap) (hf : ∀ b ∈ fp, FpOk X pins H1 b)
    (h : ∀ l B, H1 l = none → tLoop J l (g B) (tc B) (te B) (capS js σ) (upd H1 l (.lst [])) Q)
    (hRR : ∀ l C H' s' (m' : Str → Option Value), Inv X pins σ H' s' → Q (.ref l) H' → s'.heap.Ns C m' → H' C = none → C ≠ X.env.locals → (∀ x c, X.env.cells.lookup x = some c → c ≠ C) → C ∉ X.fs → X.s₀.heap.objs.size ≤ C → (∀ p ∈ X.pn ++ pins, p.1 ≠ C) →
      RR (.ref l) C (.ok .next) s') :
    wpAny (model X.prog X.w) X.A (newList []) (fun acc s₃ => wpAny (model X.prog X.w) X.A (newFunctionEnv scope X.env.globals cl [] X.env.qual none .none (some X.env)) (fun cenv s₄ =>
      codeAny (model X.prog X.w) X.A (.compStart (.ListComp elt [⟨tg, iter, ifs, 0⟩] scope pos) 0 (.ref it) acc { cenv with scope := relabel scope X.env }) (RR acc cenv.locals) s₄) X.xe s₃) X.xe s1 := by
  unfold PE at *; unfold PG at *; unfold PIfs at *
  exact by
    refine wpAny_newObj_type ?_
    have I2 : Inv X pins σ (upd H1 s1.heap.objs.size (.lst [])) { s1 with heap := s1.heap.push { cls := .type "list", data := .seq ([] : List Value).toArray } } := I.lnew (t' := s1.toks) .nil (Nat.zero_le _)
    have hl : H1 s1.heap.objs.size = none := I.fresh
    generalize es2 : ({ s1 with heap := s1.heap.push { cls := .type "list", data := .seq ([] : List Value).toArray } } : Shared) = s2 at I2 ⊢
    generalize el : s1.heap.objs.size = l at *
    have ne_fp : ∀ b ∈ fp, b ≠ l := fun b hb => by
      obtain ⟨o, e, _⟩ := T.obj _ _ st b hb
      rw [← el]
      exact Nat.ne_of_lt (Heap.lt_size e)
    have hf2 : ∀ b ∈ fp, FpOk X pins (upd H1 l (.lst [])) b := fun b hb => ⟨by rw [upd_ne (ne_fp b hb)]; exact (hf b hb).1, (hf b hb).2⟩
    have kp : ∀ b o, s1.heap.get? b = some o → s2.heap.get? b = some o := fun b o e => by rw [← es2]; exact Heap.get?_push_of_some _ e
    have st2 : tn 0 s2.heap := T.keep _ _ _ st fun b _ o e => kp b o e
    refine wpAny_newFunctionEnv hcell (by intro y hy; simp at hy) (fun h' ns sb => ?_) hk
    have kp2 : ∀ b o, s2.heap.get? b = some o → h'.get? b = some o := fun b o e => (sb.2 b (Nat.ne_of_lt (Heap.lt_size e))).trans (Heap.get?_push_of_some _ e)
    have st3 : tn 0 h' := T.keep _ _ _ st2 fun b _ o e => kp2 b o e
    have I3 := comp_start (t' := s2.toks + ([] : List (Str × Value)).length) (m0 := fun x => ([] : List (Str × Value)).reverse.lookup x) I2 hk hcell hf2 (fun b hb => by obtain ⟨o, e, _⟩ := T.obj _ _ st2 b hb; exact ⟨o, e⟩) c1 c2 cap ns kp2
    obtain ⟨pg, pif, pel⟩ := blk ⟨cl, s2, upd H1 l (.lst []), fp⟩
    obtain ⟨W, ⟨m0, w0⟩, turn⟩ := h l ⟨cl, s2, upd H1 l (.lst []), fp⟩ hl
    have fpY : ∀ {H' : Hp}, (∀ b ∈ fp, H' b = none) → ∀ b ∈ fp, FpOk (cxComp X scope N' ⟨cl, s2, upd H1 l (.lst []), fp⟩) [] H' b := fun {H'} hn b hb =>
      ⟨hn b hb, (I3.ok.exf b hb).1, I3.ok.exfs b hb, .inl hb, (I3.ok.exf b hb).2, fun p hp => absurd hp (by simp [cxComp])⟩
    have loop : codeAny (model X.prog X.w) X.A (.compLoop (.ListComp elt [⟨tg, iter, ifs, 0⟩] scope pos) 0 (.ref it) (.ref l) (compEnvC scope cl s2.heap.objs.size X.env)) (RR (.ref l) s2.heap.objs.size) { s2 with heap := h', toks := s2.toks + ([] : List (Str × Value)).length } := by
      refine compLoop_go (fun n s' => ∃ i σ' acc H', Inv (cxComp X scope N' ⟨cl, s2, upd H1 l (.lst []), fp⟩) [] σ' H' s' ∧ tn i s'.heap ∧ (∀ b ∈ fp, H' b = none) ∧ W i n σ' acc H') ?_ m0 ⟨0, _, _, _, I3, st3, fun b hb => (hf2 b hb).1, w0⟩
      rintro n s3 ⟨i, σ3, acc, H3, J3, t3, f3, w3⟩
      obtain ⟨hacc, alt⟩ := turn i n σ3 acc H3 w3
      rcases alt with ⟨stop, q⟩ | ⟨go, hz, step⟩
      · refine thn (T.done (cxComp X scope N' ⟨cl, s2, upd H1 l (.lst []), fp⟩) rfl rfl rfl hc i [] s3 σ3 H3 (fun _ _ => False) J3 (fpY f3) t3 stop) fun r s4 ⟨hr, J4⟩ => ?_
        subst hr
        have IX : Inv X pins σ H3 s4 := I2.call' (ch := fp) J4.os J4.base J4.hok J4.bare fun b hb => ⟨(hf2 b hb).2.2.2.1, (hf2 b hb).2.1, (hf2 b hb).2.2.2.2.1, (hf2 b hb).2.2.2.2.2⟩
        obtain ⟨m', hn', _⟩ := J4.loc
        refine hRR l s2.heap.objs.size H3 s4 m' IX q hn' J4.free (Nat.ne_of_gt I2.lt) (fun x c e => ?_) (I2.nofs (Nat.le_refl _)) I2.sz fun p hp => Nat.ne_of_lt (Heap.lt_size (I2.pin p hp).1)
        obtain ⟨v, z⟩ := I2.cell x c e
        exact Nat.ne_of_lt z.lt
      · refine thn (T.item (cxComp X scope N' ⟨cl, s2, upd H1 l (.lst []), fp⟩) rfl rfl rfl hc i [] s3 σ3 H3 (fun _ _ => False) J3 (fpY f3) t3 go) fun r s4 ⟨u, hr, h4⟩ => ?_
        subst hr
        refine thn h4 fun _ s5 ⟨x, H5, J5, r5, y5, t5, f5⟩ => ?_
        have J5' := J5.pinned (fpY f5) (T.obj _ _ t5)
        refine thn (pg _ s5 σ3 H5 x u _ J5' r5 (step x H5 y5)) fun _ s6 ⟨σ6, H6, J6, q6⟩ => ?_
        refine thn (pif _ s6 σ6 H6 _ J6 q6) fun ok s7 ⟨H7, J7, q7⟩ => ?_
        have again : ∀ {σ8 : St} {H8 : Hp} {s8 : Shared} {acc8 : List V}, Inv (cxComp X scope N' ⟨cl, s2, upd H1 l (.lst []), fp⟩) ([] ++ pinsAt fp s5.heap) σ8 H8 s8 → (∃ m', m' < n ∧ W (i + 1) m' σ8 acc8 H8) →
            ∃ m, m < n ∧ ∃ i σ' acc H', Inv (cxComp X scope N' ⟨cl, s2, upd H1 l (.lst []), fp⟩) [] σ' H' s8 ∧ tn i s8.heap ∧ (∀ b ∈ fp, H' b = none) ∧ W i m σ' acc H' := fun {σ8 H8 s8 acc8} J8 hw => by
          obtain ⟨m', hm, w8⟩ := hw
          refine ⟨m', hm, i + 1, σ8, acc8, H8, J8.unpinned, T.keep _ _ _ t5 fun b hb o e => (J8.pin (b, o) (List.mem_append_right _ (List.mem_append_right _ (mem_pinsAt hb e)))).1, fun b hb => ?_, w8⟩
          obtain ⟨o, e, d⟩ := T.obj _ _ t5 b hb
          exact (J8.pin (b, o) (List.mem_append_right _ (List.mem_append_right _ (mem_pinsAt hb e)))).2.1
        cases ok with
        | false => exact again J7 q7
        | true =>
          refine thn (pel _ s7 σ6 H7 _ J7 q7) fun xv s8 ⟨v, H8, J8, r8, hl8, m', hm, w8⟩ => ?_
          have mtq := mt_append (X := cxComp X scope N' ⟨cl, s2, upd H1 l (.lst []), fp⟩)
          unfold MtM at mtq
          refine thn (mtq _ s8 σ6 H8 (.ref l) [v] (.ref l) [xv] (fun _ H9 => H9 = upd H8 l (.lst (acc ++ [v]))) J8 rfl (.cons r8 .nil) ⟨l, acc, v, rfl, rfl, hl8, hz, rfl⟩) fun _ s9 ⟨v9, H9, J9, _, e9⟩ => ?_
          subst e9
          exact again J9 ⟨m', hm, w8⟩
    exact codeAny_compStart_list loop (T.self X.A 0 _ _ _ st3 loop)
theorem pe_comp (hc : X.calm = true) (hk : scope.kind = .function) (hcell : ∀ y ∈ scope.names, y.2 ≠ .cell) (hnames : ∀ y ∈ scope.names, y.2 = .local → scope.names.lookup y.1 = some .local)
    (hfree : ∀ y ∈ scope.names, y.2 = .free → (X.env.kindOf y.1 = some .cell ∨ X.env.kindOf y.1 = some .free)) (cap : Cap X scope N' js) (hi : PI X tg iter wi)
    (blk : ∀ B, PG (cxComp X scope N' B) tg (g B) ∧ PIfs (cxComp X scope N' B) ifs (tc B) ∧ PE (cxComp X scope N' B) elt (te B))
    (hs : ∀ x, foldedSetIterable iter X.env x = pure x := by intro _; rfl) : PE X (.ListComp elt [⟨tg, iter, ifs, 0⟩] scope pos) (tComp js wi g tc te) := by
  unfold PE; unfold PI at hi
  exact by
    intro pins s σ H Q I h
    obtain ⟨cl, hcl, c1, c2⟩ := closure_of (scope := scope) (env := X.env) fun x hx hxf => I.ok.has x.1 (hfree x hx hxf)
    rw [eval_ListComp]
    refine wpAny_comprehension_free (use := none) rfl hs hcl hk hnames (thn (hi pins s σ H _ I h) fun v s1 h1 => thn h1 fun itv s2 h2 => ?_)
    obtain ⟨it, fp, tn, J, H2, e, I2, T, st2, f2, hloop⟩ := h2
    subst e
    refine comp_block (RR := fun acc C => compPost (model X.prog X.w) X.A X.xe none (EP X pins σ Q) acc C) hc hk hcell cap blk c1 c2 I2 T st2 f2 hloop ?_
    intro l C H' s' m' I' q ns fC hL hcl' hfs hs0 hpin
    exact ⟨m', ns, fun h'' sb => ⟨.ref l, H', I'.turned (t' := s'.toks) (fun b o hb e => (sb.2 b hb).trans e) fC hL (.inr hs0) hcl' hpin, rfl, q⟩⟩
theorem ps_setComp {i : Nat} {y : Str} {py spos : Pos} (hN : X.N.Nodup) (hy : X.N[i]? = some y) (hyk : X.env.kindOf y = some .local) (hc : X.calm = true) (hk : scope.kind = .function) (hcell : ∀ y ∈ scope.names, y.2 ≠ .cell)
    (hnames : ∀ y ∈ scope.names, y.2 = .local → scope.names.lookup y.1 = some .local)
    (hfree : ∀ y ∈ scope.names, y.2 = .free → (X.env.kindOf y.1 = some .cell ∨ X.env.kindOf y.1 = some .free)) (cap : Cap X scope N' js) (hi : PI X tg iter wi)
    (blk : ∀ B, PG (cxComp X scope N' B) tg (g B) ∧ PIfs (cxComp X scope N' B) ifs (tc B) ∧ PE (cxComp X scope N' B) elt (te B))
    (hsw : swapsWith (.ListComp elt [⟨tg, iter, ifs, 0⟩] scope pos) (some (.Name y py)) spos.line X.env = pure true := by rfl)
    (hs : ∀ x, foldedSetIterable iter X.env x = pure x := by intro _; rfl) : PS X (.Assign [.Name y py] (.ListComp elt [⟨tg, iter, ifs, 0⟩] scope pos) spos) (tAsg (tComp js wi g tc te) (gName i)) := by
  unfold PS; unfold PI at hi
  exact by
    intro pins s σ H D I h
    obtain ⟨cl, hcl, c1, c2⟩ := closure_of (scope := scope) (env := X.env) fun x hx hxf => I.ok.has x.1 (hfree x hx hxf)
    rw [exec_Assign_Name_used _ _ _ _ hsw]
    refine wpAny_bind (wpAny_standAt (wpAny_bind ?_))
    show wpAny _ X.A (do let _ ← comprehension (.ListComp elt [⟨tg, iter, ifs, 0⟩] scope pos) scope X.env _ (newList []) false (eval iter X.env) (some (assign (.Name y py) X.env))) _ _ s
    refine wpAny_bind (wpAny_mono (wpAny_comprehension_free (use := some (assign (.Name y py) X.env)) (Q := fun _ s' => SP X pins D .next s') rfl hs hcl hk hnames
      (thn (hi pins s σ H _ I h) fun v s1 h1 => thn h1 fun itv s2 h2 => ?_)) (fun _ s' hq => wpAny_pure (wpAny_pure hq)) fun _ _ e => e)
    obtain ⟨it, fp, tn, J, H2, e, I2, T, st2, f2, hloop⟩ := h2
    subst e
    refine comp_block (RR := fun acc C => compPost (model X.prog X.w) X.A X.xe (some (assign (.Name y py) X.env)) (fun _ s' => SP X pins D .next s') acc C) hc hk hcell cap blk c1 c2 I2 T st2 f2 hloop ?_
    intro l C H' s' m' I' q ns fC hL hcl' hfs hs0 hpin
    show wpAny _ X.A (assign (.Name y py) X.env (.ref l)) _ _ _
    refine wpAny_assign_Name (store_ok2 (v := .ref l) I' hN hy (.inl hyk) rfl (fun s'' I'' sb => ?_) (.inr hyk))
    obtain ⟨a, sb, ha⟩ := sb
    have hCa : C ≠ a := by
      rcases ha with z | z
      · rw [z]; exact hL
      · exact fun z' => hcl' y a z z'.symm
    refine ⟨m', ns.sameBut sb hCa, fun h'' sb2 => ?_⟩
    exact ⟨σ.set i (some (.ref l)), H', I''.turned (t' := s''.toks) (fun b o hb e => (sb2.2 b hb).trans e) fC hL (.inr hs0) hcl' hpin, q⟩
end
end L2
namespace L2
open PySem PySem.Spec PyProof.Rows
theorem ObjOk.there {P : Program} {w : World} {H : Hp} {h : Heap} {a : Addr} {o : HO} (x : ObjOk P w H h a o) : ∃ ob, h.get? a = some ob := by
  cases o with
  | lst xs => obtain ⟨_, _, _, _, e⟩ := x; exact ⟨_, e⟩
  | tup xs => obtain ⟨_, _, _, ob, e, _⟩ := x; exact ⟨_, e⟩
  | dK kvs => obtain ⟨_, _, _, _, o, _, _, e, _⟩ := x; exact ⟨_, e⟩
  | dT kvs => obtain ⟨_, _, _, _, o, _, _, e, _⟩ := x; exact ⟨_, e⟩
  | set S n => obtain ⟨o, _, _, _, e, _⟩ := x; exact ⟨_, e⟩
  | ins C dx fs => obtain ⟨_, _, _, e, _⟩ := x; exact ⟨_, e⟩
  | own y => obtain ⟨_, e⟩ := x; exact ⟨_, e⟩
  | xd fs => obtain ⟨_, ⟨_, _, _, e, _⟩, _⟩ := x; exact ⟨_, e⟩
  | rng lo hi => obtain ⟨_, _, _, e⟩ := x; exact ⟨_, e⟩
  | frz ob u => obtain ⟨e, _⟩ := x; exact ⟨_, e⟩
  | tbl ps => exact ⟨_, (show h.get? a = some _ from x)⟩
  | met f y => exact ⟨_, (show h.get? a = some _ from x)⟩
  | ext φ => obtain ⟨_, ⟨_, e⟩, _⟩ := x; exact ⟨_, e⟩
theorem HOk.track {P : Program} {w : World} {H : Hp} {h h' : Heap} (x : HOk P w H h) (k : ∀ b u o, H b = some u → h.get? b = some o → h'.get? b = some o) : HOk P w H h' := fun a o e =>
  (x a o e).stay (fun b u hb q => by
    rcases hb with z | z
    · subst z; exact k _ _ _ e q
    · exact k _ _ _ z q) (fun _ q => q) fun _ _ q => q
theorem dict_mapF (o : Obj) (f : Array Value → Array Value) : (Obj.mapFields f o).dict = o.dict := by
  obtain ⟨c, d, dt, sl⟩ := o
  cases dt <;> rfl
def ExAt (h : Heap) (e : Addr) (C : Value) (dd : Option Addr) (t1 : Value) : Prop := ∃ oe vs, h.get? e = some oe ∧ oe.cls = C ∧ oe.dict = dd ∧ oe.data = .fields vs ∧ vs[1]? = some t1
def TrAt (h : Heap) (T : Addr) (fl : Value) : Prop := ∃ oT ts, h.get? T = some oT ∧ oT.data = .fields ts ∧ ts[3]? = some fl
structure Moved (fs : List Addr) (e : Addr) (T0 : Option Addr) (h h' : Heap) : Prop where
  keep : ∀ b o, b ≠ e → some b ≠ T0 → b ∉ fs → h.get? b = some o → h'.get? b = some o
  slot : ∀ b o, b ∈ fs → h.get? b = some o → ∃ sl, h'.get? b = some { o with slots := sl }
  there : ∀ b o, h.get? b = some o → ∃ o', h'.get? b = some o'
section
variable {M : Model} {A : Around} {E : Value → Shared → Prop} {s : Shared}
theorem up_self {h : Heap} {a : Addr} {o : Obj} {vs : Array Value} {f : Array Value → Array Value} (e : h.get? a = some o) (hd : o.data = .fields vs) : (h.update a (Obj.mapFields f)).get? a = some (Obj.mapFields f o) :=
  Heap.get?_update_self _ e (Obj.isFreed_of_fields (Obj.data_mapFields hd _))
theorem note_new {base : Heap} {env : Env} {outer : List Env} {L e : Addr} {C : Value} {dd : Option Addr} {t1 head : Value} {hadNext : Bool} {Q : Unit → Shared → Prop}
    (hfr : A.frames = some (env :: outer)) (hl : s.heap.FunFrames base (env :: outer)) (hf : env.frame = some L) (X : ExAt s.heap e C dd t1)
    (h : ∀ h' T, ExAt h' e C dd (.ref T) → TrAt h' T (rawInt L) → s.heap.objs.size ≤ T → T ≠ e → Moved (frs (env :: outer)) e none s.heap h' → Q () { s with heap := h' }) :
    wpAny M A (do let a ← frameOf env; let pl ← entryPlaceOf L hadNext; let b ← EntryCells.newEntry head a .none (rawInt L) .none pl; setField (.ref e) 1 b) Q E s := by
  obtain ⟨oe, vs, he, hC, hdd, hd, h1⟩ := X
  have ne : e ∉ frs (env :: outer) := fun hm => by
    obtain ⟨_, o, ho, hnf⟩ := hl.mem hm
    rw [he] at ho; cases ho
    exact hnf vs hd
  refine wpAny_bind (wpAny_frameOf_fun hfr hl hf fun g so => ?_)
  refine wpAny_bind (wpAny_entryPlaceOf fun pl hpl => ?_)
  unfold EntryCells.newEntry newFields
  refine wpAny_bind (wpAny_newObj_type ?_ (hpl.sizeOk5 _ _ _ _ _))
  have hg : g.get? e = some oe := (so.2.1 e ne).trans he
  have hsz := (Array.getElem?_eq_some_iff.mp h1).1
  refine wpAny_setField (Heap.get?_push_of_some _ hg) hd hsz ?_
  have nT : g.objs.size ≠ e := Nat.ne_of_gt (Heap.lt_size hg)
  refine h _ g.objs.size ⟨_, _, up_self (Heap.get?_push_of_some _ hg) hd, (Obj.cls_mapFields _ _).trans hC, (dict_mapF _ _).trans hdd, Obj.data_mapFields hd _, by simp [hsz]⟩
    ⟨_, _, (Heap.get?_update_other _ _ (Ne.symm nT)).trans (Heap.get?_push_size g rfl), rfl, ?_⟩ (Nat.le_of_eq so.1.symm) nT ⟨fun b o h1 _ h3 q => ?_, fun b o hb q => ?_, fun b o q => ?_⟩
  · rcases hpl with rfl | ⟨_, _, _, _, _, _, _, rfl⟩ <;> simp
  · rw [Heap.get?_update_other _ _ (Ne.symm h1)]
    exact Heap.get?_push_of_some _ ((so.2.1 b h3).trans q)
  · obtain ⟨sl, z⟩ := so.2.2 b o q
    refine ⟨sl, ?_⟩
    rw [Heap.get?_update_other _ _ (fun k => ne (by rw [k]; exact hb))]
    exact Heap.get?_push_of_some _ z
  · by_cases k : b = e
    · rw [k]; exact ⟨_, up_self (Heap.get?_push_of_some _ hg) hd⟩
    · obtain ⟨sl, z⟩ := so.2.2 b o q
      exact ⟨_, by rw [Heap.get?_update_other _ _ (Ne.symm k)]; exact Heap.get?_push_of_some _ z⟩
theorem note_fly {base : Heap} {env : Env} {outer : List Env} {L e : Addr} {C : Value} {dd : Option Addr} {T0 : Option Addr} {Q : Unit → Shared → Prop}
    (hfr : A.frames = some (env :: outer)) (hl : s.heap.FunFrames base (env :: outer)) (hf : env.frame = some L) (X : ExAt s.heap e C dd (T0.elim .none Value.ref)) (hT : ∀ T, T0 = some T → TrAt s.heap T .none ∧ T ≠ e)
    (h : ∀ h' T, ExAt h' e C dd (.ref T) → TrAt h' T (rawInt L) → s.heap.objs.size ≤ T → T ≠ e → Moved (frs (env :: outer)) e T0 s.heap h' → Q () { s with heap := h' }) :
    wpAny M A (noteFrame (.ref e) env) Q E s := by
  obtain ⟨oe, vs, he, hC, hdd, hd, h1⟩ := id X
  unfold noteFrame
  simp only [hf]
  refine wpAny_bind (wpAny_field he hd h1 ?_)
  cases T0 with
  | none =>
    rw [if_neg (by decide)]
    exact note_new hfr hl hf X h
  | some T =>
    obtain ⟨⟨oT, ts, hT, hdT, h3⟩, hne⟩ := hT T rfl
    show wpAny M A (if (Value.ref T != Value.none) = true then _ else _) Q E s
    rw [if_pos (by simp)]
    refine wpAny_bind (wpAny_field hT hdT h3 ?_)
    rw [if_neg (by simp [rawInt])]
    refine wpAny_bind (wpAny_setField hT hdT (Array.getElem?_eq_some_iff.mp h3).1 ?_)
    have oth : ∀ b, b ≠ T → (s.heap.update T (Obj.mapFields (·.setIfInBounds 3 Value.none))).get? b = s.heap.get? b := fun b hb => Heap.get?_update_other _ _ (Ne.symm hb)
    have nfr : ∀ b o, b ∈ frs (env :: outer) → s.heap.get? b = some o → b ≠ T := fun b o hb q z => by
      obtain ⟨_, o', ho', hnf⟩ := hl.mem hb
      rw [z, hT] at ho'; cases ho'
      exact hnf _ hdT
    have hl2 : (s.heap.update T (Obj.mapFields (·.setIfInBounds 3 Value.none))).FunFrames base (env :: outer) := hl.of_keeps fun b o hb hnf => ⟨o, (oth b fun z => by rw [z, hT] at hb; cases hb; exact hnf _ hdT).trans hb, rfl⟩
    refine note_new (s := { s with heap := s.heap.update T (Obj.mapFields (·.setIfInBounds 3 Value.none)) }) hfr hl2 hf ⟨oe, vs, (oth e (Ne.symm hne)).trans he, hC, hdd, hd, h1⟩ fun h' T2 x1 x2 x3 x4 mv => ?_
    have goneT : s.heap.objs.size ≤ T2 := Nat.le_trans (Nat.le_of_eq (Heap.size_after_update ..).symm) x3
    refine h h' T2 x1 x2 goneT x4 ⟨fun b o k1 k2 k3 q => mv.keep b o k1 (by simp) k3 ((oth b fun z => k2 (by rw [z])).trans q), fun b o hb q => mv.slot b o hb ((oth b (nfr b o hb q)).trans q), fun b o q => ?_⟩
    by_cases k : b = T
    · exact mv.there b _ (by rw [k]; exact up_self hT hdT)
    · exact mv.there b o ((oth b k).trans q)
theorem rest_fly {e T : Addr} {C : Value} {dd : Option Addr} {fl : Value} {Q : Unit → Shared → Prop} (X : ExAt s.heap e C dd (.ref T)) (hT : TrAt s.heap T fl) (hne : T ≠ e)
    (h : ∀ h', ExAt h' e C dd (.ref T) → TrAt h' T .none → (∀ b o, b ≠ T → s.heap.get? b = some o → h'.get? b = some o) → (∀ b o, s.heap.get? b = some o → ∃ o', h'.get? b = some o') → Q () { s with heap := h' }) :
    wpAny M A (setFlight (.ref e) none) Q E s := by
  obtain ⟨oe, vs, he, hC, hdd, hd, h1⟩ := X
  obtain ⟨oT, ts, hT, hdT, h3⟩ := hT
  have hsz := (Array.getElem?_eq_some_iff.mp h3).1
  unfold setFlight
  refine wpAny_bind (wpAny_field he hd h1 ?_)
  rw [if_pos (by simp)]
  have oth : ∀ b, b ≠ T → (s.heap.update T (Obj.mapFields (·.setIfInBounds 3 ((none : Option Addr).elim Value.none fun f => rawInt f)))).get? b = s.heap.get? b := fun b hb => Heap.get?_update_other _ _ (Ne.symm hb)
  refine wpAny_setField hT hdT hsz (h _ ⟨oe, vs, (oth e (Ne.symm hne)).trans he, hC, hdd, hd, h1⟩ ⟨_, _, up_self hT hdT, Obj.data_mapFields hdT _, by simp [hsz]⟩ (fun b o k q => (oth b k).trans q) fun b o q => ?_)
  by_cases k : b = T
  · rw [k]; exact ⟨_, up_self hT hdT⟩
  · exact ⟨o, (oth b k).trans q⟩
end
def CXx (P : Program) (w : World) : CXT := fun outer H s E u s' => ∃ (e : Addr) (C : Value) (dd : Option Addr) (T : Addr) (H' : Hp), u = .ref e ∧ s'.os = s.os ∧ AllBare s'.gens ∧ Un (frs outer) [] H H' s.heap s'.heap ∧ HOk P w H' s'.heap ∧
  ExAt s'.heap e C dd (.ref T) ∧ TrAt s'.heap T .none ∧ T ≠ e ∧ H' e = none ∧ H' T = none ∧ s.heap.get? e = none ∧ s.heap.get? T = none ∧ E C dd H'
def PassesS (CX : CXT) (X : Cx) (Ez : St → XK) : Prop := ∀ (pins : List (Addr × Obj)) (σ : St) (H : Hp) (s : Shared) (e : Value) (s' : Shared), Inv X pins σ H s → CX X.stack H s (Ez σ) e s' → X.xe e s'
theorem un_moved {l l' : List Env} {H H' : Hp} {h g h' : Heap} {e : Addr} {T0 : Option Addr} (u : Un (frs l') [] H H' h g) (mv : Moved (frs l) e T0 g h') (hsub : ∀ b ∈ frs l', b ∈ frs l) (hnew : ∀ b o, h.get? b = some o → b ∈ frs l → b ∈ frs l')
    (he : h.get? e = none) (hT : ∀ T, T0 = some T → h.get? T = none) : Un (frs l') [] H H' h h' := by
  have k1 : ∀ b o, h.get? b = some o → b ≠ e := fun b o q z => by rw [z, he] at q; cases q
  have k2 : ∀ b o, h.get? b = some o → some b ≠ T0 := fun b o q z => by rw [hT b z.symm] at q; cases q
  refine ⟨fun b o q n hb hx => ?_, fun b o q n hb hx => ?_, u.free, fun b o q hx => ?_, u.tups, u.frzs, u.tbls⟩
  · exact mv.keep b o (k1 b o q) (k2 b o q) (fun z => hb (hnew b o q z)) (u.keep b o q n hb hx)
  · obtain ⟨sl, q1⟩ := u.slot b o q n hb hx
    obtain ⟨sl2, q2⟩ := mv.slot b _ (hsub b hb) q1
    exact ⟨sl2, q2⟩
  · obtain ⟨o1, q1⟩ := u.there b o q hx
    exact mv.there b o1 q1
section
variable {P : Program} {w : World} {K : PySem.W.Frag} {mg : Str → Option Value} {base : Heap} {N : List Str} {qual : Str} {scope : Scope} {f : Addr} {cd : Value} {A : Around} {outer : List Env} {s₀ : Shared} {H₀ : Hp} {E : XK}
theorem frs_cons {env : Env} {outer : List Env} {L : Addr} (h : env.frame = some L) : frs (env :: outer) = L :: frs outer := by
  unfold frs
  rw [List.filterMap_cons, h]
theorem leave_fly {M : Model} {A : Around} {E : Value → Shared → Prop} {s : Shared} {base : Heap} {env : Env} {outer : List Env} {L e : Addr} {C : Value} {dd : Option Addr} {T0 : Option Addr} {Q : Unit → Shared → Prop}
    (hfr : A.frames = some (env :: outer)) (hl : s.heap.FunFrames base (env :: outer)) (hf : env.frame = some L) (X : ExAt s.heap e C dd (T0.elim .none Value.ref)) (hT : ∀ T, T0 = some T → TrAt s.heap T .none ∧ T ≠ e)
    (h : ∀ h' T, ExAt h' e C dd (.ref T) → TrAt h' T .none → s.heap.objs.size ≤ T → T ≠ e → Moved (frs (env :: outer)) e T0 s.heap h' → Q () { s with heap := h' }) :
    wpAny M A (noteFrame (.ref e) env) (fun _ s2 => wpAny M A (setFlight (.ref e) none) Q E s2) E s := by
  refine note_fly hfr hl hf X hT fun h1 T x1 x2 x3 x4 mv => ?_
  refine rest_fly (s := { s with heap := h1 }) x1 x2 x4 fun h2 y1 y2 k1 k2 => h h2 T y1 y2 x3 x4 ?_
  have nT : ∀ b o, s.heap.get? b = some o → b ≠ T := fun b o q z => absurd (Heap.lt_size q) (by rw [z]; exact Nat.not_lt.mpr x3)
  refine ⟨fun b o z1 z2 z3 q => k1 b o (nT b o q) (mv.keep b o z1 z2 z3 q), fun b o hb q => ?_, fun b o q => ?_⟩
  · obtain ⟨sl, q1⟩ := mv.slot b o hb q
    exact ⟨sl, k1 b _ (nT b o q) q1⟩
  · obtain ⟨o1, q1⟩ := mv.there b o q
    exact k2 b o1 q1
theorem funFrames_un {base h h' : Heap} : ∀ {l : List Env}, h.FunFrames base l → (∀ b o, b ∈ frs l → h.get? b = some o → ∃ sl, h'.get? b = some { o with slots := sl }) → h'.FunFrames base l
  | [], _, _ => trivial
  | env :: r, hl, k => by
    obtain ⟨hk, ⟨L, o, hf, hn, ho, hd⟩, hr⟩ := hl
    have e := frs_cons (outer := r) hf
    obtain ⟨sl, z⟩ := k L o (by rw [e]; exact List.mem_cons_self) ho
    exact ⟨hk, ⟨L, _, hf, hn, z, hd⟩, funFrames_un hr fun b o' hb q => k b o' (by rw [e]; exact List.mem_cons_of_mem _ hb) q⟩
theorem un_enter {fs : List Addr} {L : Addr} {H H1 H2 : Hp} {h h1 h2 : Heap} (a : Un fs [] H H1 h h1) (b : Un (L :: fs) [] H1 H2 h1 h2) (hL : h.get? L = none) : Un fs [] H H2 h h2 where
  keep := fun c o q n hc hx => b.keep c o (a.keep c o q n hc hx) (a.free c o q n hx) (fun z => (List.mem_cons.mp z).elim (fun y => by rw [y, hL] at q; cases q) hc) (by simp)
  slot := fun c o q n hc hx => by
    obtain ⟨sl, q1⟩ := a.slot c o q n hc hx
    obtain ⟨sl2, q2⟩ := b.slot c _ q1 (a.free c o q n hx) (List.mem_cons_of_mem _ hc) (by simp)
    exact ⟨sl2, q2⟩
  free := fun c o q n hx => by
    obtain ⟨o1, q1⟩ := a.there c o q hx
    exact b.free c o1 q1 (a.free c o q n hx) (by simp)
  there := fun c o q hx => by
    obtain ⟨o1, q1⟩ := a.there c o q hx
    exact b.there c o1 q1 (by simp)
  tups := fun c xs q => b.tups c xs (a.tups c xs q)
  frzs := fun c o xs q => b.frzs c o xs (a.frzs c o xs q)
  tbls := fun c ps q => by
    obtain ⟨m1, e1⟩ := a.tbls c ps q
    obtain ⟨m2, e2⟩ := b.tbls c _ e1
    exact ⟨m1 ++ m2, by rw [e2, Array.append_assoc]⟩
theorem pass_def : PassesS (CXx P w) (cxOf (CXx P w) P w K mg base N qual scope f cd A outer s₀ H₀ E) (fun _ => E) := by
  intro pins σ H s u s' I h
  obtain ⟨e, C, dd, T, H', rfl, os, bare, un, hok, x1, x2, x3, f1, f2, n1, n2, hE⟩ := h
  have fe : frs (envOfC qual scope s₀.heap.objs.size f cd :: outer) = s₀.heap.objs.size :: frs outer := frs_cons rfl
  have un' : Un (s₀.heap.objs.size :: frs outer) [] H H' s.heap s'.heap := by rw [← fe]; exact un
  have ib : Un (frs outer) [] H₀ H s₀.heap s.heap := I.base
  have nL : s₀.heap.get? s₀.heap.objs.size = none := Heap.get?_none_of_le (Nat.le_refl _)
  have um := un_enter ib un' nL
  have hfun : s'.heap.FunFrames base (envOfC qual scope s₀.heap.objs.size f cd :: outer) := funFrames_un I.stack fun b o hb q => un.slot b o q (I.stkFree b hb) hb (by simp)
  have ntr : ∀ b u, H' b = some u → b ∉ frs (envOfC qual scope s₀.heap.objs.size f cd :: outer) := fun b u q hb => by
    obtain ⟨_, o, ho, _⟩ := I.stack.mem hb
    have := un.free b o ho (I.stkFree b hb) (by simp)
    rw [q] at this; cases this
  show wpAny _ _ (leaving _ (.ref e)) _ _ s'
  unfold leaving
  refine wpAny_bind (leave_fly (T0 := some T) (L := s₀.heap.objs.size) I.ok.frames hfun rfl x1 (fun T' z => by cases z; exact ⟨x2, x3⟩) fun h' T2 y1 y2 y3 y4 mv => ?_)
  have none_of : ∀ b, s.heap.get? b = none → s₀.heap.get? b = none := fun b hb => by
    cases q : s₀.heap.get? b with
    | none => rfl
    | some o => obtain ⟨o1, q1⟩ := ib.there b o q (by simp); rw [hb] at q1; cases q1
  refine ⟨e, C, dd, T2, H', rfl, os.trans I.os, bare, un_moved (l := envOfC qual scope s₀.heap.objs.size f cd :: outer) um mv (fun b hb => by rw [fe]; exact List.mem_cons_of_mem _ hb) (fun b o q hb => ?_) (none_of e n1) (fun T' z => by cases z; exact none_of T n2),
    hok.track fun b u o q1 q2 => mv.keep b o (fun z => by rw [z, f1] at q1; cases q1) (fun z => by cases z; rw [f2] at q1; cases q1) (ntr b u q1) q2, y1, y2, y4, f1, ?_, none_of e n1, ?_, hE⟩
  · rw [fe] at hb
    rcases List.mem_cons.mp hb with z | z
    · rw [z, nL] at q; cases q
    · exact z
  · cases q : H' T2 with
    | none => rfl
    | some u => obtain ⟨ob, hob⟩ := (hok T2 u q).there; exact absurd (Heap.lt_size hob) (Nat.not_lt.mpr y3)
  · cases q : s₀.heap.get? T2 with
    | none => rfl
    | some o => obtain ⟨o1, q1⟩ := um.there T2 o q (by simp); exact absurd (Heap.lt_size q1) (Nat.not_lt.mpr y3)
def Rz (X : Cx) (E : XK) : Prop := ∀ (pins : List (Addr × Obj)) (σ : St) (H : Hp) (s : Shared) (h' : Heap) (e : Addr) (C : Value) (vs : List Value), Inv X pins σ H s → Heap.MadeExcOf s.heap h' e C vs → E C none H → X.xe (.ref e) { s with heap := h' }
theorem rz_def : Rz (cxOf (CXx P w) P w K mg base N qual scope f cd A outer s₀ H₀ E) E := by
  intro pins σ H s h1 e C vs I mx hE
  obtain ⟨t, he, htn, ht⟩ := mx.there
  have fe : frs (envOfC qual scope s₀.heap.objs.size f cd :: outer) = s₀.heap.objs.size :: frs outer := frs_cons rfl
  have ib : Un (frs outer) [] H₀ H s₀.heap s.heap := I.base
  have nL : s₀.heap.get? s₀.heap.objs.size = none := Heap.get?_none_of_le (Nat.le_refl _)
  have um : Un (frs outer) [] H₀ H s₀.heap h1 := ib.trans (Un.kept mx.keeps)
  have hfun : h1.FunFrames base (envOfC qual scope s₀.heap.objs.size f cd :: outer) := funFrames_un I.stack fun b o hb q => ⟨o.slots, mx.keeps b o q⟩
  have ntr : ∀ b u, H b = some u → b ∉ frs (envOfC qual scope s₀.heap.objs.size f cd :: outer) := fun b u q hb => by
    have := I.stkFree b hb
    rw [q] at this; cases this
  have hok1 : HOk P w H h1 := I.hok.kept mx.keeps
  have fE : H e = none := by
    cases q : H e with
    | none => rfl
    | some u => obtain ⟨ob, hob⟩ := (I.hok e u q).there; rw [mx.new] at hob; cases hob
  have none_of : ∀ b, s.heap.get? b = none → s₀.heap.get? b = none := fun b hb => by
    cases q : s₀.heap.get? b with
    | none => rfl
    | some o => obtain ⟨o1, q1⟩ := ib.there b o q (by simp); rw [hb] at q1; cases q1
  show wpAny _ _ (leaving _ (.ref e)) _ _ { s with heap := h1 }
  unfold leaving
  refine wpAny_bind (leave_fly (s := { s with heap := h1 }) (T0 := none) (L := s₀.heap.objs.size) (C := C) (dd := none) I.ok.frames hfun rfl ⟨_, _, he, rfl, rfl, rfl, rfl⟩ (fun T' z => by cases z) fun h' T2 y1 y2 y3 y4 mv => ?_)
  refine ⟨e, C, none, T2, H, rfl, I.os, I.bare, un_moved (l := envOfC qual scope s₀.heap.objs.size f cd :: outer) um mv (fun b hb => by rw [fe]; exact List.mem_cons_of_mem _ hb) (fun b o q hb => ?_) (none_of e mx.new) (fun T' z => by cases z),
    hok1.track fun b u o q1 q2 => mv.keep b o (fun z => by rw [z, fE] at q1; cases q1) (by simp) (ntr b u q1) q2, y1, y2, y4, fE, ?_, none_of e mx.new, ?_, hE⟩
  · rw [fe] at hb
    rcases List.mem_cons.mp hb with z | z
    · rw [z, nL] at q; cases q
    · exact z
  · cases q : H T2 with
    | none => rfl
    | some u => obtain ⟨ob, hob⟩ := (hok1 T2 u q).there; exact absurd (Heap.lt_size hob) (Nat.not_lt.mpr y3)
  · cases q : s₀.heap.get? T2 with
    | none => rfl
    | some o => obtain ⟨o1, q1⟩ := um.there T2 o q (by simp); exact absurd (Heap.lt_size q1) (Nat.not_lt.mpr y3)
end
def tCallS (sp : Sp) (dvs : List V) (Ez : St → XK) (t : TA) : TE := fun σ H Q => t σ H fun vs H1 => sp (vs ++ dvs) H1 Q (Ez σ)
section
variable {X : Cx} {CX : CXT} {k : Nat} {f C : Addr} {fd : FuncData} {ps : List Str} {sp : Sp} {dvs : List V} {ds : List Value} {Ez : St → XK} {x m : Str} {p pos apos : Pos} {e o : Expr} {es : List Expr} {ta : TE} {t : TA}
theorem run_fnS {pins : List (Addr × Obj)} {σ : St} {H : Hp} {s : Shared} {Q : VK} {us : List Value} {vs : List V} (F : FnOk X.prog X.w X.K X.mg X.base CX k f fd ps sp) (hr : Room k X.A) (hb : Binds X.K fd ps ds) (hd : Vals dvs ds) (hx : PassesS CX X Ez)
    (I : Inv X pins σ H s) (r : Vals vs us) (h : sp (vs ++ dvs) H Q (Ez σ)) : wpAny (model X.prog X.w) X.A (call (.ref f) us) (EP X pins σ Q) X.xe s := by
  have r2 : Vals (vs ++ dvs) (us ++ ds) := r.append hd
  have hl : (us ++ ds).length = ps.length := by rw [← r2.length]; exact F.len _ _ _ _ h
  refine wpAny_call (codeAny_mono (F.run X.A X.stack s H ⟨us, []⟩ (us ++ ds) (vs ++ dvs) Q (Ez σ) hr I.env0 (hb s us I.kIn hl) r2 h) fun r s' hq => ?_)
  cases r with
  | error e => exact hx pins σ H s e s' I hq
  | ok fl =>
    cases fl with
    | ret u => exact I.after hq
    | next => exact False.elim hq
    | brk => exact False.elim hq
    | cont => exact False.elim hq
theorem pe_callS (F : FnOk X.prog X.w X.K X.mg X.base CX k f fd ps sp) (hr : Room k X.A) (hg : Gl X x) (hm : X.mg x = some (.ref f)) (hk : PySem.W.keepIn X.K (.ref f) = true) (hb : Binds X.K fd ps ds) (hd : Vals dvs ds) (hx : PassesS CX X Ez)
    (ha : PA X (e :: es) t) (hdb : (x == ("__debug__" : Str)) = false := by decide) (he : starEach (e :: es) X.env = (false, eval e X.env) :: starEach es X.env := by rfl) (hpl : (backTo pos (starEach es X.env)).any (·.1) = false := by rfl) :
    PE X (.Call (.Name x p) (e :: es) [] pos) (tCallS sp dvs Ez t) := by
  unfold PE at *; unfold PA at *
  exact by
    intro pins s σ H Q I h
    refine wpAny_Call_Name_kw (ld_glob I hg hm ?_ hdb)
    refine PySem.W.callWith_K (h₀ := X.base) I.ok.mod.kin hk (thn (ha pos pins s σ H _ I h) fun us s1 ⟨vs, H1, I1, r, q⟩ => ⟨I1.kIn, ?_⟩) he hpl
    exact run_fnS F hr hb hd hx I1 r q
end
end L2
namespace L2
open PySem PySem.Spec PyProof.Rows
def vmro : List Value := [.type "ValueError", .type "Exception", .type "BaseException", .type "object"]
def NsK (K : PySem.W.Frag) (N : Addr) (es : Array DictEntry) : Prop := ∃ c d ep sl, K.lookup N = some ⟨c, d, .dict es ep, sl⟩ ∧ StrKeys es
theorem NsK.ns {K : PySem.W.Frag} {N : Addr} {es : Array DictEntry} {h : Heap} (x : NsK K N es) (X : K.In h) : h.Ns N (nsFind es) := by
  obtain ⟨c, d, ep, sl, lk, sk⟩ := x
  exact ⟨_, es, ep, X _ _ lk, rfl, sk, fun _ => rfl⟩
inductive TailK (K : PySem.W.Frag) : List Value → Prop
  | base : TailK K vmro
  | own {A : Addr} {c0 : Value} {dd : Option Addr} {cd : ClassData} {sl : Array (Option Value)} {tl : List Value} {es : Array DictEntry} :
      K.lookup A = some { cls := c0, dict := dd, data := .cls cd, slots := sl } → NsK K cd.ns es → nsFind es "__init__" = none → TailK K tl → TailK K (.ref A :: tl)
theorem TailK.own' {K : PySem.W.Frag} {h : Heap} {bm : List Value} (t : TailK K bm) (X : K.In h) : OwnTail h vmro bm := by
  induction t with
  | base => exact .base
  | own l n i _ ih => exact .own (X _ _ l) (n.ns X) i ih
structure XCls (K : PySem.W.Frag) (C : Addr) : Prop where
  ex : ∃ nm q N bs bm hdct sn sub ab col dd k0 k1 k2 k3 k5 es, K.lookup C = some (excClassObj nm q C N bs bm hdct sn sub ab col dd k0 k1 k2 k3 k5 "ValueError.__new__") ∧ NsK K N es ∧ nsFind es "__init__" = none ∧ TailK K bm
def tRaise (t : TA) (C : Value) (E : XK) : TS := fun _ σ H => t σ H fun vs H1 => vs.length ≤ sizeLine ∧ E C none H1
theorem ps_raise {X : Cx} {C : Addr} {x : Str} {np cpos pos : Pos} {e₀ : Expr} {rest : List Expr} {t : TA} {E : XK} (xc : XCls X.K C) (hc : X.calm = true) (hg : Gl X x) (hm : X.mg x = some (.ref C)) (hz : Rz X E) (ha : PA X (e₀ :: rest) t)
    (hdb : (x == ("__debug__" : Str)) = false := by decide) (he : starEach (e₀ :: rest) X.env = (false, eval e₀ X.env) :: starEach rest X.env := by rfl) (hpl : (backTo cpos (starEach rest X.env)).any (·.1) = false := by rfl) :
    PS X (.Raise (some (.Call (.Name x np) (e₀ :: rest) [] cpos)) none pos) (tRaise t (.ref C) E) := by
  unfold PA at *; unfold PS at *
  exact by
    intro pins s σ H D I h
    obtain ⟨nm, q, N, bs, bm, hdct, sn, sub, ab, col, dd, k0, k1, k2, k3, k5, es, lk, nk, ni, tl⟩ := xc.ex
    refine wpAny_Raise_call_subT (C := C) (nm := nm) (q := q) (N := N) (bs := bs) (bm := bm) (hdct := hdct) (sn := sn) (sub := sub) (ab := ab) (col := col) (dd := dd) (k0 := k0) (k1 := k1) (k2 := k2) (k3 := k3) (k5 := k5)
      F.excBase_ValueError (mN := nsFind es) ((tl.own' I.kIn).hasType F.excBase_ValueError.hasBase) (I.ok.hd hc) ?_ ni (ld_glob I hg hm ⟨rfl, ?_⟩ hdb)
    · rw [he]
      show (false || (backTo cpos (starEach rest X.env)).any (·.1)) = false
      rw [hpl]; rfl
    · have hA := ha cpos pins s σ H _ I h
      rw [he] at hA ⊢
      refine Calls.evalArgs_plain (wpAny_mono hA (fun us s2 ⟨vs, H1, I1, r, z, hE⟩ => ?_) fun _ _ y => y)
      exact ⟨rfl, by rw [← r.length]; exact z, I1.kIn _ _ lk, nk.ns I1.kIn, tl.own' I1.kIn, fun h' e mx => hz pins σ H1 s2 h' e (.ref C) us I1 mx hE⟩
theorem Fun.okx {P : Program} {w : World} {K : PySem.W.Frag} {mg : Str → Option Value} {base : Heap} {x qual : Str} {st : Stmt} {f : Addr} {fd : FuncData} {N ps : List Str} {k : Nat} {sp : Sp} (F : Fun K x qual st f fd) (S : FnScope N ps (defScope st)) (len : ∀ vs H Q E, sp vs H Q E → vs.length = ps.length)
    (hbody : ∀ (cdv : Value) (A : Around) (outer : List Env) (s : Shared) (H : Hp) (vs : List V) (Q : VK) (E : XK), Room k (A.deeper (envOfC qual (defScope st) s.heap.objs.size f cdv)) → sp vs H Q E →
      ∃ t, PSs (cxOf (CXx P w) P w K mg base N qual (defScope st) f cdv A outer s H E) (defBody st) t ∧ t { nx := fun _ H' => Q .non H', rt := Q } (start N vs) H) : FnOk P w K mg base (CXx P w) (k + 1) f fd ps sp := by
  obtain ⟨oc, od, kV, doc, pm, an, cdv, ct, osl, rfl, lk, hcd⟩ := F.ex
  exact fn_of lk hcd S len fun A outer s H vs Q E hr hsp => hbody cdv A outer s H vs Q E hr hsp
section
variable {X : Cx} {pins pins' : List (Addr × Obj)} {σ : St} {H : Hp} {s : Shared} {W : Value → Shared → Prop}
def Cx.tr (X : Cx) (pins : List (Addr × Obj)) (W : Value → Shared → Prop) : Cx := { X with xe := W, pn := X.pn ++ pins }
theorem Cx.Ok.tr (ok : X.Ok) : (X.tr pins W).Ok := ⟨ok.mod, ok.kind, ok.glob, ok.blt, ok.above, ok.inj, ok.has, ok.cab, ok.hd, ok.frames, ok.stk, ok.exf, ok.bs, ok.bsz, ok.noex, ok.exfs, ok.funs, ok.frf⟩
theorem Cx.Ok.untr (ok : (X.tr pins W).Ok) : X.Ok := ⟨ok.mod, ok.kind, ok.glob, ok.blt, ok.above, ok.inj, ok.has, ok.cab, ok.hd, ok.frames, ok.stk, ok.exf, ok.bs, ok.bsz, ok.noex, ok.exfs, ok.funs, ok.frf⟩
theorem Inv.tr (I : Inv X pins σ H s) : Inv (X.tr pins W) [] σ H s := ⟨I.ok.tr, I.os, I.bare, I.base, I.loc, I.cell, I.free, I.freeC, fun p hp => I.pin p (by simpa [Cx.tr] using hp), I.hok, I.len⟩
theorem Inv.untr (I : Inv (X.tr pins W) pins' σ H s) : Inv X pins σ H s := ⟨I.ok.untr, I.os, I.bare, I.base, I.loc, I.cell, I.free, I.freeC, fun p hp => I.pin p (List.mem_append_left _ hp), I.hok, I.len⟩
theorem SP.untr {D : Ends} {f : Flow} (h : SP (X.tr pins W) pins' D f s) : SP X pins D f s := by
  cases f with
  | next => obtain ⟨a, b, I, q⟩ := h; exact ⟨a, b, I.untr, q⟩
  | brk => obtain ⟨a, b, I, q⟩ := h; exact ⟨a, b, I.untr, q⟩
  | cont => obtain ⟨a, b, I, q⟩ := h; exact ⟨a, b, I.untr, q⟩
  | ret u => obtain ⟨v, a, b, I, r, q⟩ := h; exact ⟨v, a, b, I.untr, r, q⟩
def Cx.sui (X : Cx) (e : Addr) : Cx := { X with A := X.A.mark (some (.ref e)), calm := false, xe := fun _ _ => False }
theorem Cx.Ok.sui (ok : X.Ok) (e : Addr) : (X.sui e).Ok := ⟨ok.mod, ok.kind, ok.glob, ok.blt, ok.above, ok.inj, ok.has, ok.cab, fun z => Bool.noConfusion z, ok.frames, ok.stk, ok.exf, ok.bs, ok.bsz, ok.noex, ok.exfs, ok.funs, ok.frf⟩
theorem Inv.sui (I : Inv X pins σ H s) (e : Addr) : Inv (X.sui e) pins σ H s := ⟨I.ok.sui e, I.os, I.bare, I.base, I.loc, I.cell, I.free, I.freeC, I.pin, I.hok, I.len⟩
theorem Inv.unsui {e : Addr} (ok : X.Ok) (I : Inv (X.sui e) pins σ H s) : Inv X pins σ H s := ⟨ok, I.os, I.bare, I.base, I.loc, I.cell, I.free, I.freeC, I.pin, I.hok, I.len⟩
theorem Inv.adopt {e : Addr} {o : HO} (I : Inv X pins σ H s) (hn : H e = none) (h0 : X.s₀.heap.get? e = none) (hL : e ≠ X.env.locals) (hc : ∀ x c, X.env.cells.lookup x = some c → c ≠ e) (hp : ∀ p ∈ X.pn ++ pins, p.1 ≠ e)
    (new : ObjOk X.prog X.w (upd H e o) s.heap e o) : Inv X pins σ (upd H e o) s := by
  have ne : ∀ b u, H b = some u → b ≠ e := fun b u q z => by rw [z, hn] at q; cases q
  refine ⟨I.ok, I.os, I.bare, ⟨I.base.keep, I.base.slot, fun b ob q n hx => ?_, I.base.there, fun b xs q => ?_, fun b ob u q => ?_, fun b ps q => ?_⟩, I.loc, I.cell, ?_, fun x c q => ?_, fun p hq => ?_, fun b u q => ?_, I.len⟩
  · rw [upd_ne (fun z => by rw [z, h0] at q; cases q)]
    exact I.base.free b ob q n hx
  · have q1 := I.base.tups b xs q
    rw [upd_ne (ne b _ q1)]; exact q1
  · have q1 := I.base.frzs b ob u q
    rw [upd_ne (ne b _ q1)]; exact q1
  · obtain ⟨m, q1⟩ := I.base.tbls b ps q
    exact ⟨m, by rw [upd_ne (ne b _ q1)]; exact q1⟩
  · rw [upd_ne (Ne.symm hL)]; exact I.free
  · rw [upd_ne (hc x c q)]; exact I.freeC x c q
  · obtain ⟨a1, a2, a3, a4, a5⟩ := I.pin p hq
    exact ⟨a1, by rw [upd_ne (hp p hq)]; exact a2, a3, a4, a5⟩
  · by_cases hb : b = e
    · subst hb; rw [upd_same] at q; cases q; exact new
    · rw [upd_ne hb] at q
      exact (I.hok b u q).stay (fun _ _ _ z => z) (fun c z => by rw [upd_ne (ne c _ z)]; exact z) fun c xs z => by rw [upd_ne (ne c _ z)]; exact z
theorem goes_ok {M : Model} {A : Around} {E : Value → Shared → Prop} {i : Nat} {n : Str} {pos : Pos} {Q : Unit → Shared → Prop} (I : Inv X pins σ H s) (hN : X.N.Nodup) (hi : X.N[i]? = some n) (hk : X.env.kindOf n = some .local)
    (h : ∀ s', Inv X pins (σ.set i none) H s' → Q () s') : wpAny M A (do bindName X.env n .none; unbindBehindTheSuite X.env n pos) Q E s := by
  obtain ⟨m, hn, hl⟩ := id I.loc
  have hcls : (X.env.scope.kind == .class || (X.env.scope.kind == .module && X.env.locals != X.env.globals)) = false := by rw [I.ok.kind]; rfl
  refine wpAny_nameGoes_keeps hk hn hcls fun h' v hn' hs => h _ ?_
  obtain ⟨oL, _, _, hoL, _⟩ := id hn
  have kb : ∀ b o, b ≠ X.env.locals → s.heap.get? b = some o → h'.get? b = some o := fun b o hb e => (hs.2 b hb).trans e
  have nL : ∀ b o, X.s₀.heap.get? b = some o → b ≠ X.env.locals := fun b o e => Nat.ne_of_lt (Nat.lt_of_lt_of_le (Heap.lt_size e) I.ok.above)
  refine ⟨I.ok, I.os, I.bare, ⟨fun b o e n hb hx => kb b o (nL b o e) (I.base.keep b o e n hb hx), fun b o e n hb hx => ?_, I.base.free, fun b o e hx => ?_, I.base.tups, I.base.frzs, I.base.tbls⟩, ⟨_, hn', fun j y v' e1 e2 e3 => ?_⟩, fun y c e => ?_, I.free, I.freeC, fun p hp => ?_,
    I.hok.track fun b u o q1 q2 => kb b o (fun z => by rw [z, I.free] at q1; cases q1) q2, by simpa using I.len⟩
  · obtain ⟨sl, e1⟩ := I.base.slot b o e n hb hx
    exact ⟨sl, kb b _ (nL b o e) e1⟩
  · obtain ⟨o', e1⟩ := I.base.there b o e hx
    exact ⟨o', kb b o' (nL b o e) e1⟩
  · by_cases hj : j = i
    · subst hj
      have hj' : j < σ.length := by rw [I.len]; exact (List.getElem?_eq_some_iff.mp e1).1
      rw [List.getElem?_set_self hj'] at e2
      cases e2
    · rw [List.getElem?_set_ne (Ne.symm hj)] at e2
      obtain ⟨u', r', q⟩ := hl j y v' e1 e2 e3
      refine ⟨u', r', ?_⟩
      rcases q with ⟨k, e⟩ | ⟨k, c, e, z⟩
      · refine .inl ⟨k, ?_⟩
        have : y ≠ n := fun e => hj (nodup_ix hN e1 (e ▸ hi))
        simp [this, e]
      · exact .inr ⟨k, c, e, z.sameBut hs (I.cne y c e)⟩
  · obtain ⟨w', z⟩ := I.cell y c e
    exact ⟨w', z.sameBut hs (I.cne y c e)⟩
  · obtain ⟨e, n', ne, nf, d⟩ := I.pin p hp
    exact ⟨kb _ _ ne e, n', ne, nf, d⟩
end
def exO (C : Value) (dd : Option Addr) (e : Addr) : HO := .ext fun h => ∃ oe vs, h.get? e = some oe ∧ oe.cls = C ∧ oe.dict = dd ∧ oe.data = .fields vs
theorem exO_ok {P : Program} {w : World} {H : Hp} {h : Heap} {e : Addr} {C t1 : Value} {dd : Option Addr} (x : ExAt h e C dd t1) : ObjOk P w H h e (exO C dd e) := by
  obtain ⟨oe, vs, he, hC, hdd, hd, _⟩ := x
  exact ⟨⟨oe, vs, he, hC, hdd, hd⟩, ⟨oe, he⟩, fun h1 h2 ⟨o, v, q, r⟩ k => ⟨o, v, k o q, r⟩⟩
def tTry (K : PySem.W.Frag) (Cv : Value) (i : Nat) (tb : (St → XK) → List (Addr × Obj) → (Value → Shared → Prop) → TS) (th : Addr → TS) : TS := fun D σ H => ∃ Ez : St → XK, (∀ pins W, tb Ez pins W D σ H) ∧
  ∀ σ1 C dd H1, Ez σ1 C dd H1 → PySem.W.exmOne K C Cv = some true ∧ ∀ e, H1 e = none →
    th e { nx := fun σ2 H2 => D.nx (σ2.set i none) H2, rt := D.rt, bk := fun σ2 H2 => D.bk (σ2.set i none) H2, ct := fun σ2 H2 => D.ct (σ2.set i none) H2 } (σ1.set i (some (.ref e))) (upd H1 e (exO C dd e))
section
variable {X : Cx}
theorem ps_try {body suite : List Stmt} {b₀ : Stmt} {tx n : Str} {i : Nat} {np hpos pos : Pos} {Cv : Value} {tb : (St → XK) → List (Addr × Obj) → (Value → Shared → Prop) → TS} {th : Addr → TS}
    (hst : X.stack = X.env :: X.outer) (hfr : X.env.frame = some X.env.locals) (hex : X.ex = []) (hN : X.N.Nodup) (hi : X.N[i]? = some n) (hk : X.env.kindOf n = some .local) (hg : Gl X tx) (hm : X.mg tx = some Cv)
    (hb : ∀ Ez pins W, PassesS (CXx X.prog X.w) (X.tr pins W) Ez → PSs (X.tr pins W) body (tb Ez pins W)) (hs : ∀ e, PSs (X.sui e) (b₀ :: suite) (th e)) (hdb : (tx == ("__debug__" : Str)) = false := by decide) :
    PS X (.Try body [.ExceptHandler (some (.Name tx np)) (some n) (b₀ :: suite) hpos] [] [] pos) (tTry X.K Cv i tb th) := by
  unfold PS at *; unfold PSs at *
  exact by
    intro pins s σ H D I h
    obtain ⟨Ez, hb1, hh⟩ := h
    let W : Value → Shared → Prop := fun u s' => ∃ σ1 H1 s1, Inv X pins σ1 H1 s1 ∧ CXx X.prog X.w X.stack H1 s1 (Ez σ1) u s'
    have hp : PassesS (CXx X.prog X.w) (X.tr pins W) Ez := fun pins' σ1 H1 s1 u s' I1 hx => ⟨σ1, H1, s1, I1.untr, hx⟩
    refine wpAny_Try_except (wpAny_mono ((hb Ez pins W hp) [] s σ H D I.tr (hb1 pins W)) (fun f s1 q => ?_) (fun u s' q => ?_))
    · have q' := q.untr
      cases f with
      | next => exact wpAny_execs_nil q'
      | brk => exact q'
      | cont => exact q'
      | ret v => exact q'
    · obtain ⟨σ1, H1, s1, I1, e, C, dd, T, H', rfl, os, bare, un, hok, x1, x2, x3, f1, f2, n1, n2, hE⟩ := q
      have hfun : s'.heap.FunFrames X.base (X.env :: X.outer) := by
        rw [← hst]
        exact funFrames_un I1.stack fun b o hb q => un.slot b o q (I1.stkFree b hb) hb (by simp)
      refine leave_fly (T0 := some T) (L := X.env.locals) (by rw [← hst]; exact I1.ok.frames) hfun hfr x1 (fun T' z => by cases z; exact ⟨x2, x3⟩) fun h' T2 y1 y2 y3 y4 mv => ?_
      rw [← hst] at mv
      have ntr : ∀ b u, H' b = some u → b ∉ frs X.stack := fun b u q hb => by
        obtain ⟨_, o, ho, _⟩ := I1.stack.mem hb
        have := un.free b o ho (I1.stkFree b hb) (by simp)
        rw [q] at this; cases this
      have hU : Un (frs X.stack) [] H1 H' s1.heap h' := un_moved (l := X.stack) un mv (fun _ z => z) (fun _ _ _ z => z) n1 fun T' z => by cases z; exact n2
      have hO : HOk X.prog X.w H' h' := hok.track fun b u o q1 q2 => mv.keep b o (fun z => by rw [z, f1] at q1; cases q1) (fun z => by cases z; rw [f2] at q1; cases q1) (ntr b u q1) q2
      have I2 : Inv X pins σ1 H' { s' with heap := h' } := I1.call' (s' := { s' with heap := h' }) (ch := []) os hU hO bare fun _ z => absurd z (by simp)
      -- the exception becomes an object of ours
      have he0 : X.s₀.heap.get? e = none := by
        cases q : X.s₀.heap.get? e with
        | none => rfl
        | some o =>
          obtain ⟨o1, q1⟩ := I1.base.there e o q (by rw [hex]; simp)
          rw [n1] at q1; cases q1
      have live : ∀ b o, s1.heap.get? b = some o → b ≠ e := fun b o q z => by rw [z, n1] at q; cases q
      have heL : e ≠ X.env.locals := by
        obtain ⟨m, ⟨o, _, _, ho, _⟩, _⟩ := I1.loc
        exact Ne.symm (live _ _ ho)
      have heC : ∀ x c, X.env.cells.lookup x = some c → c ≠ e := fun x c q => by
        obtain ⟨v, o, ho, _⟩ := I1.cell x c q
        exact live _ _ ho
      have heP : ∀ p ∈ X.pn ++ pins, p.1 ≠ e := fun p hp => live _ _ (I1.pin p hp).1
      have I3 : Inv X pins σ1 (upd H' e (exO C dd e)) { s' with heap := h' } := I2.adopt f1 he0 heL heC heP (exO_ok y1)
      -- the trace's record is nobody's
      have szT : ∀ b o, s'.heap.get? b = some o → b ≠ T2 := fun b o q => Nat.ne_of_lt (Nat.lt_of_lt_of_le (Heap.lt_size q) y3)
      have liveT : ∀ b o, s1.heap.get? b = some o → b ≠ T2 := fun b o q => by
        obtain ⟨o', q'⟩ := un.there b o q (by simp)
        exact szT b o' q'
      have hTL : T2 ≠ X.env.locals := by
        obtain ⟨m, ⟨o, _, _, ho, _⟩, _⟩ := I1.loc
        exact Ne.symm (liveT _ _ ho)
      have hT0 : X.s₀.heap.objs.size ≤ T2 := by
        obtain ⟨m, ⟨o, _, _, ho, _⟩, _⟩ := I1.loc
        obtain ⟨o', q'⟩ := un.there _ o ho (by simp)
        exact Nat.le_trans I1.ok.above (Nat.le_trans (Nat.le_of_lt (Heap.lt_size q')) y3)
      have hTC : ∀ x c, X.env.cells.lookup x = some c → c ≠ T2 := fun x c q => by
        obtain ⟨v, o, ho, _⟩ := I1.cell x c q
        exact liveT _ _ ho
      have hTP : ∀ p ∈ X.pn ++ pins, p.1 ≠ T2 := fun p hp => liveT _ _ (I1.pin p hp).1
      have hTn : upd H' e (exO C dd e) T2 = none := by
        rw [upd_ne y4]
        cases q : H' T2 with
        | none => rfl
        | some u => obtain ⟨ob, hob⟩ := (hok T2 u q).there; exact absurd rfl (szT T2 ob hob)
      obtain ⟨hmt, hsu⟩ := hh σ1 C dd H' hE
      obtain ⟨oe, vs, hoe, hcls, _⟩ := id y1
      have LT : PySem.W.Looks (model X.prog X.w) h' (typeOf (.ref e)) C := by
        subst hcls
        exact (PySem.W.Looks.ld hoe).andThen .now
      have ok : X.Ok := I.ok
      refine wpAny_handleBy_cons (codeAny_handlers_test (ld_glob (X := X.sui e) (I3.sui e) hg hm ?_ hdb)) (by intro q; cases q)
      refine PySem.W.Looks.here (PySem.W.exm_one I3.kIn LT hmt) ?_
      show codeAny _ _ (.handlers (.ref e) [.ExceptHandler none (some n) (b₀ :: suite) hpos] X.env) _ _
      refine codeAny_handlers_suite_as ?_
      refine rest_fly y1 y2 y4 fun h2 z1 z2 k1 k2 => ?_
      have I4 : Inv X pins σ1 (upd H' e (exO C dd e)) { s' with heap := h2 } := I3.turned (t' := s'.toks) (fun b o hb q => k1 b o hb q) hTn hTL (.inr hT0) hTC hTP
      refine store_ok (X := X.sui e) (v := .ref e) (I4.sui e) hN hi (.inl hk) rfl (fun s5 I5 => ?_) (.inr hk)
      refine wpAny_mono ((hs e) pins s5 _ _ _ I5 (hsu e f1)) (fun f s6 q => ?_) fun _ _ z => z.elim
      show wpAny _ _ (do bindName X.env n .none; unbindBehindTheSuite X.env n hpos) _ _ s6
      cases f with
      | next => obtain ⟨σ6, H6, I6, q6⟩ := q; exact goes_ok (I6.unsui ok) hN hi hk fun s7 I7 => ⟨_, _, I7, q6⟩
      | brk => obtain ⟨σ6, H6, I6, q6⟩ := q; exact goes_ok (I6.unsui ok) hN hi hk fun s7 I7 => ⟨_, _, I7, q6⟩
      | cont => obtain ⟨σ6, H6, I6, q6⟩ := q; exact goes_ok (I6.unsui ok) hN hi hk fun s7 I7 => ⟨_, _, I7, q6⟩
      | ret v => obtain ⟨x6, σ6, H6, I6, r6, q6⟩ := q; exact goes_ok (I6.unsui ok) hN hi hk fun s7 I7 => ⟨_, _, _, I7, r6, q6⟩
end
end L2
namespace L2
open PySem PySem.Spec PyProof.Rows PySem.W
section
variable {prog : Program} {w : World} {A : Around} {E : Value → Shared → Prop} {s : Shared} {K : Frag} {e C : Addr} {oe : Obj}
theorem findX {a g : Value} {name : Str} (hc : (clsIn K C).isSome = true) (ha : findIn K (.ref C) name = some (some a)) (hg : specialIn K a "__get__" = some (some g)) (ht : takesIn K a = some true) : findObj K C none name = some (.bind g a) := by
  obtain ⟨cd, hc⟩ := Option.isSome_iff_exists.mp hc
  unfold findObj
  rw [hc, Option.bind_some, ha, Option.bind_some]
  simp [hg, ht]
structure XAsk (K : Frag) (C : Addr) : Prop where
  cs : (clsIn K C).isSome = true
  ga : findIn K (.ref C) "__getattribute__" = some (some (.builtin "BaseException.__getattribute__"))
  gt : findIn K (.ref C) "__getattr__" = some none
  ca : findIn K (.ref C) "__class__" = some (some (.builtin "object.__class__"))
  gg : specialIn K (.builtin "object.__class__") "__get__" = some (some (.builtin "getset_descriptor.__get__"))
  tk : takesIn K (.builtin "object.__class__") = some true
  mo : mroIn K C (.type "object") = some true
  sb : subIn K (.ref C) (.type "BaseException") = some true
theorem xcheck {nameV : Value} {Q : Unit → Shared → Prop} (U : XAsk K C) (X : K.In s.heap) (I : InstAt s.heap e oe C none) (hq : Q () s) :
    wpAny (model prog w) A (checkBuiltinCall "BaseException.__getattribute__" ⟨[.ref e, nameV], []⟩) Q E s := by
  have hk : builtinKind "BaseException.__getattribute__" = some .slot := by decide +kernel
  have hsplit : splitId "BaseException.__getattribute__" = some ("BaseException", "__getattribute__") := by decide +kernel
  have L0 := I.type (M := model prog w)
  have L1 := looks_subIn (M := model prog w) X U.sb
  have LI : Looks (model prog w) s.heap (isInstance (.ref e) (.type "BaseException")) true := L0.andThen L1
  have ha := F.args_bexc_ga (.ref e) nameV
  simp only [checkBuiltinCall, hk, hsplit]
  refine wpAny_bind (LI.at ?_)
  rw [if_neg (by decide)]
  exact wpAny_of_eq ha hq
theorem xentry {tk : Tok} {Q : Fin → Shared → Prop} (U : XAsk K C) (X : K.In s.heap) (I : InstAt s.heap e oe C none) (hq : Q (.done (.ret (.ref C))) s) :
    wpAny (model prog w) A (Builtin.«object.__getattribute__» ⟨[.ref e, .str "__class__" tk], []⟩) Q E s := by
  obtain ⟨hh, g, d, t, os⟩ := s
  have L0 := I.type (M := model prog w)
  have L3 := looks_find (M := model prog w) X I (findX U.cs U.ca U.gg U.tk)
  unfold Builtin.«object.__getattribute__»
  refine wpAny_bind (wpAny_of_eq (show slotArgs "__getattribute__" 1 ⟨[.ref e, .str "__class__" tk], []⟩ = pure (.ref e, [.str "__class__" tk]) from rfl) ?_)
  refine wpAny_bind (wpAny_of_eq (show Builtin.ObjectAttr.attrName (.str "__class__" tk) = pure ("__class__" : Str) from rfl) ?_)
  refine wpAny_bind (L0.at (wpAny_bind (L3.at ?_)))
  show wpAny _ _ (Builtin.ObjectAttr.bindTo (.builtin "getset_descriptor.__get__") (.builtin "object.__class__") (.ref e) (.ref C)) _ _ _
  show wpAny _ _ (holding [.builtin "object.__class__"] (call (.builtin "getset_descriptor.__get__") [.builtin "object.__class__", .ref e, .ref C]) >>= ret) _ _ _
  exact wpAny_bind (wpAny_holding (wpAny_call (class_get X I U.mo (wpAny_pure hq))))
theorem xclass {Q : Option Value → Shared → Prop} (U : XAsk K C) (X : K.In s.heap) (I : InstAt s.heap e oe C none) (h : Q (some (.ref C)) { s with toks := s.toks + 1 }) : wpAny (model prog w) A (getAttr? (.ref e) "__class__") Q E s := by
  obtain ⟨hh, g, d, t, os⟩ := s
  have L0 := I.type (M := model prog w)
  have L1 := looks_findIn (M := model prog w) X U.ga
  have L2 := looks_findIn (M := model prog w) X U.gt
  have L3 := looks_find (M := model prog w) X I (findX U.cs U.ca U.gg U.tk)
  unfold getAttr? getAttrBy? getAttrBy
  refine wpAny_bind (wpAny_mkText (wpAny_bind (wpAny_attempt (wpAny_holding (wpAny_bind (L0.at (wpAny_bind (L1.at ?_))))))))
  show wpAny _ _ (getAttrByItsOwn (.ref e) _ (.ref C) (.builtin "BaseException.__getattribute__") false false) _ _ _
  unfold getAttrByItsOwn
  refine wpAny_bind ?_
  show wpAny _ _ (typeLookup (.ref C) "__getattr__") _ _ _
  refine L2.at ?_
  refine wpAny_bind (wpAny_attempt (wpAny_holding ?_))
  show wpAny _ _ (boundAndCalled (.builtin "BaseException.__getattribute__") (.ref e) _) _ _ _
  unfold boundAndCalled
  refine wpAny_bind (wpAny_of_eq (F.attr_ValueError.ga.bind (.ref e)) ?_)
  refine wpAny_call (codeAny_call_builtin F.attr_ValueError.ga.plain F.entry_bexc_ga (xcheck U X I (xentry U X I ?_)))
  exact wpAny_pure (wpAny_pure h)
theorem kitx_exc (U : XAsk K C) : KitX K (.ref e) (.ref C) (fun h => ∃ oe, InstAt h e oe C none) where
  ty := fun M h _ ⟨_, I⟩ => I.type
  it := fun _ _ X _ => by
    obtain ⟨cd, hc⟩ := Option.isSome_iff_exists.mp U.cs
    unfold clsIn at hc
    split at hc
    · rename_i c' d' cd' sl' ho
      intro A' Q' E' s' k q
      unfold isType loadHead
      exact wpAny_bind (wpAny_loadPart (k _ _ (X _ _ ho)) (wpAny_pure q))
    · cases hc
  ne := fun h tp dd its n sl X htp => by
    obtain ⟨cd, hc⟩ := Option.isSome_iff_exists.mp U.cs
    refine Bool.eq_false_iff.mpr fun q => ?_
    have z : C = tp := Value.ref.inj (beq_iff_eq.mp q)
    subst z
    unfold clsIn at hc
    split at hc
    · rename_i c' d' cd' sl' ho
      have z := (X _ _ ho).symm.trans htp
      cases z
    · cases hc
  ca := fun X ⟨_, I⟩ k => xclass U X I k
end
theorem exO_inst {P : Program} {w : World} {H : Hp} {h : Heap} {e C : Addr} (ok : HOk P w H h) (q : H e = some (exO (.ref C) none e)) : ∃ oe, InstAt h e oe C none := by
  obtain ⟨⟨oe, vs, he, hC, hdd, hd⟩, _⟩ := ok e _ q
  refine ⟨oe, he, hC, ?_, ?_⟩
  · obtain ⟨a, b, c, d⟩ := oe
    have hd' : c = .fields vs := hd
    subst hd'
    rfl
  · rw [hdd]
    trivial
section
variable {X : Cx}
def rIsiX (K : Frag) : List V → Hp → VK → Prop := fun xs H Q => ∃ e c cv C b, xs = [.ref e, c] ∧ ClsV c cv ∧ H e = some (exO (.ref C) none e) ∧ XAsk K C ∧ kitOne K (.ref C) cv = some b ∧ Q (.bl b) H
theorem call_isiX : CallR X (.builtin "isinstance") (rIsiX X.K) := by
  unfold CallR at *
  exact by
    intro pins s σ H xs us Q I rv h
    obtain ⟨e, c, cv, C, b, rfl, hc, he, U, k, q⟩ := h
    obtain ⟨u, cu, rfl, ru, rc⟩ := rv.two
    have ec : cu = cv := by cases hc <;> exact rc
    subst ec
    cases (show u = Value.ref e from ru)
    exact kia_one (kitx_exc U) I.kIn (exO_inst I.hok he) k (fun z => nomatch z) fun tk => ⟨.bl b, H, I.tok tk, rfl, q⟩
def rIsiA (K : Frag) : List V → Hp → VK → Prop := fun xs H Q => rIsi K xs H Q ∨ rIsiX K xs H Q
theorem call_isiA : CallR X (.builtin "isinstance") (rIsiA X.K) := by
  first
  | exact (call_isi.or call_isiX)
  | (unfold CallR at *; exact (call_isi.or call_isiX))
end
end L2
namespace L2
open PySem PySem.Spec PyProof.Rows
theorem bt_len : bootBuiltins "len" = some (.builtin "len") := by decide +kernel
theorem bt_isinstance : bootBuiltins "isinstance" = some (.builtin "isinstance") := by decide +kernel
theorem bt_int : bootBuiltins "int" = some (.type "int") := by decide +kernel
theorem bt_bool : bootBuiltins "bool" = some (.type "bool") := by decide +kernel
theorem bt_str : bootBuiltins "str" = some (.type "str") := by decide +kernel
theorem bt_list : bootBuiltins "list" = some (.type "list") := by decide +kernel
theorem bt_tuple : bootBuiltins "tuple" = some (.type "tuple") := by decide +kernel
theorem bt_ValueError : bootBuiltins "ValueError" = some (.type "ValueError") := by decide +kernel
theorem bt_all : bootBuiltins "all" = some (.builtin "all") := by decide +kernel
theorem bt_min : bootBuiltins "min" = some (.builtin "min") := by decide +kernel
theorem rel_int {n : Int} {t : Tok} : RelV (.int n) (.int n t) := ⟨_, rfl⟩
theorem rel_str {n : Str} {t : Tok} : RelV (.str n) (.str n t) := ⟨_, rfl⟩
theorem Same.new {H : Hp} {p : Addr} {o : HO} (h : H p = none) : Same H (upd H p o) := fun b u q => by
  rw [upd_ne (ne_of_none q h)]
  exact q
theorem atI_in {α : Type} {xs : List α} {i : Int} (h0 : 0 ≤ i) (h1 : i < xs.length) : ∃ v, atI xs i = some v ∧ v ∈ xs := by
  have e : ((i.toNat : Nat) : Int) = i := Int.toNat_of_nonneg h0
  have hl : i.toNat < xs.length := by omega
  refine ⟨xs[i.toNat], ?_, List.getElem_mem hl⟩
  have q := atI_nat (xs := xs) (List.getElem?_eq_getElem hl)
  rw [e] at q
  exact q
theorem atI_toNat {α : Type} {xs : List α} {i : Int} {v : α} (h0 : 0 ≤ i) (h : xs[i.toNat]? = some v) : atI xs i = some v := by
  have q := atI_nat (xs := xs) h
  rw [Int.toNat_of_nonneg h0] at q
  exact q
theorem TyOf.same {K : PySem.W.Frag} {H H' : Hp} {x : V} {t : Value} (e : Same H H') (h : TyOf K H x t) : TyOf K H' x t := by
  cases h with
  | non => exact .non
  | bl b => exact .bl b
  | int i => exact .int i
  | str x => exact .str x
  | flt x => exact .flt x
  | lst q => exact .lst (e _ _ q)
  | frz q => exact .frz (e _ _ q)
  | tup q => exact .tup (e _ _ q)
  | dK q => exact .dK (e _ _ q)
  | dT q => exact .dT (e _ _ q)
  | ins q a b c d f => exact .ins (e _ _ q) a b c d f
def Own (K : PySem.W.Frag) (H : Hp) (x : V) : Prop := ∃ n, TyOf K H x (.type n)
theorem Own.same {K : PySem.W.Frag} {H H' : Hp} {x : V} (e : Same H H') (h : Own K H x) : Own K H' x := let ⟨n, t⟩ := h; ⟨n, t.same e⟩
theorem Own.non {K : PySem.W.Frag} {H : Hp} : Own K H .non := ⟨_, .non⟩
theorem Own.bl {K : PySem.W.Frag} {H : Hp} {b : Bool} : Own K H (.bl b) := ⟨_, .bl b⟩
theorem Own.int {K : PySem.W.Frag} {H : Hp} {i : Int} : Own K H (.int i) := ⟨_, .int i⟩
theorem Own.str {K : PySem.W.Frag} {H : Hp} {x : Str} : Own K H (.str x) := ⟨_, .str x⟩
theorem Own.lst {K : PySem.W.Frag} {H : Hp} {a : Addr} {xs : List V} (h : H a = some (.lst xs)) : Own K H (.ref a) := ⟨_, .lst h⟩
theorem Own.tup {K : PySem.W.Frag} {H : Hp} {a : Addr} {xs : List V} (h : H a = some (.tup xs)) : Own K H (.ref a) := ⟨_, .tup h⟩
theorem Own.dK {K : PySem.W.Frag} {H : Hp} {a : Addr} {xs : List (Key × V)} (h : H a = some (.dK xs)) : Own K H (.ref a) := ⟨_, .dK h⟩
def isInt : V → Bool
  | .int _ => true
  | .bl _ => true
  | _ => false
def isBool : V → Bool
  | .bl _ => true
  | _ => false
def isStr : V → Bool
  | .str _ => true
  | _ => false
theorem kit_int {K : PySem.W.Frag} {H : Hp} {x : V} {n : String} (ty : TyOf K H x (.type n)) : PySem.W.kitOne K (.type n) (.type "int") = some (isInt x) := by
  cases ty <;> rfl
theorem kit_bool {K : PySem.W.Frag} {H : Hp} {x : V} {n : String} (ty : TyOf K H x (.type n)) : PySem.W.kitOne K (.type n) (.type "bool") = some (isBool x) := by
  cases ty <;> rfl
theorem kit_str {K : PySem.W.Frag} {H : Hp} {x : V} {n : String} (ty : TyOf K H x (.type n)) : PySem.W.kitOne K (.type n) (.type "str") = some (isStr x) := by
  cases ty <;> rfl
theorem rIsiA.own {K : PySem.W.Frag} {H : Hp} {x : V} {c : String} {Q : VK} {b : Bool} (h : Own K H x) (k : ∀ n, TyOf K H x (.type n) → PySem.W.kitOne K (.type n) (.type c) = some b) (q : Q (.bl b) H) : rIsiA K [x, .ty c] H Q := by
  obtain ⟨n, t⟩ := h
  exact .inl ⟨x, .ty c, _, _, _, rfl, .ty c, t, k n t, q⟩
theorem rIsiA.int {K : PySem.W.Frag} {H : Hp} {x : V} {Q : VK} (h : Own K H x) (q : Q (.bl (isInt x)) H) : rIsiA K [x, .ty "int"] H Q := rIsiA.own h (fun _ => kit_int) q
theorem rIsiA.bool {K : PySem.W.Frag} {H : Hp} {x : V} {Q : VK} (h : Own K H x) (q : Q (.bl (isBool x)) H) : rIsiA K [x, .ty "bool"] H Q := rIsiA.own h (fun _ => kit_bool) q
theorem rIsiA.str {K : PySem.W.Frag} {H : Hp} {x : V} {Q : VK} (h : Own K H x) (q : Q (.bl (isStr x)) H) : rIsiA K [x, .ty "str"] H Q := rIsiA.own h (fun _ => kit_str) q
theorem iteB {b : Bool} {A B : Prop} (h1 : b = true → A) (h2 : b = false → B) : if b = true then A else B := by
  cases b
  · exact iteF (h2 rfl)
  · exact iteT (h1 rfl)
theorem le_ble {a b : Nat} (h : Nat.ble a b = true) : a ≤ b := Nat.le_of_ble_eq_true h
end L2
namespace L2
open PySem PySem.Spec PyProof.Rows
section
variable {X : Cx} {pins : List (Addr × Obj)} {σ : St} {H H' : Hp} {s : Shared} {h' : Heap}
theorem Inv.turns {t' : Nat} {wr : List Addr} (I : Inv X pins σ H s) (k : ∀ b o, b ∉ wr → s.heap.get? b = some o → h'.get? b = some o) (hw : ∀ b ∈ wr, FpOk X pins H b) : Inv X pins σ H { s with heap := h', toks := t' } := by
  have nit : ∀ b u, H b = some u → b ∉ wr := fun b u e z => by rw [(hw b z).1] at e; cases e
  refine I.step (g' := s.gens) (d' := s.drawn) (ch := wr) (fun b hb => ?_) (fun b o _ _ hc e _ => k b o hc e) (fun b o _ _ hc e _ => ⟨o.slots, k b o hc e⟩) (fun _ _ _ _ n => n)
    (fun b o hc e => ⟨o, k b o hc e⟩) (fun _ _ e => e) (fun _ _ _ e => e) (fun b ps e => ⟨#[], by rw [e]; simp⟩) (fun m hm => ?_) (fun b u e => ?_) I.bare
  · obtain ⟨_, f1, _, f3, f4, f5⟩ := hw b hb
    exact ⟨f3, f1, f4, f5⟩
  · obtain ⟨o, es, ep, ho, r⟩ := hm
    exact ⟨o, es, ep, k _ o (fun z => (hw _ z).2.1 rfl) ho, r⟩
  · refine (I.hok b u e).stay (fun c v hc q => k c v ?_ q) (fun _ q => q) fun _ _ q => q
    rcases hc with z | z
    · rw [z]; exact nit b u e
    · exact nit c _ z
end
def Its (x : Str) : It := ⟨fun i _ => i < x.cps.size, fun i H v H' => H' = H ∧ ∃ c, x.cps[i]? = some c ∧ v = .str ⟨#[c]⟩, fun i _ => i = x.cps.size⟩
theorem turn_str {P : Program} {w : World} {K : PySem.W.Frag} {tg : Expr} (x : Str) (t : Tok) (it : Addr) (kind : String) (hk : kind = "str_ascii_iterator" ∨ kind = "str_iterator") :
    Turn P w K tg (Its x) [it] it (fun i h => h.IsStrIter it kind x t i) where
  mem := by simp
  obj := fun i h st b hb => by
    have e : b = it := by simpa using hb
    subst e
    obtain ⟨o, e, c, d⟩ := st
    exact ⟨o, e, fun v z => by rw [d] at z; cases z⟩
  keep := fun i h h' st k => by
    obtain ⟨o, e, r⟩ := st
    exact ⟨o, k it (by simp) o e, r⟩
  item := by
    intro X hP hw hK hc i pins s σ H E I hf st hg
    subst hP hw hK
    have W : Walks X.prog X.w X.A it [it] [it] x.cps.size (SignAt x) (fun i h => h.IsStrIter it kind x t i) := by
      rcases hk with rfl | rfl
      · exact Walks.strAscii (I.ok.hd hc) it x t
      · exact Walks.strWide (I.ok.hd hc) it x t
    refine W.item i s _ _ hg st fun v h' tk hv st' hk' => ?_
    obtain ⟨c, u, hc', rfl⟩ := hv
    have I1 : Inv X pins σ H { s with heap := h', toks := tk } := I.turns (t' := tk) hk' hf
    obtain ⟨o, e, hcl, d⟩ := id st'
    refine ⟨_, rfl, go_of (s := { s with heap := h', toks := tk }) e hcl d ?_ ⟨.str ⟨#[c]⟩, H, I1, ⟨u, rfl⟩, ⟨rfl, c, hc', rfl⟩, st', fun b hb => (hf b hb).1⟩⟩
    rcases hk with rfl | rfl <;> decide
  done := by
    intro X hP hw hK hc i pins s σ H E I hf st hg
    subst hP hw hK
    have W : Walks X.prog X.w X.A it [it] [it] x.cps.size (SignAt x) (fun i h => h.IsStrIter it kind x t i) := by
      rcases hk with rfl | rfl
      · exact Walks.strAscii (I.ok.hd hc) it x t
      · exact Walks.strWide (I.ok.hd hc) it x t
    have e : i = x.cps.size := hg
    subst e
    exact W.done s _ _ st fun h' tk hk' => ⟨rfl, I.turns (t' := tk) hk' hf⟩
  self := fun A i s Q E st h => by
    rcases hk with rfl | rfl
    · exact wpAny_pyIter_striter_ascii st h
    · exact wpAny_pyIter_striter_wide st h
def iStr (tl : TE) : TI := fun σ H R => tl σ H fun x H1 => ∃ z, x = .str z ∧ R (Its z) H1
theorem pi_str {X : Cx} {tg l : Expr} {tl : TE} (hl : PE X l tl) : PI X tg l (iStr tl) := by
  unfold PE at *; unfold PI at *
  exact by
    intro pins s σ H R I h
    refine thn (hl pins s σ H _ I h) fun v s1 ⟨x, H1, I1, r1, q1⟩ => ?_
    obtain ⟨z, rfl, q⟩ := q1
    obtain ⟨t, rfl⟩ := r1
    refine wpAny_pyIter_strU ?_
    refine ⟨s1.heap.objs.size, [s1.heap.objs.size], _, _, H1, rfl, I1.kept (t' := s1.toks) fun b o e => Heap.get?_push_of_some _ e, turn_str z t _ (strIterType z) (by unfold strIterType; split <;> simp), ⟨_, Heap.get?_push_size _ rfl, rfl, rfl⟩, fun b hb => ?_, q⟩
    have e : b = s1.heap.objs.size := by simpa using hb
    subst e
    exact I1.fpOk (Nat.le_refl _) (I1.hok.fresh (Nat.le_refl _))
def Nx (n i : Nat) (P : Prop) : Prop := ∃ m', m' < n - i ∧ m' = n - (i + 1) ∧ i + 1 ≤ n ∧ P
theorem Nx.mk {n i : Nat} {P : Prop} (hi : i < n) (p : P) : Nx n i P := ⟨n - (i + 1), by omega, rfl, hi, p⟩
theorem loop_by {J : It} {l : Addr} {g : TG} {tc : TT} {te : TE} {σ : St} {H : Hp} {Q : VK} (n : Nat) (Pv : Nat → St → List V → Hp → Prop) (hsz : n ≤ sizeLine) (h0 : Pv 0 σ [] H)
    (hl : ∀ i σ acc H, i ≤ n → Pv i σ acc H → H l = some (.lst acc) ∧ acc.length ≤ i)
    (hgo : ∀ i σ acc H, i < n → Pv i σ acc H → J.go i H)
    (hs : ∀ i x σ acc H H', i < n → Pv i σ acc H → J.yld i H x H' → g x σ H' fun σ2 H2 => tc σ2 H2 fun b H3 => if b = true then
      te σ2 H3 fun v H4 => H4 l = some (.lst acc) ∧ Nx n i (Pv (i + 1) σ2 (acc ++ [v]) (upd H4 l (.lst (acc ++ [v])))) else Nx n i (Pv (i + 1) σ2 acc H3))
    (hd : ∀ σ acc H, Pv n σ acc H → J.stop n H ∧ Q (.ref l) H) : tLoop J l g tc te σ H Q := by
  refine ⟨fun i m σ acc H => m = n - i ∧ i ≤ n ∧ Pv i σ acc H, ⟨n, by simp, Nat.zero_le _, h0⟩, ?_⟩
  rintro i m σ acc H ⟨rfl, hi, p⟩
  obtain ⟨q1, q2⟩ := hl i σ acc H hi p
  refine ⟨q1, ?_⟩
  by_cases hlt : i < n
  · exact .inr ⟨hgo i σ acc H hlt p, by omega, fun x H' y => hs i x σ acc H H' hlt p y⟩
  · have e : i = n := by omega
    subst e
    exact .inl (hd σ acc H p)
theorem boolsAre_of : ∀ {bs : List Bool} {us : List Value}, Vals (bs.map V.bl) us → LSm.BoolsAre us bs
  | [], _, .nil => .nil
  | b :: r, _, .cons h t => by
    cases h
    exact .cons b (boolsAre_of t)
theorem kept_it {s : Shared} {h' : Heap} {o : Obj} (hk : ∀ b x, b ∉ [s.heap.objs.size] → (s.heap.push o).get? b = some x → h'.get? b = some x) : ∀ b x, s.heap.get? b = some x → h'.get? b = some x :=
  fun b x e => hk b x (fun hm => by rw [List.mem_singleton.mp hm] at e; exact Nat.lt_irrefl _ (Heap.lt_size e)) (Heap.get?_push_of_some _ e)
theorem call_all {X : Cx} (hc : X.calm = true) : CallR X (.builtin "all") (fun xs H Q => ∃ (a : Addr) (bs : List Bool), xs = [.ref a] ∧ SqL X.K H a (bs.map V.bl) ∧ Q (.bl (bs.all id)) H) := by
  unfold CallR at *
  exact by
    intro pins s σ H xs us Q I r h
    obtain ⟨a, bs, rfl, hq, q⟩ := h
    obtain ⟨u, rfl, ru⟩ := vals1 r
    cases ru
    obtain ⟨its, rv, pl, hz⟩ := I.list hq
    have hb := boolsAre_of rv
    have hl := pl.isList
    have hlt : a < s.heap.objs.size := by obtain ⟨_, e, _⟩ := hl; exact Heap.lt_size e
    refine call_all_walk (wpAny_pyIter_list hl ?_)
    refine ⟨s.heap.objs.size, [s.heap.objs.size, a], [s.heap.objs.size], its.toArray.size, _, _, fun i => (bs[i]?).getD true, rfl, Walks.list (A := X.A.in1) (I.ok.hd hc) _ a (Nat.ne_of_lt hlt) its.toArray,
      ⟨⟨_, Heap.get?_push_size _ rfl, rfl, rfl⟩, hl.push _⟩, fun i v s' Q' E' hP hQ => ?_, fun h' tk hk => ?_⟩
    · obtain ⟨b, e, rfl⟩ := hb.get i v (by simpa using hP)
      simp only [e, Option.getD_some] at hQ
      exact wpAny_truthy_bool hQ
    · have e : ((List.range its.toArray.size).all fun i => (bs[i]?).getD true) = bs.all id := by
        rw [List.size_toArray, hb.length]; exact LSm.range_all bs
      rw [e]
      exact ⟨.bl (bs.all id), H, I.kept (t' := tk) (kept_it hk), rfl, q⟩
end L2
namespace L2
open PySem PySem.Spec PyProof.Rows
section
variable {X : Cx}
theorem op_le_str : OpR X (compareOp .LtE) (fun x y H Q => ∃ i j, x = .str i ∧ y = .str j ∧ Q (.bl (!decide (j.cps.toList < i.cps.toList))) H) := by
  unfold OpR at *
  exact by
    intro pins s σ H x y v u Q I rx ry h
    obtain ⟨i, j, rfl, rfl, q⟩ := h
    obtain ⟨t, rfl⟩ := rx
    obtain ⟨t', rfl⟩ := ry
    exact PySem.P.le_str (fin_bl I q (by simp))
end
inductive SeqEq (K : PySem.W.Frag) (H : Hp) (R : V → V → Bool → Prop) : V → V → Bool → Prop where
  | list {a b : Addr} {xs ys : List V} {e : Nat → Bool} (ha : SqL K H a xs) (hb : SqL K H b ys) (hl : xs.length = ys.length) (he : ∀ i x y, xs[i]? = some x → ys[i]? = some y → R x y (e i)) : SeqEq K H R (.ref a) (.ref b) ((List.range xs.length).all e)
  | listN {a b : Addr} {xs ys : List V} (ha : SqL K H a xs) (hb : SqL K H b ys) (hl : xs.length ≠ ys.length) : SeqEq K H R (.ref a) (.ref b) false
  | tup {a b : Addr} {xs ys : List V} {e : Nat → Bool} (ha : SqT K H a xs) (hb : SqT K H b ys) (he : ∀ i x y, xs[i]? = some x → ys[i]? = some y → R x y (e i)) : SeqEq K H R (.ref a) (.ref b) ((List.range (min xs.length ys.length)).all e && xs.length == ys.length)
def EqD (K : PySem.W.Frag) (H : Hp) : Nat → V → V → Bool → Prop
  | 0, x, y, b => (flatV x = true ∧ flatV y = true ∧ b = eqV x y) ∨ ∃ a, x = .ref a ∧ y = .ref a ∧ b = true
  | n + 1, x, y, b => ((flatV x = true ∧ flatV y = true ∧ b = eqV x y) ∨ ∃ a, x = .ref a ∧ y = .ref a ∧ b = true) ∨ SeqEq K H (EqD K H n) x y b
theorem eqV_self {x : V} (h : flatV x = true) : eqV x x = true := by
  cases x <;> simp_all [flatV, eqV]
section
variable {X : Cx} {pins : List (Addr × Obj)} {σ : St} {H : Hp} {s : Shared}
theorem all_range {n : Nat} {e : Nat → Bool} (h : ∀ i, i < n → e i = true) : (List.range n).all e = true := by
  rw [List.all_eq_true]
  exact fun i hi => h i (List.mem_range.mp hi)
theorem EqD.self (I : Inv X pins σ H s) : ∀ {n : Nat} {x : V} {b : Bool}, EqD X.K H n x x b → b = true := by
  intro n
  induction n with
  | zero =>
    intro x b h
    rcases h with ⟨h1, _, h2⟩ | ⟨_, _, _, h⟩
    · rw [h2]; exact eqV_self h1
    · exact h
  | succ n ih =>
    intro x b h
    rcases h with (⟨h1, _, h2⟩ | ⟨_, _, _, h⟩) | h
    · rw [h2]; exact eqV_self h1
    · exact h
    · cases h with
      | @list a _ xs ys e ha hb hl he =>
        have q := I.list_inj ha hb
        subst q
        exact all_range fun i hi => ih (he i xs[i] xs[i] (by simp [hi]) (by simp [hi]))
      | listN ha hb hl => exact absurd (congrArg List.length (I.list_inj ha hb)) hl
      | @tup a _ xs ys e ha hb he =>
        have q := I.tuple_inj ha hb
        subst q
        rw [Nat.min_self, all_range fun i hi => ih (he i xs[i] xs[i] (by simp [hi]) (by simp [hi]))]
        simp
theorem SeqEq.rc {A : Around} {R : V → V → Bool → Prop} {x y : V} {b : Bool} {u v : Value} (I : Inv X pins σ H s) (h : SeqEq X.K H R x y b) (rx : RelV x u) (ry : RelV y v) (hu : A.units < cLine)
    (hR : ∀ x y b u v, R x y b → RelV x u → RelV y v → SeqAt.EqAt A.in1 s u v b) : SeqAt.RcAt A s u v b := by
  cases h with
  | @list a c xs ys e ha hb hl he =>
    cases rx; cases ry
    obtain ⟨its, r1, p1, z1⟩ := I.list ha
    obtain ⟨jts, r2, p2, z2⟩ := I.list hb
    have l1 := r1.length
    have l2 := r2.length
    have q := SeqAt.RcAt.lists (A := A) (s := s) (e := e) p1.isList p2.isList (by simp only [List.size_toArray]; omega) hu fun j h1 h2 => ?_
    · rw [List.size_toArray, ← l1] at q
      exact q
    · simp only [List.size_toArray] at h1 h2
      have g1 : xs[j]? = some xs[j] := by simp
      have g2 : ys[j]? = some ys[j] := by simp
      obtain ⟨w1, k1, rr1⟩ := r1.get g1
      obtain ⟨w2, k2, rr2⟩ := r2.get g2
      have e1 : its.toArray[j] = w1 := by
        have := List.getElem?_eq_some_iff.mp k1
        obtain ⟨_, this⟩ := this
        simpa using this
      have e2 : jts.toArray[j] = w2 := by
        have := List.getElem?_eq_some_iff.mp k2
        obtain ⟨_, this⟩ := this
        simpa using this
      rw [e1, e2]
      exact hR _ _ _ _ _ (he j _ _ g1 g2) rr1 rr2
  | @listN a c xs ys ha hb hl =>
    cases rx; cases ry
    obtain ⟨its, r1, p1, z1⟩ := I.list ha
    obtain ⟨jts, r2, p2, z2⟩ := I.list hb
    have l1 := r1.length
    have l2 := r2.length
    exact SeqAt.RcAt.lists_lengths p1.isList p2.isList (by simp only [List.size_toArray, bne_iff_ne]; omega) hu
  | @tup a c xs ys e ha hb he =>
    cases rx; cases ry
    obtain ⟨its, r1, p1, z1⟩ := I.tuple ha
    obtain ⟨jts, r2, p2, z2⟩ := I.tuple hb
    have l1 := r1.length
    have l2 := r2.length
    have q := SeqAt.RcAt.tuples (A := A) (s := s) (e := e) p1 p2 hu fun j h1 h2 => ?_
    · rw [List.size_toArray, List.size_toArray, ← l1, ← l2] at q
      exact q
    · simp only [List.size_toArray] at h1 h2
      have g1 : xs[j]? = some xs[j] := by simp
      have g2 : ys[j]? = some ys[j] := by simp
      obtain ⟨w1, k1, rr1⟩ := r1.get g1
      obtain ⟨w2, k2, rr2⟩ := r2.get g2
      have e1 : its.toArray[j] = w1 := by
        have := List.getElem?_eq_some_iff.mp k1
        obtain ⟨_, this⟩ := this
        simpa using this
      have e2 : jts.toArray[j] = w2 := by
        have := List.getElem?_eq_some_iff.mp k2
        obtain ⟨_, this⟩ := this
        simpa using this
      rw [e1, e2]
      exact hR _ _ _ _ _ (he j _ _ g1 g2) rr1 rr2
theorem SeqEq.rcNe {A : Around} {R : V → V → Bool → Prop} {x y : V} {b : Bool} {u v : Value} (I : Inv X pins σ H s) (h : SeqEq X.K H R x y b) (rx : RelV x u) (ry : RelV y v) (hu : A.units < cLine)
    (hR : ∀ x y b u v, R x y b → RelV x u → RelV y v → SeqAt.EqAt A.in1 s u v b) : SeqAt.RcNeAt A s u v (!b) := by
  cases h with
  | @list a c xs ys e ha hb hl he =>
    cases rx; cases ry
    obtain ⟨its, r1, p1, z1⟩ := I.list ha
    obtain ⟨jts, r2, p2, z2⟩ := I.list hb
    have l1 := r1.length
    have l2 := r2.length
    have q := SeqAt.RcNeAt.lists (A := A) (s := s) (e := e) p1.isList p2.isList (by simp only [List.size_toArray]; omega) hu fun j h1 h2 => ?_
    · rw [List.size_toArray, ← l1] at q
      exact q
    · simp only [List.size_toArray] at h1 h2
      have g1 : xs[j]? = some xs[j] := by simp
      have g2 : ys[j]? = some ys[j] := by simp
      obtain ⟨w1, k1, rr1⟩ := r1.get g1
      obtain ⟨w2, k2, rr2⟩ := r2.get g2
      have e1 : its.toArray[j] = w1 := by
        have := List.getElem?_eq_some_iff.mp k1
        obtain ⟨_, this⟩ := this
        simpa using this
      have e2 : jts.toArray[j] = w2 := by
        have := List.getElem?_eq_some_iff.mp k2
        obtain ⟨_, this⟩ := this
        simpa using this
      rw [e1, e2]
      exact hR _ _ _ _ _ (he j _ _ g1 g2) rr1 rr2
  | @listN a c xs ys ha hb hl =>
    cases rx; cases ry
    obtain ⟨its, r1, p1, z1⟩ := I.list ha
    obtain ⟨jts, r2, p2, z2⟩ := I.list hb
    have l1 := r1.length
    have l2 := r2.length
    exact SeqAt.RcNeAt.lists_lengths p1.isList p2.isList (by simp only [List.size_toArray, bne_iff_ne]; omega) hu
  | @tup a c xs ys e ha hb he =>
    cases rx; cases ry
    obtain ⟨its, r1, p1, z1⟩ := I.tuple ha
    obtain ⟨jts, r2, p2, z2⟩ := I.tuple hb
    have l1 := r1.length
    have l2 := r2.length
    have q := SeqAt.RcNeAt.tuples (A := A) (s := s) (e := e) p1 p2 hu fun j h1 h2 => ?_
    · rw [List.size_toArray, List.size_toArray, ← l1, ← l2] at q
      exact q
    · simp only [List.size_toArray] at h1 h2
      have g1 : xs[j]? = some xs[j] := by simp
      have g2 : ys[j]? = some ys[j] := by simp
      obtain ⟨w1, k1, rr1⟩ := r1.get g1
      obtain ⟨w2, k2, rr2⟩ := r2.get g2
      have e1 : its.toArray[j] = w1 := by
        have := List.getElem?_eq_some_iff.mp k1
        obtain ⟨_, this⟩ := this
        simpa using this
      have e2 : jts.toArray[j] = w2 := by
        have := List.getElem?_eq_some_iff.mp k2
        obtain ⟨_, this⟩ := this
        simpa using this
      rw [e1, e2]
      exact hR _ _ _ _ _ (he j _ _ g1 g2) rr1 rr2
theorem EqD.at (I : Inv X pins σ H s) : ∀ (n : Nat) (A : Around) (x y : V) (b : Bool) (u v : Value), A.units + n < cLine → EqD X.K H n x y b → RelV x u → RelV y v → SeqAt.EqAt A s u v b := by
  intro n
  induction n with
  | zero =>
    intro A x y b u v hu h rx ry
    rcases h with ⟨h1, h2, rfl⟩ | ⟨a, rfl, rfl, rfl⟩
    · exact eqAt_V rx ry h1 h2
    · cases rx; cases ry
      exact SeqAt.EqAt.same _
  | succ n ih =>
    intro A x y b u v hu h rx ry
    rcases h with (⟨h1, h2, rfl⟩ | ⟨a, rfl, rfl, rfl⟩) | h
    · exact eqAt_V rx ry h1 h2
    · cases rx; cases ry
      exact SeqAt.EqAt.same _
    · have rc := SeqEq.rc (A := A) I h rx ry (by omega) fun x y b u v hd r1 r2 => ih A.in1 x y b u v (by show A.units + 1 + n < cLine; omega) hd r1 r2
      have refs : ∃ a c, x = .ref a ∧ y = .ref c := by cases h <;> exact ⟨_, _, rfl, rfl⟩
      obtain ⟨a, c, rfl, rfl⟩ := refs
      cases rx; cases ry
      by_cases hac : a = c
      · subst hac
        have hb : b = true := EqD.self (n := n + 1) I (.inr h)
        subst hb
        exact SeqAt.EqAt.same _
      · exact SeqAt.EqAt.of_refs hac rc
def rEqD (K : PySem.W.Frag) (neg : Bool) : R2 := fun x y H Q => ∃ n b, n ≤ 60 ∧ SeqEq K H (EqD K H n) x y b ∧ Q (.bl (if neg then !b else b)) H
theorem op_eqD (hu : X.A.units + 62 < cLine) : OpR X (compareOp .Eq) (rEqD X.K false) := by
  unfold OpR at *
  exact by
    intro pins s σ H x y v u Q I rx ry h
    obtain ⟨n, b, hn, he, q⟩ := h
    exact SeqEq.rc (A := X.A) I he rx ry (by omega) (fun x y b u v hd r1 r2 => EqD.at I n X.A.in1 x y b u v (by show X.A.units + 1 + n < cLine; omega) hd r1 r2) X.prog X.w _ _ (fin_bl I q rfl)
theorem op_neD (hu : X.A.units + 62 < cLine) : OpR X (compareOp .NotEq) (rEqD X.K true) := by
  unfold OpR at *
  exact by
    intro pins s σ H x y v u Q I rx ry h
    obtain ⟨n, b, hn, he, q⟩ := h
    exact SeqEq.rcNe (A := X.A) I he rx ry (by omega) (fun x y b u v hd r1 r2 => EqD.at I n X.A.in1 x y b u v (by show X.A.units + 1 + n < cLine; omega) hd r1 r2) X.prog X.w _ _ (fin_bl I q rfl)
def eqL : List V → List V → Bool
  | [], [] => true
  | x :: xs, y :: ys => eqV x y && eqL xs ys
  | _, _ => false
end
theorem eqL_range : ∀ {xs ys : List V}, xs.length = ys.length → (List.range xs.length).all (fun i => eqV (xs.getD i .non) (ys.getD i .non)) = eqL xs ys
  | [], [], _ => rfl
  | x :: xs, y :: ys, h => by
    have h' : xs.length = ys.length := by simpa using h
    rw [List.length_cons, List.range_succ_eq_map, List.all_cons, List.all_map, eqL, ← eqL_range h']
    rfl
  | [], _ :: _, h => by simp at h
  | _ :: _, [], h => by simp at h
theorem eqL_len : ∀ {xs ys : List V}, xs.length ≠ ys.length → eqL xs ys = false
  | [], [], h => absurd rfl h
  | x :: xs, y :: ys, h => by
    rw [eqL, eqL_len (xs := xs) (ys := ys) (by simpa using h), Bool.and_false]
  | [], _ :: _, _ => rfl
  | _ :: _, [], _ => rfl
theorem SeqEq.flatL {K : PySem.W.Frag} {H : Hp} {n : Nat} {a b : Addr} {xs ys : List V} (ha : SqL K H a xs) (hb : SqL K H b ys) (fx : xs.all flatV = true) (fy : ys.all flatV = true) : SeqEq K H (EqD K H n) (.ref a) (.ref b) (eqL xs ys) := by
  by_cases hl : xs.length = ys.length
  · rw [← eqL_range hl]
    refine .list ha hb hl fun i x y hx hy => ?_
    have q : (flatV x = true ∧ flatV y = true ∧ eqV (xs.getD i .non) (ys.getD i .non) = eqV x y) := by
      refine ⟨List.all_eq_true.mp fx x (List.mem_of_getElem? hx), List.all_eq_true.mp fy y (List.mem_of_getElem? hy), ?_⟩
      rw [List.getD_eq_getElem?_getD, List.getD_eq_getElem?_getD, hx, hy]
      rfl
    cases n with
    | zero => exact .inl q
    | succ n => exact .inl (.inl q)
  · rw [eqL_len hl]
    exact .listN ha hb hl
theorem SeqEq.flatT {K : PySem.W.Frag} {H : Hp} {n : Nat} {a b : Addr} {xs ys : List V} (ha : SqT K H a xs) (hb : SqT K H b ys) (hl : xs.length = ys.length) (fx : xs.all flatV = true) (fy : ys.all flatV = true) : SeqEq K H (EqD K H n) (.ref a) (.ref b) (eqL xs ys) := by
  have q := SeqEq.tup (K := K) (H := H) (R := EqD K H n) (e := fun i => eqV (xs.getD i .non) (ys.getD i .non)) ha hb fun i x y hx hy => ?_
  · rw [← hl, Nat.min_self, eqL_range hl] at q
    simpa using q
  · have q : (flatV x = true ∧ flatV y = true ∧ eqV (xs.getD i .non) (ys.getD i .non) = eqV x y) := by
      refine ⟨List.all_eq_true.mp fx x (List.mem_of_getElem? hx), List.all_eq_true.mp fy y (List.mem_of_getElem? hy), ?_⟩
      rw [List.getD_eq_getElem?_getD, List.getD_eq_getElem?_getD, hx, hy]
      rfl
    cases n with
    | zero => exact .inl q
    | succ n => exact .inl (.inl q)
end L2
namespace L2
open PySem PySem.Spec PyProof.Rows
theorem sqT_of {K : PySem.W.Frag} {H : Hp} {a : Addr} {o : Obj} {xs : List V} {its : Array Value} {n : Nat} (hk : K.lookup a = some o) (hc : o.cls = .type "tuple") (ho : o.data = .seq its n) (hz : its.size ≤ sizeLine) (hv : Vals xs its.toList) : SqT K H a xs :=
  .inr ⟨o, its, n, hk, hc, ho, hz, hv⟩
def EntryIs (w : World) (p : Str × V) (e : DictEntry) : Prop := e.hash = PyData.keyHash w.params p.1 ∧ (∃ t, e.key = .str p.1 t) ∧ RelV p.2 e.val
structure KDict (w : World) (K : PySem.W.Frag) (a : Addr) (kvs : List (Str × V)) : Prop where
  ex : ∃ (es : List DictEntry) (ep : Nat), K.lookup a = some ⟨.type "dict", none, .dict es.toArray ep, #[]⟩ ∧ Paired (EntryIs w) kvs es
  nd : (kvs.map (·.1)).Nodup
theorem KDict.pairs {P : Program} {w : World} : ∀ {kvs : List (Str × V)} {es : List DictEntry}, Paired (EntryIs w) kvs es → ∃ vs : List (Key × Value), Pairs (mixKind P w) es vs ∧ KV (kvs.map fun p => ((Sum.inr p.1 : Key), p.2)) vs ∧ vs.map (·.1) = kvs.map fun p => (Sum.inr p.1 : Key)
  | _, _, .nil => ⟨[], .nil, .nil, rfl⟩
  | (x, v) :: r, e :: es, .cons ⟨h1, ⟨t, h2⟩, h3⟩ hr => by
    obtain ⟨vs, p1, p2, p3⟩ := KDict.pairs (P := P) hr
    refine ⟨((Sum.inr x : Key), e.val) :: vs, ?_, .cons ⟨rfl, h3⟩ p2, by rw [List.map_cons, p3]; rfl⟩
    refine .cons ?_ rfl p1
    show keyIs (.inr x) e.key = true
    rw [h2]
    exact keyIs_str x t
theorem KDict.keysOf {P : Program} {w : World} : ∀ {kvs : List (Str × V)} {es : List DictEntry}, Paired (EntryIs w) kvs es → ∀ e ∈ es, ∃ k, (mixKind P w).is k e.key = true ∧ e.hash = (mixKind P w).hash k
  | _, _, .nil, e, h => by simp at h
  | (x, v) :: r, e :: es, .cons ⟨h1, ⟨t, h2⟩, h3⟩ hr, e', h => by
    rcases List.mem_cons.mp h with q | q
    · subst q
      refine ⟨.inr x, ?_, h1⟩
      show keyIs (.inr x) e'.key = true
      rw [h2]
      exact keyIs_str x t
    · exact KDict.keysOf hr e' q
theorem KDict.dictOf {P : Program} {w : World} {K : PySem.W.Frag} {a : Addr} {kvs : List (Str × V)} {h : Heap} (D : KDict w K a kvs) (X : K.In h) : ∃ vs, KV (kvs.map fun p => ((Sum.inr p.1 : Key), p.2)) vs ∧ h.DictOf (mixKind P w) a vs := by
  obtain ⟨es, ep, hk, hp⟩ := D.ex
  obtain ⟨vs, p1, p2, p3⟩ := KDict.pairs (P := P) hp
  refine ⟨vs, p2, _, es.toArray, ep, X _ _ hk, ⟨rfl, rfl, rfl⟩, rfl, fun e he => KDict.keysOf hp e (by simpa using he), by simpa using p1, ?_⟩
  rw [p3]
  have nd := D.nd
  rw [List.nodup_iff_pairwise_ne, List.pairwise_map] at nd ⊢
  exact nd.imp fun h e => h (Sum.inr.inj e)
def rKGet (w : World) (K : PySem.W.Frag) : R2 := fun x y H Q => ∃ a kvs z v, x = .ref a ∧ y = .str z ∧ KDict w K a kvs ∧ kvs.lookup z = some v ∧ Q v H
theorem valV_str {kvs : List (Str × V)} {z : Str} : valV (kvs.map fun p => ((Sum.inr p.1 : Key), p.2)) (Sum.inr z) = kvs.lookup z := by
  unfold valV
  induction kvs with
  | nil => rfl
  | cons p r ih =>
    obtain ⟨k, v⟩ := p
    rw [List.map_cons, List.find?_cons, List.lookup_cons]
    by_cases e : k = z
    · subst e
      simp
    · have h1 : decide ((Sum.inr k : Key) = Sum.inr z) = false := by simpa using e
      have h2 : (z == k) = false := by simpa using fun q => e q.symm
      rw [h1, h2]
      exact ih
theorem ix_kdict {X : Cx} : IxR X (rKGet X.w X.K) := by
  unfold IxR at *
  exact by
    intro value slice pins s σ H x y v u Q I rx ry h hs
    obtain ⟨a, kvs, z, r, rfl, rfl, D, hl, q⟩ := h
    cases rx
    have ry' : RelV (kV (Sum.inr z)) u := ry
    obtain ⟨vs, rel, dd⟩ := D.dictOf (P := X.prog) I.kIn
    obtain ⟨w', hw, rw'⟩ := RelO.some_of (v := r) (o := valueAt vs (Sum.inr z)) (by
      have q := rel.val (Sum.inr z)
      rw [valV_str, hl] at q
      exact q)
    refine tail_any dd.mapOf.typeIs PySem.F.slot_dict_getitem.lookup ?_ hs
    exact wpAny_getItem_of (kV_is ry') dd.mapOf hw ⟨r, H, I.tok _, rw', q⟩
end L2
namespace L2
open PySem PySem.Spec PyProof.Rows
def strKeysB (es : Array DictEntry) : Bool := es.all fun e => match e.key with | .str _ _ => true | _ => false
theorem strKeys_of {es : Array DictEntry} (h : strKeysB es = true) : StrKeys es := by
  intro e he
  have q := Array.all_eq_true_iff_forall_mem.mp h e he
  split at q
  · rename_i n t hk
    exact ⟨n, t, hk⟩
  · cases q
theorem XCls.mk2 {K : PySem.W.Frag} {C N A : Addr} {nm q : Str} {bs : List Value} {hdct : Bool} {sn : List Str} {sub : List Value} {ab : Bool} {col : Option Bool} {dd : Option Addr} {k0 k1 k2 k3 k5 : Option Value} {es : Array DictEntry} {c d ep sl}
    {c0 : Value} {dd' : Option Addr} {cd : ClassData} {sl0 : Array (Option Value)} {es' : Array DictEntry} {c' d' ep' sl'}
    (l : K.lookup C = some (excClassObj nm q C N bs (.ref A :: vmro) hdct sn sub ab col dd k0 k1 k2 k3 k5 "ValueError.__new__")) (ln : K.lookup N = some ⟨c, d, .dict es ep, sl⟩) (sk : strKeysB es = true) (ni : nsFind es "__init__" = none)
    (la : K.lookup A = some { cls := c0, dict := dd', data := .cls cd, slots := sl0 }) (lna : K.lookup cd.ns = some ⟨c', d', .dict es' ep', sl'⟩) (ska : strKeysB es' = true) (nia : nsFind es' "__init__" = none) : XCls K C :=
  ⟨nm, q, N, bs, _, hdct, sn, sub, ab, col, dd, k0, k1, k2, k3, k5, es, l, ⟨c, d, ep, sl, ln, strKeys_of sk⟩, ni, .own la ⟨c', d', ep', sl', lna, strKeys_of ska⟩ nia .base⟩
theorem hu62 {A : Around} {k : Nat} (hr : Room k A) : A.units + 62 < cLine := by have := hr.un; omega
theorem cap_nil {X : Cx} {scope : Scope} {N' : List Str} {js : List (Option Nat)} (hl : js.length = N'.length) (h : js.all Option.isNone = true) : Cap X scope N' js :=
  ⟨hl, fun i j x h1 _ => by
    have q := List.all_eq_true.mp h _ (List.mem_of_getElem? h1)
    cases q⟩
theorem free_nil {X : Cx} {scope : Scope} (h : (scope.names.all fun y => match y.2 with | .free => false | _ => true) = true) : ∀ y ∈ scope.names, y.2 = .free → (X.env.kindOf y.1 = some .cell ∨ X.env.kindOf y.1 = some .free) := fun y hy e => by
  have q := List.all_eq_true.mp h y hy
  rw [e] at q
  cases q
theorem rIsiA.exc {K : PySem.W.Frag} {H : Hp} {e C c : Addr} {b : Bool} {Q : VK} (h : H e = some (exO (.ref C) none e)) (q : XAsk K C) (k : PySem.W.kitOne K (.ref C) (.ref c) = some b) (hQ : Q (.bl b) H) : rIsiA K [.ref e, .ref c] H Q :=
  .inr ⟨e, .ref c, .ref c, C, b, rfl, .own c, h, q, k, hQ⟩
theorem rIsiA.excT {K : PySem.W.Frag} {H : Hp} {e C : Addr} {c : String} {b : Bool} {Q : VK} (h : H e = some (exO (.ref C) none e)) (q : XAsk K C) (k : PySem.W.kitOne K (.ref C) (.type c) = some b) (hQ : Q (.bl b) H) : rIsiA K [.ref e, .ty c] H Q :=
  .inr ⟨e, .ty c, .type c, C, b, rfl, .ty c, h, q, k, hQ⟩
theorem passE0 {P : Program} {w : World} {X : Cx} : PassesS (CXx P w) X (fun _ => E0) := by
  intro pins σ H s e s' I h
  obtain ⟨_, _, _, _, _, _, _, _, _, _, _, _, _, _, _, _, _, h⟩ := h
  exact h.elim
end L2
namespace L2
open PySem PySem.Spec PyProof.Rows
structure FunD (K : PySem.W.Frag) (x qual : Str) (st : Stmt) (dV : Value) (f : Addr) (fd : FuncData) : Prop where
  ex : ∃ (oc : Value) (od : Option Addr) (kV doc pm : Value) (an : Option Addr) (cdv ct : Value) (osl : Array (Option Value)),
    fd = PySem.W.fnOf x qual (defArgs st) (defBody st) (defScope st) dV kV doc pm an cdv ct ∧ K.lookup f = some ⟨oc, od, .func fd, osl⟩ ∧ PySem.W.codeIn K cdv qual = true
  kp : PySem.W.keepIn K (.ref f) = true
theorem FunD.okx {P : Program} {w : World} {K : PySem.W.Frag} {mg : Str → Option Value} {base : Heap} {x qual : Str} {st : Stmt} {dV : Value} {f : Addr} {fd : FuncData} {N ps : List Str} {k : Nat} {sp : Sp} (F : FunD K x qual st dV f fd) (S : FnScope N ps (defScope st)) (len : ∀ vs H Q E, sp vs H Q E → vs.length = ps.length)
    (hbody : ∀ (cdv : Value) (A : Around) (outer : List Env) (s : Shared) (H : Hp) (vs : List V) (Q : VK) (E : XK), Room k (A.deeper (envOfC qual (defScope st) s.heap.objs.size f cdv)) → sp vs H Q E →
      ∃ t, PSs (cxOf (CXx P w) P w K mg base N qual (defScope st) f cdv A outer s H E) (defBody st) t ∧ t { nx := fun _ H' => Q .non H', rt := Q } (start N vs) H) : FnOk P w K mg base (CXx P w) (k + 1) f fd ps sp := by
  obtain ⟨oc, od, kV, doc, pm, an, cdv, ct, osl, rfl, lk, hcd⟩ := F.ex
  exact fn_of lk hcd S len fun A outer s H vs Q E hr hsp => hbody cdv A outer s H vs Q E hr hsp
theorem funD_mk {K : PySem.W.Frag} {x qual : Str} {st : Stmt} {dV : Value} {f : Addr} {oc : Value} {od an : Option Addr} {osl : Array (Option Value)} {kV doc pm cdv ct : Value} (l : K.lookup f = some ⟨oc, od, .func (PySem.W.fnOf x qual (defArgs st) (defBody st) (defScope st) dV kV doc pm an cdv ct), osl⟩)
    (hc : PySem.W.codeIn K cdv qual = true) (kp : PySem.W.keepIn K (.ref f) = true) : FunD K x qual st dV f (PySem.W.fnOf x qual (defArgs st) (defBody st) (defScope st) dV kV doc pm an cdv ct) := ⟨⟨oc, od, kV, doc, pm, an, cdv, ct, osl, rfl, l, hc⟩, kp⟩
structure MkBinds (K : PySem.W.Frag) (fd : FuncData) (ps ks : List Str) (na : Nat) (g : List Value → List Value → List Value) (gV : List V → List V → List V) : Prop where
  to : ∀ (s : Shared) (x : Value) (us ws : List Value), K.In s.heap → us.length = na → ws.length = ks.length → BindsTo s fd ⟨x :: us, ks.zip ws⟩ (ps.zip (x :: g us ws)) ∧ (x :: g us ws).length = ps.length
  rel : ∀ {vs : List V} {us : List Value} {zs : List V} {ws : List Value}, Vals vs us → Vals zs ws → Vals (gV vs zs) (g us ws)
theorem MkBinds.ofD {K : PySem.W.Frag} {x qual : Str} {st : Stmt} {T f : Addr} {fd : FuncData} {ps ks : List Str} {na : Nat} {g : List Value → List Value → List Value} {gV : List V → List V → List V} {o : Obj} {items : Array Value} {n : Nat}
    (F : FunD K x qual st (.ref T) f fd) (hT : K.lookup T = some o) (hs : o.data = .seq items n) (hrel : ∀ {vs : List V} {us : List Value} {zs : List V} {ws : List Value}, Vals vs us → Vals zs ws → Vals (gV vs zs) (g us ws))
    (h : ∀ (kV doc pm : Value) (an : Option Addr) (cdv ct : Value) (y : Value) (us ws : List Value), us.length = na → ws.length = ks.length →
      (∃ k, bindArgs (PySem.W.fnOf x qual (defArgs st) (defBody st) (defScope st) (.ref T) kV doc pm an cdv ct) ⟨y :: us, ks.zip ws⟩ = seqItems? (.ref T) >>= k ∧ k (some items) = pure (ps.zip (y :: g us ws))) ∧ (y :: g us ws).length = ps.length) : MkBinds K fd ps ks na g gV := by
  obtain ⟨oc, od, kV, doc, pm, an, cdv, ct, osl, rfl, lk, hcd⟩ := F.ex
  refine ⟨fun s y us ws X h1 h2 => ?_, hrel⟩
  obtain ⟨⟨k, e1, e2⟩, e3⟩ := h kV doc pm an cdv ct y us ws h1 h2
  exact ⟨.of_defaults rfl (X _ _ hT) hs e1 e2, e3⟩
def tMakeS (C : Addr) (sp : Sp) (na nk : Nat) (gV : List V → List V → List V) (Ez : St → XK) (t tk : TA) : TE := fun σ H Q => t σ H fun vs H1 => tk σ H1 fun zs H2 => vs.length = na ∧ zs.length = nk ∧
  ∀ x dx, H2 x = none → H2 dx = none → dx ≠ x → sp (.ref x :: gV vs zs) (upd (upd H2 dx (.own x)) x (.ins C dx [])) (fun v H3 => v = .non ∧ Q (.ref x) H3) (Ez σ)
section
variable {X : Cx} {CX : CXT} {k : Nat} {f C : Addr} {fd : FuncData} {ps ks : List Str} {sp : Sp} {Ez : St → XK} {x : Str} {p pos : Pos} {e : Expr} {es : List Expr} {kws : List Keyword} {t tk : TA} {na : Nat} {g : List Value → List Value → List Value} {gV : List V → List V → List V}
theorem run_makeS {pins : List (Addr × Obj)} {σ : St} {H : Hp} {s : Shared} {Q : VK} {us ws : List Value} {vs zs : List V} (M : Mk X.K C f) (F : FnOk X.prog X.w X.K X.mg X.base CX k f fd ps sp) (hr : Room (k + 1) X.A) (hb : MkBinds X.K fd ps ks na g gV)
    (hx : PassesS CX X Ez) (I : Inv X pins σ H s) (r : Vals vs us) (rz : Vals zs ws) (hna : vs.length = na) (hnk : zs.length = ks.length)
    (h : ∀ x dx, H x = none → H dx = none → dx ≠ x → sp (.ref x :: gV vs zs) (upd (upd H dx (.own x)) x (.ins C dx [])) (fun v H2 => v = .non ∧ Q (.ref x) H2) (Ez σ)) :
    wpAny (model X.prog X.w) X.A (call (.ref C) us (ks.zip ws)) (EP X pins σ Q) X.xe s := by
  have hq := h (s.heap.objs.size + 1) s.heap.objs.size (I.hok.fresh (Nat.le_succ _)) (I.hok.fresh (Nat.le_refl _)) (Nat.ne_of_lt (Nat.lt_succ_self _))
  have I2 := Inv.made (C := C) I
  have r2 : Vals (V.ref (s.heap.objs.size + 1) :: gV vs zs) (Value.ref (s.heap.objs.size + 1) :: g us ws) := .cons rfl (hb.rel r rz)
  obtain ⟨hto, hl⟩ := hb.to { s with heap := (s.heap.push PySem.W.emptyDict).push (PySem.W.instObj C s.heap.objs.size) } (Value.ref (s.heap.objs.size + 1)) us ws I2.kIn (by rw [← r.length]; exact hna) (by rw [← rz.length]; exact hnk)
  refine wpAny_call (make_map (f := f) I.kIn M.makes M.init (beq_iff_eq.mp M.fn) (codeAny_mono (F.run _ X.stack _ _ ⟨Value.ref (s.heap.objs.size + 1) :: us, ks.zip ws⟩ (Value.ref (s.heap.objs.size + 1) :: g us ws) _ _ (Ez σ) (hr.make C us (ks.zip ws))
    (I2.env0.make C us (ks.zip ws)) hto r2 hq) fun r s' hq' => ?_))
  cases r with
  | error e => exact hx pins σ _ _ e s' I2 hq'
  | ok fl =>
    cases fl with
    | ret u =>
      obtain ⟨v, H', I3, rv, ev, q3⟩ := I2.after hq'
      subst ev
      exact ⟨rv, ⟨V.ref (s.heap.objs.size + 1), H', I3, rfl, q3⟩⟩
    | next => exact False.elim hq'
    | brk => exact False.elim hq'
    | cont => exact False.elim hq'
theorem pe_makeS (M : Mk X.K C f) (F : FnOk X.prog X.w X.K X.mg X.base CX k f fd ps sp) (hr : Room (k + 1) X.A) (hg : Gl X x) (hm : X.mg x = some (.ref C)) (hb : MkBinds X.K fd ps ks na g gV) (hx : PassesS CX X Ez)
    (ha : PA X (e :: es) t) (hkw : PK X kws tk) (hall : (backToKw pos (keywordEach kws X.env)).all (·.1.isSome) = true := by rfl) (hks : (backToKw pos (keywordEach kws X.env)).filterMap (·.1) = ks := by rfl)
    (hdb : (x == ("__debug__" : Str)) = false := by decide) (he : starEach (e :: es) X.env = (false, eval e X.env) :: starEach es X.env := by rfl)
    (hpl : ((backTo pos (starEach (e :: es) X.env)).any (·.1) || (backToKw pos (keywordEach kws X.env)).any (·.1.isNone)) = false := by rfl) :
    PE X (.Call (.Name x p) (e :: es) kws pos) (tMakeS C sp na ks.length gV Ez t tk) := by
  unfold PE at *; unfold PA at *; unfold PK at *
  exact by
    intro pins s σ H Q I h
    refine wpAny_Call_Name_kw (ld_glob I hg hm ?_ hdb)
    refine PySem.W.callWith_KW (h₀ := X.base) I.ok.mod.kin M.kp hall (thn (ha pos pins s σ H _ I h) fun us s1 ⟨vs, H1, I1, r, q⟩ => ?_) hpl he
    refine thn (hkw pos pins s1 σ H1 _ I1 q) fun ws s2 ⟨zs, H2, I2, rz, hna, hnk, q2⟩ => ⟨I2.kIn, ?_⟩
    rw [hks]
    exact run_makeS M F hr hb hx I2 r rz hna hnk q2
end
theorem free_of {X : Cx} {scope : Scope} (l : List Str) (h : (scope.names.all fun y => match y.2 with | .free => l.contains y.1 | _ => true) = true) (hl : ∀ x ∈ l, X.env.kindOf x = some .cell ∨ X.env.kindOf x = some .free) :
    ∀ y ∈ scope.names, y.2 = .free → (X.env.kindOf y.1 = some .cell ∨ X.env.kindOf y.1 = some .free) := fun y hy e => by
  have q := List.all_eq_true.mp h y hy
  rw [e] at q
  exact hl _ (List.contains_iff_mem.mp q)
def tCut (t u : TS) : TS := fun D σ H => ∃ Mid : St → Hp → Prop, t { D with nx := Mid } σ H ∧ ∀ σ' H', Mid σ' H' → u D σ' H'
theorem pss_cut {X : Cx} {st : Stmt} {rest : List Stmt} {t u : TS} (h1 : PS X st t) (h2 : PSs X rest u) : PSs X (st :: rest) (tCut t u) := by
  unfold PS at *; unfold PSs at *
  exact by
    intro pins s σ H D I h
    obtain ⟨Mid, h, hm⟩ := h
    refine wpAny_execs_cons (thn (h1 pins s σ H { D with nx := Mid } I h) fun f s1 q => ?_)
    cases f with
    | next =>
      obtain ⟨σ', H', I', q⟩ := q
      exact h2 pins s1 σ' H' D I' (hm σ' H' q)
    | ret v => exact q
    | brk => exact q
    | cont => exact q
theorem lenS {α : Type} {n : Nat} : ∀ {us : List α}, us.length = n + 1 → ∃ a r, us = a :: r ∧ r.length = n
  | a :: r, h => ⟨a, r, rfl, by simpa using h⟩
theorem len0 {α : Type} : ∀ {us : List α}, us.length = 0 → us = []
  | [], _ => rfl
theorem fm_nil {α : Type} {p : α → Prop} : ∀ x ∈ ([] : List α), p x := fun _ h => nomatch h
theorem fm_cons {α : Type} {p : α → Prop} {a : α} {l : List α} (h : p a) (r : ∀ x ∈ l, p x) : ∀ x ∈ a :: l, p x := fun x hx => by
  rcases List.mem_cons.mp hx with e | e
  · subst e; exact h
  · exact r x e
theorem cap_of {X : Cx} {scope : Scope} {N' : List Str} {js : List (Option Nat)} (hl : js.length = N'.length)
    (h : ∀ p ∈ js.zip N', ∀ j, p.1 = some j → X.N[j]? = some p.2 ∧ scope.names.lookup p.2 = some .free ∧ (X.env.kindOf p.2 = some .cell ∨ X.env.kindOf p.2 = some .free)) : Cap X scope N' js :=
  ⟨hl, fun i j x h1 h2 => h (some j, x) (List.mem_of_getElem? (i := i) (by rw [List.getElem?_zip_eq_some]; exact ⟨h1, h2⟩)) j rfl⟩
end L2
namespace L2
open PySem PySem.Spec PyProof.Rows
section
variable {X : Cx}
end
end L2
namespace L2
open PySem PySem.Spec PyProof.Rows
section
variable {X : Cx}
end
structure CDivB (i j : Int) : Prop where
  lo : 0 < j
  hi : j < 2 ^ 200
theorem op_fdivB {X : Cx} : OpR X (binaryOp .FloorDiv) (rI CDivB fun i j => .int (i / j)) := opI fun i j _ _ _ _ _ hc q => by
  have h1 : (0 : Int) < j := hc.lo
  have h2 : j < 2 ^ 200 := hc.hi
  refine floordiv_int (by omega) (by rw [Int.fdiv_eq_ediv_of_nonneg i (by omega)]; exact q) (.inl (PyProof.noPylong_of_log2 ?_))
  have h3 : j.natAbs < 2 ^ 200 := by omega
  have h4 := (Nat.log2_lt (n := j.natAbs) (k := 200) (by omega)).mpr h3
  omega
theorem own_def {P : Program} {w : World} {K : PySem.W.Frag} {mg : Str → Option Value} {base : Heap} {N : List Str} {qual : Str} {scope : Scope} {f : Addr} {cd : Value} {A : Around} {outer : List Env} {s₀ : Shared} {H₀ : Hp} {E : XK} {CX : CXT} :
    PassesOwn (model P w) (cxOf CX P w K mg base N qual scope f cd A outer s₀ H₀ E).A (cxOf CX P w K mg base N qual scope f cd A outer s₀ H₀ E).env (cxOf CX P w K mg base N qual scope f cd A outer s₀ H₀ E).xe := PassesOwn.leaving
theorem MtM.r {X : Cx} {id : String} {r : V → List V → Hp → VK → Prop} (h : MtM X id r) : MtR X id r := by
  first
  | exact (h)
  | (unfold MtR at *; unfold MtM at *; exact (h))
end L2
namespace L2
open PySem PySem.Spec PyProof.Rows
theorem loop_lst {K : PySem.W.Frag} {a l : Addr} {xs : List V} {g : TG} {tc : TT} {te : TE} {σ : St} {H : Hp} {Q : VK} (Pv : Nat → St → List V → Hp → Prop) (hsz : xs.length ≤ sizeLine) (h0 : Pv 0 σ [] H)
    (hl : ∀ i σ acc H, i ≤ xs.length → Pv i σ acc H → H l = some (.lst acc) ∧ SqL K H a xs ∧ acc.length ≤ i)
    (hs : ∀ i x σ acc H, xs[i]? = some x → Pv i σ acc H → g x σ H fun σ2 H2 => tc σ2 H2 fun b H3 => if b = true then
      te σ2 H3 fun v H4 => H4 l = some (.lst acc) ∧ Nx xs.length i (Pv (i + 1) σ2 (acc ++ [v]) (upd H4 l (.lst (acc ++ [v])))) else Nx xs.length i (Pv (i + 1) σ2 acc H3))
    (hd : ∀ σ acc H, Pv xs.length σ acc H → Q (.ref l) H) : tLoop (Itl K a) l g tc te σ H Q :=
  loop_by xs.length Pv hsz h0 (fun i σ acc H hi p => ⟨(hl i σ acc H hi p).1, (hl i σ acc H hi p).2.2⟩)
    (fun i σ acc H hi p => ⟨xs, xs[i], (hl i σ acc H (Nat.le_of_lt hi) p).2.1, List.getElem?_eq_getElem hi⟩)
    (fun i x σ acc H H' hi p y => by
      obtain ⟨e, y⟩ := y
      subst e
      exact hs i x σ acc _ (y xs (hl i σ acc _ (Nat.le_of_lt hi) p).2.1) p)
    (fun σ acc H p => ⟨⟨xs, (hl _ σ acc H (Nat.le_refl _) p).2.1, Nat.le_refl _⟩, hd σ acc H p⟩)
def Tr : Nat → Type
  | 0 => Int
  | n + 1 => List (Tr n)
abbrev ls {n : Nat} (ts : Tr (n + 1)) : List (Tr n) := ts
abbrev Ow := Addr → Option (List Nat)
def AtR (H : Hp) : (n : Nat) → V → Tr n → Prop
  | 0, v, i => v = .int i
  | n + 1, v, ts => ∃ a vs, v = .ref a ∧ H a = some (.lst vs) ∧ vs.length = (ls ts).length ∧ ∀ (j : Nat) w t, vs[j]? = some w → (ls ts)[j]? = some t → AtR H n w t
def At (o : Ow) (H : Hp) : (n : Nat) → List Nat → V → Tr n → Prop
  | 0, _, v, i => v = .int i
  | n + 1, p, v, ts => ∃ a vs, v = .ref a ∧ o a = some p ∧ H a = some (.lst vs) ∧ vs.length = (ls ts).length ∧ ∀ (j : Nat) w t, vs[j]? = some w → (ls ts)[j]? = some t → At o H n (j :: p) w t
theorem At.r {o : Ow} {H : Hp} : ∀ {n : Nat} {p : List Nat} {v : V} {t : Tr n}, At o H n p v t → AtR H n v t
  | 0, _, _, _, h => h
  | n + 1, _, _, _, ⟨a, vs, e, _, h, l, k⟩ => ⟨a, vs, e, h, l, fun j w t hw ht => (k j w t hw ht).r⟩
theorem AtR.keep {H H' : Hp} (s : ∀ a xs, H a = some (.lst xs) → H' a = some (.lst xs)) : ∀ {n : Nat} {v : V} {t : Tr n}, AtR H n v t → AtR H' n v t
  | 0, _, _, h => h
  | n + 1, _, _, ⟨a, vs, e, h, l, k⟩ => ⟨a, vs, e, s _ _ h, l, fun j w t hw ht => (k j w t hw ht).keep s⟩
theorem AtR.same {H H' : Hp} (s : Same H H') {n : Nat} {v : V} {t : Tr n} (h : AtR H n v t) : AtR H' n v t := h.keep fun a xs e => s a _ e
theorem At.frame {o o' : Ow} {H H' : Hp} : ∀ {n : Nat} {p : List Nat} {v : V} {t : Tr n}, At o H n p v t → (∀ a r xs, o a = some r → p <:+ r → H a = some (.lst xs) → H' a = some (.lst xs) ∧ o' a = some r) → At o' H' n p v t
  | 0, _, _, _, h, _ => h
  | n + 1, p, _, _, ⟨a, vs, e, ho, h, l, k⟩, f =>
    have q := f a p vs ho (List.suffix_refl p) h
    ⟨a, vs, e, q.2, q.1, l, fun j w t hw ht => (k j w t hw ht).frame fun b r xs hb hs hx => f b r xs hb ((List.suffix_cons j p).trans hs) hx⟩
theorem At.under {o : Ow} {H : Hp} (q : List Nat) : ∀ {n : Nat} {p : List Nat} {v : V} {t : Tr n}, At o H n p v t → At (fun a => (o a).map (· ++ q)) H n (p ++ q) v t
  | 0, _, _, _, h => h
  | n + 1, p, _, _, ⟨a, vs, e, ho, h, l, k⟩ => ⟨a, vs, e, (by show (o a).map (· ++ q) = _; rw [ho]; rfl), h, l, fun j w t hw ht => (k j w t hw ht).under q⟩
theorem cons_not_suffix {j : Nat} {p : List Nat} : ¬ (j :: p) <:+ p := fun h => by
  have := h.length_le
  rw [List.length_cons] at this
  omega
theorem cons_ne_suffix {j i : Nat} {p r : List Nat} (h : (j :: p) <:+ r) (h' : (i :: p) <:+ r) : j = i := by
  have e1 : (j :: p) = r.drop (r.length - (j :: p).length) := List.suffix_iff_eq_drop.mp h
  have e2 : (i :: p) = r.drop (r.length - (i :: p).length) := List.suffix_iff_eq_drop.mp h'
  rw [List.length_cons] at e1 e2
  rw [← e2] at e1
  exact (List.cons.inj e1).1
theorem At.app {o o' : Ow} {H H' : Hp} {n : Nat} {p : List Nat} {a : Addr} {ts : Tr (n + 1)} {vs : List V} {w : V} {t : Tr n} (h : At o H (n + 1) p (.ref a) ts) (hv : H a = some (.lst vs)) (hf : ∀ b r xs, o b = some r → b ≠ a → H b = some (.lst xs) → H' b = some (.lst xs))
    (ho : ∀ b r, o b = some r → o' b = some r) (e : H' a = some (.lst (vs ++ [w]))) (hw : At o' H' n ((ls ts).length :: p) w t) : At o' H' (n + 1) p (.ref a) (ls ts ++ [t] : List (Tr n)) := by
  obtain ⟨a', vs', ea, ho', h', l, k⟩ := h
  cases ea
  rw [hv] at h'
  cases h'
  refine ⟨a, _, rfl, ho _ _ ho', e, by show (vs ++ [w]).length = (ls ts ++ [t]).length; rw [List.length_append, List.length_append, l]; rfl, fun j x u hx hu => ?_⟩
  have hu : (ls ts ++ [t])[j]? = some u := hu
  rcases Nat.lt_trichotomy j vs.length with q | q | q
  · rw [List.getElem?_append_left q] at hx
    rw [List.getElem?_append_left (by omega)] at hu
    refine (k j x u hx hu).frame fun b r xs hb hs hx => ?_
    have hne : b ≠ a := fun z => by
      subst z
      rw [ho'] at hb
      cases hb
      exact cons_not_suffix hs
    exact ⟨hf b r xs hb hne hx, ho b r hb⟩
  · subst q
    rw [List.getElem?_append_right (Nat.le_refl _), Nat.sub_self] at hx
    rw [List.getElem?_append_right (by omega), show vs.length - (ls ts).length = 0 by omega] at hu
    cases hx
    cases hu
    rw [l]
    exact hw
  · rw [List.getElem?_append_right (by omega)] at hx
    have : [w].length ≤ j - vs.length := by rw [List.length_singleton]; omega
    rw [List.getElem?_eq_none this] at hx
    cases hx
theorem At.put {o o' : Ow} {H H' : Hp} {n : Nat} {p : List Nat} {a : Addr} {ts : Tr (n + 1)} {vs : List V} {i : Nat} {w : V} {t : Tr n} (h : At o H (n + 1) p (.ref a) ts) (hv : H a = some (.lst vs)) (hi : i < vs.length)
    (hf : ∀ b r xs, o b = some r → b ≠ a → ¬ (i :: p) <:+ r → H b = some (.lst xs) → H' b = some (.lst xs)) (ho : ∀ b r, o b = some r → ¬ (i :: p) <:+ r → o' b = some r)
    (e : H' a = some (.lst (vs.set i w))) (hw : At o' H' n (i :: p) w t) : At o' H' (n + 1) p (.ref a) ((ls ts).set i t : List (Tr n)) := by
  obtain ⟨a', vs', ea, ho', h', l, k⟩ := h
  cases ea
  rw [hv] at h'
  cases h'
  refine ⟨a, _, rfl, ho _ _ ho' cons_not_suffix, e, by show (vs.set i w).length = ((ls ts).set i t).length; rw [List.length_set, List.length_set, l], fun j x u hx hu => ?_⟩
  have hu : ((ls ts).set i t)[j]? = some u := hu
  by_cases q : i = j
  · subst q
    rw [List.getElem?_set_self (by omega)] at hx
    rw [List.getElem?_set_self (by omega)] at hu
    cases hx
    cases hu
    exact hw
  · rw [List.getElem?_set_ne q] at hx hu
    refine (k j x u hx hu).frame fun b r xs hb hs hx => ?_
    have hne : b ≠ a := fun z => by
      subst z
      rw [ho'] at hb
      cases hb
      exact cons_not_suffix hs
    have hni : ¬ (i :: p) <:+ r := fun z => q (cons_ne_suffix z hs)
    exact ⟨hf b r xs hb hne hni hx, ho b r hb hni⟩
theorem At.lst {o : Ow} {H : Hp} {n : Nat} {p : List Nat} {v : V} {ts : Tr (n + 1)} (h : At o H (n + 1) p v ts) : ∃ a vs, v = .ref a ∧ o a = some p ∧ H a = some (.lst vs) ∧ vs.length = (ls ts).length :=
  let ⟨a, vs, e, ho, h, l, _⟩ := h
  ⟨a, vs, e, ho, h, l⟩
theorem AtR.lst {H : Hp} {n : Nat} {v : V} {ts : Tr (n + 1)} (h : AtR H (n + 1) v ts) : ∃ a vs, v = .ref a ∧ H a = some (.lst vs) ∧ vs.length = (ls ts).length :=
  let ⟨a, vs, e, h, l, _⟩ := h
  ⟨a, vs, e, h, l⟩
def New (H H' : Hp) (n : Nat) (w : V) (t : Tr n) : Prop := ∃ o, At o H' n [] w t ∧ ∀ a r, o a = some r → H a = none ∧ H' a ≠ none
def NewL (H H' : Hp) (l : Addr) (n : Nat) (ws : List V) (ts : List (Tr n)) : Prop :=
  ws.length = ts.length ∧ ∃ o : Ow, (∀ (j : Nat) w t, ws[j]? = some w → ts[j]? = some t → At o H' n [j] w t) ∧ ∀ a r, o a = some r → H a = none ∧ H' a ≠ none ∧ a ≠ l ∧ r ≠ []
theorem New.r {H H' : Hp} {n : Nat} {w : V} {t : Tr n} (h : New H H' n w t) : AtR H' n w t := let ⟨_, h, _⟩ := h; h.r
theorem NewL.nil {H H' : Hp} {l : Addr} {n : Nat} : NewL H H' l n [] [] := ⟨rfl, fun _ => none, fun j w t h => (by rw [List.getElem?_nil] at h; cases h), fun a r h => nomatch h⟩
theorem NewL.frame {H H' H'' : Hp} {l : Addr} {n : Nat} {ws : List V} {ts : List (Tr n)} (h : NewL H H' l n ws ts) (f : ∀ a xs, a ≠ l → H a = none → H' a = some (.lst xs) → H'' a = some (.lst xs)) (g : ∀ a, H' a ≠ none → H'' a ≠ none) : NewL H H'' l n ws ts := by
  obtain ⟨e, o, k, d⟩ := h
  exact ⟨e, o, fun j w t hw ht => (k j w t hw ht).frame fun a r xs ho _ hx => ⟨f a xs (d a r ho).2.2.1 (d a r ho).1 hx, ho⟩, fun a r ho => ⟨(d a r ho).1, g a (d a r ho).2.1, (d a r ho).2.2⟩⟩
theorem New.frame {H H' H'' : Hp} {n : Nat} {w : V} {t : Tr n} (h : New H H' n w t) (f : ∀ a xs, H a = none → H' a = some (.lst xs) → H'' a = some (.lst xs)) (g : ∀ a, H' a ≠ none → H'' a ≠ none) : New H H'' n w t := by
  obtain ⟨o, k, d⟩ := h
  exact ⟨o, k.frame fun a r xs ho _ hx => ⟨f a xs (d a r ho).1 hx, ho⟩, fun a r ho => ⟨(d a r ho).1, g a (d a r ho).2⟩⟩
theorem New.same {H H' H'' : Hp} {n : Nat} {w : V} {t : Tr n} (h : New H H' n w t) (s : Same H' H'') : New H H'' n w t := h.frame (fun a xs _ e => s a _ e) fun a e => by
  cases q : H' a with
  | none => exact absurd q e
  | some u => rw [s a u q]; intro z; cases z
theorem New.int {H H' : Hp} {i : Int} : New H H' 0 (.int i) i := ⟨fun _ => none, rfl, fun a r h => nomatch h⟩
theorem NewL.snoc {H H' H'' : Hp} {l : Addr} {n : Nat} {ws : List V} {ts : List (Tr n)} {w : V} {t : Tr n} (h : NewL H H' l n ws ts) (hl : H' l ≠ none) (fr : ∀ a, H' a = none → H a = none) (f : ∀ a xs, a ≠ l → H a = none → H' a = some (.lst xs) → H'' a = some (.lst xs)) (g : ∀ a, H' a ≠ none → H'' a ≠ none)
    (hn : New H' H'' n w t) : NewL H H'' l n (ws ++ [w]) (ts ++ [t]) := by
  obtain ⟨e, o, k, d⟩ := h
  obtain ⟨o2, k2, d2⟩ := hn
  have old : ∀ a r, o a = some r → o2 a = none := fun a r ho => by
    cases q : o2 a with
    | none => rfl
    | some r2 => exact absurd (d2 a r2 q).1 (d a r ho).2.1
  refine ⟨by rw [List.length_append, List.length_append, e]; rfl, fun a => match o2 a with | some r => some (r ++ [ws.length]) | none => o a, fun j x u hx hu => ?_, fun a r hr => ?_⟩
  · rcases Nat.lt_trichotomy j ws.length with q | q | q
    · rw [List.getElem?_append_left q] at hx
      rw [List.getElem?_append_left (by omega)] at hu
      refine (k j x u hx hu).frame fun a r xs ho _ hx => ⟨f a xs (d a r ho).2.2.1 (d a r ho).1 hx, ?_⟩
      show (match o2 a with | some r => some (r ++ [ws.length]) | none => o a) = some r
      rw [old a r ho]
      exact ho
    · subst q
      rw [List.getElem?_append_right (Nat.le_refl _), Nat.sub_self] at hx
      rw [List.getElem?_append_right (by omega), show ws.length - ts.length = 0 by omega] at hu
      cases hx
      cases hu
      refine (k2.under [ws.length]).frame fun a r xs ho _ hx => ⟨hx, ?_⟩
      show (match o2 a with | some r => some (r ++ [ws.length]) | none => o a) = some r
      cases q : o2 a with
      | none => rw [q] at ho; cases ho
      | some r2 => rw [q] at ho; exact ho
    · rw [List.getElem?_append_right (by omega)] at hx
      have : [w].length ≤ j - ws.length := by rw [List.length_singleton]; omega
      rw [List.getElem?_eq_none this] at hx
      cases hx
  · have hr : (match o2 a with | some r => some (r ++ [ws.length]) | none => o a) = some r := hr
    cases q : o2 a with
    | none =>
      rw [q] at hr
      exact ⟨(d a r hr).1, g a (d a r hr).2.1, (d a r hr).2.2⟩
    | some r2 =>
      rw [q] at hr
      cases hr
      refine ⟨fr a (d2 a r2 q).1, (d2 a r2 q).2, fun z => ?_, fun z => ?_⟩
      · subst z
        exact hl (d2 a r2 q).1
      · have := congrArg List.length z
        rw [List.length_append] at this
        simp at this
theorem NewL.done {H H' : Hp} {l : Addr} {n : Nat} {ws : List V} {ts : List (Tr n)} (h : NewL H H' l n ws ts) (hl : H l = none) (e : H' l = some (.lst ws)) : New H H' (n + 1) (.ref l) ts := by
  obtain ⟨el, o, k, d⟩ := h
  have nl : o l = none := by
    cases q : o l with
    | none => rfl
    | some r => exact absurd rfl (d l r q).2.2.1
  refine ⟨fun a => if a = l then some [] else o a, ⟨l, ws, rfl, if_pos rfl, e, el, fun j w t hw ht => (k j w t hw ht).frame fun a r xs ho _ hx => ⟨hx, ?_⟩⟩, fun a r hr => ?_⟩
  · show (if a = l then some [] else o a) = some r
    rw [if_neg (d a r ho).2.2.1]
    exact ho
  · have hr : (if a = l then some [] else o a) = some r := hr
    by_cases q : a = l
    · subst q
      exact ⟨hl, by rw [e]; intro z; cases z⟩
    · rw [if_neg q] at hr
      exact ⟨(d a r hr).1, (d a r hr).2.1⟩
def flat : (n : Nat) → Tr n → List Int
  | 0, i => [i]
  | n + 1, ts => (ls ts).flatMap (flat n)
def full : (n : Nat) → Tr n → Prop
  | 0, _ => True
  | n + 1, ts => ls ts ≠ [] ∧ ∀ t ∈ ls ts, full n t
theorem rIsiA.ty {K : PySem.W.Frag} {H : Hp} {x : V} {n c : String} {b : Bool} {Q : VK} (t : TyOf K H x (.type n)) (k : PySem.W.kitOne K (.type n) (.type c) = some b) (q : Q (.bl b) H) : rIsiA K [x, .ty c] H Q := .inl ⟨x, .ty c, _, _, _, rfl, .ty c, t, k, q⟩
def Dom (o : Ow) (H : Hp) : Prop := ∀ b r, o b = some r → H b ≠ none
structure Ext (o o' : Ow) (H H1 : Hp) : Prop where
  old : ∀ b, H b ≠ none → o' b = o b
  new : ∀ b r, o' b = some r → H b = none → H1 b ≠ none
def ovr (H : Hp) (o oN : Ow) (q : List Nat) : Ow := fun b => match H b with | none => (oN b).map (· ++ q) | some _ => o b
theorem New.put {o : Ow} {H H1 : Hp} {n : Nat} {w : V} {t : Tr n} (nw : New H H1 n w t) (q : List Nat) : ∃ o', Ext o o' H H1 ∧ ∀ H2, (∀ b xs, H b = none → H1 b = some (.lst xs) → H2 b = some (.lst xs)) → At o' H2 n q w t := by
  obtain ⟨oN, k, d⟩ := nw
  refine ⟨ovr H o oN q, ⟨fun b hb => ?_, fun b r hr hb => ?_⟩, fun H2 f => ?_⟩
  · unfold ovr
    cases e : H b with
    | none => exact absurd e hb
    | some u => rfl
  · unfold ovr at hr
    rw [hb] at hr
    cases e : oN b with
    | none =>
      have hr : (oN b).map (· ++ q) = some r := hr
      rw [e] at hr
      cases hr
    | some r' => exact (d b r' e).2
  · refine (k.under q).frame fun b r xs hr _ hx => ?_
    have hr : (oN b).map (· ++ q) = some r := hr
    cases e : oN b with
    | none => rw [e] at hr; cases hr
    | some r' =>
      refine ⟨f b xs (d b r' e).1 hx, ?_⟩
      unfold ovr
      rw [(d b r' e).1]
      exact hr
theorem Ext.after {o o' : Ow} {H H1 : Hp} {c : Addr} {u : HO} (x : Ext o o' H H1) (dm : Dom o H) (s : Same H H1) : Dom o' (upd H1 c u) := fun b r hr => by
  by_cases q : b = c
  · rw [q, upd_same]; intro z; cases z
  · rw [upd_ne q]
    cases e : H b with
    | none => exact x.new b r hr e
    | some v => rw [s b v e]; intro z; cases z
end L2
namespace L2
open PySem PySem.Spec PyProof.Rows
def Itz (K : PySem.W.Frag) (a b : Addr) : It :=
  ⟨fun i H => ∃ xs ys x y, SqL K H a xs ∧ SqL K H b ys ∧ xs[i]? = some x ∧ ys[i]? = some y,
   fun i H v H' => ∃ T x y, v = .ref T ∧ H T = none ∧ H' = upd H T (.tup [x, y]) ∧ (∀ xs, SqL K H a xs → xs[i]? = some x) ∧ ∀ ys, SqL K H b ys → ys[i]? = some y,
   fun i H => ∃ xs ys, SqL K H a xs ∧ SqL K H b ys ∧ min xs.length ys.length = i⟩
theorem turn_zip {P : Program} {w : World} {K : PySem.W.Frag} {es : List Expr} {k : Nat} {pos : Pos} (a b z TI TO i1 i2 : Addr) (D : ZipApart z TI TO i1 i2 a b) :
    Turn P w K (.Tuple es k pos) (Itz K a b) [z, TI, TO, i1, i2] z (fun i h => IsZip h z TI TO .none ∧ IsPair h TI (.ref i1) (.ref i2) ∧ (∃ x y, IsPair h TO x y) ∧ h.IsListIter i1 a i ∧ h.IsListIter i2 b i) where
  mem := by simp
  obj := fun i h st c hc => by
    obtain ⟨hz, hTI, ⟨x, y, hTO⟩, ⟨o1, ho1, hc1, hd1⟩, o2, ho2, hc2, hd2⟩ := st
    simp only [List.mem_cons, List.not_mem_nil, or_false] at hc
    rcases hc with rfl | rfl | rfl | rfl | rfl
    · exact ⟨_, hz, fun v z => by cases z⟩
    · exact ⟨_, hTI, fun v z => by cases z⟩
    · exact ⟨_, hTO, fun v z => by cases z⟩
    · exact ⟨o1, ho1, fun v z => by rw [hd1] at z; cases z⟩
    · exact ⟨o2, ho2, fun v z => by rw [hd2] at z; cases z⟩
  keep := fun i h h' st k => by
    obtain ⟨hz, hTI, ⟨x, y, hTO⟩, h1, h2⟩ := st
    exact ⟨k z (by simp) _ hz, k TI (by simp) _ hTI, ⟨x, y, k TO (by simp) _ hTO⟩, h1.at fun o e => k i1 (by simp) o e, h2.at fun o e => k i2 (by simp) o e⟩
  item := by
    intro X hP hw hK hc i pins s σ H E I hf st hg
    subst hP hw hK
    obtain ⟨xs, ys, x, y, hq1, hq2, hx, hy⟩ := hg
    obtain ⟨its1, rv1, p1, _⟩ := I.list hq1
    obtain ⟨its2, rv2, p2, _⟩ := I.list hq2
    obtain ⟨u1, hu1, ru1⟩ := rv1.get hx
    obtain ⟨u2, hu2, ru2⟩ := rv2.get hy
    obtain ⟨hz, hTI, hTO, h1, h2⟩ := st
    have hlt : i < min its1.toArray.size its2.toArray.size := by
      obtain ⟨l1, _⟩ := List.getElem?_eq_some_iff.mp hu1
      obtain ⟨l2, _⟩ := List.getElem?_eq_some_iff.mp hu2
      simp only [List.size_toArray]
      omega
    have W := WalksT.zip2 (prog := X.prog) (w := X.w) (I.ok.hd hc) z TI TO i1 i2 a b D its1.toArray its2.toArray
    refine W.item i s _ _ hlt ⟨hz, hTI, hTO, h1, h2, p1.isList, p2.isList⟩ fun T vals h1 tk hp hT hIs hm hk => ?_
    obtain ⟨v1, v2, e1, e2, rfl⟩ := hp
    have ey1 : v1 = u1 := by
      have : its1.toArray[i]? = some u1 := by simpa using hu1
      rw [this] at e1
      exact (Option.some.inj e1).symm
    have ey2 : v2 = u2 := by
      have : its2.toArray[i]? = some u2 := by simpa using hu2
      rw [this] at e2
      exact (Option.some.inj e2).symm
    subst ey1 ey2
    refine ⟨_, rfl, W.go es k pos i T _ _ _ hm fun h2 st2 hk2 => ?_⟩
    have hTn : H T = none := I.hok.fresh hT
    have hap := W.apart i T h1 hm
    have hwf : ∀ c ∈ [z, TO, i1, i2], FpOk X pins H c := fun c hc => hf c (by simp only [List.mem_cons, List.not_mem_nil, or_false] at hc ⊢; rcases hc with q | q | q | q <;> simp [q])
    have I1 : Inv X pins σ H { s with heap := h2, toks := tk } := I.turns (t' := tk) (fun c o hc e => hk2 c o hc (hk c o hc e)) hwf
    have hT2 : h2.IsTuple T #[v1, v2] := by
      obtain ⟨o, ho, r⟩ := hIs
      exact ⟨o, hk2 T o hap ho, r⟩
    have hs0 : X.s₀.heap.objs.size ≤ T := Nat.le_trans I.sz hT
    have nTI : T ≠ TI := fun q => by
      subst q
      exact absurd (Nat.lt_of_lt_of_le (Heap.lt_size hTI) hT) (Nat.lt_irrefl _)
    have fT : ∀ c ∈ [z, TI, TO, i1, i2], upd H T (.tup [x, y]) c = none := fun c hc => by
      rw [upd_ne (fun q => ?_)]
      · exact (hf c hc).1
      · simp only [List.mem_cons, List.not_mem_nil, or_false] at hc
        rcases hc with rfl | rfl | rfl | rfl | rfl
        · exact hap (by simp [← q])
        · exact nTI q.symm
        · exact hap (by simp [← q])
        · exact hap (by simp [← q])
        · exact hap (by simp [← q])
    have I2 : Inv X pins σ (upd H T (.tup [x, y])) { s with heap := h2, toks := tk } := by
      refine I1.adopt hTn (Heap.get?_none_of_le hs0) (Nat.ne_of_gt (Nat.lt_of_lt_of_le I.lt hT)) (fun z c e q => ?_) (fun p hp q => ?_) ⟨le_ble rfl, [v1, v2], .cons ru1 (.cons ru2 .nil), hT2⟩
      · obtain ⟨v, q1⟩ := I.cell z c e
        exact absurd (Nat.lt_of_lt_of_le q1.lt (by rw [q]; exact hT)) (Nat.lt_irrefl _)
      · exact absurd (Nat.lt_of_lt_of_le (Heap.lt_size (I.pin p hp).1) (by rw [q]; exact hT)) (Nat.lt_irrefl _)
    exact ⟨.ref T, _, I2, rfl, ⟨T, x, y, rfl, hTn, rfl, fun us hu => by rw [I.list_inj hu hq1]; exact hx, fun us hu => by rw [I.list_inj hu hq2]; exact hy⟩, ⟨st2.1, st2.2.1, st2.2.2.1, st2.2.2.2.1, st2.2.2.2.2.1⟩, fT⟩
  done := by
    intro X hP hw hK hc i pins s σ H E I hf st hg
    subst hP hw hK
    obtain ⟨xs, ys, hq1, hq2, hm⟩ := hg
    obtain ⟨its1, rv1, p1, _⟩ := I.list hq1
    obtain ⟨its2, rv2, p2, _⟩ := I.list hq2
    obtain ⟨hz, hTI, hTO, h1, h2⟩ := st
    have W := WalksT.zip2 (prog := X.prog) (w := X.w) (I.ok.hd hc) z TI TO i1 i2 a b D its1.toArray its2.toArray
    have en : min its1.toArray.size its2.toArray.size = i := by
      simp only [List.size_toArray]
      rw [← rv1.length, ← rv2.length]
      exact hm
    refine W.done s _ _ (by rw [en]; exact ⟨hz, hTI, hTO, h1, h2, p1.isList, p2.isList⟩) fun h' tk hk => ⟨rfl, ?_⟩
    exact I.turns (t' := tk) (wr := [z, TO, i1, i2]) hk fun c hc => hf c (by simp only [List.mem_cons, List.not_mem_nil, or_false] at hc ⊢; rcases hc with q | q | q | q <;> simp [q])
  self := fun A i s Q E st h => wpAny_pyIter_zip st.1 h
theorem bt_zip : bootBuiltins "zip" = some (.type "zip") := by decide +kernel
def iZip (K : PySem.W.Frag) (ta : TA) : TI := fun σ H R => ta σ H fun vs H1 => ∃ a b, vs = [.ref a, .ref b] ∧ (∃ xs, SqL K H1 a xs) ∧ (∃ ys, SqL K H1 b ys) ∧ R (Itz K a b) H1
theorem pi_zip {X : Cx} {es : List Expr} {k : Nat} {tpos p pos : Pos} {a b : Expr} {ta : TA} (hg : Gl X "zip") (hm : X.mg "zip" = none) (ha : PA X [a, b] ta)
    (hs : starEach [a, b] X.env = [(false, eval a X.env), (false, eval b X.env)] := by rfl) (hs2 : starEach [b] X.env = [(false, eval b X.env)] := by rfl) : PI X (.Tuple es k tpos) (.Call (.Name "zip" p) [a, b] [] pos) (iZip X.K ta) := by
  unfold PA at *; unfold PI at *
  exact by
    intro pins s σ H R I h
    refine wpAny_Call_Name_kw (ld_blt I hg hm bt_zip ?_ (by decide) (by decide))
    refine PyProof.Rows.callWith_type1 (thn (ha pos pins s σ H _ I h) fun us s1 ⟨vs, H1, I1, r, q⟩ => ?_) (by rw [hs, hs2]) (by rw [hs2]; rfl)
    obtain ⟨c, d, rfl, ⟨xs, hq1⟩, ⟨ys, hq2⟩, q⟩ := q
    obtain ⟨u1, u2, rfl, ru1, ru2⟩ : ∃ u1 u2, us = [u1, u2] ∧ RelV (.ref c) u1 ∧ RelV (.ref d) u2 := by
      cases r with
      | cons h1 r => cases r with
        | cons h2 r => cases r; exact ⟨_, _, rfl, h1, h2⟩
    cases ru1
    cases ru2
    obtain ⟨its1, rv1, p1, _⟩ := I1.list hq1
    obtain ⟨its2, rv2, p2, _⟩ := I1.list hq2
    refine call_zip_2 p1.isList p2.isList fun h' hz hTI hTO hi1 hi2 hsz hk => ?_
    refine wpAny_pyIter_zip hz ?_
    have l1 : c < s1.heap.objs.size := by obtain ⟨o, ho, _⟩ := p1.isList; exact Heap.lt_size ho
    have l2 : d < s1.heap.objs.size := by obtain ⟨o, ho, _⟩ := p2.isList; exact Heap.lt_size ho
    have I2 : Inv X pins σ H1 { s1 with heap := h' } := I1.kept (t' := s1.toks) hk
    refine ⟨_, [s1.heap.objs.size + 4, s1.heap.objs.size + 2, s1.heap.objs.size + 3, s1.heap.objs.size, s1.heap.objs.size + 1], _, _, H1, rfl, I2, turn_zip c d _ _ _ _ _ (zipApart_new l1 l2), ⟨hz, hTI, ⟨_, _, hTO⟩, hi1, hi2⟩, fun e he => ?_, q⟩
    have hle : s1.heap.objs.size ≤ e := by
      simp only [List.mem_cons, List.not_mem_nil, or_false] at he
      rcases he with rfl | rfl | rfl | rfl | rfl
      · exact Nat.le_add_right _ 4
      · exact Nat.le_add_right _ 2
      · exact Nat.le_add_right _ 3
      · exact Nat.le_refl _
      · exact Nat.le_add_right _ 1
    exact I1.fpOk hle (I1.hok.fresh hle)
theorem for_zip {K : PySem.W.Frag} {a b : Addr} {xs ys : List V} {g : TG} {tb : TS} {D : Ends} {σ : St} {H : Hp} (Pv : Nat → St → Hp → Prop) (h0 : Pv 0 σ H) (hl : ∀ i σ H, i ≤ min xs.length ys.length → Pv i σ H → SqL K H a xs ∧ SqL K H b ys)
    (hs : ∀ (i : Nat) x y T σ H, xs[i]? = some x → ys[i]? = some y → Pv i σ H → H T = none → g (.ref T) σ (upd H T (.tup [x, y])) fun σ2 H2 => tb { D with nx := Pv (i + 1), ct := Pv (i + 1), bk := D.nx } σ2 H2) (hd : ∀ σ H, Pv (min xs.length ys.length) σ H → D.nx σ H) :
    ∃ W : Nat → Nat → St → Hp → Prop, (∃ m, W 0 m σ H) ∧ ∀ i m σ H, W i m σ H →
      ((Itz K a b).stop i H ∧ D.nx σ H) ∨ ((Itz K a b).go i H ∧ ∃ N : St → Hp → Prop, (∀ σ' H', N σ' H' → ∃ m', m' < m ∧ W (i + 1) m' σ' H') ∧ ∀ v H', (Itz K a b).yld i H v H' → g v σ H' fun σ2 H2 => tb { D with nx := N, ct := N, bk := D.nx } σ2 H2) := by
  refine ⟨fun i m σ H => m = min xs.length ys.length - i ∧ i ≤ min xs.length ys.length ∧ Pv i σ H, ⟨min xs.length ys.length, by simp, Nat.zero_le _, h0⟩, ?_⟩
  rintro i m σ H ⟨rfl, hi, p⟩
  obtain ⟨q1, q2⟩ := hl i σ H hi p
  by_cases hlt : i < min xs.length ys.length
  · have l1 : i < xs.length := by omega
    have l2 : i < ys.length := by omega
    refine .inr ⟨⟨xs, ys, xs[i], ys[i], q1, q2, List.getElem?_eq_getElem l1, List.getElem?_eq_getElem l2⟩, Pv (i + 1), fun σ' H' p' => ⟨min xs.length ys.length - (i + 1), by omega, rfl, hlt, p'⟩, fun v H' y => ?_⟩
    obtain ⟨T, x, y, rfl, hT, rfl, e1, e2⟩ := y
    exact hs i x y T σ H (e1 xs q1) (e2 ys q2) p hT
  · have e : i = min xs.length ys.length := by omega
    subst e
    exact .inl ⟨⟨xs, ys, q1, q2, rfl⟩, hd σ H p⟩
def rCatT1 (K : PySem.W.Frag) : R2 := fun x y H Q => ∃ a b xs ys, x = .ref a ∧ y = .ref b ∧ SqT K H a xs ∧ SqT K H b ys ∧ ys ≠ [] ∧ xs.length + ys.length ≤ sizeLine ∧
  (xs = [] → Q (.ref b) H) ∧ (xs ≠ [] → ∀ p, H p = none → Q (.ref p) (upd H p (.tup (xs ++ ys))))
theorem op_catT1 {X : Cx} : OpR X (binaryOp .Add) (rCatT1 X.K) := by
  unfold OpR at *
  exact by
    intro pins s σ H x y v u Q I rx ry h
    obtain ⟨a, b, xs, ys, rfl, rfl, ha, hb, hy, hz, q1, q2⟩ := h
    cases rx
    cases ry
    by_cases hx : xs = []
    · obtain ⟨its, r1, p1, _⟩ := I.tuple ha
      obtain ⟨its2, r2, p2, _⟩ := I.tuple hb
      have hv : its = [] := r1.nil_iff.mpr hx
      obtain ⟨⟨cls, dd, data, sl⟩, ho, hc, n, hd⟩ := id p1
      obtain ⟨⟨cls2, dd2, data2, sl2⟩, ho2, hc2, n2, hd2⟩ := id p2
      simp only at hc hd hc2 hd2
      subst hc hd hc2 hd2
      exact concat_meets ⟨_, ho, rfl⟩ ⟨_, ho2, rfl⟩ noFill_tuple_add seq_tuple_add PySem.F.slot_tuple_add PySem.F.entry_tuple_add (PySem.F.args_tuple_add_2 _ _)
        (tuple_addW0 a b its.toArray its2.toArray n n2 dd dd2 sl sl2 (by simp [hv])) ⟨ho, ho2, ⟨.ref b, H, I, rfl, q1 hx⟩⟩
    · have op := op_catT (X := X)
      unfold OpR at op
      exact op pins s σ H (.ref a) (.ref b) _ _ Q I rfl rfl ⟨a, b, xs, ys, rfl, rfl, ha, hb, hx, hz, fun e => absurd e hy, fun _ => q2 hx⟩
end L2
namespace L2
open PySem PySem.Spec PyProof.Rows
theorem paired_get {α β : Type} {F : α → β → Prop} : ∀ {l₁ : List α} {l₂ : List β} {i : Nat} {a : α}, Paired F l₁ l₂ → l₁[i]? = some a → ∃ b, l₂[i]? = some b ∧ F a b
  | _, _, 0, _, .cons h _, e => by cases e; exact ⟨_, rfl, h⟩
  | _, _, i + 1, _, .cons _ r, e => paired_get (i := i) r e
end L2
namespace L2
open PySem PySem.Spec PyProof.Rows
theorem vals_strs : ∀ {ys : List Str} {us : List Value}, Vals (ys.map V.str) us → StrsAre us ys
  | [], _, .nil => .nil
  | _ :: _, _, .cons ⟨_, h⟩ r => by
    subst h
    exact .cons _ _ (vals_strs r)
theorem mt_join {X : Cx} : MtR X "str.join" (fun x xs H Q => ∃ sep a ys, x = .str sep ∧ xs = [.ref a] ∧ SqL X.K H a (ys.map V.str) ∧ sep.length ≤ 16 ∧ (ys.map (·.length)).sum + ys.length ≤ 1048576 ∧ Q (.str (Txt.join sep ys)) H) := by
  unfold MtR at *
  exact by
    intro pins s σ H x xs v us Q I rx r h
    obtain ⟨sep, a, ys, rfl, rfl, hq, h1, h2, q⟩ := h
    obtain ⟨t, rfl⟩ := rx
    obtain ⟨u, rfl, ru⟩ := vals1 r
    cases ru
    obtain ⟨its, rv, pl, _⟩ := I.list hq
    exact join_listW pl.isList (vals_strs rv) h1 h2 fun t' k => ⟨.str _, H, I.tok _, ⟨_, rfl⟩, q⟩
structure IAsk (K : PySem.W.Frag) (C : Addr) : Prop where
  ha : PySem.W.findIn K (.ref C) "__class__" = some (some (.builtin "object.__class__"))
  hn : PySem.W.specialIn K (.builtin "object.__class__") "__get__" = some (some (.builtin "getset_descriptor.__get__"))
  htk : PySem.W.takesIn K (.builtin "object.__class__") = some true
  hm : PySem.W.mroIn K C (.type "object") = some true
theorem rIsiA.ins {K : PySem.W.Frag} {H : Hp} {a C D dx : Addr} {fs : List (Str × V)} {b : Bool} {Q : VK} (h : H a = some (.ins C dx fs)) (cl : Cls K C) (q : IAsk K C) (k : PySem.W.kitOne K (.ref C) (.ref D) = some b) (hQ : Q (.bl b) H) : rIsiA K [.ref a, .ref D] H Q :=
  .inl ⟨.ref a, .ref D, _, _, _, rfl, .own D, .ins h cl q.ha q.hn q.htk q.hm, k, hQ⟩
theorem rIsiA.tyC {K : PySem.W.Frag} {H : Hp} {x : V} {n : String} {D : Addr} {b : Bool} {Q : VK} (t : TyOf K H x (.type n)) (k : PySem.W.kitOne K (.type n) (.ref D) = some b) (q : Q (.bl b) H) : rIsiA K [x, .ref D] H Q := .inl ⟨x, .ref D, _, _, _, rfl, .own D, t, k, q⟩
end L2
namespace L2
open PySem PySem.Spec PyProof.Rows
section
variable {X : Cx}
end
structure Pk {n : Nat} (ws : List V) (ts : List (Tr n)) (i : Nat) (idx : List Nat) (acc : List V) (us : List (Tr n)) : Prop where
  la : acc.length = idx.length
  lu : us.length = idx.length
  lt : ∀ k ∈ idx, k < i
  nd : idx.Nodup
  at_ : ∀ j k : Nat, idx[j]? = some k → acc[j]? = ws[k]? ∧ us[j]? = ts[k]?
theorem Pk.nil {n : Nat} {ws : List V} {ts : List (Tr n)} : Pk ws ts 0 [] [] [] := ⟨rfl, rfl, fun _ h => (nomatch h), List.nodup_nil, fun _ _ h => (by rw [List.getElem?_nil] at h; cases h)⟩
theorem Pk.drop {n : Nat} {ws : List V} {ts : List (Tr n)} {i : Nat} {idx : List Nat} {acc : List V} {us : List (Tr n)} (h : Pk ws ts i idx acc us) : Pk ws ts (i + 1) idx acc us :=
  ⟨h.la, h.lu, fun k hk => Nat.lt_succ_of_lt (h.lt k hk), h.nd, h.at_⟩
theorem Pk.keep {n : Nat} {ws : List V} {ts : List (Tr n)} {i : Nat} {idx : List Nat} {acc : List V} {us : List (Tr n)} {w : V} {t : Tr n} (h : Pk ws ts i idx acc us) (hw : ws[i]? = some w) (ht : ts[i]? = some t) : Pk ws ts (i + 1) (idx ++ [i]) (acc ++ [w]) (us ++ [t]) := by
  refine ⟨by rw [List.length_append, List.length_append, h.la]; rfl, by rw [List.length_append, List.length_append, h.lu]; rfl, fun k hk => ?_, ?_, fun j k hk => ?_⟩
  · rcases List.mem_append.mp hk with q | q
    · exact Nat.lt_succ_of_lt (h.lt k q)
    · rw [List.mem_singleton.mp q]; exact Nat.lt_succ_self i
  · rw [List.nodup_append]
    exact ⟨h.nd, List.nodup_cons.mpr ⟨List.not_mem_nil, List.nodup_nil⟩, fun x hx y hy e => by rw [e, List.mem_singleton.mp hy] at hx; exact Nat.lt_irrefl _ (h.lt _ hx)⟩
  · by_cases q : j < idx.length
    · rw [List.getElem?_append_left q] at hk
      rw [List.getElem?_append_left (by rw [h.la]; exact q), List.getElem?_append_left (by rw [h.lu]; exact q)]
      exact h.at_ j k hk
    · rw [List.getElem?_append_right (by omega)] at hk
      obtain ⟨h1, e1⟩ := List.getElem?_eq_some_iff.mp hk
      have j0 : j - idx.length = 0 := by simpa using h1
      rw [j0] at hk
      cases (Option.some.inj hk : i = k)
      rw [List.getElem?_append_right (by rw [h.la]; omega), List.getElem?_append_right (by rw [h.lu]; omega), h.la, h.lu, j0]
      exact ⟨hw.symm, ht.symm⟩
end L2
namespace L2
open PySem PySem.Spec PyProof.Rows
end L2
namespace L2
open PySem PySem.Spec PyProof.Rows
section
variable {X : Cx} {pins : List (Addr × Obj)} {σ : St} {H : Hp} {s : Shared}
end
section
variable {X : Cx} {pins : List (Addr × Obj)} {σ : St} {H : Hp} {s : Shared} {d : Addr} {u0 u1 : HO}
def NF (X : Cx) (d : Addr) : Prop := ∀ o u, X.H₀ d ≠ some (.frz o u)
theorem HOk.swap {P : Program} {w : World} {h : Heap} (ok : HOk P w H h) (e : H d = some u0) (h1 : ∀ y, u0 ≠ .own y) (h2 : ∀ xs, u0 ≠ .tup xs) (new : ObjOk P w (upd H d u1) h d u1) : HOk P w (upd H d u1) h := fun b u q => by
  by_cases hb : b = d
  · subst hb
    rw [upd_same] at q
    cases q
    exact new
  · rw [upd_ne hb] at q
    refine (ok b u q).stay (fun c v _ r => r) (fun c r => ?_) fun c xs r => ?_
    · rw [upd_ne (fun z => by rw [z, e] at r; exact h1 _ (Option.some.inj r))]; exact r
    · rw [upd_ne (fun z => by rw [z, e] at r; exact h2 _ (Option.some.inj r))]; exact r
theorem Inv.swap (I : Inv X pins σ H s) (e : H d = some u0) (h1 : ∀ y, u0 ≠ .own y) (h2 : ∀ xs, u0 ≠ .tup xs) (h3 : ∀ ps, u0 ≠ .tbl ps) (h4 : (∀ o u, u0 ≠ .frz o u) ∨ NF X d) (new : ObjOk X.prog X.w (upd H d u1) s.heap d u1) : Inv X pins σ (upd H d u1) s := by
  have ne : ∀ {b : Addr}, H b = none → upd H d u1 b = none := fun {b} hb => by
    rw [upd_ne (fun z => by rw [z, e] at hb; cases hb)]; exact hb
  refine ⟨I.ok, I.os, I.bare, ⟨I.base.keep, I.base.slot, fun b o q n hx => ne (I.base.free b o q n hx), I.base.there, fun b xs q => ?_, fun b o u q => ?_, fun b ps q => ?_⟩, I.loc, I.cell, ne I.free, fun x c q => ne (I.freeC x c q), fun p hp => ?_, I.hok.swap e h1 h2 new, I.len⟩
  · have q' := I.base.tups b xs q
    rw [upd_ne (fun z => by rw [z, e] at q'; exact h2 _ (Option.some.inj q'))]
    exact q'
  · have q' := I.base.frzs b o u q
    rw [upd_ne (fun z => by
      rcases h4 with h4 | h4
      · rw [z, e] at q'; exact h4 _ _ (Option.some.inj q')
      · rw [z] at q; exact h4 _ _ q)]
    exact q'
  · obtain ⟨more, q'⟩ := I.base.tbls b ps q
    refine ⟨more, ?_⟩
    rw [upd_ne (fun z => by rw [z, e] at q'; exact h3 _ (Option.some.inj q'))]
    exact q'
  · obtain ⟨a, b, r⟩ := I.pin p hp
    exact ⟨a, ne b, r⟩
def Thaw (X : Cx) (H H' : Hp) : Prop := ∃ d o kvs, H d = some (.frz o (.dK kvs)) ∧ NF X d ∧ H' = upd H d (.dK kvs)
theorem Inv.thaw {H' : Hp} (I : Inv X pins σ H s) (t : Thaw X H H') : Inv X pins σ H' s := by
  obtain ⟨d, o, kvs, e, nf, rfl⟩ := t
  obtain ⟨g, ok⟩ : s.heap.get? d = some o ∧ ObjOk X.prog X.w H s.heap d (.dK kvs) := I.hok d _ e
  exact I.swap e (fun y z => nomatch z) (fun xs z => nomatch z) (fun ps z => nomatch z) (.inr nf) (show ObjOk X.prog X.w _ s.heap d (.dK kvs) from ok)
def thawD (X : Cx) (D : Ends) : Ends := { D with nx := fun σ H => ∃ H', Thaw X H H' ∧ D.nx σ H', rt := fun v H => ∃ H', Thaw X H H' ∧ D.rt v H' }
theorem ps_thaw {st : Stmt} {t : TS} (h : PS X st t) : PS X st (fun D σ H => t (thawD X D) σ H) := by
  unfold PS at *
  exact by
    intro pins s σ H D I q
    refine thn (h pins s σ H (thawD X D) I q) fun f s1 q1 => ?_
    cases f with
    | next => obtain ⟨σ', H', I', H2, tw, n⟩ := q1; exact ⟨σ', H2, I'.thaw tw, n⟩
    | brk => exact q1
    | cont => exact q1
    | ret u => obtain ⟨v, σ', H', I', r, H2, tw, n⟩ := q1; exact ⟨v, σ', H2, I'.thaw tw, r, n⟩
def Itv (d : Addr) (o : Obj) (kvs : List (Key × V)) : It :=
  ⟨fun i H => H d = some (.frz o (.dK kvs)) ∧ i < kvs.length, fun i H x H' => H' = H ∧ ∃ p, kvs[i]? = some p ∧ x = p.2, fun i H => H d = some (.frz o (.dK kvs)) ∧ i = kvs.length⟩
theorem frz_at {o : Obj} {kvs : List (Key × V)} {es : Array DictEntry} {ep : Nat} (I : Inv X pins σ H s) (e : H d = some (.frz o (.dK kvs))) (ho : o.data = .dict es ep) : ∃ vs, KV kvs vs ∧ s.heap.DictAt (mixKind X.prog X.w) d vs ep := by
  obtain ⟨g, _, _, vs, r, o', es', ep', g', c, hd, k⟩ : s.heap.get? d = some o ∧ kvs.length ≤ sizeLine ∧ (d == sysModules) = false ∧ ∃ vs, KV kvs vs ∧ s.heap.DictOf (mixKind X.prog X.w) d vs := I.hok d _ e
  rw [g] at g'
  cases g'
  rw [ho] at hd
  cases hd
  exact ⟨vs, r, o, es, g, c, ho, k⟩
theorem turn_vals {P : Program} {w : World} {K : PySem.W.Frag} {tg : Expr} {o : Obj} {kvs : List (Key × V)} {es : Array DictEntry} {ep : Nat} (d it : Addr) (ho : o.data = .dict es ep) : Turn P w K tg (Itv d o kvs) [it] it (fun i h => h.IsValIter it d i kvs.length ep) where
  mem := by simp
  obj := fun i h st b hb => by
    have e : b = it := by simpa using hb
    subst e
    obtain ⟨o, e, c, d⟩ := st
    exact ⟨o, e, fun v z => by rw [d] at z; cases z⟩
  keep := fun i h h' st k => by
    obtain ⟨o, e, c⟩ := st
    exact ⟨o, k it (by simp) o e, c⟩
  item := by
    intro X hP hw hK hc i pins s σ H E I hf st hg
    subst hP hw hK
    obtain ⟨e, hi⟩ := hg
    obtain ⟨vs, r, dd⟩ := frz_at I e ho
    have hl : kvs.length = vs.length := KV.length r
    obtain ⟨f0, f1, f2, f3, f4, f5⟩ := hf it (by simp)
    obtain ⟨p, hp⟩ : ∃ p, kvs[i]? = some p := ⟨_, List.getElem?_eq_getElem hi⟩
    obtain ⟨q, hq, h1, h2⟩ := paired_get r hp
    obtain ⟨q1, q2⟩ := q
    rw [hl] at st
    refine wpAny_pyNext_values_item st dd hq fun h' st' sb => ?_
    have I1 : Inv X pins σ H { s with heap := h' } := I.turned (t' := s.toks) (fun b o hb e => (sb.2 b hb).trans e) f0 f1 f3 f4 f5
    obtain ⟨oi, ei, c, dt⟩ := id st'
    exact ⟨q2, rfl, go_of (s := { s with heap := h' }) ei c dt (by decide) ⟨p.2, H, I1, h2, ⟨rfl, p, hp, rfl⟩, by rw [hl]; exact st', fun b hb => (hf b hb).1⟩⟩
  done := by
    intro X hP hw hK hc i pins s σ H E I hf st hg
    subst hP hw hK
    obtain ⟨e, hi⟩ := hg
    obtain ⟨vs, r, dd⟩ := frz_at I e ho
    have hl : kvs.length = vs.length := KV.length r
    obtain ⟨f0, f1, f2, f3, f4, f5⟩ := hf it (by simp)
    rw [hl] at st
    exact wpAny_pyNext_values_end (I.ok.hd hc) st dd (by simp; omega) fun h' eb => ⟨rfl, I.turned (t' := s.toks) (fun b o hb e => eb b o hb e) f0 f1 f3 f4 f5⟩
  self := fun _ _ _ _ _ st h => wpAny_pyIter_valiter st h
theorem Inv.freeze {kvs : List (Key × V)} (I : Inv X pins σ H s) (e : H d = some (.dK kvs)) : ∃ o es ep vs, o.data = .dict es ep ∧ NF X d ∧ Inv X pins σ (upd H d (.frz o (.dK kvs))) s ∧ KV kvs vs ∧ (d == sysModules) = false ∧ s.heap.DictAt (mixKind X.prog X.w) d vs ep := by
  obtain ⟨z, lo, vs, r, o, es, ep, g, c, hd, k⟩ := dk_of I.hok e
  refine ⟨o, es, ep, vs, hd, fun o u q => ?_, ?_, r, lo, o, es, g, c, hd, k⟩
  · have := I.base.frzs d o u q
    rw [e] at this
    cases this
  · exact I.swap e (fun y z => nomatch z) (fun xs z => nomatch z) (fun ps z => nomatch z) (.inl fun o u z => nomatch z) (show ObjOk X.prog X.w _ s.heap d (.frz o (.dK kvs)) from ⟨g, z, lo, vs, r, o, es, ep, g, c, hd, k⟩)
def iVals (X : Cx) (tl : TE) : TI := fun σ H R => tl σ H fun x H1 => ∃ d kvs, x = .ref d ∧ H1 d = some (.dK kvs) ∧ ∀ o, NF X d → R (Itv d o kvs) (upd H1 d (.frz o (.dK kvs)))
theorem pi_vals {tg o : Expr} {to : TE} {apos cpos : Pos} (ho : PE X o to) (hbase : attributeBase o "values" X.env (eval o X.env) = eval o X.env := by rfl) (hline : (apos.endLine == cpos.line) = true := by rfl) : PI X tg (.Call (.Attribute o "values" apos) [] [] cpos) (iVals X to) := by
  unfold PE at *; unfold PI at *
  exact by
    intro pins s σ H R I h
    refine wpAny_Call_method0_late hbase hline (thn (ho pins s σ H _ I h) fun v s1 ⟨x, H1, I1, r1, q1⟩ => ?_)
    obtain ⟨d, kvs, e, hd, q⟩ := q1
    subst e
    cases r1
    obtain ⟨t1, t2, _⟩ := isD_at I1 (.inl ⟨kvs, .inl hd⟩)
    obtain ⟨o, es, ep, vs, ho, nf, I2, r, lo, dd⟩ := I1.freeze hd
    refine ⟨"dict", "dict.values", PySem.F.plainAttrs_dict, PySem.F.slot_dict_values, PySem.F.type_dict_values, t1, t2, Calls.callWith_builtin rfl (PySem.evalArgs_none ?_)⟩
    refine call_meetsIn PySem.F.slot_dict_values t1 PySem.F.entry_dict_values (PySem.F.args_dict_values_1 _) (meets_dict_values (mixKind X.prog X.w) d lo) ⟨⟨vs, dd.dictOf⟩, ?_⟩
    have I3 : Inv X pins σ _ { s1 with heap := s1.heap.push { cls := .type "dict_values", data := .fields #[.ref d] } } := I2.kept (t' := s1.toks) fun b o e => Heap.get?_push_of_some _ e
    refine wpAny_pyIter_values (s := { s1 with heap := s1.heap.push { cls := .type "dict_values", data := .fields #[.ref d] } }) ⟨_, Heap.get?_push_size _ rfl, rfl, rfl⟩ (dd.push _) ?_
    refine ⟨_, [_], _, _, _, rfl, I3.kept (t' := s1.toks) fun b o e => Heap.get?_push_of_some _ e, turn_vals d _ ho, ⟨_, Heap.get?_push_size _ rfl, rfl, by rw [KV.length r]; rfl⟩, fun b hb => ?_, q o nf⟩
    rw [List.mem_singleton.mp hb]
    exact I3.fpOk (Nat.le_refl _) (I3.hok.fresh (Nat.le_refl _))
theorem for_dict {kvs : List (Key × V)} {o : Obj} {J : It} {f : Key × V → V} (hJ : J = ⟨fun i H => H d = some (.frz o (.dK kvs)) ∧ i < kvs.length, fun i H x H' => H' = H ∧ ∃ p, kvs[i]? = some p ∧ x = f p, fun i H => H d = some (.frz o (.dK kvs)) ∧ i = kvs.length⟩) {g : TG} {tb : TS} {D : Ends} {σ : St} {H : Hp} (Pv : Nat → St → Hp → Prop) (h0 : Pv 0 σ H) (hl : ∀ i σ H, i ≤ kvs.length → Pv i σ H → H d = some (.frz o (.dK kvs)))
    (hs : ∀ i p σ H, kvs[i]? = some p → Pv i σ H → g (f p) σ H fun σ2 H2 => tb { D with nx := Pv (i + 1), ct := Pv (i + 1), bk := D.nx } σ2 H2) (hd : ∀ σ H, Pv kvs.length σ H → D.nx σ H) :
    ∃ W : Nat → Nat → St → Hp → Prop, (∃ m, W 0 m σ H) ∧ ∀ i m σ H, W i m σ H →
      (J.stop i H ∧ D.nx σ H) ∨ (J.go i H ∧ ∃ N : St → Hp → Prop, (∀ σ' H', N σ' H' → ∃ m', m' < m ∧ W (i + 1) m' σ' H') ∧ ∀ x H', J.yld i H x H' → g x σ H' fun σ2 H2 => tb { D with nx := N, ct := N, bk := D.nx } σ2 H2) := by
  subst hJ
  refine ⟨fun i m σ H => m = kvs.length - i ∧ i ≤ kvs.length ∧ Pv i σ H, ⟨kvs.length, by simp, Nat.zero_le _, h0⟩, ?_⟩
  rintro i m σ H ⟨rfl, hi, p⟩
  have q := hl i σ H hi p
  by_cases hlt : i < kvs.length
  · refine .inr ⟨⟨q, hlt⟩, Pv (i + 1), fun σ' H' p' => ⟨kvs.length - (i + 1), by omega, rfl, hlt, p'⟩, fun x H' y => ?_⟩
    obtain ⟨rfl, p', e1, rfl⟩ := y
    exact hs i p' σ _ e1 p
  · have e : i = kvs.length := by omega
    subst e
    exact .inl ⟨⟨q, rfl⟩, hd σ H p⟩
end
end L2
namespace L2
open PySem PySem.Spec PyProof.Rows
section
variable {X : Cx} {CX : CXT} {k : Nat} {f C : Addr} {fd : FuncData} {ps : List Str} {sp : Sp} {dvs : List V} {ds : List Value} {Ez : St → XK} {x m : Str} {p pos apos : Pos} {e o : Expr} {es : List Expr} {ta : TE} {t : TA}
end
end L2
namespace L2
open PySem PySem.Spec PyProof.Rows
end L2
namespace L2
open PySem PySem.Spec PyProof.Rows
section
variable {prog : Program} {w : World} {A : Around} {E : Value → Shared → Prop} {s : Shared} {T : String} {r d : Addr} {n : Nat} {P : Nat → Value → Prop} {OK : Heap → Prop}
end
section
variable {X : Cx}
end
section
variable {X : Cx}
theorem mt_lclear : MtR X "list.clear" (fun x vs H Q => ∃ l xs, x = .ref l ∧ vs = [] ∧ H l = some (.lst xs) ∧ Q .non (upd H l (.lst []))) := by
  unfold MtR at *
  exact by
    intro pins s σ H x vs v us Q I rx rv h
    obtain ⟨l, xs, rfl, rfl, hH, q⟩ := h
    cases rx
    cases rv
    obtain ⟨z, its, n, r, hl, e⟩ := I.lstM hH
    refine call_meets PySem.F.slot_list_clear ⟨_, e, rfl⟩ PySem.F.entry_list_clear (PySem.F.args_list_clear_1 _) (AutoSeq1.list_clear_list_0 l its.toArray n (by rw [List.size_toArray]; omega)) ⟨e, ?_⟩
    exact ⟨.non, _, I.lset (its' := []) hH e rfl .nil (Nat.zero_le _), rfl, q⟩
end
theorem cut_lit (xs : List V) (k : Nat) : cutV xs none (some (k : Int)) = xs.take k := by
  unfold cutV
  rw [HT.sIx_nat, HT.sIx_none, List.drop_zero, Nat.sub_zero]
  have h := List.take_take (i := k) (j := xs.length) (l := xs)
  rw [List.take_length] at h
  exact h.symm
end L2
namespace L2
open PySem PySem.Spec PyProof.Rows
theorem dict_anyW {P P' : Program} {w w' : World} {h : Heap} {a : Addr} {vs : List (Key × Value)} (d : h.DictOf (mixKind P w) a vs) (hi : ∀ p ∈ vs, ∃ n : Int, p.1 = Sum.inl n) : h.DictOf (mixKind P' w') a vs := by
  obtain ⟨o, es, ep, g, c, hd, hk, hp, hn⟩ := d
  have pp : ∀ {el : List DictEntry} {vl : List (Key × Value)}, Pairs (mixKind P w) el vl → (∀ p ∈ vl, ∃ n : Int, p.1 = Sum.inl n) → Pairs (mixKind P' w') el vl ∧ ∀ e ∈ el, ∃ n : Int, keyIs (Sum.inl n) e.key = true := by
    intro el vl h
    induction h with
    | nil => intro _; exact ⟨.nil, fun _ h => nomatch h⟩
    | @cons e kv es kvs h1 h2 _ ih =>
      intro hi
      obtain ⟨i1, i2⟩ := ih fun p hp => hi p (List.mem_cons_of_mem _ hp)
      refine ⟨.cons h1 h2 i1, fun x hx => ?_⟩
      rcases List.mem_cons.mp hx with q | q
      · obtain ⟨n, hn⟩ := hi kv (List.mem_cons_self ..)
        rw [q]
        exact ⟨n, by rw [← hn]; exact h1⟩
      · exact i2 x q
  obtain ⟨p1, p2⟩ := pp hp hi
  refine ⟨o, es, ep, g, c, hd, fun e he => ?_, p1, hn⟩
  obtain ⟨k, k1, k2⟩ := hk e he
  obtain ⟨n, hn'⟩ := p2 e (by simpa using he)
  have e1 : k = Sum.inl n := (mixKind P w).inj e.key k (Sum.inl n) k1 hn'
  subst e1
  exact ⟨_, k1, k2⟩
theorem kv_ints {ka : List (Key × V)} {va : List (Key × Value)} (r : KV ka va) (hi : ∀ p ∈ ka, ∃ n : Int, p.1 = Sum.inl n) : ∀ p ∈ va, ∃ n : Int, p.1 = Sum.inl n := by
  unfold KV at r
  induction r with
  | nil => exact fun _ h => nomatch h
  | @cons p q ps qs h t ih =>
    intro x hx
    rcases List.mem_cons.mp hx with e | e
    · obtain ⟨n, hn⟩ := hi p (List.mem_cons_self ..)
      rw [e, ← h.1]
      exact ⟨n, hn⟩
    · exact ih (fun p hp => hi p (List.mem_cons_of_mem _ hp)) x e
def DEq (K : PySem.W.Frag) (H : Hp) (n : Nat) (u v : V) : Prop := ∃ a b ka kb, u = .ref a ∧ v = .ref b ∧ Rd H a (.dK ka) ∧ Rd H b (.dK kb) ∧ ka.length = kb.length ∧ (∀ p ∈ ka, ∃ y, valV kb p.1 = some y ∧ EqD K H n p.2 y true) ∧ (∀ p ∈ ka, ∃ m : Int, p.1 = Sum.inl m) ∧ ∀ p ∈ kb, ∃ m : Int, p.1 = Sum.inl m
section
variable {X : Cx} {pins : List (Addr × Obj)} {σ : St} {H : Hp} {s : Shared}
theorem hits_at (I : Inv X pins σ H s) {A : Around} {n : Nat} {kb : List (Key × V)} {vb : List (Key × Value)} (rb : KV kb vb) (hu : A.units + n < cLine) : ∀ {ka : List (Key × V)} {va : List (Key × Value)}, KV ka va →
    (∀ p ∈ ka, ∃ y, valV kb p.1 = some y ∧ EqD X.K H n p.2 y true) → PySem.W.KeqHits A s vb va true := by
  intro ka va r
  unfold KV at r
  induction r with
  | nil => intro _; exact .nil
  | @cons p q ps qs h t ih =>
    intro hall
    obtain ⟨y, hy, he⟩ := hall p (List.mem_cons_self ..)
    obtain ⟨w, hw, rw'⟩ := RelO.some_of (v := y) (o := valueAt vb q.1) (by rw [← hy, h.1]; exact rb.val q.1)
    obtain ⟨q1, q2⟩ := q
    exact PySem.W.KeqHits.hit (e := true) (b := true) hw (EqD.at I n A p.2 y true q2 w hu he h.2 rw') (ih fun p' hp' => hall p' (List.mem_cons_of_mem _ hp'))
theorem DEq.at (I : Inv X pins σ H s) {A : Around} {n : Nat} {x y : V} {u v : Value} (hu : A.units + 1 + n < cLine) (h : DEq X.K H n x y) (rx : RelV x u) (ry : RelV y v) : SeqAt.EqAt A s u v true := by
  obtain ⟨a, b, ka, kb, rfl, rfl, ha, hb, hl, hall, ia, ib⟩ := h
  cases rx
  cases ry
  obtain ⟨za, da, va, ra, oa⟩ := dk_rd I.hok ha
  obtain ⟨zb, db, vb, rb, ob⟩ := dk_rd I.hok hb
  by_cases hab : a = b
  · subst hab
    exact SeqAt.EqAt.same _
  · refine SeqAt.EqAt.of_refs hab fun prog w E Q hq => ?_
    have oa' := dict_anyW (P' := prog) (w' := w) oa (kv_ints ra ia)
    have ob' := dict_anyW (P' := prog) (w' := w) ob (kv_ints rb ib)
    refine PySem.W.keq_eq da db oa' ob' (by omega) (fun _ => hits_at (A := A.in1) I rb (by show A.units + 1 + n < cLine; exact hu) ra hall) ?_
    rw [← ra.length, ← rb.length, hl, beq_self_eq_true, Bool.true_and]
    exact hq
end
end L2
namespace L2
open PySem PySem.Spec PyProof.Rows
end L2
namespace L2
open PySem PySem.Spec PyProof.Rows
structure RoomH (k : Nat) (A : Around) : Prop where
  dp : A.depth + 3 * k + 5 < recursionLimit
  un : A.units + 16 * k + 200 < cLine
theorem RoomH.mono {j k : Nat} {A : Around} (r : RoomH k A) (h : j ≤ k) : RoomH j A := ⟨by have := r.dp; omega, by have := r.un; omega⟩
theorem RoomH.deeper {k : Nat} {A : Around} (r : RoomH (k + 1) A) (env : Env) : RoomH k (A.deeper env) :=
  ⟨by have := r.dp; show A.depth + 1 + 3 * k + 5 < _; omega, by have := r.un; show A.units + 3 + 16 * k + 200 < _; omega⟩
theorem RoomH.depth {k : Nat} {A : Around} (r : RoomH k A) : A.depth < recursionLimit := by have := r.dp; omega
section
variable {X : Cx} {CX : CXT} {k : Nat} {f C : Addr} {fd : FuncData} {ps : List Str} {sp : Sp} {dvs : List V} {ds : List Value} {E : XK} {x m : Str} {p pos apos : Pos} {e o : Expr} {es : List Expr} {ta : TE} {t : TA}
end
section
variable {P : Program} {w : World} {K : PySem.W.Frag} {mg : Str → Option Value} {base : Heap}
end
end L2
set_option maxHeartbeats 200000
namespace My
open PySem L2
local macro_rules | `(tactic| walk_at "rd") => `(tactic| repeat (first
 | refine ⟨_, rfl, ?_⟩
 | refine ⟨_, _, rfl, rfl, ?_⟩
 | refine ⟨_, _, rfl, ?_⟩
 | refine ⟨(by show (0 : Int) < _; decide), ?_⟩
 | refine ⟨(⟨by decide, by decide⟩ : CDiv _ _), ?_⟩
 | refine ⟨(⟨by decide, by decide⟩ : CDivB _ _), ?_⟩
 | refine ⟨(⟨by decide, by decide, by decide⟩ : CPow _ _), ?_⟩
 | refine ⟨(.inr ⟨by decide, by decide⟩ : CMul _ _), ?_⟩
 | refine ⟨(.inl ⟨by decide, by decide⟩ : CMul _ _), ?_⟩
 | refine ⟨Own.int, ?_⟩
 | refine ⟨Own.bl, ?_⟩
 | refine ⟨Own.str, ?_⟩
 | refine ⟨Own.non, ?_⟩
 | refine ⟨rfl, ?_⟩))
def isI : V → Bool
 | .int _ => true
 | _ => false
def inR (m : Int) : V → Bool
 | .int i => decide (1 ≤ i) && decide (i ≤ m)
 | _ => false
def spW (K : PySem.W.Frag) : Sp := fun vs H Q _ => ∃ x, vs = [x] ∧ Own K H x ∧ Q (.bl (isI x)) H
def spR (K : PySem.W.Frag) (m : Int) : Sp := fun vs H Q _ => ∃ x, vs = [x] ∧ Own K H x ∧ Q (.bl (inR m x)) H
def ranks : List V := [.str "genus", .str "species", .str "form"]
def letter (c : Nat) : Bool := decide (97 ≤ c) && decide (c ≤ 122)
def isWord : V → Bool
 | .str z => (decide (1 ≤ (z.length : Int)) && decide ((z.length : Int) ≤ 12)) && z.cps.toList.all letter
 | _ => false
theorem isWord_str (z : Str) : isWord (.str z) = ((decide (1 ≤ (z.length : Int)) && decide ((z.length : Int) ≤ 12)) && z.cps.toList.all letter) := rfl
def isRank : V → Bool
 | .str z => inV (.str z) ranks
 | _ => false
def fits : V → Prop
 | .str z => z.length ≤ sizeLine
 | _ => True
def spWord (K : PySem.W.Frag) : Sp := fun vs H Q _ => ∃ x, vs = [x] ∧ Own K H x ∧ fits x ∧ ∀ H', Same H H' → Q (.bl (isWord x)) H'
def spRank (K : PySem.W.Frag) : Sp := fun vs H Q _ => ∃ x, vs = [x] ∧ Own K H x ∧ Q (.bl (isRank x)) H
theorem le_one (a c : Nat) : (!decide ((⟨#[c]⟩ : Str).cps.toList < (⟨#[a]⟩ : Str).cps.toList)) = decide (a ≤ c) := by
 have e : ((⟨#[c]⟩ : Str).cps.toList < (⟨#[a]⟩ : Str).cps.toList) ↔ c < a := by
  show [c] < [a] ↔ c < a
  rw [List.cons_lt_cons_iff]
  simp
 by_cases h : c < a
 ·rw [decide_eq_true (e.mpr h), decide_eq_false (by omega)]; rfl
 ·rw [decide_eq_false (fun z => h (e.mp z)), decide_eq_true (by omega)]; rfl
theorem le_a (c : Nat) : (!decide ((⟨#[c]⟩ : Str).cps.toList < (Str.ofString "a").cps.toList)) = decide (97 ≤ c) := le_one 97 c
theorem le_z (c : Nat) : (!decide ((Str.ofString "z").cps.toList < (⟨#[c]⟩ : Str).cps.toList)) = decide (c ≤ 122) := le_one c 122
theorem take_one {α : Type} {l : List α} {i : Nat} {x : α} (h : l[i]? = some x) : l.take (i + 1) = l.take i ++ [x] := by
 rw [List.take_succ, h]; rfl
def underFits (r u : V) : Bool := if r = .str "genus" then decide (u = .non) else inR 1000000000 u
def tieFits (r s b : V) : Bool := if b = .non then inR 1000000000 s else (!decide (r = .str "genus")) && (decide (s = .non) && inR 1000000000 b)
def whyH (n d r w : V) : Nat := if inR 1000000000 n = false then 1 else if inR 1000000 d = false then 2 else if isRank r = false then 3 else if isWord w = false then 4 else 0
def why (n d r w u s b : V) : Nat := if whyH n d r w ≠ 0 then whyH n d r w else if underFits r u = false then 5 else if tieFits r s b = false then 5 else 0
set_option genInjectivity false in
set_option genSizeOfSpec false in
set_option genSizeOf false in
structure Ex where
 c1 : Addr
 c2 : Addr
 c3 : Addr
 c4 : Addr
 c5 : Addr
def Ex.at (x : Ex) : Nat → Addr
 | 1 => x.c1
 | 2 => x.c2
 | 3 => x.c3
 | 4 => x.c4
 | _ => x.c5
def spHead (K : PySem.W.Frag) (x : Ex) : Sp := fun vs H Q E => ∃ n d r w, vs = [n, d, r, w] ∧ Own K H n ∧ Own K H d ∧ Own K H r ∧ Own K H w ∧ fits w ∧
 ∀ H', Same H H' → (whyH n d r w = 0 → Q .non H') ∧ (whyH n d r w ≠ 0 → E (.ref (x.at (whyH n d r w))) none H')
def spUnder (K : PySem.W.Frag) : Sp := fun vs H Q _ => ∃ z u, vs = [.str z, u] ∧ Own K H u ∧ Q (.bl (underFits (.str z) u)) H
def spTie (K : PySem.W.Frag) : Sp := fun vs H Q _ => ∃ z s b, vs = [.str z, s, b] ∧ Own K H s ∧ Own K H b ∧ Q (.bl (tieFits (.str z) s b)) H
def fields (n d r w u s b k : V) : List (Str × V) := [("number", n), ("day", d), ("rank", r), ("word", w), ("under", u), ("sheet", s), ("base", b), ("described", k)]
def spInit (K : PySem.W.Frag) (C : Addr) (x : Ex) : Sp := fun vs H Q E => ∃ a dx n d r w u s b k, vs = [.ref a, n, d, r, w, u, s, b, k] ∧ H a = some (.ins C dx []) ∧ Own K H n ∧ Own K H d ∧ Own K H r ∧ Own K H w ∧ fits w ∧ Own K H u ∧ Own K H s ∧ Own K H b ∧
 ∀ H', Same H H' → (why n d r w u s b = 0 → Q .non (upd H' a (.ins C dx (fields n d r w u s b k)))) ∧ (why n d r w u s b ≠ 0 → E (.ref (x.at (why n d r w u s b))) none H')
theorem Same.upd {H H' : Hp} {p : Addr} {o : HO} (e : Same H H') (h : H p = none) : Same H (L2.upd H' p o) := fun b u q => by
 rw [upd_ne (ne_of_none q h)]
 exact e b u q
theorem under_g (u : V) : underFits (.str "genus") u = decide (u = .non) := by unfold underFits; rw [if_pos rfl]
theorem under_n {z : Str} (h : z ≠ "genus") (u : V) : underFits (.str z) u = inR 1000000000 u := by unfold underFits; rw [if_neg (fun q => h (V.str.inj q))]
theorem tie_n (r s : V) : tieFits r s .non = inR 1000000000 s := by unfold tieFits; rw [if_pos rfl]
theorem tie_b {b : V} (r s : V) (h : b ≠ .non) : tieFits r s b = ((!decide (r = .str "genus")) && (decide (s = .non) && inR 1000000000 b)) := by unfold tieFits; rw [if_neg h]
theorem Same.made {H : Hp} {x dx : Addr} {o o' : HO} (h1 : H x = none) (h2 : H dx = none) (ne : dx ≠ x) : Same H (L2.upd (L2.upd H dx o) x o') := fun b u q => by
 rw [upd_ne (ne_of_none q h1), upd_ne (ne_of_none q h2)]
 exact q
structure En where
 n : Int
 d : Int
 r : Str
 w : Str
 u : Option Int
 s : Option Int
 b : Option Int
 k : Bool
def optV : Option Int → V
 | none => .non
 | some i => .int i
def fieldsE (e : En) : List (Str × V) := fields (.int e.n) (.int e.d) (.str e.r) (.str e.w) (optV e.u) (optV e.s) (optV e.b) (.bl e.k)
def EntAt (H : Hp) (C : Addr) (v : V) (e : En) : Prop := ∃ a dx, v = .ref a ∧ H a = some (.ins C dx (fieldsE e))
def okE (e : En) : Prop := why (.int e.n) (.int e.d) (.str e.r) (.str e.w) (optV e.u) (optV e.s) (optV e.b) = 0
def aheadE (x y : En) : Bool := HT.lexLt [x.d, x.n] [y.d, y.n]
theorem EntAt.same {H H' : Hp} {C : Addr} {v : V} {e : En} (h : EntAt H C v e) (s : Same H H') : EntAt H' C v e := let ⟨a, dx, e1, h1⟩ := h; ⟨a, dx, e1, s _ _ h1⟩
inductive ItAt (K : PySem.W.Frag) (H : Hp) (C : Addr) : V → Option En → Prop where
 | ent {v : V} {e : En} (h : EntAt H C v e) : ItAt K H C v (some e)
 | oth {v : V} {n : String} (t : TyOf K H v (.type n)) (hn : PySem.W.kitOne K (.type n) (.ref C) = some false) : ItAt K H C v none
def spAhead (C : Addr) : Sp := fun vs H Q _ => ∃ x y e f, vs = [x, y] ∧ EntAt H C x e ∧ EntAt H C y f ∧ ∀ H', Same H H' → Q (.bl (aheadE e f)) H'
def lastOk : Option En → En → Bool
 | none, _ => true
 | some l, e => aheadE l e
def bookOk : List Int → Option En → List (Option En) → Bool
 | _, _, [] => true
 | _, _, none :: _ => false
 | seen, last, some e :: r => !seen.contains e.n && (lastOk last e && bookOk (seen ++ [e.n]) (some e) r)
def ItsAt (K : PySem.W.Frag) (H : Hp) (C : Addr) (vs : List V) (is : List (Option En)) : Prop := vs.length = is.length ∧ ∀ (j : Nat) v i, vs[j]? = some v → is[j]? = some i → ItAt K H C v i
def spBook (K : PySem.W.Frag) (C X : Addr) : Sp := fun vs H Q E => ∃ x, vs = [x] ∧ ((∃ l ws is, x = .ref l ∧ H l = some (.lst ws) ∧ ItsAt K H C ws is ∧ ws.length ≤ 1000 ∧ (bookOk [] none is = true → ∀ q H', Same H H' → H q = none → H' q = some (.lst ws) → Q (.ref q) H') ∧ (bookOk [] none is = false → ∀ H', Same H H' → E (.ref X) none H')) ∨
 ∃ n, TyOf K H x (.type n) ∧ PySem.W.kitOne K (.type n) (.type "list") = some false ∧ ∀ H', Same H H' → E (.ref X) none H')
def EntsAt (H : Hp) (C : Addr) (ws : List V) (es : List En) : Prop := ws.length = es.length ∧ ∀ (j : Nat) v e, ws[j]? = some v → es[j]? = some e → EntAt H C v e
theorem EntsAt.same {H H' : Hp} {C : Addr} {ws : List V} {es : List En} (h : EntsAt H C ws es) (s : Same H H') : EntsAt H' C ws es := ⟨h.1, fun j v e a b => (h.2 j v e a b).same s⟩
theorem EntsAt.its {K : PySem.W.Frag} {H : Hp} {C : Addr} {ws : List V} {es : List En} (h : EntsAt H C ws es) : ItsAt K H C ws (es.map some) := by
 refine ⟨by rw [List.length_map]; exact h.1, fun j v i hv hi => ?_⟩
 rw [List.getElem?_map] at hi
 cases e : es[j]? with
 | none => rw [e] at hi; cases hi
 | some x => rw [e] at hi; cases hi; exact .ent (h.2 j v x hv e)
def BadB (K : PySem.W.Frag) (H : Hp) (C : Addr) (x : V) : Prop := (∃ l ws is, x = .ref l ∧ H l = some (.lst ws) ∧ ItsAt K H C ws is ∧ ws.length ≤ 1000 ∧ bookOk [] none is = false) ∨ ∃ n, TyOf K H x (.type n) ∧ PySem.W.kitOne K (.type n) (.type "list") = some false
theorem all_app (a b : Str) (f : Nat → Bool) : (a ++ b).cps.toList.all f = (a.cps.toList.all f && b.cps.toList.all f) := by
 rw [Str.cps_append, Array.toList_append, List.all_append]
theorem seqNil {K : PySem.W.Frag} {H : Hp} {n : Nat} {a b : Addr} {xs : List V} (ha : SqL K H a xs) (hb : SqL K H b []) : SeqEq K H (EqD K H n) (.ref a) (.ref b) xs.isEmpty := by
 cases xs with
 | nil => exact .list (e := fun _ => true) ha hb rfl fun i x y h => (by rw [List.getElem?_nil] at h; cases h)
 | cons x r => exact .listN ha hb (by intro z; cases z)
theorem inR_int (m i : Int) : inR m (.int i) = (decide (1 ≤ i) && decide (i ≤ m)) := rfl
theorem inR_of {m i : Int} (h1 : 1 ≤ i) (h2 : i ≤ m) : inR m (.int i) = true := by rw [inR_int, decide_eq_true h1, decide_eq_true h2]; rfl
def spCell (K : PySem.W.Frag) : Sp := fun vs H Q _ => ∃ (a : Addr) (k : Int) (ns : List Int), vs = [.ref a, .int k] ∧ 0 ≤ k ∧ SqL K H a (ns.map V.int) ∧ ∀ i, Q (.int i) H
structure Rt where
 e : En
 nm : List Str
structure Rs where
 o : List (Int × Str)
 n : List (Int × Option (List Str))
 r : List Rt
def findN (R : List Rt) (n : Int) : Option Rt := R.find? fun x => decide (x.e.n = n)
def aboveS (r : Str) : Str := if r = Str.ofString "species" then Str.ofString "genus" else Str.ofString "species"
def nameE (R : List Rt) (e : En) : Option (List Str) :=
 if e.r = Str.ofString "genus" then some [e.w] else
  match findN R (e.u.getD 0) with
  | none => none
  | some x => if x.e.r = aboveS e.r then some (x.nm ++ [e.w]) else none
def alikeE (R : List Rt) (nm : List Str) : Str := if R.any (fun x => decide (x.nm = nm)) = true then Str.ofString "alike" else Str.ofString "right"
def basedE (R : List Rt) (e : En) (b : Int) (nm : List Str) : Str :=
 match findN R b with
 | none => Str.ofString "baseless"
 | some x => if x.e.r ≠ e.r ∨ x.e.b ≠ none then Str.ofString "baseless" else if x.e.w ≠ e.w then Str.ofString "reworded" else alikeE R nm
def outE (R : List Rt) (e : En) (nm : Option (List Str)) : Str :=
 if e.b = none ∧ e.k = false then Str.ofString "undescribed" else
  match nm with
  | none => Str.ofString "unplaced"
  | some nm => match e.b with
   | none => alikeE R nm
   | some b => basedE R e b nm
def outS (s : Rs) (e : En) : Str := outE s.r e (nameE s.r e)
def stepE (s : Rs) (e : En) : Rs := ⟨s.o ++ [(e.n, outS s e)], s.n ++ [(e.n, nameE s.r e)], if outS s e = Str.ofString "right" then s.r ++ [⟨e, (nameE s.r e).getD []⟩] else s.r⟩
def resE (es : List En) : Rs := es.foldl stepE ⟨[], [], []⟩
theorem resE_snoc (es : List En) (e : En) : resE (es ++ [e]) = stepE (resE es) e := by unfold resE; rw [List.foldl_append]; rfl
def rootN (R : List Rt) (x : Rt) : En := match x.e.b with | none => x.e | some b => ((findN R b).map (·.e)).getD x.e
def depthR (r : Str) : Nat := if r = Str.ofString "genus" then 1 else if r = Str.ofString "species" then 2 else 3
structure RsOk (s : Rs) : Prop where
 nd : (s.o.map (·.1)).Nodup
 nk : s.n.map (·.1) = s.o.map (·.1)
 sub : ∀ x ∈ s.r, x.e.n ∈ s.o.map (·.1)
 rn : (s.r.map (·.e.n)).Nodup
 nm : ∀ x ∈ s.r, (x.e.n, some x.nm) ∈ s.n
 dp : ∀ x ∈ s.r, x.nm.length = depthR x.e.r
 bs : ∀ x ∈ s.r, ∀ b, x.e.b = some b → ∃ y, findN s.r b = some y ∧ y.e.b = none ∧ y.e.r = x.e.r ∧ y.e.w = x.e.w
 ok : ∀ x ∈ s.r, okE x.e
theorem nd_len {xs ys : List Int} : ∀ (nd : xs.Nodup) (h : ∀ x ∈ xs, x ∈ ys), xs.length ≤ ys.length := by
 induction xs generalizing ys with
 | nil => intro _ _; exact Nat.zero_le _
 | cons x r ih =>
  intro nd h
  rw [List.nodup_cons] at nd
  have h1 := ih (ys := ys.erase x) nd.2 fun y hy => (List.mem_erase_of_ne (fun z => nd.1 (by rw [← z]; exact hy))).mpr (h y (List.mem_cons_of_mem _ hy))
  have hx := h x (List.mem_cons_self ..)
  rw [List.length_erase_of_mem hx] at h1
  have : 0 < ys.length := List.length_pos_of_mem hx
  rw [List.length_cons]
  omega
theorem findN_mem {R : List Rt} {n : Int} {x : Rt} (h : findN R n = some x) : x ∈ R ∧ x.e.n = n := ⟨List.mem_of_find?_eq_some h, of_decide_eq_true (List.find?_some (p := fun x : Rt => decide (x.e.n = n)) h)⟩
theorem findN_app {R Q : List Rt} {n : Int} {x : Rt} (h : findN R n = some x) : findN (R ++ Q) n = some x := by
 unfold findN at h ⊢
 rw [List.find?_append, h]
 rfl
theorem okE_rank {e : En} (h : okE e) : e.r = Str.ofString "genus" ∨ e.r = Str.ofString "species" ∨ e.r = Str.ofString "form" := by
 unfold okE why at h
 by_cases h1 : whyH (.int e.n) (.int e.d) (.str e.r) (.str e.w) = 0
 ·unfold whyH at h1
  by_cases a1 : inR 1000000000 (V.int e.n) = false
  ·rw [if_pos a1] at h1; cases h1
  ·rw [if_neg a1] at h1
   by_cases a2 : inR 1000000 (V.int e.d) = false
   ·rw [if_pos a2] at h1; cases h1
   ·rw [if_neg a2] at h1
    by_cases a3 : isRank (V.str e.r) = false
    ·rw [if_pos a3] at h1; cases h1
    ·have a4 : isRank (V.str e.r) = true := by cases q : isRank (V.str e.r) with | true => rfl | false => exact absurd q a3
     have a5 : inV (.str e.r) ranks = true := a4
     have a6 : (eqV (.str (Str.ofString "genus")) (.str e.r) || (eqV (.str (Str.ofString "species")) (.str e.r) || (eqV (.str (Str.ofString "form")) (.str e.r) || false))) = true := a5
     simp [eqV] at a6
     rcases a6 with q | q | q
     ·exact .inl q.symm
     ·exact .inr (.inl q.symm)
     ·exact .inr (.inr q.symm)
 ·rw [if_pos h1] at h
  exact absurd h h1
theorem okE_u {e : En} (h : okE e) (hr : e.r ≠ Str.ofString "genus") : ∃ u, e.u = some u := by
 unfold okE why at h
 by_cases h1 : whyH (.int e.n) (.int e.d) (.str e.r) (.str e.w) ≠ 0
 ·rw [if_pos h1] at h; exact absurd h h1
 ·rw [if_neg h1] at h
  by_cases h2 : underFits (.str e.r) (optV e.u) = false
  ·rw [if_pos h2] at h; cases h
  ·rw [under_n hr] at h2
   cases hu : e.u with
   | none => rw [hu] at h2; exact absurd rfl h2
   | some u => exact ⟨u, rfl⟩
theorem okE_word {e : En} (h : okE e) : isWord (.str e.w) = true := by
 unfold okE why at h
 by_cases h1 : whyH (.int e.n) (.int e.d) (.str e.r) (.str e.w) = 0
 ·unfold whyH at h1
  cases q : isWord (V.str e.w) with
  | true => rfl
  | false =>
   exfalso
   by_cases a1 : inR 1000000000 (V.int e.n) = false
   ·rw [if_pos a1] at h1; cases h1
   ·rw [if_neg a1] at h1
    by_cases a2 : inR 1000000 (V.int e.d) = false
    ·rw [if_pos a2] at h1; cases h1
    ·rw [if_neg a2] at h1
     by_cases a3 : isRank (V.str e.r) = false
     ·rw [if_pos a3] at h1; cases h1
     ·rw [if_neg a3, if_pos q] at h1; cases h1
 ·rw [if_pos h1] at h
  exact absurd h h1
theorem outE_right {R : List Rt} {e : En} {nm : Option (List Str)} (h : outE R e nm = Str.ofString "right") : ∃ z, nm = some z ∧ R.any (fun x => decide (x.nm = z)) = false ∧ ∀ b, e.b = some b → ∃ y, findN R b = some y ∧ y.e.b = none ∧ y.e.r = e.r ∧ y.e.w = e.w := by
 have al : ∀ z, alikeE R z = Str.ofString "right" → R.any (fun x => decide (x.nm = z)) = false := fun z hz => by
  unfold alikeE at hz
  cases q : R.any (fun x => decide (x.nm = z)) with
  | false => rfl
  | true => rw [q, if_pos rfl] at hz; exact absurd hz (by decide +kernel)
 unfold outE at h
 by_cases h1 : e.b = none ∧ e.k = false
 ·rw [if_pos h1] at h; exact absurd h (by decide +kernel)
 ·rw [if_neg h1] at h
  cases nm with
  | none =>
   have h : Str.ofString "unplaced" = Str.ofString "right" := h
   exact absurd h (by decide +kernel)
  | some z =>
   cases hb : e.b with
   | none =>
    rw [hb] at h
    exact ⟨z, rfl, al z h, fun b q => nomatch q⟩
   | some b =>
    rw [hb] at h
    have h : basedE R e b z = Str.ofString "right" := h
    unfold basedE at h
    cases hf : findN R b with
    | none =>
     rw [hf] at h
     have h : Str.ofString "baseless" = Str.ofString "right" := h
     exact absurd h (by decide +kernel)
    | some y =>
     rw [hf] at h
     have h : (if y.e.r ≠ e.r ∨ y.e.b ≠ none then Str.ofString "baseless" else if y.e.w ≠ e.w then Str.ofString "reworded" else alikeE R z) = Str.ofString "right" := h
     by_cases h2 : y.e.r ≠ e.r ∨ y.e.b ≠ none
     ·rw [if_pos h2] at h; exact absurd h (by decide +kernel)
     ·rw [if_neg h2] at h
      by_cases h3 : y.e.w ≠ e.w
      ·rw [if_pos h3] at h; exact absurd h (by decide +kernel)
      ·rw [if_neg h3] at h
       refine ⟨z, rfl, al z h, fun b' q => ?_⟩
       cases Option.some.inj q
       refine ⟨y, hf, ?_, ?_, ?_⟩
       ·exact Decidable.of_not_not fun q => h2 (.inr q)
       ·exact Decidable.of_not_not fun q => h2 (.inl q)
       ·exact Decidable.of_not_not h3
theorem nameE_len {R : List Rt} {e : En} {z : List Str} (h : nameE R e = some z) (ok : okE e) (dp : ∀ x ∈ R, x.nm.length = depthR x.e.r) : z.length = depthR e.r := by
 unfold nameE at h
 by_cases h1 : e.r = Str.ofString "genus"
 ·rw [if_pos h1] at h
  cases h
  unfold depthR
  rw [if_pos h1]
  rfl
 ·rw [if_neg h1] at h
  cases hf : findN R (e.u.getD 0) with
  | none => rw [hf] at h; cases h
  | some x =>
   rw [hf] at h
   have h : (if x.e.r = aboveS e.r then some (x.nm ++ [e.w]) else none) = some z := h
   by_cases h2 : x.e.r = aboveS e.r
   ·rw [if_pos h2] at h
    cases h
    have hl := dp x (findN_mem hf).1
    rw [List.length_append, hl, h2]
    rcases okE_rank ok with q | q | q
    ·exact absurd q h1
    ·rw [q]
     show depthR (aboveS (Str.ofString "species")) + 1 = _
     decide +kernel
    ·rw [q]
     show depthR (aboveS (Str.ofString "form")) + 1 = _
     decide +kernel
   ·rw [if_neg h2] at h; cases h
theorem RsOk.nil : RsOk ⟨[], [], []⟩ := ⟨List.nodup_nil, rfl, fun _ h => (nomatch h), List.nodup_nil, fun _ h => (nomatch h), fun _ h => (nomatch h), fun _ h => (nomatch h), fun _ h => (nomatch h)⟩
theorem RsOk.step {s : Rs} {e : En} (h : RsOk s) (ok : okE e) (fr : e.n ∉ s.o.map (·.1)) : RsOk (stepE s e) := by
 have nd : ((stepE s e).o.map (·.1)).Nodup := by
  show ((s.o ++ [(e.n, outS s e)]).map (·.1)).Nodup
  rw [List.map_append, List.nodup_append]
  exact ⟨h.nd, List.nodup_cons.mpr ⟨List.not_mem_nil, List.nodup_nil⟩, fun x hx y hy z => fr (by rw [z, (List.mem_singleton.mp hy : y = e.n)] at hx; exact hx)⟩
 have nk : (stepE s e).n.map (·.1) = (stepE s e).o.map (·.1) := by
  show (s.n ++ [(e.n, nameE s.r e)]).map (·.1) = (s.o ++ [(e.n, outS s e)]).map (·.1)
  rw [List.map_append, List.map_append, h.nk]
  rfl
 have up : ∀ x ∈ s.r, x.e.n ∈ (stepE s e).o.map (·.1) := fun x hx => by
  show _ ∈ (s.o ++ [(e.n, outS s e)]).map (·.1)
  rw [List.map_append]
  exact List.mem_append_left _ (h.sub x hx)
 by_cases hr : outS s e = Str.ofString "right"
 ·obtain ⟨z, hz, _, hb⟩ := outE_right hr
  have er : (stepE s e).r = s.r ++ [⟨e, z⟩] := by
   show (if outS s e = Str.ofString "right" then s.r ++ [⟨e, (nameE s.r e).getD []⟩] else s.r) = _
   rw [if_pos hr, hz]
   rfl
  have frr : e.n ∉ s.r.map (·.e.n) := fun q => by
   obtain ⟨x, hx, ex⟩ := List.mem_map.mp q
   exact fr (ex ▸ h.sub x hx)
  refine ⟨nd, nk, ?_, ?_, ?_, ?_, ?_, ?_⟩ <;> rw [er]
  ·intro x hx
   rcases List.mem_append.mp hx with q | q
   ·exact up x q
   ·rw [List.mem_singleton.mp q]
    show _ ∈ (s.o ++ [(e.n, outS s e)]).map (·.1)
    rw [List.map_append]
    exact List.mem_append_right _ (List.mem_singleton.mpr rfl)
  ·rw [List.map_append, List.nodup_append]
   exact ⟨h.rn, List.nodup_cons.mpr ⟨List.not_mem_nil, List.nodup_nil⟩, fun x hx y hy q => frr (by rw [q, (List.mem_singleton.mp hy : y = e.n)] at hx; exact hx)⟩
  ·intro x hx
   show _ ∈ s.n ++ [(e.n, nameE s.r e)]
   rcases List.mem_append.mp hx with q | q
   ·exact List.mem_append_left _ (h.nm x q)
   ·rw [List.mem_singleton.mp q, hz]
    exact List.mem_append_right _ (List.mem_singleton.mpr rfl)
  ·intro x hx
   rcases List.mem_append.mp hx with q | q
   ·exact h.dp x q
   ·rw [List.mem_singleton.mp q]
    exact nameE_len hz ok h.dp
  ·intro x hx b hxb
   rcases List.mem_append.mp hx with q | q
   ·obtain ⟨y, hy, r⟩ := h.bs x q b hxb
    exact ⟨y, findN_app hy, r⟩
   ·rw [List.mem_singleton.mp q] at hxb ⊢
    obtain ⟨y, hy, r⟩ := hb b hxb
    exact ⟨y, findN_app hy, r⟩
  ·intro x hx
   rcases List.mem_append.mp hx with q | q
   ·exact h.ok x q
   ·rw [List.mem_singleton.mp q]; exact ok
 ·have er : (stepE s e).r = s.r := by
   show (if outS s e = Str.ofString "right" then s.r ++ [⟨e, (nameE s.r e).getD []⟩] else s.r) = _
   rw [if_neg hr]
  refine ⟨nd, nk, ?_, ?_, ?_, ?_, ?_, ?_⟩ <;> rw [er]
  ·exact up
  ·exact h.rn
  ·intro x hx
   show _ ∈ s.n ++ [(e.n, nameE s.r e)]
   exact List.mem_append_left _ (h.nm x hx)
  ·exact h.dp
  ·exact h.bs
  ·exact h.ok
theorem resE_keys : ∀ (es : List En), (resE es).o.map (·.1) = es.map (·.n) := by
 intro es
 unfold resE
 have : ∀ (es : List En) (s : Rs), (es.foldl stepE s).o.map (·.1) = s.o.map (·.1) ++ es.map (·.n) := by
  intro es
  induction es with
  | nil => intro s; rw [List.foldl_nil, List.map_nil, List.append_nil]
  | cons e r ih =>
   intro s
   rw [List.foldl_cons, ih]
   show (s.o ++ [(e.n, outS s e)]).map (·.1) ++ _ = _
   rw [List.map_append, List.append_assoc]
   rfl
 exact this es ⟨[], [], []⟩
theorem resE_ok {es : List En} (ok : ∀ e ∈ es, okE e) (nd : (es.map (·.n)).Nodup) : ∀ i, i ≤ es.length → RsOk (resE (es.take i)) := by
 intro i
 induction i with
 | zero => intro _; exact RsOk.nil
 | succ i ih =>
  intro hi
  have e1 : es[i]? = some es[i] := List.getElem?_eq_getElem (by omega)
  rw [take_one e1, resE_snoc]
  refine (ih (by omega)).step (ok _ (List.getElem_mem _)) fun z => ?_
  rw [resE_keys] at z
  have := nd
  have e2 : es.map (·.n) = (es.take i).map (·.n) ++ es[i].n :: (es.drop (i + 1)).map (·.n) := by
   rw [← List.map_cons, List.getElem_cons_drop, ← List.map_append, List.take_append_drop]
  rw [e2, List.nodup_append] at this
  exact this.2.2 _ z _ (List.mem_cons_self ..) rfl
theorem book_nd : ∀ {es : List En} {seen : List Int} {last : Option En}, bookOk seen last (es.map some) = true → (es.map (·.n)).Nodup ∧ ∀ e ∈ es, e.n ∉ seen
 | [], _, _, _ => ⟨List.nodup_nil, fun _ h => nomatch h⟩
 | e :: r, seen, last, h => by
  have h : (!seen.contains e.n && (lastOk last e && bookOk (seen ++ [e.n]) (some e) (r.map some))) = true := h
  rw [Bool.and_eq_true, Bool.and_eq_true] at h
  obtain ⟨h1, _, h2⟩ := h
  obtain ⟨i1, i2⟩ := book_nd h2
  have n1 : e.n ∉ seen := fun z => by
   rw [List.contains_iff_mem.mpr z] at h1
   cases h1
  refine ⟨List.nodup_cons.mpr ⟨fun z => ?_, i1⟩, fun x hx => ?_⟩
  ·obtain ⟨x, hx, ex⟩ := List.mem_map.mp z
   exact i2 x hx (ex ▸ List.mem_append_right _ (List.mem_singleton.mpr rfl))
  ·rcases List.mem_cons.mp hx with q | q
   ·rw [q]; exact n1
   ·exact fun z => i2 x q (List.mem_append_left _ z)
structure RA where
 a : Addr
 dx : Addr
 o1 : Addr
 o2 : Addr
 o3 : Addr
 o4 : Addr
def NameV (H : Hp) (v : V) (nm : Option (List Str)) : Prop := match nm with | none => v = .non | some z => ∃ t, v = .ref t ∧ H t = some (.tup (z.map V.str))
theorem NameV.same {H H' : Hp} {v : V} {nm : Option (List Str)} (h : NameV H v nm) (s : ∀ t xs, H t = some (.tup xs) → H' t = some (.tup xs)) : NameV H' v nm := by
 cases nm with
 | none => exact h
 | some z => obtain ⟨t, e, h⟩ := h; exact ⟨t, e, s _ _ h⟩
theorem EntAt.keep {H H' : Hp} {C : Addr} {v : V} {e : En} (h : EntAt H C v e) (s : ∀ t dx fs, H t = some (.ins C dx fs) → H' t = some (.ins C dx fs)) : EntAt H' C v e := let ⟨a, dx, e1, h1⟩ := h; ⟨a, dx, e1, s _ _ _ h1⟩
def resF (A : RA) : List (Str × V) := [("outs", .ref A.o1), ("names", .ref A.o2), ("rights", .ref A.o3), ("holders", .ref A.o4)]
def RightP (H : Hp) (CE : Addr) (x : Rt) (q : Key × V) : Prop := q.1 = Sum.inl x.e.n ∧ EntAt H CE q.2 x.e
def HoldP (H : Hp) (CE : Addr) (x : Rt) (q : List Key × V) : Prop := q.1 = x.nm.map Sum.inr ∧ EntAt H CE q.2 x.e
def NameP (H : Hp) (x : Int × Option (List Str)) (q : Key × V) : Prop := q.1 = Sum.inl x.1 ∧ NameV H q.2 x.2
def outsD (s : Rs) : List (Key × V) := s.o.map fun p => (Sum.inl p.1, .str p.2)
structure ResAt (H : Hp) (CR CE : Addr) (A : RA) (s : Rs) : Prop where
 at_ : H A.a = some (.ins CR A.dx (resF A))
 outs : H A.o1 = some (.dK (outsD s))
 names : ∃ kn, H A.o2 = some (.dK kn) ∧ Paired (NameP H) s.n kn
 rights : ∃ kr, H A.o3 = some (.dK kr) ∧ Paired (RightP H CE) s.r kr
 holders : ∃ kh, H A.o4 = some (.dT kh) ∧ Paired (HoldP H CE) s.r kh
 d12 : A.o1 ≠ A.o2
 d13 : A.o1 ≠ A.o3
 d23 : A.o2 ≠ A.o3
def FrR (A : RA) (H H' : Hp) : Prop := ∀ b u, b ≠ A.o1 → b ≠ A.o2 → b ≠ A.o3 → b ≠ A.o4 → H b = some u → H' b = some u
theorem ResAt.same {H H' : Hp} {CR CE : Addr} {A : RA} {s : Rs} (h : ResAt H CR CE A s) (sm : Same H H') : ResAt H' CR CE A s := by
 obtain ⟨a, b, ⟨kn, n1, n2⟩, ⟨kr, r1, r2⟩, ⟨kh, h1, h2⟩, d1, d2, d3⟩ := h
 exact ⟨sm _ _ a, sm _ _ b, ⟨kn, sm _ _ n1, Paired.mapP n2 fun x q z => ⟨z.1, z.2.same fun t xs e => sm _ _ e⟩⟩, ⟨kr, sm _ _ r1, Paired.mapP r2 fun x q z => ⟨z.1, z.2.same sm⟩⟩, ⟨kh, sm _ _ h1, Paired.mapP h2 fun x q z => ⟨z.1, z.2.same sm⟩⟩, d1, d2, d3⟩
theorem FrR.refl (A : RA) (H : Hp) : FrR A H H := fun b u _ _ _ _ h => h
theorem FrR.trans {A : RA} {H H1 H2 : Hp} (a : FrR A H H1) (b : FrR A H1 H2) : FrR A H H2 := fun c u n1 n2 n3 n4 h => b c u n1 n2 n3 n4 (a c u n1 n2 n3 n4 h)
theorem Same.frR {A : RA} {H H' : Hp} (s : Same H H') : FrR A H H' := fun b u _ _ _ _ h => s b u h
theorem rights_at {H : Hp} {CE : Addr} {R : List Rt} {kr : List (Key × V)} (h : Paired (RightP H CE) R kr) (n : Int) : (findN R n = none ∧ valV kr (Sum.inl n) = none) ∨ ∃ x v, findN R n = some x ∧ valV kr (Sum.inl n) = some v ∧ EntAt H CE v x.e := by
 induction h with
 | nil => exact .inl ⟨rfl, rfl⟩
 | @cons x q R kr hq t ih =>
  obtain ⟨h1, h2⟩ := hq
  by_cases e : x.e.n = n
  ·refine .inr ⟨x, q.2, ?_, ?_, h2⟩
   ·unfold findN; rw [List.find?_cons_of_pos (p := fun y : Rt => decide (y.e.n = n)) (decide_eq_true e)]
   ·rw [valV_pos (by rw [h1, e])]
  ·have e1 : findN (x :: R) n = findN R n := by unfold findN; rw [List.find?_cons_of_neg (p := fun y : Rt => decide (y.e.n = n)) (by rw [decide_eq_false e]; decide)]
   rw [e1, valV_neg (by rw [h1]; exact fun z => e (Sum.inl.inj z))]
   exact ih
theorem names_at {H : Hp} {ns : List (Int × Option (List Str))} {kn : List (Key × V)} (h : Paired (NameP H) ns kn) (nd : (ns.map (·.1)).Nodup) {n : Int} {nm : Option (List Str)} (hm : (n, nm) ∈ ns) : ∃ v, valV kn (Sum.inl n) = some v ∧ NameV H v nm := by
 induction h with
 | nil => cases hm
 | @cons x q ns kn hq t ih =>
  obtain ⟨h1, h2⟩ := hq
  rw [List.map_cons, List.nodup_cons] at nd
  rcases List.mem_cons.mp hm with e | e
  ·subst e
   exact ⟨q.2, valV_pos (by rw [h1]), h2⟩
  ·have ne : x.1 ≠ n := fun z => nd.1 (by rw [z]; exact List.mem_map_of_mem (f := fun p : Int × Option (List Str) => p.1) e)
   rw [valV_neg (by rw [h1]; exact fun z => ne (Sum.inl.inj z))]
   exact ih nd.2 e
theorem map_inr_inj : ∀ {a b : List Str}, a.map (Sum.inr : Str → Key) = b.map Sum.inr → a = b
 | [], [], _ => rfl
 | [], _ :: _, h => by cases h
 | _ :: _, [], h => by cases h
 | x :: a, y :: b, h => by
  rw [List.map_cons, List.map_cons] at h
  injection h with h1 h2
  rw [Sum.inr.inj h1, map_inr_inj h2]
theorem holders_at {H : Hp} {CE : Addr} {R : List Rt} {kh : List (List Key × V)} (h : Paired (HoldP H CE) R kh) (z : List Str) : (valV kh (z.map Sum.inr)).isSome = R.any (fun x => decide (x.nm = z)) := by
 induction h with
 | nil => rfl
 | @cons x q R kh hq t ih =>
  obtain ⟨h1, h2⟩ := hq
  rw [List.any_cons]
  by_cases e : x.nm = z
  ·rw [valV_pos (by rw [h1, e]), decide_eq_true e]; rfl
  ·rw [valV_neg (by rw [h1]; exact fun q => e (map_inr_inj q)), decide_eq_false e, Bool.false_or]
   exact ih
theorem outs_none {s : Rs} {n : Int} (h : n ∉ s.o.map (·.1)) : valV (outsD s) (Sum.inl n) = none := by
 unfold outsD
 generalize s.o = l at h
 induction l with
 | nil => rfl
 | cons p r ih =>
  rw [List.map_cons] at h ⊢
  rw [valV_neg (fun z => h (by rw [← Sum.inl.inj z]; exact List.mem_cons_self ..))]
  exact ih fun z => h (List.mem_cons_of_mem _ z)
theorem putK_new {κ : Type} [DecidableEq κ] {kvs : List (κ × V)} {k : κ} {v : V} (h : valV kvs k = none) : putK kvs k v = kvs ++ [(k, v)] := by
 unfold putK
 rw [if_neg (by rw [valV_any, h]; decide)]
theorem names_none {H : Hp} {ns : List (Int × Option (List Str))} {kn : List (Key × V)} (h : Paired (NameP H) ns kn) {n : Int} (hm : n ∉ ns.map (·.1)) : valV kn (Sum.inl n) = none := by
 induction h with
 | nil => rfl
 | @cons x q ns kn hq t ih =>
  rw [List.map_cons] at hm
  rw [valV_neg (by rw [hq.1]; exact fun z => hm (by rw [← Sum.inl.inj z]; exact List.mem_cons_self ..))]
  exact ih fun z => hm (List.mem_cons_of_mem _ z)
theorem key_strs (z : List Str) : (z.map (Sum.inr : Str → Key)).map kV = z.map V.str := by rw [List.map_map]; rfl
def spTabE (K : PySem.W.Frag) : Sp := fun vs H Q _ => ∃ z, vs = [.str z] ∧ (z = Str.ofString "species" ∨ z = Str.ofString "form") ∧ Q (.str (aboveS z)) H
def spResInit (CR CE : Addr) : Sp := fun vs H Q _ => ∃ a dx, vs = [.ref a] ∧ H a = some (.ins CR dx []) ∧ ∀ A H', A.a = a → A.dx = dx → (∀ b u, b ≠ a → H b = some u → H' b = some u) → ResAt H' CR CE A ⟨[], [], []⟩ → H A.o1 = none → H A.o2 = none → H A.o3 = none → H A.o4 = none → Q .non H'
def spNameOf (CR CE : Addr) : Sp := fun vs H Q _ => ∃ A s v e, vs = [.ref A.a, v] ∧ ResAt H CR CE A s ∧ RsOk s ∧ EntAt H CE v e ∧ okE e ∧ ∀ w H', Same H H' → NameV H' w (nameE s.r e) → Q w H'
def spOutOf (CR CE : Addr) : Sp := fun vs H Q _ => ∃ A s v e w nm, vs = [.ref A.a, v, w] ∧ ResAt H CR CE A s ∧ EntAt H CE v e ∧ okE e ∧ NameV H w nm ∧ Q (.str (outE s.r e nm)) H
def spPutR (CR CE : Addr) : Sp := fun vs H Q _ => ∃ A s v e, vs = [.ref A.a, v] ∧ ResAt H CR CE A s ∧ RsOk s ∧ EntAt H CE v e ∧ okE e ∧ e.n ∉ s.o.map (·.1) ∧ s.o.length ≤ 1000 ∧ ∀ H', FrR A H H' → ResAt H' CR CE A (stepE s e) → Q (.str (outS s e)) H'
def spRootOf (CR CE : Addr) : Sp := fun vs H Q _ => ∃ A R kr v x, vs = [.ref A.a, v] ∧ H A.a = some (.ins CR A.dx (resF A)) ∧ Rd H A.o3 (.dK kr) ∧ Paired (RightP H CE) R kr ∧ EntAt H CE v x.e ∧ (∀ b, x.e.b = some b → ∃ y, findN R b = some y) ∧ ∀ w, EntAt H CE w (rootN R x) → Q w H
def spResultsOf (CR CE : Addr) : Sp := fun vs H Q _ => ∃ l ws es, vs = [.ref l] ∧ H l = some (.lst ws) ∧ EntsAt H CE ws es ∧ (∀ e ∈ es, okE e) ∧ (es.map (·.n)).Nodup ∧ ws.length ≤ 1000 ∧ ∀ A H', Same H H' → ResAt H' CR CE A (resE es) → H A.a = none → H A.o1 = none → H A.o2 = none → H A.o3 = none → H A.o4 = none → Q (.ref A.a) H'
def GoodB (H : Hp) (CE : Addr) (x : V) (es : List En) : Prop := ∃ l ws, x = .ref l ∧ H l = some (.lst ws) ∧ EntsAt H CE ws es ∧ (∀ e ∈ es, okE e) ∧ ws.length ≤ 1000 ∧ bookOk [] none (es.map some) = true
theorem GoodB.same {H H' : Hp} {CE : Addr} {x : V} {es : List En} (h : GoodB H CE x es) (s : Same H H') : GoodB H' CE x es := let ⟨l, ws, e, h1, h2, r⟩ := h; ⟨l, ws, e, s _ _ h1, h2.same s, r⟩
def rootsD (R : List Rt) : List (Key × V) := R.map fun x => (Sum.inl x.e.n, .int (rootN R x).n)
def tiedD (R : List Rt) : List (Key × V) := R.map fun x => (Sum.inl x.e.n, optV (rootN R x).s)
def spOuts (K : PySem.W.Frag) (CE X : Addr) : Sp := fun vs H Q E => ∃ x, vs = [x] ∧ ((∃ es, GoodB H CE x es ∧ ∀ d H', Same H H' → H d = none → H' d = some (.dK (outsD (resE es))) → Q (.ref d) H') ∨ (BadB K H CE x ∧ ∀ H', Same H H' → E (.ref X) none H'))
def spNames (K : PySem.W.Frag) (CE X : Addr) : Sp := fun vs H Q E => ∃ x, vs = [x] ∧ ((∃ es, GoodB H CE x es ∧ ∀ d kn H', Same H H' → H d = none → H' d = some (.dK kn) → Paired (NameP H') (resE es).n kn → Q (.ref d) H') ∨ (BadB K H CE x ∧ ∀ H', Same H H' → E (.ref X) none H'))
def spRoots (K : PySem.W.Frag) (CE X : Addr) (f : List Rt → List (Key × V)) : Sp := fun vs H Q E => ∃ x, vs = [x] ∧ ((∃ es, GoodB H CE x es ∧ ∀ d H', Same H H' → H d = none → H' d = some (.dK (f (resE es).r)) → Q (.ref d) H') ∨ (BadB K H CE x ∧ ∀ H', Same H H' → E (.ref X) none H'))
def lastW : Option En → List En → Option En
 | o, [] => o
 | _, x :: r => lastW (some x) r
theorem lastW_mem : ∀ {es : List En} {o : Option En} {x : En}, lastW o es = some x → o = some x ∨ x ∈ es
 | [], _, _, h => .inl h
 | y :: r, _, _, h => by
  rcases lastW_mem (es := r) h with q | q
  ·cases q; exact .inr (List.mem_cons_self ..)
  ·exact .inr (List.mem_cons_of_mem _ q)
theorem book_add : ∀ (es : List En) (seen : List Int) (last : Option En) (e : En), bookOk seen last (es.map some) = true → e.n ∉ seen → (∀ x ∈ es, x.n ≠ e.n) → lastOk (lastW last es) e = true → bookOk seen last ((es ++ [e]).map some) = true
 | [], seen, last, e, _, h1, _, h3 => by
  show (!seen.contains e.n && (lastOk last e && true)) = true
  have h3 : lastOk last e = true := h3
  have h1' : seen.contains e.n = false := by
   cases q : seen.contains e.n with
   | false => rfl
   | true => exact absurd (List.contains_iff_mem.mp q) h1
  rw [h1', h3]
  rfl
 | x :: r, seen, last, e, h, h1, h2, h3 => by
  have h : (!seen.contains x.n && (lastOk last x && bookOk (seen ++ [x.n]) (some x) (r.map some))) = true := h
  show (!seen.contains x.n && (lastOk last x && bookOk (seen ++ [x.n]) (some x) ((r ++ [e]).map some))) = true
  rw [Bool.and_eq_true, Bool.and_eq_true] at h ⊢
  refine ⟨h.1, h.2.1, book_add r _ _ e h.2.2 (fun z => ?_) (fun y hy => h2 y (List.mem_cons_of_mem _ hy)) h3⟩
  rcases List.mem_append.mp z with q | q
  ·exact h1 q
  ·exact h2 x (List.mem_cons_self ..) (List.mem_singleton.mp q).symm
theorem ahead_of {x e : En} (hd : x.d ≤ e.d) (hn : x.n < e.n) : aheadE x e = true := by
 show (if x.d = e.d then (if x.n = e.n then false else decide (x.n < e.n)) else decide (x.d < e.d)) = true
 by_cases h : x.d = e.d
 ·rw [if_pos h, if_neg (by omega), decide_eq_true hn]
 ·rw [if_neg h, decide_eq_true (by omega)]
structure Rise (es : List En) (n d : Int) : Prop where
 bk : bookOk [] none (es.map some) = true
 le : ∀ e ∈ es, e.n ≤ n ∧ e.d ≤ d
theorem Rise.nil (n d : Int) : Rise [] n d := ⟨rfl, fun _ h => nomatch h⟩
theorem Rise.add {es : List En} {n d : Int} {e : En} (h : Rise es n d) (hn : n < e.n) (hd : d ≤ e.d) : Rise (es ++ [e]) e.n e.d := by
 refine ⟨book_add es [] none e h.bk List.not_mem_nil (fun x hx z => by have := (h.le x hx).1; omega) ?_, fun x hx => ?_⟩
 ·cases q : lastW none es with
  | none => rfl
  | some x =>
   rcases lastW_mem q with z | z
   ·cases z
   ·have := h.le x z
    exact ahead_of (by omega) (by omega)
 ·rcases List.mem_append.mp hx with q | q
  ·have := h.le x q
   exact ⟨by omega, by omega⟩
  ·rw [List.mem_singleton.mp q]; exact ⟨Int.le_refl _, Int.le_refl _⟩
theorem okE_of {e : En} (h1 : inR 1000000000 (.int e.n) = true) (h2 : inR 1000000 (.int e.d) = true) (h3 : isRank (.str e.r) = true) (h4 : isWord (.str e.w) = true) (h5 : underFits (.str e.r) (optV e.u) = true) (h6 : tieFits (.str e.r) (optV e.s) (optV e.b) = true) : okE e := by
 have hw : whyH (.int e.n) (.int e.d) (.str e.r) (.str e.w) = 0 := by
  unfold whyH
  rw [if_neg (by rw [h1]; decide), if_neg (by rw [h2]; decide), if_neg (by rw [h3]; decide), if_neg (by rw [h4]; decide)]
 unfold okE why
 rw [hw, if_neg (fun z => z rfl), if_neg (by rw [h5]; decide), if_neg (by rw [h6]; decide)]
def spMixC : Sp := fun vs H Q _ => ∃ n k, vs = [.int n, .int k] ∧ 0 ≤ k ∧ k < 100 ∧ ∀ r, 0 ≤ r → r < 2147483629 → Q (.int r) H
theorem isWord_le {z : Str} (h : isWord (.str z) = true) : z.length ≤ 12 ∧ 1 ≤ z.length ∧ z.cps.toList.all letter = true := by
 rw [isWord_str, Bool.and_eq_true, Bool.and_eq_true] at h
 have h1 := of_decide_eq_true h.1.1
 have h2 := of_decide_eq_true h.1.2
 exact ⟨by omega, by omega, h.2⟩
theorem isWord_of {z : Str} (h1 : 1 ≤ z.length) (h2 : z.length ≤ 12) (h3 : z.cps.toList.all letter = true) : isWord (.str z) = true := by
 rw [isWord_str, h3, decide_eq_true (by omega), decide_eq_true (by omega)]
 rfl
def RowG (H : Hp) (v : V) (e : En) : Prop := ∃ a s, v = .ref a ∧ e.s = some s ∧ H a = some (.lst [.int e.n, .int e.d, .str e.w, .int s, .bl e.k])
theorem RowG.same {H H' : Hp} {v : V} {e : En} (h : RowG H v e) (s : Same H H') : RowG H' v e := let ⟨a, x, e1, e2, h1⟩ := h; ⟨a, x, e1, e2, s _ _ h1⟩
def RowsG (H : Hp) (ws : List V) (es : List En) : Prop := ws.length = es.length ∧ ∀ (j : Nat) v e, ws[j]? = some v → es[j]? = some e → RowG H v e
theorem RowsG.same {H H' : Hp} {ws : List V} {es : List En} (h : RowsG H ws es) (s : Same H H') : RowsG H' ws es := ⟨h.1, fun j v e a b => (h.2 j v e a b).same s⟩
theorem rel_push {α : Type} {P : V → α → Prop} {ws : List V} {es : List α} {w : V} {e : α} (h : ws.length = es.length ∧ ∀ (j : Nat) v e, ws[j]? = some v → es[j]? = some e → P v e) (hw : P w e) : (ws ++ [w]).length = (es ++ [e]).length ∧ ∀ (j : Nat) v x, (ws ++ [w])[j]? = some v → (es ++ [e])[j]? = some x → P v x := by
 refine ⟨by rw [List.length_append, List.length_append, h.1]; rfl, fun j v x hv hx => ?_⟩
 by_cases hj : j < ws.length
 ·rw [List.getElem?_append_left hj] at hv
  rw [List.getElem?_append_left (by rw [← h.1]; exact hj)] at hx
  exact h.2 j v x hv hx
 ·rw [List.getElem?_append_right (by omega)] at hv
  rw [List.getElem?_append_right (by rw [← h.1]; omega)] at hx
  obtain ⟨h1, e1⟩ := List.getElem?_eq_some_iff.mp hv
  have j0 : j - ws.length = 0 := by simpa using h1
  rw [j0] at hv
  rw [← h.1, j0] at hx
  cases Option.some.inj hv
  cases Option.some.inj hx
  exact hw
theorem RowsG.ne {H : Hp} {l a : Addr} {ws r : List V} {es : List En} {n : Int} (hR : RowsG H ws es) (hL : H l = some (.lst ws)) (ha : H a = some (.lst (.int n :: r))) : a ≠ l := fun z => by
 rw [z, hL] at ha
 have e : ws = .int n :: r := by injection ha with ha; injection ha
 have h0 : ws[0]? = some (.int n) := by rw [e]; rfl
 have hl : 0 < es.length := by rw [← hR.1, e]; exact Nat.succ_pos _
 obtain ⟨_, _, q, _⟩ := hR.2 0 _ _ h0 (List.getElem?_eq_getElem hl)
 cases q
def LikeD (K : PySem.W.Frag) (H : Hp) (ka kb : List (Key × V)) : Prop := ka.length = kb.length ∧ (∀ p ∈ ka, ∃ y, valV kb p.1 = some y ∧ EqD K H 2 p.2 y true) ∧ ∀ p ∈ ka, ∃ n : Int, p.1 = Sum.inl n
theorem valV_self {kvs : List (Key × V)} (nd : (kvs.map (·.1)).Nodup) {p : Key × V} (h : p ∈ kvs) : valV kvs p.1 = some p.2 := by
 induction kvs with
 | nil => cases h
 | cons q r ih =>
  rw [List.map_cons, List.nodup_cons] at nd
  rcases List.mem_cons.mp h with e | e
  ·subst e; exact valV_pos rfl
  ·rw [valV_neg (fun z => nd.1 (by rw [z]; exact List.mem_map_of_mem (f := fun p : Key × V => p.1) e))]
   exact ih nd.2 e
theorem LikeD.refl {K : PySem.W.Frag} {H : Hp} {ka : List (Key × V)} (nd : (ka.map (·.1)).Nodup) (hf : ∀ p ∈ ka, flatV p.2 = true) (hn : ∀ p ∈ ka, ∃ n : Int, p.1 = Sum.inl n) : LikeD K H ka ka :=
 ⟨rfl, fun p hp => ⟨p.2, valV_self nd hp, .inl (.inl ⟨hf p hp, hf p hp, (eqV_self (hf p hp)).symm⟩)⟩, hn⟩
theorem atI_ix {α : Type} {xs : List α} {i : Int} (h0 : 0 ≤ i) (h1 : i < xs.length) : ∃ j v, j < xs.length ∧ xs[j]? = some v ∧ atI xs i = some v ∧ ixN xs.length i = some j := by
 have hj : i.toNat < xs.length := by omega
 refine ⟨i.toNat, xs[i.toNat], hj, List.getElem?_eq_getElem hj, atI_toNat h0 (List.getElem?_eq_getElem hj), ?_⟩
 unfold ixN
 rw [if_pos h0, if_pos h1]
def rowU (e : En) : List V := [.int e.n, .int e.d, .str e.r, .str e.w, optV e.u, .bl e.k]
def RowU (H : Hp) (v : V) (e : En) : Prop := ∃ a, v = .ref a ∧ H a = some (.lst (rowU e))
theorem RowU.same {H H' : Hp} {v : V} {e : En} (h : RowU H v e) (s : Same H H') : RowU H' v e := let ⟨a, e1, h1⟩ := h; ⟨a, e1, s _ _ h1⟩
def RowsU (H : Hp) (ws : List V) (es : List En) : Prop := ws.length = es.length ∧ ∀ (j : Nat) v e, ws[j]? = some v → es[j]? = some e → RowU H v e
theorem RowsU.same {H H' : Hp} {ws : List V} {es : List En} (h : RowsU H ws es) (s : Same H H') : RowsU H' ws es := ⟨h.1, fun j v e a b => (h.2 j v e a b).same s⟩
theorem RowsU.ne {H : Hp} {l a : Addr} {ws r : List V} {es : List En} {n : Int} (hR : RowsU H ws es) (hL : H l = some (.lst ws)) (ha : H a = some (.lst (.int n :: r))) : a ≠ l := fun z => by
 rw [z, hL] at ha
 have e : ws = .int n :: r := by injection ha with ha; injection ha
 have h0 : ws[0]? = some (.int n) := by rw [e]; rfl
 have hl : 0 < es.length := by rw [← hR.1, e]; exact Nat.succ_pos _
 obtain ⟨_, q, _⟩ := hR.2 0 _ _ h0 (List.getElem?_eq_getElem hl)
 cases q
theorem same_put {H G : Hp} {l : Addr} {o : HO} (h : H l = none) (s : Same H G) : Same H (upd G l o) := fun b u hb => by
 rw [upd_ne (ne_of_none hb h)]
 exact s _ _ hb
theorem join_ones : ∀ ys : List Str, (∀ y ∈ ys, y.length = 1 ∧ y.cps.toList.all letter = true) → (Str.join (Str.ofString "") ys).length = ys.length ∧ (Str.join (Str.ofString "") ys).cps.toList.all letter = true
 | [], _ => ⟨rfl, rfl⟩
 | [x], h => h x (List.mem_cons_self ..)
 | x :: y :: r, h => by
  have h1 := h x (List.mem_cons_self ..)
  have h2 := join_ones (y :: r) fun z hz => h z (List.mem_cons_of_mem _ hz)
  have e : Str.join (Str.ofString "") (x :: y :: r) = x ++ Str.ofString "" ++ Str.join (Str.ofString "") (y :: r) := rfl
  have e0 : (Str.ofString "").length = 0 := by decide +kernel
  have e1 : (Str.ofString "").cps.toList.all letter = true := by decide +kernel
  rw [e, Str.length_append, Str.length_append, all_app, all_app, h1.1, h1.2, h2.1, h2.2, e0, e1]
  exact ⟨by show _ = (y :: r).length + 1; omega, rfl⟩
theorem join_word {ys : List Str} (h : ∀ y ∈ ys, y.length = 1 ∧ y.cps.toList.all letter = true) (l1 : 1 ≤ ys.length) (l2 : ys.length ≤ 12) : isWord (.str (Txt.join (Str.ofString "") ys)) = true := by
 have e : Txt.join (Str.ofString "") ys = Str.join (Str.ofString "") ys := StrLaws.glued_eq_join _ _
 rw [e]
 obtain ⟨q1, q2⟩ := join_ones ys h
 exact isWord_of (by omega) (by omega) q2
theorem ones_sum : ∀ ys : List Str, (∀ y ∈ ys, y.length = 1 ∧ y.cps.toList.all letter = true) → (ys.map (·.length)).sum = ys.length
 | [], _ => rfl
 | x :: r, h => by
  rw [List.map_cons, List.sum_cons, (h x (List.mem_cons_self ..)).1, ones_sum r fun z hz => h z (List.mem_cons_of_mem _ hz), List.length_cons]
  omega
def Drawn (d : Int) : Prop := 0 ≤ d ∧ d < 10000000000
def spDraws : Sp := fun vs H Q _ => ∃ n k fr, vs = [.int n, .int k, .bl fr] ∧ 0 ≤ k ∧ k < 100 ∧ ∀ (ds : List Int) l H', ds.length = 10 → (∀ d ∈ ds, Drawn d) → Same H H' → H l = none → H' l = some (.lst (ds.map V.int)) → Q (.ref l) H'
def spWordsF (m : Nat) : Sp := fun vs H Q _ => ∃ n fr, vs = [.int n, .bl fr] ∧ ∀ (zs : List Str) l H', zs.length = m → (∀ z ∈ zs, isWord (.str z) = true) → Same H H' → H l = none → H' l = some (.lst (zs.map V.str)) → Q (.ref l) H'
def spAnyW : Sp := fun vs H Q _ => ∃ n, vs = [.int n] ∧ ∀ z, isWord (.str z) = true → Q (.str z) H
theorem push_drawn {ds : List Int} {x : Int} (h : ∀ d ∈ ds, Drawn d) (hx : Drawn x) : ∀ d ∈ ds ++ [x], Drawn d := fun d hd => by
 rcases List.mem_append.mp hd with q | q
 ·exact h d q
 ·rw [List.mem_singleton.mp q]; exact hx
def rowB (e : En) : List V := [.int e.n, .int e.d, .str e.r, .str e.w, optV e.u, optV e.s, optV e.b, .bl e.k]
def RowB (H : Hp) (v : V) (e : En) : Prop := ∃ a, v = .ref a ∧ H a = some (.lst (rowB e))
theorem RowB.same {H H' : Hp} {v : V} {e : En} (h : RowB H v e) (s : Same H H') : RowB H' v e := let ⟨a, e1, h1⟩ := h; ⟨a, e1, s _ _ h1⟩
def RowsB (H : Hp) (ws : List V) (es : List En) : Prop := ws.length = es.length ∧ ∀ (j : Nat) v e, ws[j]? = some v → es[j]? = some e → RowB H v e
theorem RowsB.same {H H' : Hp} {ws : List V} {es : List En} (h : RowsB H ws es) (s : Same H H') : RowsB H' ws es := ⟨h.1, fun j v e a b => (h.2 j v e a b).same s⟩
structure BkB (es : List En) : Prop where
 bk : bookOk [] none (es.map some) = true
 ok : ∀ e ∈ es, okE e
 nn : ∀ e ∈ es, 1 ≤ e.n ∧ e.n ≤ 999000000 + 2000 * es.length
 dd : ∀ e ∈ es, 1 ≤ e.d ∧ e.d ≤ 9000 * es.length
 le : es.length ≤ 84
theorem lastW_snoc : ∀ (es : List En) (o : Option En) (e : En), lastW o (es ++ [e]) = some e
 | [], _, _ => rfl
 | x :: r, _, e => lastW_snoc r (some x) e
theorem RowsB.last {H : Hp} {ws : List V} {es : List En} (h : RowsB H ws es) (hw : ws ≠ []) : ∃ e ra, lastW none es = some e ∧ e ∈ es ∧ atI ws (-1) = some (.ref ra) ∧ H ra = some (.lst (rowB e)) := by
 have hl := h.1
 have he : es ≠ [] := fun z => hw (List.eq_nil_of_length_eq_zero (by rw [hl, z]; rfl))
 obtain ⟨w0, wv, rfl⟩ : ∃ w0 wv, ws = w0 ++ [wv] := ⟨_, _, (List.dropLast_concat_getLast hw).symm⟩
 obtain ⟨e0, ev, rfl⟩ : ∃ e0 ev, es = e0 ++ [ev] := ⟨_, _, (List.dropLast_concat_getLast he).symm⟩
 have hl0 : w0.length = e0.length := by
  rw [List.length_append, List.length_append] at hl
  exact Nat.succ.inj hl
 obtain ⟨ra, rfl, hr⟩ := h.2 w0.length wv ev (by simp) (by rw [hl0]; simp)
 exact ⟨ev, ra, lastW_snoc _ _ _, by simp, atI_last _ _, hr⟩
theorem flatI (ns : List Int) : (ns.map V.int).all flatV = true := by
 rw [List.all_eq_true]
 intro x hx
 obtain ⟨z, _, rfl⟩ := List.mem_map.mp hx
 rfl
theorem inV_ints {n : Int} : ∀ {ns : List Int}, inV (.int n) (ns.map V.int) = true ↔ n ∈ ns := by
 intro ns
 unfold inV
 rw [List.any_eq_true]
 constructor
 ·rintro ⟨v, hv, q⟩
  obtain ⟨z, hz, rfl⟩ := List.mem_map.mp hv
  have : z = n := by simpa [eqV] using q
  exact this ▸ hz
 ·intro h
  exact ⟨_, List.mem_map_of_mem h, by simp [eqV]⟩
def spStamp : Sp := fun vs H Q _ => ∃ l ws es x y, vs = [.ref l, .int x, .int y] ∧ H l = some (.lst ws) ∧ RowsB H ws es ∧ BkB es ∧ es.length < 84 ∧ Drawn x ∧ Drawn y ∧ ∀ (n d : Int) t H', Same H H' → H' t = some (.tup [.int n, .int d]) → (∀ e ∈ es, e.n ≠ n) → 1 ≤ n → n ≤ 999000000 + 2000 * (es.length + 1) → 1 ≤ d → d ≤ 9000 * (es.length + 1) → (∀ e, lastW none es = some e → e.d < d ∨ e.d = d ∧ e.n < n) → Q (.ref t) H'
def Some (H : Hp) (es : List En) (acc : List V) : Prop := acc.length ≤ es.length ∧ ∀ v ∈ acc, ∃ e ∈ es, RowB H v e
theorem Some.same {H H' : Hp} {es : List En} {acc : List V} (h : Some H es acc) (s : Same H H') : Some H' es acc := ⟨h.1, fun v hv => let ⟨e, he, hr⟩ := h.2 v hv; ⟨e, he, hr.same s⟩⟩
theorem RowsB.some {H : Hp} {ws : List V} {es : List En} (h : RowsB H ws es) : Some H es ws := ⟨by rw [h.1]; exact Nat.le_refl _, fun v hv => by
 obtain ⟨j, hj⟩ := List.getElem?_of_mem hv
 have hl : j < es.length := by rw [← h.1]; exact (List.getElem?_eq_some_iff.mp hj).1
 exact ⟨_, List.getElem_mem hl, h.2 j v _ hj (List.getElem?_eq_getElem hl)⟩⟩
def spPick : Sp := fun vs H Q _ => ∃ l ws es rk x y, vs = [.ref l, .str rk, .int x, .int y] ∧ H l = some (.lst ws) ∧ RowsB H ws es ∧ BkB es ∧ es ≠ [] ∧ ∀ (r : Int) H', Same H H' → 1 ≤ r → r ≤ 1000000000 → Q (.int r) H'
def spBaseB : Sp := fun vs H Q _ => ∃ l ws es rk x y, vs = [.ref l, .str rk, .int x, .int y] ∧ H l = some (.lst ws) ∧ RowsB H ws es ∧ BkB es ∧ es ≠ [] ∧ ∀ v e H', Same H H' → e ∈ es → RowB H' v e → Q v H'
structure NextE (es : List En) (e : En) : Prop where
 ok : okE e
 nw : ∀ x ∈ es, x.n ≠ e.n
 n1 : 1 ≤ e.n
 n2 : e.n ≤ 999000000 + 2000 * (es.length + 1)
 d1 : 1 ≤ e.d
 d2 : e.d ≤ 9000 * (es.length + 1)
 la : ∀ x, lastW none es = some x → x.d < e.d ∨ x.d = e.d ∧ x.n < e.n
def spEntry : Sp := fun vs H Q _ => ∃ l ws es wl, ∃ zs : List Str, ∃ n i fr, vs = [.ref l, .ref wl, .int n, .int i, .bl fr] ∧ H l = some (.lst ws) ∧ RowsB H ws es ∧ BkB es ∧ es.length < 84 ∧ H wl = some (.lst (zs.map V.str)) ∧ zs.length = 4 ∧ (∀ z ∈ zs, isWord (.str z) = true) ∧ 0 ≤ i ∧ i < 100 ∧ ∀ v e H', Same H H' → RowB H' v e → NextE es e → Q v H'
theorem BkB.add {es : List En} {e : En} (h : BkB es) (n : NextE es e) (hl : es.length < 84) : BkB (es ++ [e]) := by
 have ll : ((es ++ [e]).length : Int) = es.length + 1 := by rw [List.length_append]; rfl
 have mem : ∀ x ∈ es ++ [e], x ∈ es ∨ x = e := fun x hx => (List.mem_append.mp hx).imp id List.mem_singleton.mp
 refine ⟨book_add es [] none e h.bk List.not_mem_nil n.nw ?_, fun x hx => ?_, fun x hx => ?_, fun x hx => ?_, ?_⟩
 ·cases q : lastW none es with
  | none => rfl
  | some x =>
   show aheadE x e = true
   show (if x.d = e.d then (if x.n = e.n then false else decide (x.n < e.n)) else decide (x.d < e.d)) = true
   rcases n.la x q with z | z
   ·rw [if_neg (by omega), decide_eq_true z]
   ·rw [if_pos z.1, if_neg (by omega), decide_eq_true z.2]
 ·rcases mem x hx with q | rfl
  ·exact h.ok x q
  ·exact n.ok
 ·rw [ll]
  rcases mem x hx with q | rfl
  ·have := h.nn x q
   exact ⟨this.1, by omega⟩
  ·exact ⟨n.n1, n.n2⟩
 ·rw [ll]
  rcases mem x hx with q | rfl
  ·have := h.dd x q
   exact ⟨this.1, by omega⟩
  ·exact ⟨n.d1, n.d2⟩
 ·omega
theorem BkB.nil : BkB [] := ⟨rfl, fun _ h => (nomatch h), fun _ h => (nomatch h), fun _ h => (nomatch h), Nat.zero_le _⟩
theorem RowB.ne {H : Hp} {ws : List V} {es : List En} {l a : Addr} {e : En} (hR : RowsB H ws es) (hL : H l = some (.lst ws)) (ha : H a = some (.lst (rowB e))) : a ≠ l := fun z => by
 rw [z, hL] at ha
 have e' : ws = rowB e := by injection ha with ha; injection ha
 have h0 : ws[0]? = some (.int e.n) := by rw [e']; rfl
 have hl : 0 < es.length := by rw [← hR.1, e']; exact Nat.succ_pos _
 obtain ⟨_, q, _⟩ := hR.2 0 _ _ h0 (List.getElem?_eq_getElem hl)
 cases q
def spBookB (K : PySem.W.Frag) : Sp := fun vs H Q _ => ∃ (a : Addr) (st : Int) (ns : List Int), vs = [.ref a, .int st] ∧ 0 ≤ st ∧ st ≤ 63 ∧ SqL K H a (ns.map V.int) ∧ ns.length ≤ 63 ∧ ∀ l ws es H', Same H H' → H' l = some (.lst ws) → RowsB H' ws es → BkB es → es.length < 64 → Q (.ref l) H'
def spMade (CE : Addr) : Sp := fun vs H Q _ => ∃ l ws es, vs = [.ref l] ∧ H l = some (.lst ws) ∧ RowsB H ws es ∧ (∀ e ∈ es, okE e) ∧ es.length ≤ 84 ∧ ∀ q acc H', Same H H' → H q = none → H' q = some (.lst acc) → EntsAt H' CE acc es → Q (.ref q) H'
theorem RowB.keep {H H' : Hp} {v : V} {e : En} (h : RowB H v e) (s : ∀ t xs, H t = some (.lst xs) → H' t = some (.lst xs)) : RowB H' v e := let ⟨a, e1, h1⟩ := h; ⟨a, e1, s _ _ h1⟩
def row7 (e : En) : List V := [.int e.n, .int e.d, .str e.r, .str e.w, optV e.u, optV e.s, optV e.b]
theorem flat7 (e : En) : (row7 e).all flatV = true := by
 cases e with
 | mk n d r w u s b k => cases u <;> cases s <;> cases b <;> rfl
theorem eqL_self : ∀ {xs : List V}, xs.all flatV = true → eqL xs xs = true
 | [], _ => rfl
 | x :: r, h => by
  rw [List.all_cons, Bool.and_eq_true] at h
  rw [eqL, eqV_self h.1, eqL_self h.2]
  rfl
theorem cut7 (e : En) : cutV (rowB e) none (some 7) = row7 e := rfl
def spIsEntry (CE : Addr) : Sp := fun vs H Q _ => ∃ v r e, vs = [v, r] ∧ EntAt H CE v e ∧ RowB H r e ∧ ∀ H', Same H H' → Q (.bl true) H'
def spIsBook (CE : Addr) : Sp := fun vs H Q _ => ∃ q acc l ws es, vs = [.ref q, .ref l] ∧ H q = some (.lst acc) ∧ EntsAt H CE acc es ∧ H l = some (.lst ws) ∧ RowsB H ws es ∧ ∀ H', Same H H' → Q (.bl true) H'
def mkL (n d : Int) : En := ⟨n, d, Str.ofString "genus", Str.ofString "a", none, some 5, none, true⟩
theorem okL {n d : Int} (n1 : 1 ≤ n) (n2 : n ≤ 1000000000) (d1 : 1 ≤ d) (d2 : d ≤ 1000000) : okE (mkL n d) :=
 okE_of (inR_of n1 n2) (inR_of d1 d2) (by show isRank (.str (Str.ofString "genus")) = true; decide +kernel) (by show isWord (.str (Str.ofString "a")) = true; decide +kernel) (by show underFits (.str (Str.ofString "genus")) .non = true; rw [under_g]; exact decide_eq_true rfl) (by show tieFits (.str (Str.ofString "genus")) (.int 5) .non = true; rw [tie_n]; exact inR_of (by decide) (by decide))
theorem ahead_iff (x y : En) : aheadE x y = true ↔ x.d < y.d ∨ x.d = y.d ∧ x.n < y.n := by
 show (if x.d = y.d then (if x.n = y.n then false else decide (x.n < y.n)) else decide (x.d < y.d)) = true ↔ _
 by_cases h : x.d = y.d
 ·rw [if_pos h]
  by_cases h2 : x.n = y.n
  ·rw [if_pos h2]
   exact ⟨fun z => (nomatch z), fun z => by omega⟩
  ·rw [if_neg h2, decide_eq_true_iff]
   exact ⟨fun z => .inr ⟨h, z⟩, fun z => by omega⟩
 ·rw [if_neg h, decide_eq_true_iff]
  exact ⟨fun z => .inl z, fun z => by omega⟩
theorem pairs_of : ∀ {es : List En} {seen : List Int} {last : Option En}, bookOk seen last (es.map some) = true → es.Pairwise (fun x y => aheadE x y = true) ∧ ∀ l, last = some l → ∀ e ∈ es, aheadE l e = true
 | [], _, _, _ => ⟨.nil, fun _ _ _ h => nomatch h⟩
 | e :: r, seen, last, h => by
  have h : (!seen.contains e.n && (lastOk last e && bookOk (seen ++ [e.n]) (some e) (r.map some))) = true := h
  rw [Bool.and_eq_true, Bool.and_eq_true] at h
  obtain ⟨_, h1, h2⟩ := h
  obtain ⟨p1, p2⟩ := pairs_of h2
  refine ⟨List.pairwise_cons.mpr ⟨fun y hy => p2 e rfl y hy, p1⟩, fun l hl x hx => ?_⟩
  subst hl
  have h1 : aheadE l e = true := h1
  rcases List.mem_cons.mp hx with q | q
  ·rw [q]; exact h1
  ·have a := (ahead_iff _ _).mp h1
   have b := (ahead_iff _ _).mp (p2 e rfl x q)
   exact (ahead_iff _ _).mpr (by omega)
theorem book_init : ∀ (is js : List (Option En)) (s : List Int) (l : Option En), bookOk s l (is ++ js) = true → bookOk s l is = true
 | [], _, _, _, _ => rfl
 | none :: _, _, _, _, h => nomatch h
 | some e :: r, js, s, l, h => by
  have h : (!s.contains e.n && (lastOk l e && bookOk (s ++ [e.n]) (some e) (r ++ js))) = true := h
  rw [Bool.and_eq_true, Bool.and_eq_true] at h
  show (!s.contains e.n && (lastOk l e && bookOk (s ++ [e.n]) (some e) r)) = true
  rw [h.1, h.2.1, book_init r js _ _ h.2.2]
  rfl
theorem book_none : ∀ (is : List (Option En)) (seen : List Int) (last : Option En), none ∈ is → bookOk seen last is = false
 | [], _, _, h => nomatch h
 | none :: _, _, _, _ => rfl
 | some f :: r, seen, last, h => by
  show (!seen.contains f.n && (lastOk last f && bookOk (seen ++ [f.n]) (some f) r)) = false
  rcases List.mem_cons.mp h with h | h
  ·cases h
  ·rw [book_none r _ _ h, Bool.and_false, Bool.and_false]
theorem ItAt.same {K : PySem.W.Frag} {H H' : Hp} {C : Addr} {v : V} {i : Option En} (h : ItAt K H C v i) (s : Same H H') : ItAt K H' C v i := by
 cases h with
 | ent h => exact .ent (h.same s)
 | oth t hn => exact .oth (t.same s) hn
theorem ItsAt.same {K : PySem.W.Frag} {H H' : Hp} {C : Addr} {ws : List V} {is : List (Option En)} (h : ItsAt K H C ws is) (s : Same H H') : ItsAt K H' C ws is := ⟨h.1, fun j v i a b => (h.2 j v i a b).same s⟩
theorem ItsAt.nil {K : PySem.W.Frag} {H : Hp} {C : Addr} : ItsAt K H C [] [] := ⟨rfl, fun _ _ _ h => nomatch h⟩
theorem ItsAt.cons {K : PySem.W.Frag} {H : Hp} {C : Addr} {v : V} {i : Option En} {ws : List V} {is : List (Option En)} (h : ItAt K H C v i) (t : ItsAt K H C ws is) : ItsAt K H C (v :: ws) (i :: is) := by
 refine ⟨congrArg Nat.succ t.1, fun j v' i' a b => ?_⟩
 cases j with
 | zero =>
  cases (Option.some.inj a : v = v')
  cases (Option.some.inj b : i = i')
  exact h
 | succ j => exact t.2 j v' i' a b
theorem ItsAt.app {K : PySem.W.Frag} {H : Hp} {C : Addr} : ∀ {ws ws' : List V} {is is' : List (Option En)}, ItsAt K H C ws is → ItsAt K H C ws' is' → ItsAt K H C (ws ++ ws') (is ++ is')
 | [], _, [], _, _, h' => h'
 | [], _, _ :: _, _, h, _ => nomatch h.1
 | _ :: _, _, [], _, h, _ => nomatch h.1
 | w :: ws, _, i :: is, _, h, h' => ItsAt.cons (h.2 0 w i rfl rfl) (ItsAt.app (ws := ws) (is := is) ⟨Nat.succ.inj h.1, fun j v i a b => h.2 (j + 1) v i a b⟩ h')
def spFieldsT (CE : Addr) : Sp := fun vs H Q _ => ∃ v e, vs = [v] ∧ EntAt H CE v e ∧ ∀ t H', Same H H' → H' t = some (.tup (rowB e)) → Q (.ref t) H'
def TupsAt (H : Hp) (acc : List V) (es : List En) : Prop := acc.length = es.length ∧ ∀ (j : Nat) v e, acc[j]? = some v → es[j]? = some e → ∃ t, v = .ref t ∧ H t = some (.tup (rowB e))
theorem TupsAt.same {H H' : Hp} {acc : List V} {es : List En} (h : TupsAt H acc es) (s : Same H H') : TupsAt H' acc es := ⟨h.1, fun j v e a b => let ⟨t, e1, h1⟩ := h.2 j v e a b; ⟨t, e1, s _ _ h1⟩⟩
theorem BadB.same {K : PySem.W.Frag} {H H' : Hp} {C : Addr} {x : V} (h : BadB K H C x) (s : Same H H') : BadB K H' C x := by
 rcases h with ⟨l, ws, is, e, h1, h2, r⟩ | ⟨n, t, hn⟩
 ·exact .inl ⟨l, ws, is, e, s _ _ h1, h2.same s, r⟩
 ·exact .inr ⟨n, t.same s, hn⟩
theorem eqV_opt (a b : Option Int) : eqV (optV a) (optV b) = decide (a = b) := by
 cases a with
 | none => cases b with
  | none => rfl
  | some y => rw [decide_eq_false (fun z => nomatch z)]; rfl
 | some x => cases b with
  | none => rw [decide_eq_false (fun z => nomatch z)]; rfl
  | some y =>
   show eqV (.int x) (.int y) = _
   by_cases h : x = y
   ·rw [h, decide_eq_true rfl]; exact eqV_self rfl
   ·rw [decide_eq_false (fun z => h (Option.some.inj z))]
    simp [eqV]
    exact h
theorem row_eq (e f : En) : eqL (rowB e) (rowB f) = true ↔ e = f := by
 obtain ⟨n, d, r, w, u, s, b, k⟩ := e
 obtain ⟨n', d', r', w', u', s', b', k'⟩ := f
 show (eqV (.int n) (.int n') && (eqV (.int d) (.int d') && (eqV (.str r) (.str r') && (eqV (.str w) (.str w') && (eqV (optV u) (optV u') && (eqV (optV s) (optV s') && (eqV (optV b) (optV b') && (eqV (.bl k) (.bl k') && true)))))))) = true ↔ _
 rw [eqV_opt, eqV_opt, eqV_opt]
 simp [eqV]
theorem flat8 (e : En) : (rowB e).all flatV = true := by
 obtain ⟨n, d, r, w, u, s, b, k⟩ := e
 cases u <;> cases s <;> cases b <;> rfl
theorem tups_eq {K : PySem.W.Frag} {H : Hp} {p q : Addr} {a1 a2 : List V} {es fs : List En} (hp : H p = some (.lst a1)) (hq : H q = some (.lst a2)) (h1 : TupsAt H a1 es) (h2 : TupsAt H a2 fs) : ∃ b, (b = true ↔ es = fs) ∧ SeqEq K H (EqD K H 1) (.ref p) (.ref q) b := by
 by_cases hl : es.length = fs.length
 ·refine ⟨(List.range a1.length).all fun i => eqL (rowB (es.getD i ⟨0, 0, Str.ofString "", Str.ofString "", none, none, none, true⟩)) (rowB (fs.getD i ⟨0, 0, Str.ofString "", Str.ofString "", none, none, none, true⟩)), ?_, ?_⟩
  ·rw [List.all_eq_true]
   constructor
   ·intro h
    refine List.ext_getElem hl fun i g1 g2 => ?_
    have := (row_eq _ _).mp (h i (List.mem_range.mpr (by rw [h1.1]; exact g1)))
    rw [List.getD_eq_getElem?_getD, List.getD_eq_getElem?_getD, List.getElem?_eq_getElem g1, List.getElem?_eq_getElem g2] at this
    exact this
   ·intro h i _
    rw [h]
    exact (row_eq _ _).mpr rfl
  ·refine .list (SqL.of hp) (SqL.of hq) (by rw [h1.1, h2.1, hl]) fun i x y hx hy => ?_
   have g1 : i < es.length := by rw [← h1.1]; exact (List.getElem?_eq_some_iff.mp hx).1
   have g2 : i < fs.length := by omega
   obtain ⟨t1, rfl, k1⟩ := h1.2 i x _ hx (List.getElem?_eq_getElem g1)
   obtain ⟨t2, rfl, k2⟩ := h2.2 i y _ hy (List.getElem?_eq_getElem g2)
   rw [List.getD_eq_getElem?_getD, List.getD_eq_getElem?_getD, List.getElem?_eq_getElem g1, List.getElem?_eq_getElem g2]
   exact .inr (SeqEq.flatT (SqT.of k1) (SqT.of k2) rfl (flat8 _) (flat8 _))
 ·exact ⟨false, ⟨fun z => (nomatch z), fun z => absurd (congrArg List.length z) hl⟩, .listN (SqL.of hp) (SqL.of hq) (by rw [h1.1, h2.1]; exact hl)⟩
def spSameB (K : PySem.W.Frag) (CE X : Addr) : Sp := fun vs H Q E => ∃ x y, vs = [x, y] ∧ ((∃ es fs, GoodB H CE x es ∧ GoodB H CE y fs ∧ ∀ b H', Same H H' → (b = true ↔ es = fs) → Q (.bl b) H') ∨ (BadB K H CE x ∧ ∀ H', Same H H' → E (.ref X) none H') ∨ (∃ es, GoodB H CE x es ∧ BadB K H CE y ∧ ∀ H', Same H H' → E (.ref X) none H'))
def spAskedB (K : PySem.W.Frag) (CE X : Addr) : Sp := fun vs H Q E => ∃ i v, vs = [.int i, v] ∧ ((∃ es, GoodB H CE v es ∧ ∀ u H', Same H H' → Q u H') ∨ (BadB K H CE v ∧ ∀ H', Same H H' → E (.ref X) none H'))
def truthsB : List V := [.bl true, .bl true, .bl false, .bl false]
def spTruths (K : PySem.W.Frag) (CE : Addr) : Sp := fun vs H Q _ => ∃ i v, vs = [.int i, v] ∧ ((∃ es, GoodB H CE v es ∧ ∀ q H', Same H H' → H' q = some (.lst []) → Q (.ref q) H') ∨ (BadB K H CE v ∧ ∀ q H', Same H H' → H' q = some (.lst truthsB) → Q (.ref q) H'))
theorem GoodB.nil {H : Hp} {CE q : Addr} (h : H q = some (.lst [])) : GoodB H CE (.ref q) [] := ⟨q, [], rfl, h, ⟨rfl, fun j v e h => nomatch h⟩, fun _ h => (nomatch h), Nat.zero_le _, rfl⟩
theorem cut_drop (xs : List V) (k : Nat) : cutV xs (some (k : Int)) none = xs.drop k := by
 unfold cutV
 rw [HT.sIx_nat, HT.sIx_none]
 have h : xs.drop (min k xs.length) = xs.drop k := by
  by_cases h : k ≤ xs.length
  ·rw [Nat.min_eq_left h]
  ·rw [Nat.min_eq_right (by omega), List.drop_length, List.drop_of_length_le (by omega)]
 rw [h]
 exact List.take_of_length_le (by rw [List.length_drop]; omega)
theorem EntsAt.take {H : Hp} {C : Addr} {ws : List V} {es : List En} (h : EntsAt H C ws es) (i : Nat) : EntsAt H C (ws.take i) (es.take i) := by
 refine ⟨by rw [List.length_take, List.length_take, h.1], fun j v x hv hx => ?_⟩
 by_cases hj : j < i
 ·rw [List.getElem?_take_of_lt hj] at hv hx
  exact h.2 j v x hv hx
 ·rw [List.getElem?_eq_none (by rw [List.length_take]; omega)] at hv
  cases hv
theorem EntsAt.drop {H : Hp} {C : Addr} {ws : List V} {es : List En} (h : EntsAt H C ws es) (i : Nat) : EntsAt H C (ws.drop i) (es.drop i) :=
 ⟨by rw [List.length_drop, List.length_drop, h.1], fun j v x hv hx => h.2 (i + j) v x (by rw [← List.getElem?_drop]; exact hv) (by rw [← List.getElem?_drop]; exact hx)⟩
theorem EntsAt.one {H : Hp} {C : Addr} {v : V} {e : En} (h : EntAt H C v e) : EntsAt H C [v] [e] := ⟨rfl, fun j u x hu hx => by
 match j, hu, hx with
 | 0, hu, hx => cases hu; cases hx; exact h⟩
theorem bad_nd {is : List En} (h : ¬ (is.map (·.n)).Nodup) : bookOk [] none (is.map some) = false := by
 cases q : bookOk [] none (is.map some) with
 | false => rfl
 | true => exact absurd (book_nd q).1 h
theorem bad_pw {is : List En} (h : ¬ is.Pairwise (fun x y => aheadE x y = true)) : bookOk [] none (is.map some) = false := by
 cases q : bookOk [] none (is.map some) with
 | false => rfl
 | true => exact absurd (pairs_of q).1 h
def spFault (K : PySem.W.Frag) (CE : Addr) : Sp := fun vs H Q _ => ∃ q acc l ws es i m, vs = [.ref q, .ref l, .int i, .int m] ∧ H q = some (.lst acc) ∧ EntsAt H CE acc es ∧ H l = some (.lst ws) ∧ RowsB H ws es ∧ BkB es ∧ 0 ≤ i ∧ i < 5 ∧ 0 ≤ m ∧ ∀ v H', Same H H' → BadB K H' CE v → Q v H'
theorem ents_app {H : Hp} {C : Addr} {a b : List V} {es fs : List En} (h1 : EntsAt H C a es) (h2 : EntsAt H C b fs) : EntsAt H C (a ++ b) (es ++ fs) := by
 refine ⟨by rw [List.length_append, List.length_append, h1.1, h2.1], fun j v e hv he => ?_⟩
 by_cases hj : j < a.length
 ·rw [List.getElem?_append_left hj] at hv
  rw [List.getElem?_append_left (by rw [← h1.1]; exact hj)] at he
  exact h1.2 j v e hv he
 ·rw [List.getElem?_append_right (by omega)] at hv
  rw [List.getElem?_append_right (by rw [← h1.1]; omega), ← h1.1] at he
  exact h2.2 _ v e hv he
theorem iteAnd {c : Bool} {P X Y : Prop} (hY : Y) (hP : c = true → Y → P) : if c = true then P else (if false = true then X else Y) := by
 cases c with
 | true => exact hP rfl hY
 | false => exact hY
theorem okE_fits {e : En} (h : okE e) : underFits (.str e.r) (optV e.u) = true ∧ tieFits (.str e.r) (optV e.s) (optV e.b) = true := by
 unfold okE why at h
 by_cases h1 : whyH (.int e.n) (.int e.d) (.str e.r) (.str e.w) ≠ 0
 ·rw [if_pos h1] at h; exact absurd h h1
 ·rw [if_neg h1] at h
  by_cases h2 : underFits (.str e.r) (optV e.u) = false
  ·rw [if_pos h2] at h; cases h
  ·rw [if_neg h2] at h
   by_cases h3 : tieFits (.str e.r) (optV e.s) (optV e.b) = false
   ·rw [if_pos h3] at h; cases h
   ·exact ⟨by cases q : underFits (.str e.r) (optV e.u) with | true => rfl | false => exact absurd q h2, by cases q : tieFits (.str e.r) (optV e.s) (optV e.b) with | true => rfl | false => exact absurd q h3⟩
theorem rank_of {e : En} (h : okE e) : isRank (.str e.r) = true := by
 rcases okE_rank h with q | q | q <;> rw [q] <;> decide +kernel
def nd2 (e : En) : Int × Int := (e.n, e.d)
theorem book_nd2 : ∀ (es fs : List En) (seen : List Int) (l1 l2 : Option En), es.map nd2 = fs.map nd2 → l1.map nd2 = l2.map nd2 → bookOk seen l1 (es.map some) = bookOk seen l2 (fs.map some)
 | [], [], _, _, _, _, _ => rfl
 | [], _ :: _, _, _, _, h, _ => nomatch h
 | _ :: _, [], _, _, _, h, _ => nomatch h
 | e :: es, f :: fs, seen, l1, l2, h, hl => by
  rw [List.map_cons, List.map_cons] at h
  injection h with h1 h2
  have en : e.n = f.n := congrArg Prod.fst h1
  have ed : e.d = f.d := congrArg Prod.snd h1
  have la : lastOk l1 e = lastOk l2 f := by
   cases l1 with
   | none => cases l2 with
    | none => rfl
    | some y => cases hl
   | some x => cases l2 with
    | none => cases hl
    | some y =>
     have hl := Option.some.inj hl
     have xn : x.n = y.n := congrArg Prod.fst hl
     have xd : x.d = y.d := congrArg Prod.snd hl
     show HT.lexLt [x.d, x.n] [e.d, e.n] = HT.lexLt [y.d, y.n] [f.d, f.n]
     rw [en, ed, xn, xd]
  show (!seen.contains e.n && (lastOk l1 e && bookOk (seen ++ [e.n]) (some e) (es.map some))) = (!seen.contains f.n && (lastOk l2 f && bookOk (seen ++ [f.n]) (some f) (fs.map some)))
  rw [la, en, book_nd2 es fs (seen ++ [f.n]) (some e) (some f) h2 (congrArg some h1)]
theorem set_nd2 {es : List En} {i : Nat} (hi : i < es.length) {e' : En} (h : nd2 e' = nd2 es[i]) : bookOk [] none ((es.set i e').map some) = bookOk [] none (es.map some) := by
 refine book_nd2 _ _ _ _ _ ?_ rfl
 rw [List.map_set, h]
 have e1 : nd2 es[i] = (es.map nd2)[i]'(by rw [List.length_map]; exact hi) := by rw [List.getElem_map]
 rw [e1, List.set_getElem_self]
theorem set_last {p : List En} {e0 e' : En} (h : bookOk [] none ((p ++ [e0]).map some) = true) (hn : ∀ x ∈ p, x.n ≠ e'.n) (hd : e0.d < e'.d ∨ e0.d = e'.d ∧ e0.n ≤ e'.n) : bookOk [] none ((p ++ [e']).map some) = true := by
 have pw := (pairs_of h).1
 have hp : bookOk [] none (p.map some) = true := by
  rw [List.map_append] at h
  exact book_init _ _ _ _ h
 refine book_add p [] none e' hp List.not_mem_nil hn ?_
 cases q : lastW none p with
 | none => rfl
 | some x =>
  rcases lastW_mem q with z | z
  ·cases z
  ·show aheadE x e' = true
   have a := (ahead_iff _ _).mp ((List.pairwise_append.mp pw).2.2 x z e0 (List.mem_singleton.mpr rfl))
   exact (ahead_iff _ _).mpr (by omega)
structure Cop (H G : Hp) (us : List V) (es : List En) : Prop where
 len : us.length = es.length
 row : ∀ (j : Nat) v e, us[j]? = some v → es[j]? = some e → ∃ b, v = .ref b ∧ H b = none ∧ G b = some (.lst (rowB e))
 inj : ∀ (i j : Nat) b, us[i]? = some (.ref b) → us[j]? = some (.ref b) → i = j
structure Chg (es : List En) (i : Nat) (e0 e' : En) : Prop where
 ok : okE e'
 ne : e' ≠ e0
 bk : bookOk [] none ((es.set i e').map some) = true
def spOtherB : Sp := fun vs H Q _ => ∃ l ws es m, vs = [.ref l, .int m] ∧ H l = some (.lst ws) ∧ RowsB H ws es ∧ BkB es ∧ es ≠ [] ∧ es.length < 64 ∧ ∀ f us es' H', Same H H' → H' f = some (.lst us) → RowsB H' us es' → (∀ e ∈ es', okE e) → es'.length ≤ 84 → bookOk [] none (es'.map some) = true → es' ≠ es → Q (.ref f) H'
theorem up_ne {x : Int} (h1 : 1 ≤ x) (h2 : x ≤ 1000000000) : 1 ≤ x % 1000000000 + 1 ∧ x % 1000000000 + 1 ≤ 1000000000 ∧ x % 1000000000 + 1 ≠ x := by
 by_cases h : x = 1000000000
 ·rw [h]; decide
 ·rw [Int.emod_eq_of_lt (by omega) (by omega)]
  omega
theorem inR_le {m : Int} {o : Option Int} (h : inR m (optV o) = true) : ∃ x, o = some x ∧ 1 ≤ x ∧ x ≤ m := by
 cases o with
 | none => cases h
 | some x =>
  have h : (decide (1 ≤ x) && decide (x ≤ m)) = true := h
  rw [Bool.and_eq_true] at h
  exact ⟨x, rfl, of_decide_eq_true h.1, of_decide_eq_true h.2⟩
theorem tie_parts {r : Str} {s b : Option Int} (h : tieFits (.str r) (optV s) (optV b) = true) : (∃ x, s = some x ∧ b = none ∧ 1 ≤ x ∧ x ≤ 1000000000) ∨ (∃ x, b = some x ∧ s = none ∧ r ≠ Str.ofString "genus" ∧ 1 ≤ x ∧ x ≤ 1000000000) := by
 cases b with
 | none =>
  have h : tieFits (.str r) (optV s) .non = true := h
  rw [tie_n] at h
  obtain ⟨x, rfl, h1, h2⟩ := inR_le h
  exact .inl ⟨x, rfl, rfl, h1, h2⟩
 | some y =>
  have h : tieFits (.str r) (optV s) (.int y) = true := h
  rw [tie_b _ _ (by intro z; cases z)] at h
  rw [Bool.and_eq_true, Bool.and_eq_true] at h
  obtain ⟨h1, h2, h3⟩ := h
  obtain ⟨x, hx, b1, b2⟩ := inR_le (o := some y) h3
  refine .inr ⟨y, rfl, ?_, fun z => ?_, ?_, ?_⟩
  ·have h2 : optV s = .non := of_decide_eq_true h2
   cases s with
   | none => rfl
   | some _ => cases h2
  ·rw [z, decide_eq_true rfl] at h1
   cases h1
  ·cases hx; exact b1
  ·cases hx; exact b2
theorem ok_with {e : En} (n1 : 1 ≤ e.n) (n2 : e.n ≤ 1000000000) (d1 : 1 ≤ e.d) (d2 : e.d ≤ 1000000) (hr : isRank (.str e.r) = true) (hw : isWord (.str e.w) = true) (hu : underFits (.str e.r) (optV e.u) = true) (ht : tieFits (.str e.r) (optV e.s) (optV e.b) = true) : okE e := okE_of (inR_of n1 n2) (inR_of d1 d2) hr hw hu ht
def spLaw (K : PySem.W.Frag) : Sp := fun vs H Q _ => ∃ (a : Addr) (ns : List Int), vs = [.ref a] ∧ SqL K H a (ns.map V.int) ∧ ns.length ≤ 63 ∧ ∀ H', Q (.bl true) H'
def top (i : Nat) : Stmt := PySem.Challenge.pw_rightname_k12_books.main.body.getD i (.Pass ⟨0, 0, 0, 0⟩)
abbrev s_is_whole : Stmt := top 21
abbrev s_is_day : Stmt := top 22
abbrev s_is_number : Stmt := top 23
abbrev s_is_word : Stmt := top 24
abbrev s_is_rank : Stmt := top 25
abbrev s_above : Stmt := top 26
abbrev s_refuse_head : Stmt := top 29
abbrev s_under_fits : Stmt := top 30
abbrev s_tie_fits : Stmt := top 31
abbrev s_ahead : Stmt := top 32
abbrev s_book_list : Stmt := top 33
abbrev s_fields_of : Stmt := top 34
abbrev s_same_book : Stmt := top 35
abbrev s_results_of : Stmt := top 38
abbrev s_outcomes : Stmt := top 39
abbrev s_full_names : Stmt := top 40
abbrev s_roots : Stmt := top 41
abbrev s_tied : Stmt := top 42
abbrev s_Lcell_at : Stmt := top 44
abbrev s_Lwhole : Stmt := top 45
abbrev s_Lmixed : Stmt := top 46
abbrev s_Ldraws : Stmt := top 47
abbrev s_Lwords : Stmt := top 48
abbrev s_Lany_word : Stmt := top 49
abbrev s_Lstamp : Stmt := top 50
abbrev s_Lpick : Stmt := top 51
abbrev s_Lbase : Stmt := top 52
abbrev s_Lentry : Stmt := top 53
abbrev s_Lbook : Stmt := top 54
abbrev s_Lmade : Stmt := top 55
abbrev s_Lis_entry : Stmt := top 56
abbrev s_Lis_book : Stmt := top 57
abbrev s_Lfault : Stmt := top 58
abbrev s_Lother : Stmt := top 59
abbrev s_Lasked : Stmt := top 60
abbrev s_Ltruths : Stmt := top 61
abbrev s_law : Stmt := top 62
abbrev s_Entry_init : Stmt := inClass (top 28) 0
abbrev s_Results_init : Stmt := inClass (top 37) 0
abbrev s_Results_put : Stmt := inClass (top 37) 1
abbrev s_Results_name_of : Stmt := inClass (top 37) 2
abbrev s_Results_outcome_of : Stmt := inClass (top 37) 3
abbrev s_Results_root_of : Stmt := inClass (top 37) 4
theorem rb_Entry_8 {vs : List V} {us : List Value} {zs : List V} {ws : List Value} (r : Vals vs us) (rz : Vals zs ws) : Vals ((fun us ws => us ++ (match ws with | [] => [] | _ => []) : List V → List V → List V) vs zs) ((fun us ws => us ++ (match ws with | [] => [] | _ => []) : List Value → List Value → List Value) us ws) := by
 refine r.append ?_
 cases rz with
 | nil => exact .nil
 | cons _ _ => exact .nil
theorem mb_Entry_8 {K : PySem.W.Frag} {T f : Addr} {fd : FuncData} {o : Obj} {n : Nat} (F : FunD K "__init__" "Entry.__init__" s_Entry_init (.ref T) f fd) (hT : K.lookup T = some o) (hs : o.data = .seq #[.none, .none, .none, .bool true] n) : MkBinds K fd ["self", "number", "day", "rank", "word", "under", "sheet", "base", "described"] [] 8 (fun us ws => us ++ (match ws with | [] => [] | _ => [])) (fun us ws => us ++ (match ws with | [] => [] | _ => [])) :=
 .ofD F hT hs rb_Entry_8 fun _ _ _ _ _ _ y us ws h1 h2 => by
  obtain ⟨a0, us0, rfl, g0⟩ := lenS h1
  obtain ⟨a1, us1, rfl, g1⟩ := lenS g0
  obtain ⟨a2, us2, rfl, g2⟩ := lenS g1
  obtain ⟨a3, us3, rfl, g3⟩ := lenS g2
  obtain ⟨a4, us4, rfl, g4⟩ := lenS g3
  obtain ⟨a5, us5, rfl, g5⟩ := lenS g4
  obtain ⟨a6, us6, rfl, g6⟩ := lenS g5
  obtain ⟨a7, us7, rfl, g7⟩ := lenS g6
  obtain rfl := len0 g7
  obtain rfl := len0 h2
  exact ⟨⟨_, rfl, rfl⟩, rfl⟩
theorem rb_Entry_6 {vs : List V} {us : List Value} {zs : List V} {ws : List Value} (r : Vals vs us) (rz : Vals zs ws) : Vals ((fun us ws => us ++ (match ws with | [] => [.non, .bl true] | _ => []) : List V → List V → List V) vs zs) ((fun us ws => us ++ (match ws with | [] => [.none, .bool true] | _ => []) : List Value → List Value → List Value) us ws) := by
 refine r.append ?_
 cases rz with
 | nil => exact (.cons rfl (.cons rfl .nil))
 | cons _ _ => exact .nil
theorem mb_Entry_6 {K : PySem.W.Frag} {T f : Addr} {fd : FuncData} {o : Obj} {n : Nat} (F : FunD K "__init__" "Entry.__init__" s_Entry_init (.ref T) f fd) (hT : K.lookup T = some o) (hs : o.data = .seq #[.none, .none, .none, .bool true] n) : MkBinds K fd ["self", "number", "day", "rank", "word", "under", "sheet", "base", "described"] [] 6 (fun us ws => us ++ (match ws with | [] => [.none, .bool true] | _ => [])) (fun us ws => us ++ (match ws with | [] => [.non, .bl true] | _ => [])) :=
 .ofD F hT hs rb_Entry_6 fun _ _ _ _ _ _ y us ws h1 h2 => by
  obtain ⟨a0, us0, rfl, g0⟩ := lenS h1
  obtain ⟨a1, us1, rfl, g1⟩ := lenS g0
  obtain ⟨a2, us2, rfl, g2⟩ := lenS g1
  obtain ⟨a3, us3, rfl, g3⟩ := lenS g2
  obtain ⟨a4, us4, rfl, g4⟩ := lenS g3
  obtain ⟨a5, us5, rfl, g5⟩ := lenS g4
  obtain rfl := len0 g5
  obtain rfl := len0 h2
  exact ⟨⟨_, rfl, rfl⟩, rfl⟩
structure Fn (K : PySem.W.Frag) (mg : Str → Option Value) (x : Str) (st : Stmt) (ps : List Str) (f : Addr) (fd : FuncData) : Prop where
 fn : Fun K x x st f fd
 mgf : mg x = some (.ref f)
 bi : Binds K fd ps []
theorem Fn.kp {K : PySem.W.Frag} {mg : Str → Option Value} {x : Str} {st : Stmt} {ps : List Str} {f : Addr} {fd : FuncData} (F : Fn K mg x st ps f fd) : PySem.W.keepIn K (.ref f) = true := F.fn.kp
set_option genInjectivity false in
set_option genSizeOfSpec false in
set_option genSizeOf false in
structure Ad where
 a_is_whole : Addr
 d_is_whole : FuncData
 a_is_day : Addr
 d_is_day : FuncData
 a_is_number : Addr
 d_is_number : FuncData
 a_is_word : Addr
 d_is_word : FuncData
 a_is_rank : Addr
 d_is_rank : FuncData
 a_above : Addr
 d_above : FuncData
 a_refuse_head : Addr
 d_refuse_head : FuncData
 a_under_fits : Addr
 d_under_fits : FuncData
 a_tie_fits : Addr
 d_tie_fits : FuncData
 a_ahead : Addr
 d_ahead : FuncData
 a_book_list : Addr
 d_book_list : FuncData
 a_fields_of : Addr
 d_fields_of : FuncData
 a_same_book : Addr
 d_same_book : FuncData
 a_results_of : Addr
 d_results_of : FuncData
 a_outcomes : Addr
 d_outcomes : FuncData
 a_full_names : Addr
 d_full_names : FuncData
 a_roots : Addr
 d_roots : FuncData
 a_tied : Addr
 d_tied : FuncData
 a_Lcell_at : Addr
 d_Lcell_at : FuncData
 a_Lwhole : Addr
 d_Lwhole : FuncData
 a_Lmixed : Addr
 d_Lmixed : FuncData
 a_Ldraws : Addr
 d_Ldraws : FuncData
 a_Lwords : Addr
 d_Lwords : FuncData
 a_Lany_word : Addr
 d_Lany_word : FuncData
 a_Lstamp : Addr
 d_Lstamp : FuncData
 a_Lpick : Addr
 d_Lpick : FuncData
 a_Lbase : Addr
 d_Lbase : FuncData
 a_Lentry : Addr
 d_Lentry : FuncData
 a_Lbook : Addr
 d_Lbook : FuncData
 a_Lmade : Addr
 d_Lmade : FuncData
 a_Lis_entry : Addr
 d_Lis_entry : FuncData
 a_Lis_book : Addr
 d_Lis_book : FuncData
 a_Lfault : Addr
 d_Lfault : FuncData
 a_Lother : Addr
 d_Lother : FuncData
 a_Lasked : Addr
 d_Lasked : FuncData
 a_Ltruths : Addr
 d_Ltruths : FuncData
 a_law : Addr
 d_law : FuncData
 c_Entry : Addr
 a_Entry_init : Addr
 t_Entry_init : Addr
 d_Entry_init : FuncData
 c_Results : Addr
 a_Results_init : Addr
 d_Results_init : FuncData
 a_Results_put : Addr
 d_Results_put : FuncData
 a_Results_name_of : Addr
 d_Results_name_of : FuncData
 a_Results_outcome_of : Addr
 d_Results_outcome_of : FuncData
 a_Results_root_of : Addr
 d_Results_root_of : FuncData
 u_MOST_LETTERS : Value
 u_LAST_DAY : Value
 u_LAST_NUMBER : Value
 u_RANKS : Addr
 u_ABOVE : Addr
 c_NoRank : Addr
 c_NoNumber : Addr
 c_NoDay : Addr
 c_NoWord : Addr
 c_NoBook : Addr
 c_NoEntry : Addr
 c_RightError : Addr
 c_NoText : Addr
 c_NoAct : Addr
 c_NoSheet : Addr
 c_NoSorting : Addr
 c_NoPath : Addr
 c_Late : Addr
 c_NoRow : Addr
structure Txt (w : World) (K : PySem.W.Frag) (mg : Str → Option Value) (c : Ad) : Prop where
 is_whole : Fn K mg "is_whole" s_is_whole ["thing"] c.a_is_whole c.d_is_whole
 is_day : Fn K mg "is_day" s_is_day ["thing"] c.a_is_day c.d_is_day
 is_number : Fn K mg "is_number" s_is_number ["thing"] c.a_is_number c.d_is_number
 is_word : Fn K mg "is_word" s_is_word ["thing"] c.a_is_word c.d_is_word
 is_rank : Fn K mg "is_rank" s_is_rank ["thing"] c.a_is_rank c.d_is_rank
 above : Fn K mg "above" s_above ["rank"] c.a_above c.d_above
 refuse_head : Fn K mg "refuse_head" s_refuse_head ["number", "day", "rank", "word"] c.a_refuse_head c.d_refuse_head
 under_fits : Fn K mg "under_fits" s_under_fits ["rank", "under"] c.a_under_fits c.d_under_fits
 tie_fits : Fn K mg "tie_fits" s_tie_fits ["rank", "sheet", "base"] c.a_tie_fits c.d_tie_fits
 ahead : Fn K mg "ahead" s_ahead ["one", "other"] c.a_ahead c.d_ahead
 book_list : Fn K mg "book_list" s_book_list ["entries"] c.a_book_list c.d_book_list
 fields_of : Fn K mg "fields_of" s_fields_of ["entry"] c.a_fields_of c.d_fields_of
 same_book : Fn K mg "same_book" s_same_book ["one", "other"] c.a_same_book c.d_same_book
 results_of : Fn K mg "results_of" s_results_of ["book"] c.a_results_of c.d_results_of
 outcomes : Fn K mg "outcomes" s_outcomes ["entries"] c.a_outcomes c.d_outcomes
 full_names : Fn K mg "full_names" s_full_names ["entries"] c.a_full_names c.d_full_names
 roots : Fn K mg "roots" s_roots ["entries"] c.a_roots c.d_roots
 tied : Fn K mg "tied" s_tied ["entries"] c.a_tied c.d_tied
 Lcell_at : Fn K mg "_law_cell_at" s_Lcell_at ["_law_script", "_law_k"] c.a_Lcell_at c.d_Lcell_at
 Lwhole : Fn K mg "_law_whole" s_Lwhole ["_law_found"] c.a_Lwhole c.d_Lwhole
 Lmixed : Fn K mg "_law_mixed" s_Lmixed ["_law_cell", "_law_k"] c.a_Lmixed c.d_Lmixed
 Ldraws : Fn K mg "_law_draws" s_Ldraws ["_law_cell", "_law_k", "_law_free"] c.a_Ldraws c.d_Ldraws
 Lwords : Fn K mg "_law_words" s_Lwords ["_law_cell", "_law_free"] c.a_Lwords c.d_Lwords
 Lany_word : Fn K mg "_law_any_word" s_Lany_word ["_law_number"] c.a_Lany_word c.d_Lany_word
 Lstamp : Fn K mg "_law_stamp" s_Lstamp ["_law_book_here", "_law_one", "_law_other_here"] c.a_Lstamp c.d_Lstamp
 Lpick : Fn K mg "_law_pick" s_Lpick ["_law_book_here", "_law_rank", "_law_one", "_law_other_here"] c.a_Lpick c.d_Lpick
 Lbase : Fn K mg "_law_base" s_Lbase ["_law_book_here", "_law_rank", "_law_one", "_law_other_here"] c.a_Lbase c.d_Lbase
 Lentry : Fn K mg "_law_entry" s_Lentry ["_law_book_here", "_law_words_here", "_law_cell", "_law_k", "_law_free"] c.a_Lentry c.d_Lentry
 Lbook : Fn K mg "_law_book" s_Lbook ["_law_script", "_law_start"] c.a_Lbook c.d_Lbook
 Lmade : Fn K mg "_law_made" s_Lmade ["_law_book_here"] c.a_Lmade c.d_Lmade
 Lis_entry : Fn K mg "_law_is_entry" s_Lis_entry ["_law_entry_here", "_law_one"] c.a_Lis_entry c.d_Lis_entry
 Lis_book : Fn K mg "_law_is_book" s_Lis_book ["_law_found", "_law_book_here"] c.a_Lis_book c.d_Lis_book
 Lfault : Fn K mg "_law_fault" s_Lfault ["_law_entries", "_law_book_here", "_law_way", "_law_mixed_here"] c.a_Lfault c.d_Lfault
 Lother : Fn K mg "_law_other" s_Lother ["_law_book_here", "_law_mixed_here"] c.a_Lother c.d_Lother
 Lasked : Fn K mg "_law_asked" s_Lasked ["_law_way", "_law_entries"] c.a_Lasked c.d_Lasked
 Ltruths : Fn K mg "_law_truths" s_Ltruths ["_law_way", "_law_entries"] c.a_Ltruths c.d_Ltruths
 law : Fn K mg "law" s_law ["_law_script"] c.a_law c.d_law
 mg_Entry : mg "Entry" = some (.ref c.c_Entry)
 cl_Entry : Cls K c.c_Entry
 mk_Entry : Mk K c.c_Entry c.a_Entry_init
 Entry_init : FunD K "__init__" "Entry.__init__" s_Entry_init (.ref c.t_Entry_init) c.a_Entry_init c.d_Entry_init
 na_Entry_number : NoAttr K c.c_Entry "number"
 na_Entry_day : NoAttr K c.c_Entry "day"
 na_Entry_rank : NoAttr K c.c_Entry "rank"
 na_Entry_word : NoAttr K c.c_Entry "word"
 na_Entry_under : NoAttr K c.c_Entry "under"
 na_Entry_sheet : NoAttr K c.c_Entry "sheet"
 na_Entry_base : NoAttr K c.c_Entry "base"
 na_Entry_described : NoAttr K c.c_Entry "described"
 b_Entry_8 : MkBinds K c.d_Entry_init ["self", "number", "day", "rank", "word", "under", "sheet", "base", "described"] [] 8 (fun us ws => us ++ (match ws with | [] => [] | _ => [])) (fun us ws => us ++ (match ws with | [] => [] | _ => []))
 b_Entry_6 : MkBinds K c.d_Entry_init ["self", "number", "day", "rank", "word", "under", "sheet", "base", "described"] [] 6 (fun us ws => us ++ (match ws with | [] => [.none, .bool true] | _ => [])) (fun us ws => us ++ (match ws with | [] => [.non, .bl true] | _ => []))
 mg_Results : mg "Results" = some (.ref c.c_Results)
 cl_Results : Cls K c.c_Results
 Results_init : Fun K "__init__" "Results.__init__" s_Results_init c.a_Results_init c.d_Results_init
 bi_Results_init : Binds K c.d_Results_init ["self"] []
 mk_Results : Mk K c.c_Results c.a_Results_init
 na_Results_outs : NoAttr K c.c_Results "outs"
 na_Results_names : NoAttr K c.c_Results "names"
 na_Results_rights : NoAttr K c.c_Results "rights"
 na_Results_holders : NoAttr K c.c_Results "holders"
 Results_put : Fun K "put" "Results.put" s_Results_put c.a_Results_put c.d_Results_put
 bi_Results_put : Binds K c.d_Results_put ["self", "entry"] []
 m_Results_put : Meth K c.c_Results "put" c.a_Results_put
 Results_name_of : Fun K "name_of" "Results.name_of" s_Results_name_of c.a_Results_name_of c.d_Results_name_of
 bi_Results_name_of : Binds K c.d_Results_name_of ["self", "entry"] []
 m_Results_name_of : Meth K c.c_Results "name_of" c.a_Results_name_of
 Results_outcome_of : Fun K "outcome_of" "Results.outcome_of" s_Results_outcome_of c.a_Results_outcome_of c.d_Results_outcome_of
 bi_Results_outcome_of : Binds K c.d_Results_outcome_of ["self", "entry", "name"] []
 m_Results_outcome_of : Meth K c.c_Results "outcome_of" c.a_Results_outcome_of
 Results_root_of : Fun K "root_of" "Results.root_of" s_Results_root_of c.a_Results_root_of c.d_Results_root_of
 bi_Results_root_of : Binds K c.d_Results_root_of ["self", "entry"] []
 m_Results_root_of : Meth K c.c_Results "root_of" c.a_Results_root_of
 mg_MOST_LETTERS : mg "MOST_LETTERS" = some c.u_MOST_LETTERS
 rl_MOST_LETTERS : RelV (.int 12) c.u_MOST_LETTERS
 mg_LAST_DAY : mg "LAST_DAY" = some c.u_LAST_DAY
 rl_LAST_DAY : RelV (.int 1000000) c.u_LAST_DAY
 mg_LAST_NUMBER : mg "LAST_NUMBER" = some c.u_LAST_NUMBER
 rl_LAST_NUMBER : RelV (.int 1000000000) c.u_LAST_NUMBER
 mg_RANKS : mg "RANKS" = some (.ref c.u_RANKS)
 sq_RANKS : ∀ H, SqT K H c.u_RANKS [.str "genus", .str "species", .str "form"]
 mg_ABOVE : mg "ABOVE" = some (.ref c.u_ABOVE)
 kd_ABOVE : KDict w K c.u_ABOVE ([("genus", .non), ("species", .str "genus"), ("form", .str "species")] : List (Str × V))
 mg_NoRank : mg "NoRank" = some (.ref c.c_NoRank)
 mg_NoNumber : mg "NoNumber" = some (.ref c.c_NoNumber)
 mg_NoDay : mg "NoDay" = some (.ref c.c_NoDay)
 mg_NoWord : mg "NoWord" = some (.ref c.c_NoWord)
 mg_NoBook : mg "NoBook" = some (.ref c.c_NoBook)
 mg_NoEntry : mg "NoEntry" = some (.ref c.c_NoEntry)
 mg_RightError : mg "RightError" = some (.ref c.c_RightError)
 mg_NoText : mg "NoText" = some (.ref c.c_NoText)
 mg_NoAct : mg "NoAct" = some (.ref c.c_NoAct)
 mg_NoSheet : mg "NoSheet" = some (.ref c.c_NoSheet)
 mg_NoSorting : mg "NoSorting" = some (.ref c.c_NoSorting)
 mg_NoPath : mg "NoPath" = some (.ref c.c_NoPath)
 mg_Late : mg "Late" = some (.ref c.c_Late)
 mg_NoRow : mg "NoRow" = some (.ref c.c_NoRow)
 x_NoRank : XCls K c.c_NoRank
 q_NoRank : XAsk K c.c_NoRank
 i_NoRank_ValueError : PySem.W.kitOne K (.ref c.c_NoRank) (.type "ValueError") = some true
 i_NoRank_NoBook : PySem.W.kitOne K (.ref c.c_NoRank) (.ref c.c_NoBook) = some false
 i_NoRank_NoText : PySem.W.kitOne K (.ref c.c_NoRank) (.ref c.c_NoText) = some false
 i_NoRank_NoAct : PySem.W.kitOne K (.ref c.c_NoRank) (.ref c.c_NoAct) = some false
 i_NoRank_NoDay : PySem.W.kitOne K (.ref c.c_NoRank) (.ref c.c_NoDay) = some false
 i_NoRank_NoWord : PySem.W.kitOne K (.ref c.c_NoRank) (.ref c.c_NoWord) = some false
 i_NoRank_NoRank : PySem.W.kitOne K (.ref c.c_NoRank) (.ref c.c_NoRank) = some true
 i_NoRank_NoSheet : PySem.W.kitOne K (.ref c.c_NoRank) (.ref c.c_NoSheet) = some false
 i_NoRank_NoSorting : PySem.W.kitOne K (.ref c.c_NoRank) (.ref c.c_NoSorting) = some false
 i_NoRank_NoPath : PySem.W.kitOne K (.ref c.c_NoRank) (.ref c.c_NoPath) = some false
 i_NoRank_Late : PySem.W.kitOne K (.ref c.c_NoRank) (.ref c.c_Late) = some false
 i_NoRank_NoRow : PySem.W.kitOne K (.ref c.c_NoRank) (.ref c.c_NoRow) = some false
 i_NoRank_NoEntry : PySem.W.kitOne K (.ref c.c_NoRank) (.ref c.c_NoEntry) = some false
 i_NoRank_NoNumber : PySem.W.kitOne K (.ref c.c_NoRank) (.ref c.c_NoNumber) = some false
 e_NoRank_RightError : PySem.W.exmOne K (.ref c.c_NoRank) (.ref c.c_RightError) = some true
 x_NoNumber : XCls K c.c_NoNumber
 q_NoNumber : XAsk K c.c_NoNumber
 i_NoNumber_ValueError : PySem.W.kitOne K (.ref c.c_NoNumber) (.type "ValueError") = some true
 i_NoNumber_NoBook : PySem.W.kitOne K (.ref c.c_NoNumber) (.ref c.c_NoBook) = some false
 i_NoNumber_NoText : PySem.W.kitOne K (.ref c.c_NoNumber) (.ref c.c_NoText) = some false
 i_NoNumber_NoAct : PySem.W.kitOne K (.ref c.c_NoNumber) (.ref c.c_NoAct) = some false
 i_NoNumber_NoDay : PySem.W.kitOne K (.ref c.c_NoNumber) (.ref c.c_NoDay) = some false
 i_NoNumber_NoWord : PySem.W.kitOne K (.ref c.c_NoNumber) (.ref c.c_NoWord) = some false
 i_NoNumber_NoRank : PySem.W.kitOne K (.ref c.c_NoNumber) (.ref c.c_NoRank) = some false
 i_NoNumber_NoSheet : PySem.W.kitOne K (.ref c.c_NoNumber) (.ref c.c_NoSheet) = some false
 i_NoNumber_NoSorting : PySem.W.kitOne K (.ref c.c_NoNumber) (.ref c.c_NoSorting) = some false
 i_NoNumber_NoPath : PySem.W.kitOne K (.ref c.c_NoNumber) (.ref c.c_NoPath) = some false
 i_NoNumber_Late : PySem.W.kitOne K (.ref c.c_NoNumber) (.ref c.c_Late) = some false
 i_NoNumber_NoRow : PySem.W.kitOne K (.ref c.c_NoNumber) (.ref c.c_NoRow) = some false
 i_NoNumber_NoEntry : PySem.W.kitOne K (.ref c.c_NoNumber) (.ref c.c_NoEntry) = some false
 i_NoNumber_NoNumber : PySem.W.kitOne K (.ref c.c_NoNumber) (.ref c.c_NoNumber) = some true
 e_NoNumber_RightError : PySem.W.exmOne K (.ref c.c_NoNumber) (.ref c.c_RightError) = some true
 x_NoDay : XCls K c.c_NoDay
 q_NoDay : XAsk K c.c_NoDay
 i_NoDay_ValueError : PySem.W.kitOne K (.ref c.c_NoDay) (.type "ValueError") = some true
 i_NoDay_NoBook : PySem.W.kitOne K (.ref c.c_NoDay) (.ref c.c_NoBook) = some false
 i_NoDay_NoText : PySem.W.kitOne K (.ref c.c_NoDay) (.ref c.c_NoText) = some false
 i_NoDay_NoAct : PySem.W.kitOne K (.ref c.c_NoDay) (.ref c.c_NoAct) = some false
 i_NoDay_NoDay : PySem.W.kitOne K (.ref c.c_NoDay) (.ref c.c_NoDay) = some true
 i_NoDay_NoWord : PySem.W.kitOne K (.ref c.c_NoDay) (.ref c.c_NoWord) = some false
 i_NoDay_NoRank : PySem.W.kitOne K (.ref c.c_NoDay) (.ref c.c_NoRank) = some false
 i_NoDay_NoSheet : PySem.W.kitOne K (.ref c.c_NoDay) (.ref c.c_NoSheet) = some false
 i_NoDay_NoSorting : PySem.W.kitOne K (.ref c.c_NoDay) (.ref c.c_NoSorting) = some false
 i_NoDay_NoPath : PySem.W.kitOne K (.ref c.c_NoDay) (.ref c.c_NoPath) = some false
 i_NoDay_Late : PySem.W.kitOne K (.ref c.c_NoDay) (.ref c.c_Late) = some false
 i_NoDay_NoRow : PySem.W.kitOne K (.ref c.c_NoDay) (.ref c.c_NoRow) = some false
 i_NoDay_NoEntry : PySem.W.kitOne K (.ref c.c_NoDay) (.ref c.c_NoEntry) = some false
 i_NoDay_NoNumber : PySem.W.kitOne K (.ref c.c_NoDay) (.ref c.c_NoNumber) = some false
 e_NoDay_RightError : PySem.W.exmOne K (.ref c.c_NoDay) (.ref c.c_RightError) = some true
 x_NoWord : XCls K c.c_NoWord
 q_NoWord : XAsk K c.c_NoWord
 i_NoWord_ValueError : PySem.W.kitOne K (.ref c.c_NoWord) (.type "ValueError") = some true
 i_NoWord_NoBook : PySem.W.kitOne K (.ref c.c_NoWord) (.ref c.c_NoBook) = some false
 i_NoWord_NoText : PySem.W.kitOne K (.ref c.c_NoWord) (.ref c.c_NoText) = some false
 i_NoWord_NoAct : PySem.W.kitOne K (.ref c.c_NoWord) (.ref c.c_NoAct) = some false
 i_NoWord_NoDay : PySem.W.kitOne K (.ref c.c_NoWord) (.ref c.c_NoDay) = some false
 i_NoWord_NoWord : PySem.W.kitOne K (.ref c.c_NoWord) (.ref c.c_NoWord) = some true
 i_NoWord_NoRank : PySem.W.kitOne K (.ref c.c_NoWord) (.ref c.c_NoRank) = some false
 i_NoWord_NoSheet : PySem.W.kitOne K (.ref c.c_NoWord) (.ref c.c_NoSheet) = some false
 i_NoWord_NoSorting : PySem.W.kitOne K (.ref c.c_NoWord) (.ref c.c_NoSorting) = some false
 i_NoWord_NoPath : PySem.W.kitOne K (.ref c.c_NoWord) (.ref c.c_NoPath) = some false
 i_NoWord_Late : PySem.W.kitOne K (.ref c.c_NoWord) (.ref c.c_Late) = some false
 i_NoWord_NoRow : PySem.W.kitOne K (.ref c.c_NoWord) (.ref c.c_NoRow) = some false
 i_NoWord_NoEntry : PySem.W.kitOne K (.ref c.c_NoWord) (.ref c.c_NoEntry) = some false
 i_NoWord_NoNumber : PySem.W.kitOne K (.ref c.c_NoWord) (.ref c.c_NoNumber) = some false
 e_NoWord_RightError : PySem.W.exmOne K (.ref c.c_NoWord) (.ref c.c_RightError) = some true
 x_NoBook : XCls K c.c_NoBook
 q_NoBook : XAsk K c.c_NoBook
 i_NoBook_ValueError : PySem.W.kitOne K (.ref c.c_NoBook) (.type "ValueError") = some true
 i_NoBook_NoBook : PySem.W.kitOne K (.ref c.c_NoBook) (.ref c.c_NoBook) = some true
 i_NoBook_NoText : PySem.W.kitOne K (.ref c.c_NoBook) (.ref c.c_NoText) = some false
 i_NoBook_NoAct : PySem.W.kitOne K (.ref c.c_NoBook) (.ref c.c_NoAct) = some false
 i_NoBook_NoDay : PySem.W.kitOne K (.ref c.c_NoBook) (.ref c.c_NoDay) = some false
 i_NoBook_NoWord : PySem.W.kitOne K (.ref c.c_NoBook) (.ref c.c_NoWord) = some false
 i_NoBook_NoRank : PySem.W.kitOne K (.ref c.c_NoBook) (.ref c.c_NoRank) = some false
 i_NoBook_NoSheet : PySem.W.kitOne K (.ref c.c_NoBook) (.ref c.c_NoSheet) = some false
 i_NoBook_NoSorting : PySem.W.kitOne K (.ref c.c_NoBook) (.ref c.c_NoSorting) = some false
 i_NoBook_NoPath : PySem.W.kitOne K (.ref c.c_NoBook) (.ref c.c_NoPath) = some false
 i_NoBook_Late : PySem.W.kitOne K (.ref c.c_NoBook) (.ref c.c_Late) = some false
 i_NoBook_NoRow : PySem.W.kitOne K (.ref c.c_NoBook) (.ref c.c_NoRow) = some false
 i_NoBook_NoEntry : PySem.W.kitOne K (.ref c.c_NoBook) (.ref c.c_NoEntry) = some false
 i_NoBook_NoNumber : PySem.W.kitOne K (.ref c.c_NoBook) (.ref c.c_NoNumber) = some false
 e_NoBook_RightError : PySem.W.exmOne K (.ref c.c_NoBook) (.ref c.c_RightError) = some true
 x_NoEntry : XCls K c.c_NoEntry
 q_NoEntry : XAsk K c.c_NoEntry
 i_NoEntry_ValueError : PySem.W.kitOne K (.ref c.c_NoEntry) (.type "ValueError") = some true
 i_NoEntry_NoBook : PySem.W.kitOne K (.ref c.c_NoEntry) (.ref c.c_NoBook) = some false
 i_NoEntry_NoText : PySem.W.kitOne K (.ref c.c_NoEntry) (.ref c.c_NoText) = some false
 i_NoEntry_NoAct : PySem.W.kitOne K (.ref c.c_NoEntry) (.ref c.c_NoAct) = some false
 i_NoEntry_NoDay : PySem.W.kitOne K (.ref c.c_NoEntry) (.ref c.c_NoDay) = some false
 i_NoEntry_NoWord : PySem.W.kitOne K (.ref c.c_NoEntry) (.ref c.c_NoWord) = some false
 i_NoEntry_NoRank : PySem.W.kitOne K (.ref c.c_NoEntry) (.ref c.c_NoRank) = some false
 i_NoEntry_NoSheet : PySem.W.kitOne K (.ref c.c_NoEntry) (.ref c.c_NoSheet) = some false
 i_NoEntry_NoSorting : PySem.W.kitOne K (.ref c.c_NoEntry) (.ref c.c_NoSorting) = some false
 i_NoEntry_NoPath : PySem.W.kitOne K (.ref c.c_NoEntry) (.ref c.c_NoPath) = some false
 i_NoEntry_Late : PySem.W.kitOne K (.ref c.c_NoEntry) (.ref c.c_Late) = some false
 i_NoEntry_NoRow : PySem.W.kitOne K (.ref c.c_NoEntry) (.ref c.c_NoRow) = some false
 i_NoEntry_NoEntry : PySem.W.kitOne K (.ref c.c_NoEntry) (.ref c.c_NoEntry) = some true
 i_NoEntry_NoNumber : PySem.W.kitOne K (.ref c.c_NoEntry) (.ref c.c_NoNumber) = some false
 e_NoEntry_RightError : PySem.W.exmOne K (.ref c.c_NoEntry) (.ref c.c_RightError) = some true
 w_Entry : IAsk K c.c_Entry
 ws_Entry : PySem.W.kitOne K (.ref c.c_Entry) (.ref c.c_Entry) = some true
 wn_Entry_NoneType : PySem.W.kitOne K (.type "NoneType") (.ref c.c_Entry) = some false
 wn_Entry_int : PySem.W.kitOne K (.type "int") (.ref c.c_Entry) = some false
 wn_Entry_str : PySem.W.kitOne K (.type "str") (.ref c.c_Entry) = some false
 wn_Entry_bool : PySem.W.kitOne K (.type "bool") (.ref c.c_Entry) = some false
 wn_Entry_list : PySem.W.kitOne K (.type "list") (.ref c.c_Entry) = some false
 wn_Entry_tuple : PySem.W.kitOne K (.type "tuple") (.ref c.c_Entry) = some false
 wn_Entry_dict : PySem.W.kitOne K (.type "dict") (.ref c.c_Entry) = some false
 no_len : mg "len" = none
 no_isinstance : mg "isinstance" = none
 no_str : mg "str" = none
 no_bool : mg "bool" = none
 no_all : mg "all" = none
 no_range : mg "range" = none
 no_int : mg "int" = none
 no_list : mg "list" = none
 no_min : mg "min" = none
 no_max : mg "max" = none
 no_dict : mg "dict" = none
 no_zip : mg "zip" = none
 no_tuple : mg "tuple" = none
 no_ValueError : mg "ValueError" = none
theorem sc_is_whole : FnScope ["thing"] ["thing"] (defScope s_is_whole) := ⟨rfl, rfl, rfl, by decide +kernel, rfl, by decide +kernel, by decide +kernel⟩
theorem sc_is_day : FnScope ["thing"] ["thing"] (defScope s_is_day) := ⟨rfl, rfl, rfl, by decide +kernel, rfl, by decide +kernel, by decide +kernel⟩
theorem sc_is_number : FnScope ["thing"] ["thing"] (defScope s_is_number) := ⟨rfl, rfl, rfl, by decide +kernel, rfl, by decide +kernel, by decide +kernel⟩
theorem sc_is_word : FnScope ["thing"] ["thing"] (defScope s_is_word) := ⟨rfl, rfl, rfl, by decide +kernel, rfl, by decide +kernel, by decide +kernel⟩
theorem sc_is_rank : FnScope ["thing"] ["thing"] (defScope s_is_rank) := ⟨rfl, rfl, rfl, by decide +kernel, rfl, by decide +kernel, by decide +kernel⟩
theorem sc_above : FnScope ["rank"] ["rank"] (defScope s_above) := ⟨rfl, rfl, rfl, by decide +kernel, rfl, by decide +kernel, by decide +kernel⟩
theorem sc_refuse_head : FnScope ["number", "day", "rank", "word"] ["number", "day", "rank", "word"] (defScope s_refuse_head) := ⟨rfl, rfl, rfl, by decide +kernel, rfl, by decide +kernel, by decide +kernel⟩
theorem sc_under_fits : FnScope ["rank", "under"] ["rank", "under"] (defScope s_under_fits) := ⟨rfl, rfl, rfl, by decide +kernel, rfl, by decide +kernel, by decide +kernel⟩
theorem sc_tie_fits : FnScope ["rank", "sheet", "base"] ["rank", "sheet", "base"] (defScope s_tie_fits) := ⟨rfl, rfl, rfl, by decide +kernel, rfl, by decide +kernel, by decide +kernel⟩
theorem sc_ahead : FnScope ["one", "other"] ["one", "other"] (defScope s_ahead) := ⟨rfl, rfl, rfl, by decide +kernel, rfl, by decide +kernel, by decide +kernel⟩
theorem sc_book_list : FnScope ["entries", "book", "seen", "last", "entry"] ["entries"] (defScope s_book_list) := ⟨rfl, rfl, rfl, by decide +kernel, rfl, by decide +kernel, by decide +kernel⟩
theorem sc_fields_of : FnScope ["entry"] ["entry"] (defScope s_fields_of) := ⟨rfl, rfl, rfl, by decide +kernel, rfl, by decide +kernel, by decide +kernel⟩
theorem sc_same_book : FnScope ["one", "other", "first", "second"] ["one", "other"] (defScope s_same_book) := ⟨rfl, rfl, rfl, by decide +kernel, rfl, by decide +kernel, by decide +kernel⟩
theorem sc_results_of : FnScope ["book", "results", "entry"] ["book"] (defScope s_results_of) := ⟨rfl, rfl, rfl, by decide +kernel, rfl, by decide +kernel, by decide +kernel⟩
theorem sc_outcomes : FnScope ["entries"] ["entries"] (defScope s_outcomes) := ⟨rfl, rfl, rfl, by decide +kernel, rfl, by decide +kernel, by decide +kernel⟩
theorem sc_full_names : FnScope ["entries"] ["entries"] (defScope s_full_names) := ⟨rfl, rfl, rfl, by decide +kernel, rfl, by decide +kernel, by decide +kernel⟩
theorem sc_roots : FnScope ["entries", "results", "found", "entry"] ["entries"] (defScope s_roots) := ⟨rfl, rfl, rfl, by decide +kernel, rfl, by decide +kernel, by decide +kernel⟩
theorem sc_tied : FnScope ["entries", "results", "found", "entry"] ["entries"] (defScope s_tied) := ⟨rfl, rfl, rfl, by decide +kernel, rfl, by decide +kernel, by decide +kernel⟩
theorem sc_Lcell_at : FnScope ["_law_script", "_law_k"] ["_law_script", "_law_k"] (defScope s_Lcell_at) := ⟨rfl, rfl, rfl, by decide +kernel, rfl, by decide +kernel, by decide +kernel⟩
theorem sc_Lwhole : FnScope ["_law_found"] ["_law_found"] (defScope s_Lwhole) := ⟨rfl, rfl, rfl, by decide +kernel, rfl, by decide +kernel, by decide +kernel⟩
theorem sc_Lmixed : FnScope ["_law_cell", "_law_k"] ["_law_cell", "_law_k"] (defScope s_Lmixed) := ⟨rfl, rfl, rfl, by decide +kernel, rfl, by decide +kernel, by decide +kernel⟩
theorem sc_Ldraws : FnScope ["_law_cell", "_law_k", "_law_free", "_law_found", "_law_left", "_law_mixed_here", "_law_j"] ["_law_cell", "_law_k", "_law_free"] (defScope s_Ldraws) := ⟨rfl, rfl, rfl, by decide +kernel, rfl, by decide +kernel, by decide +kernel⟩
theorem sc_Lwords : FnScope ["_law_cell", "_law_free", "_law_letters", "_law_size", "_law_at", "_law_left", "_law_numbers", "_law_j", "_law_number", "_law_words_here", "_law_k", "_law_signs"] ["_law_cell", "_law_free"] (defScope s_Lwords) := ⟨rfl, rfl, rfl, by decide +kernel, rfl, by decide +kernel, by decide +kernel⟩
theorem sc_Lany_word : FnScope ["_law_number", "_law_size", "_law_word", "_law_j"] ["_law_number"] (defScope s_Lany_word) := ⟨rfl, rfl, rfl, by decide +kernel, rfl, by decide +kernel, by decide +kernel⟩
theorem sc_Lstamp : FnScope ["_law_book_here", "_law_one", "_law_other_here", "_law_day", "_law_number"] ["_law_book_here", "_law_one", "_law_other_here"] (defScope s_Lstamp) := ⟨rfl, rfl, rfl, by decide +kernel, rfl, by decide +kernel, by decide +kernel⟩
theorem sc_Lpick : FnScope ["_law_book_here", "_law_rank", "_law_one", "_law_other_here", "_law_some"] ["_law_book_here", "_law_rank", "_law_one", "_law_other_here"] (defScope s_Lpick) := ⟨rfl, rfl, rfl, by decide +kernel, rfl, by decide +kernel, by decide +kernel⟩
theorem sc_Lbase : FnScope ["_law_book_here", "_law_rank", "_law_one", "_law_other_here", "_law_some"] ["_law_book_here", "_law_rank", "_law_one", "_law_other_here"] (defScope s_Lbase) := ⟨rfl, rfl, rfl, by decide +kernel, rfl, by decide +kernel, by decide +kernel⟩
theorem sc_Lentry : FnScope ["_law_book_here", "_law_words_here", "_law_cell", "_law_k", "_law_free", "_law_draws_here", "_law_number", "_law_day", "_law_word", "_law_sheet", "_law_described", "_law_rank", "_law_under", "_law_base_here", "_law_root"] ["_law_book_here", "_law_words_here", "_law_cell", "_law_k", "_law_free"] (defScope s_Lentry) := ⟨rfl, rfl, rfl, by decide +kernel, rfl, by decide +kernel, by decide +kernel⟩
theorem sc_Lbook : FnScope ["_law_script", "_law_start", "_law_free", "_law_words_here", "_law_book_here", "_law_k"] ["_law_script", "_law_start"] (defScope s_Lbook) := ⟨rfl, rfl, rfl, by decide +kernel, rfl, by decide +kernel, by decide +kernel⟩
theorem sc_Lmade : FnScope ["_law_book_here", "_law_found", "_law_one"] ["_law_book_here"] (defScope s_Lmade) := ⟨rfl, rfl, rfl, by decide +kernel, rfl, by decide +kernel, by decide +kernel⟩
theorem sc_Lis_entry : FnScope ["_law_entry_here", "_law_one", "_law_found"] ["_law_entry_here", "_law_one"] (defScope s_Lis_entry) := ⟨rfl, rfl, rfl, by decide +kernel, rfl, by decide +kernel, by decide +kernel⟩
theorem sc_Lis_book : FnScope ["_law_found", "_law_book_here", "_law_entry_here", "_law_one"] ["_law_found", "_law_book_here"] (defScope s_Lis_book) := ⟨rfl, rfl, rfl, by decide +kernel, rfl, by decide +kernel, by decide +kernel⟩
theorem sc_Lfault : FnScope ["_law_entries", "_law_book_here", "_law_way", "_law_mixed_here", "_law_at", "_law_one", "_law_number"] ["_law_entries", "_law_book_here", "_law_way", "_law_mixed_here"] (defScope s_Lfault) := ⟨rfl, rfl, rfl, by decide +kernel, rfl, by decide +kernel, by decide +kernel⟩
theorem sc_Lother : FnScope ["_law_book_here", "_law_mixed_here", "_law_found", "_law_one", "_law_way"] ["_law_book_here", "_law_mixed_here"] (defScope s_Lother) := ⟨rfl, rfl, rfl, by decide +kernel, rfl, by decide +kernel, by decide +kernel⟩
theorem sc_Lasked : FnScope ["_law_way", "_law_entries"] ["_law_way", "_law_entries"] (defScope s_Lasked) := ⟨rfl, rfl, rfl, by decide +kernel, rfl, by decide +kernel, by decide +kernel⟩
theorem sc_Ltruths : FnScope ["_law_way", "_law_entries", "_law_truths_here", "e"] ["_law_way", "_law_entries"] (defScope s_Ltruths) := ⟨rfl, rfl, rfl, by decide +kernel, rfl, by decide +kernel, by decide +kernel⟩
theorem sc_law : FnScope ["_law_script", "_law_book_here", "_law_entries", "_law_k", "_law_handed", "_law_found", "_law_mixed_here", "_law_other_here", "_law_fault_here", "_law_way"] ["_law_script"] (defScope s_law) := ⟨rfl, rfl, rfl, by decide +kernel, rfl, by decide +kernel, by decide +kernel⟩
theorem sc_Entry_init : FnScope ["self", "number", "day", "rank", "word", "under", "sheet", "base", "described"] ["self", "number", "day", "rank", "word", "under", "sheet", "base", "described"] (defScope s_Entry_init) := ⟨rfl, rfl, rfl, by decide +kernel, rfl, by decide +kernel, by decide +kernel⟩
theorem sc_Results_init : FnScope ["self"] ["self"] (defScope s_Results_init) := ⟨rfl, rfl, rfl, by decide +kernel, rfl, by decide +kernel, by decide +kernel⟩
theorem sc_Results_put : FnScope ["self", "entry", "name", "out"] ["self", "entry"] (defScope s_Results_put) := ⟨rfl, rfl, rfl, by decide +kernel, rfl, by decide +kernel, by decide +kernel⟩
theorem sc_Results_name_of : FnScope ["self", "entry", "upper"] ["self", "entry"] (defScope s_Results_name_of) := ⟨rfl, rfl, rfl, by decide +kernel, rfl, by decide +kernel, by decide +kernel⟩
theorem sc_Results_outcome_of : FnScope ["self", "entry", "name", "base"] ["self", "entry", "name"] (defScope s_Results_outcome_of) := ⟨rfl, rfl, rfl, by decide +kernel, rfl, by decide +kernel, by decide +kernel⟩
theorem sc_Results_root_of : FnScope ["self", "entry"] ["self", "entry"] (defScope s_Results_root_of) := ⟨rfl, rfl, rfl, by decide +kernel, rfl, by decide +kernel, by decide +kernel⟩
section
variable {P : Program} {w : World} {K : PySem.W.Frag} {mg : Str → Option Value} {base : Heap} {c : Ad}
set_option maxHeartbeats 4000000 in
theorem ok_is_whole (T : Txt w K mg c) : FnOk P w K mg base CX0 1 c.a_is_whole c.d_is_whole ["thing"] (spW K) := by
 refine T.is_whole.fn.ok sc_is_whole (fun vs H Q E h => ?_) (fun cdv A outer s H vs Q E hr h => ?_)
 ·obtain ⟨x, rfl, _⟩ := h
  rfl
 ·obtain ⟨x, rfl, ow, k⟩ := h
  refine ⟨_, (pss_one (ps_ret (pe_and (pe_callB call_isiA rfl T.no_isinstance bt_isinstance (pa_cons (pv 0) (pa_cons (pe_bltn (v := .ty "int") rfl T.no_int bt_int rfl) pa_nil))) (pe_one (pe_not (pe_callB call_isiA rfl T.no_isinstance bt_isinstance (pa_cons (pv 0) (pa_cons (pe_bltn (v := .ty "bool") rfl T.no_bool bt_bool rfl) pa_nil)))))))), ?_⟩
  refine ⟨x, rfl, rIsiA.int ow ⟨_, rfl, ?_⟩⟩
  cases x with
  | int i => exact iteT ⟨_, rfl, rIsiA.bool ow ⟨_, rfl, k⟩⟩
  | bl b => exact iteT ⟨_, rfl, rIsiA.bool ow ⟨_, rfl, k⟩⟩
  | _ => exact iteF k
set_option maxHeartbeats 4000000 in
theorem ok_is_day (T : Txt w K mg c) : FnOk P w K mg base CX0 2 c.a_is_day c.d_is_day ["thing"] (spR K 1000000) := by
 refine T.is_day.fn.ok sc_is_day (fun vs H Q E h => ?_) (fun cdv A outer s H vs Q E hr h => ?_)
 ·obtain ⟨x, rfl, _⟩ := h
  rfl
 ·obtain ⟨x, rfl, ow, k⟩ := h
  refine ⟨_, (pss_one (ps_ret (pe_and (pe_call (ok_is_whole T) (hr.mono (by decide)) rfl T.is_whole.mgf T.is_whole.kp T.is_whole.bi .nil pass0 (pa_cons (pv 0) pa_nil)) (pe_one (pe_chain op_le op_le pe_int (pv 0) (pe_glob rfl T.mg_LAST_DAY T.rl_LAST_DAY)))))), ?_⟩
  refine ⟨x, rfl, x, rfl, ow, _, rfl, ?_⟩
  cases x with
  | int i =>
   refine iteT ⟨_, rfl, _, _, rfl, rfl, _, rfl, ?_⟩
   by_cases h1 : 1 ≤ i
   ·rw [if_pos (decide_eq_true h1)]
    refine ⟨_, _, rfl, rfl, ?_⟩
    simpa [inR, h1] using k
   ·rw [if_neg (by simp [h1])]
    simpa [inR, h1] using k
  | _ => exact iteF k
set_option maxHeartbeats 4000000 in
theorem ok_is_number (T : Txt w K mg c) : FnOk P w K mg base CX0 2 c.a_is_number c.d_is_number ["thing"] (spR K 1000000000) := by
 refine T.is_number.fn.ok sc_is_number (fun vs H Q E h => ?_) (fun cdv A outer s H vs Q E hr h => ?_)
 ·obtain ⟨x, rfl, _⟩ := h
  rfl
 ·obtain ⟨x, rfl, ow, k⟩ := h
  refine ⟨_, (pss_one (ps_ret (pe_and (pe_call (ok_is_whole T) (hr.mono (by decide)) rfl T.is_whole.mgf T.is_whole.kp T.is_whole.bi .nil pass0 (pa_cons (pv 0) pa_nil)) (pe_one (pe_chain op_le op_le pe_int (pv 0) (pe_glob rfl T.mg_LAST_NUMBER T.rl_LAST_NUMBER)))))), ?_⟩
  refine ⟨x, rfl, x, rfl, ow, _, rfl, ?_⟩
  cases x with
  | int i =>
   refine iteT ⟨_, rfl, _, _, rfl, rfl, _, rfl, ?_⟩
   by_cases h1 : 1 ≤ i
   ·rw [if_pos (decide_eq_true h1)]
    refine ⟨_, _, rfl, rfl, ?_⟩
    simpa [inR, h1] using k
   ·rw [if_neg (by simp [h1])]
    simpa [inR, h1] using k
  | _ => exact iteF k
set_option maxHeartbeats 4000000 in
theorem ok_is_word (T : Txt w K mg c) : FnOk P w K mg base CX0 1 c.a_is_word c.d_is_word ["thing"] (spWord K) := by
 refine T.is_word.fn.ok sc_is_word (fun vs H Q E h => ?_) (fun cdv A outer s H vs Q E hr h => ?_)
 ·obtain ⟨x, rfl, _⟩ := h
  rfl
 ·obtain ⟨x, rfl, ow, hz, k⟩ := h
  refine ⟨_, (pss_cons (ps_if (PW.pt (pw_or (pt_not (pt_val (pe_callB call_isiA rfl T.no_isinstance bt_isinstance (pa_cons (pv 0) (pa_cons (pe_bltn (v := .ty "str") rfl T.no_str bt_str rfl) pa_nil))))) (pw_or1 (pt_not (pt_chain op_le op_le pe_int (pe_callB call_len_str rfl T.no_len bt_len (pa_cons (pv 0) pa_nil)) (pe_glob rfl T.mg_MOST_LETTERS T.rl_MOST_LETTERS))))))
    (pss_one (ps_ret pe_bl))
    pss_nil)
   (pss_one (ps_ret (pe_callB (call_all rfl) rfl T.no_all bt_all (pa_cons (pe_comp (N' := ["sign"]) (js := [none]) rfl rfl (by decide +kernel) (by decide +kernel) (free_nil (by decide +kernel)) (cap_nil rfl rfl) (pi_str (pv 0)) (fun B => ⟨(pg_name (i := 0) (show List.Nodup (["sign"] : List Str) by decide +kernel) rfl (Or.inl rfl)), pifs_nil, (pe_chain op_le_str op_le_str pe_str (pv 0) pe_str)⟩)) pa_nil))))), ?_⟩
  refine ⟨x, rfl, rIsiA.str ow ⟨_, rfl, ?_⟩⟩
  cases x with
  | str z =>
   have hz : z.length ≤ sizeLine := hz
   refine iteF ?_
   walk_at "rd"
   refine ⟨hz, ?_⟩
   walk_at "rd"
   refine ite2 (fun h1 => ?_) (fun h1 => ?_)
   ·walk_at "rd"
    by_cases h2 : ((z.length : Int) ≤ 12)
    ·rw [decide_eq_true h2]
     refine iteF ⟨_, rfl, _, rfl, fun l B hl => ?_⟩
     have en : z.cps.toList.length = z.length := by simp [Str.length]
     refine loop_by z.cps.size (fun i σ acc H' => (∃ o, σ = [o]) ∧ acc = (z.cps.toList.take i).map (fun c => V.bl (letter c)) ∧ H' = upd H l (.lst acc)) hz ?_ ?_ ?_ ?_ ?_
     ·exact ⟨⟨_, rfl⟩, rfl, rfl⟩
     ·rintro i σ acc H' hi ⟨_, e, e'⟩
      refine ⟨by rw [e']; exact upd_same, ?_⟩
      rw [e, List.length_map, List.length_take]
      omega
     ·intro i σ acc H' hi _
      exact hi
     ·rintro i x σ acc H' H'' hi ⟨⟨o, rfl⟩, e, e'⟩ ⟨rfl, c, hc, rfl⟩
      have hc' : z.cps.toList[i]? = some c := by simpa using hc
      have fin : ∀ b, b = letter c → H'' l = some (.lst acc) ∧ Nx z.cps.size i ((∃ o, ([o].set 0 (some (V.str ⟨#[c]⟩)) : St) = [o]) ∧ acc ++ [V.bl b] = (z.cps.toList.take (i + 1)).map (fun c => V.bl (letter c)) ∧ upd H'' l (.lst (acc ++ [V.bl b])) = upd H l (.lst (acc ++ [V.bl b]))) := by
       intro b eb
       refine ⟨by rw [e']; exact upd_same, Nx.mk hi ⟨⟨_, rfl⟩, ?_, by rw [e', upd_upd]⟩⟩
       rw [take_one hc', List.map_append, ← e, eb]
       rfl
      walk_at "rd"
      rw [le_a]
      refine ite2 (fun g1 => ?_) (fun g1 => ?_)
      ·walk_at "rd"
       refine fin _ ?_
       rw [le_z]
       unfold letter
       rw [g1]
       rfl
      ·refine fin _ ?_
       unfold letter
       rw [eq_false_of_ne_true g1]
       rfl
     ·rintro σ acc H' ⟨_, e, e'⟩
      refine ⟨rfl, l, z.cps.toList.map letter, rfl, SqL.of (by rw [e', upd_same, e, List.take_of_length_le (by simp)]; simp), ?_⟩
      have q := k H' (by rw [e']; exact Same.new hl)
      have ev : isWord (.str z) = (z.cps.toList.map letter).all id := by
       rw [isWord_str, h1, decide_eq_true h2, List.all_map]
       rfl
      rw [ev] at q
      exact q
    ·rw [decide_eq_false h2]
     refine iteT ?_
     have ev : isWord (.str z) = false := by
      rw [isWord_str, decide_eq_false h2, Bool.and_false, Bool.false_and]
     have q := k H (Same.refl H)
     rw [ev] at q
     exact q
   ·have ev : isWord (.str z) = false := by
     rw [isWord_str, eq_false_of_ne_true h1, Bool.false_and, Bool.false_and]
    have q := k H (Same.refl H)
    rw [ev] at q
    walk_at "rd"
    exact q
  | _ => exact iteT (k _ (Same.refl H))
set_option maxHeartbeats 4000000 in
theorem ok_is_rank (T : Txt w K mg c) : FnOk P w K mg base CX0 1 c.a_is_rank c.d_is_rank ["thing"] (spRank K) := by
 refine T.is_rank.fn.ok sc_is_rank (fun vs H Q E h => ?_) (fun cdv A outer s H vs Q E hr h => ?_)
 ·obtain ⟨x, rfl, _⟩ := h
  rfl
 ·obtain ⟨x, rfl, ow, k⟩ := h
  refine ⟨_, (pss_one (ps_ret (pe_and (pe_callB call_isiA rfl T.no_isinstance bt_isinstance (pa_cons (pv 0) (pa_cons (pe_bltn (v := .ty "str") rfl T.no_str bt_str rfl) pa_nil))) (pe_one (pe_cmpR op_in_seq (pv 0) (pe_glob (v := .ref c.u_RANKS) rfl T.mg_RANKS rfl) (by with_unfolding_all rfl)))))), ?_⟩
  refine ⟨x, rfl, rIsiA.str ow ⟨_, rfl, ?_⟩⟩
  cases x with
  | str z => exact iteT ⟨_, rfl, c.u_RANKS, ranks, rfl, .inr (T.sq_RANKS _), rfl, rfl, k⟩
  | _ => exact iteF k
set_option maxHeartbeats 4000000 in
theorem ok_refuse_head (T : Txt w K mg c) : FnOk P w K mg base (CXx P w) 3 c.a_refuse_head c.d_refuse_head ["number", "day", "rank", "word"] (spHead K ⟨c.c_NoNumber, c.c_NoDay, c.c_NoRank, c.c_NoWord, c.c_NoEntry⟩) := by
 refine T.refuse_head.fn.okx sc_refuse_head (fun vs H Q E h => ?_) (fun cdv A outer s H vs Q E hr h => ?_)
 ·obtain ⟨n, d, r, w, rfl, _⟩ := h
  rfl
 ·obtain ⟨n, d, r, w, rfl, on, od, or', ow, fw, k⟩ := h
  refine ⟨_, (pss_cons (ps_if (pt_not (pt_val (pe_call (ok_is_number T) (hr.mono (by decide)) rfl T.is_number.mgf T.is_number.kp T.is_number.bi .nil pass0 (pa_cons (pv 0) pa_nil))))
    (pss_one (ps_raise T.x_NoNumber rfl rfl T.mg_NoNumber rz_def (pa_cons pe_str pa_nil)))
    pss_nil)
   (pss_cons (ps_if (pt_not (pt_val (pe_call (ok_is_day T) (hr.mono (by decide)) rfl T.is_day.mgf T.is_day.kp T.is_day.bi .nil pass0 (pa_cons (pv 1) pa_nil))))
    (pss_one (ps_raise T.x_NoDay rfl rfl T.mg_NoDay rz_def (pa_cons pe_str pa_nil)))
    pss_nil)
   (pss_cons (ps_if (pt_not (pt_val (pe_call (ok_is_rank T) (hr.mono (by decide)) rfl T.is_rank.mgf T.is_rank.kp T.is_rank.bi .nil pass0 (pa_cons (pv 2) pa_nil))))
    (pss_one (ps_raise T.x_NoRank rfl rfl T.mg_NoRank rz_def (pa_cons pe_str pa_nil)))
    pss_nil)
   (pss_one (ps_if (pt_not (pt_val (pe_call (ok_is_word T) (hr.mono (by decide)) rfl T.is_word.mgf T.is_word.kp T.is_word.bi .nil pass0 (pa_cons (pv 3) pa_nil))))
    (pss_one (ps_raise T.x_NoWord rfl rfl T.mg_NoWord rz_def (pa_cons pe_str pa_nil)))
    pss_nil))))), ?_⟩
  walk_at "rd"
  refine ⟨on, ?_⟩
  walk_at "rd"
  refine iteB (fun h1 => ?_) (fun h1 => ?_)
  ·have h1 : inR 1000000000 n = false := by simpa using h1
   have e : whyH n d r w = 1 := by unfold whyH; rw [if_pos h1]
   have q := (k H (Same.refl H)).2 (by rw [e]; decide)
   rw [e] at q
   exact ⟨le_ble rfl, q⟩
  have h1 : ¬ inR 1000000000 n = false := by simpa using h1
  walk_at "rd"
  refine ⟨od, ?_⟩
  walk_at "rd"
  refine iteB (fun h2 => ?_) (fun h2 => ?_)
  ·have h2 : inR 1000000 d = false := by simpa using h2
   have e : whyH n d r w = 2 := by unfold whyH; rw [if_neg h1, if_pos h2]
   have q := (k H (Same.refl H)).2 (by rw [e]; decide)
   rw [e] at q
   exact ⟨le_ble rfl, q⟩
  have h2 : ¬ inR 1000000 d = false := by simpa using h2
  walk_at "rd"
  refine ⟨or', ?_⟩
  walk_at "rd"
  refine iteB (fun h3 => ?_) (fun h3 => ?_)
  ·have h3 : isRank r = false := by simpa using h3
   have e : whyH n d r w = 3 := by unfold whyH; rw [if_neg h1, if_neg h2, if_pos h3]
   have q := (k H (Same.refl H)).2 (by rw [e]; decide)
   rw [e] at q
   exact ⟨le_ble rfl, q⟩
  have h3 : ¬ isRank r = false := by simpa using h3
  walk_at "rd"
  refine ⟨ow, fw, fun H' s1 => ?_⟩
  walk_at "rd"
  refine iteB (fun h4 => ?_) (fun h4 => ?_)
  ·have h4 : isWord w = false := by simpa using h4
   have e : whyH n d r w = 4 := by unfold whyH; rw [if_neg h1, if_neg h2, if_neg h3, if_pos h4]
   have q := (k H' s1).2 (by rw [e]; decide)
   rw [e] at q
   exact ⟨le_ble rfl, q⟩
  have h4 : ¬ isWord w = false := by simpa using h4
  exact (k H' s1).1 (by unfold whyH; rw [if_neg h1, if_neg h2, if_neg h3, if_neg h4])
set_option maxHeartbeats 4000000 in
theorem ok_under_fits (T : Txt w K mg c) : FnOk P w K mg base CX0 3 c.a_under_fits c.d_under_fits ["rank", "under"] (spUnder K) := by
 refine T.under_fits.fn.ok sc_under_fits (fun vs H Q E h => ?_) (fun cdv A outer s H vs Q E hr h => ?_)
 ·obtain ⟨z, u, rfl, _⟩ := h
  rfl
 ·obtain ⟨z, u, rfl, ou, k⟩ := h
  refine ⟨_, (pss_cons (ps_if (pt_cmpR op_eq (pv 0) pe_str (nomark _))
    (pss_one (ps_ret (pe_cmp (pc_isN (pv 1)))))
    pss_nil)
   (pss_one (ps_ret (pe_call (ok_is_number T) (hr.mono (by decide)) rfl T.is_number.mgf T.is_number.kp T.is_number.bi .nil pass0 (pa_cons (pv 1) pa_nil))))), ?_⟩
  walk_at "rd"
  refine ite2 (fun h => ?_) (fun h => ?_)
  ·have e : underFits (.str z) u = decide (u = .non) := by unfold underFits; rw [if_pos (of_decide_eq_true h)]
   rw [e] at k
   walk_at "rd"
   exact k
  ·have e : underFits (.str z) u = inR 1000000000 u := by unfold underFits; rw [if_neg (fun q => h (decide_eq_true q))]
   rw [e] at k
   exact ⟨_, rfl, u, rfl, ou, k⟩
set_option maxHeartbeats 4000000 in
theorem ok_tie_fits (T : Txt w K mg c) : FnOk P w K mg base CX0 3 c.a_tie_fits c.d_tie_fits ["rank", "sheet", "base"] (spTie K) := by
 refine T.tie_fits.fn.ok sc_tie_fits (fun vs H Q E h => ?_) (fun cdv A outer s H vs Q E hr h => ?_)
 ·obtain ⟨z, s', b, rfl, _⟩ := h
  rfl
 ·obtain ⟨z, s', b, rfl, os, ob, k⟩ := h
  refine ⟨_, (pss_cons (ps_if (pt_cmp (pc_isN (pv 2)))
    (pss_one (ps_ret (pe_call (ok_is_number T) (hr.mono (by decide)) rfl T.is_number.mgf T.is_number.kp T.is_number.bi .nil pass0 (pa_cons (pv 1) pa_nil))))
    pss_nil)
   (pss_one (ps_ret (pe_and (pe_cmpR op_ne (pv 0) pe_str (nomark _)) (pe_and (pe_cmp (pc_isN (pv 1))) (pe_one (pe_call (ok_is_number T) (hr.mono (by decide)) rfl T.is_number.mgf T.is_number.kp T.is_number.bi .nil pass0 (pa_cons (pv 2) pa_nil)))))))), ?_⟩
  walk_at "rd"
  refine ite2 (fun h => ?_) (fun h => ?_)
  ·have e : tieFits (.str z) s' b = inR 1000000000 s' := by unfold tieFits; rw [if_pos (of_decide_eq_true h)]
   rw [e] at k
   exact ⟨_, rfl, s', rfl, os, k⟩
  have hb : ¬ b = .non := fun q => h (decide_eq_true q)
  walk_at "rd"
  refine iteB (fun h1 => ?_) (fun h1 => ?_)
  ·walk_at "rd"
   refine iteB (fun h2 => ?_) (fun h2 => ?_)
   ·have e : tieFits (.str z) s' b = inR 1000000000 b := by
     unfold tieFits
     rw [if_neg hb, h1, h2]
     rfl
    rw [e] at k
    exact ⟨_, rfl, b, rfl, ob, k⟩
   ·have e : tieFits (.str z) s' b = false := by
     unfold tieFits
     rw [if_neg hb, h2]
     simp
    rw [e] at k
    exact k
  ·have e : tieFits (.str z) s' b = false := by
    unfold tieFits
    rw [if_neg hb, h1]
    rfl
   rw [e] at k
   exact k
set_option maxHeartbeats 4000000 in
theorem ok_Entry_init (T : Txt w K mg c) : FnOk P w K mg base (CXx P w) 4 c.a_Entry_init c.d_Entry_init ["self", "number", "day", "rank", "word", "under", "sheet", "base", "described"] (spInit K c.c_Entry ⟨c.c_NoNumber, c.c_NoDay, c.c_NoRank, c.c_NoWord, c.c_NoEntry⟩) := by
 refine T.Entry_init.okx sc_Entry_init (fun vs H Q E h => ?_) (fun cdv A outer s H vs Q E hr h => ?_)
 ·obtain ⟨a, dx, n, d, r, w, u, s', b, kk, rfl, _⟩ := h
  rfl
 ·obtain ⟨a, dx, n, d, r, w, u, s', b, kk, rfl, ha, on, od, or', ow, fw, ou, os, ob, k⟩ := h
  refine ⟨_, (pss_cons (ps_expr (pe_callS (ok_refuse_head T) (hr.mono (by decide)) rfl T.refuse_head.mgf T.refuse_head.kp T.refuse_head.bi .nil pass_def (pa_cons (pv 1) (pa_cons (pv 2) (pa_cons (pv 3) (pa_cons (pv 4) pa_nil))))))
   (pss_cons (ps_if (pt_not (pt_val (pe_call (ok_under_fits T) (hr.mono (by decide)) rfl T.under_fits.mgf T.under_fits.kp T.under_fits.bi .nil pass0 (pa_cons (pv 3) (pa_cons (pv 5) pa_nil)))))
    (pss_one (ps_raise T.x_NoEntry rfl rfl T.mg_NoEntry rz_def (pa_cons pe_str pa_nil)))
    pss_nil)
   (pss_cons (ps_if (pt_not (pt_val (pe_call (ok_tie_fits T) (hr.mono (by decide)) rfl T.tie_fits.mgf T.tie_fits.kp T.tie_fits.bi .nil pass0 (pa_cons (pv 3) (pa_cons (pv 6) (pa_cons (pv 7) pa_nil))))))
    (pss_one (ps_raise T.x_NoEntry rfl rfl T.mg_NoEntry rz_def (pa_cons pe_str pa_nil)))
    pss_nil)
   (pss_cons (ps_fld (pv 0) (pv 1) rfl)
   (pss_cons (ps_fld (pv 0) (pv 2) rfl)
   (pss_cons (ps_fld (pv 0) (pv 3) rfl)
   (pss_cons (ps_fld (pv 0) (pv 4) rfl)
   (pss_cons (ps_fld (pv 0) (pv 5) rfl)
   (pss_cons (ps_fld (pv 0) (pv 6) rfl)
   (pss_cons (ps_fld (pv 0) (pv 7) rfl)
   (pss_one (ps_fld (pv 0) (pv 8) rfl)))))))))))), ?_⟩
  refine ⟨_, rfl, _, rfl, _, rfl, _, rfl, n, d, r, w, rfl, on, od, or', ow, fw, fun H' s1 => ⟨fun h0 => ?_, fun h0 => ?_⟩⟩
  rotate_left
  ·have e : why n d r w u s' b = whyH n d r w := by unfold why; rw [if_pos h0]
   have q := (k H' s1).2 (by rw [e]; exact h0)
   rw [e] at q
   exact q
  have hr3 : ∃ z : Str, r = .str z := by
   unfold whyH at h0
   split at h0
   ·cases h0
   ·split at h0
    ·cases h0
    ·split at h0
     ·cases h0
     ·rename_i q
      cases r <;> first | exact ⟨_, rfl⟩ | exact absurd rfl q
  obtain ⟨z, rfl⟩ := hr3
  refine ⟨_, rfl, _, rfl, z, u, rfl, ou.same s1, _, rfl, ?_⟩
  refine iteB (fun h1 => ?_) (fun h1 => ?_)
  ·have h1 : underFits (.str z) u = false := by simpa using h1
   have e : why n d (.str z) w u s' b = 5 := by unfold why; rw [if_neg (by rw [h0]; decide), if_pos h1]
   have q := (k H' s1).2 (by rw [e]; decide)
   rw [e] at q
   exact ⟨le_ble rfl, q⟩
  have h1 : ¬ underFits (.str z) u = false := by simpa using h1
  refine ⟨_, rfl, _, rfl, _, rfl, z, s', b, rfl, os.same s1, ob.same s1, _, rfl, ?_⟩
  refine iteB (fun h2 => ?_) (fun h2 => ?_)
  ·have h2 : tieFits (.str z) s' b = false := by simpa using h2
   have e : why n d (.str z) w u s' b = 5 := by unfold why; rw [if_neg (by rw [h0]; decide), if_neg h1, if_pos h2]
   have q := (k H' s1).2 (by rw [e]; decide)
   rw [e] at q
   exact ⟨le_ble rfl, q⟩
  have h2 : ¬ tieFits (.str z) s' b = false := by simpa using h2
  have q := (k H' s1).1 (by unfold why; rw [if_neg (by rw [h0]; decide), if_neg h1, if_neg h2])
  have a0 := s1 _ _ ha
  refine ⟨_, rfl, _, rfl, a, c.c_Entry, dx, _, rfl, a0, T.cl_Entry, T.na_Entry_number, le_ble rfl, ?_⟩
  refine ⟨_, rfl, _, rfl, a, c.c_Entry, dx, _, rfl, upd_same, T.cl_Entry, T.na_Entry_day, le_ble rfl, ?_⟩
  refine ⟨_, rfl, _, rfl, a, c.c_Entry, dx, _, rfl, upd_same, T.cl_Entry, T.na_Entry_rank, le_ble rfl, ?_⟩
  refine ⟨_, rfl, _, rfl, a, c.c_Entry, dx, _, rfl, upd_same, T.cl_Entry, T.na_Entry_word, le_ble rfl, ?_⟩
  refine ⟨_, rfl, _, rfl, a, c.c_Entry, dx, _, rfl, upd_same, T.cl_Entry, T.na_Entry_under, le_ble rfl, ?_⟩
  refine ⟨_, rfl, _, rfl, a, c.c_Entry, dx, _, rfl, upd_same, T.cl_Entry, T.na_Entry_sheet, le_ble rfl, ?_⟩
  refine ⟨_, rfl, _, rfl, a, c.c_Entry, dx, _, rfl, upd_same, T.cl_Entry, T.na_Entry_base, le_ble rfl, ?_⟩
  refine ⟨_, rfl, _, rfl, a, c.c_Entry, dx, _, rfl, upd_same, T.cl_Entry, T.na_Entry_described, le_ble rfl, ?_⟩
  rw [upd_upd, upd_upd, upd_upd, upd_upd, upd_upd, upd_upd, upd_upd]
  exact q
set_option maxHeartbeats 4000000 in
theorem ok_ahead (T : Txt w K mg c) : FnOk P w K mg base CX0 1 c.a_ahead c.d_ahead ["one", "other"] (spAhead c.c_Entry) := by
 refine T.ahead.fn.ok sc_ahead (fun vs H Q E h => ?_) (fun cdv A outer s H vs Q E hr h => ?_)
 ·obtain ⟨x, y, e, f, rfl, _⟩ := h
  rfl
 ·obtain ⟨x, y, e, f, rfl, hx, hy, k⟩ := h
  refine ⟨_, (pss_one (ps_ret (pe_cmpR (op_ltT hr.units0) (pe_tup (pa_cons (pe_fld (pv 0) rfl) (pa_cons (pe_fld (pv 0) rfl) pa_nil))) (pe_tup (pa_cons (pe_fld (pv 1) rfl) (pa_cons (pe_fld (pv 1) rfl) pa_nil))) (nomark _)))), ?_⟩
  obtain ⟨a, dx, rfl, ha⟩ := hx
  obtain ⟨b, dy, rfl, hb⟩ := hy
  refine ⟨_, rfl, a, _, dx, _, _, rfl, ha, T.cl_Entry, T.na_Entry_day, rfl, ?_⟩
  refine ⟨_, rfl, a, _, dx, _, _, rfl, ha, T.cl_Entry, T.na_Entry_number, rfl, le_ble rfl, fun p hp => ?_⟩
  have s1 := Same.new (o := HO.tup [.int e.d, .int e.n]) hp
  refine ⟨_, rfl, b, _, dy, _, _, rfl, s1 _ _ hb, T.cl_Entry, T.na_Entry_day, rfl, ?_⟩
  refine ⟨_, rfl, b, _, dy, _, _, rfl, s1 _ _ hb, T.cl_Entry, T.na_Entry_number, rfl, le_ble rfl, fun q hq => ?_⟩
  have s2 := Same.new (o := HO.tup [.int f.d, .int f.n]) hq
  exact ⟨p, q, [e.d, e.n], [f.d, f.n], rfl, rfl, SqT.of (s2 _ _ upd_same), SqT.of upd_same, k _ (s1.trans s2)⟩
set_option maxHeartbeats 4000000 in
theorem ok_book_list (T : Txt w K mg c) : FnOk P w K mg base (CXx P w) 2 c.a_book_list c.d_book_list ["entries"] (spBook K c.c_Entry c.c_NoBook) := by
 refine T.book_list.fn.okx sc_book_list (fun vs H Q E h => ?_) (fun cdv A outer s H vs Q E hr h => ?_)
 ·obtain ⟨x, rfl, _⟩ := h
  rfl
 ·obtain ⟨x, rfl, h0⟩ := h
  refine ⟨_, (pss_cons (ps_if (pt_not (pt_val (pe_callB call_isiA rfl T.no_isinstance bt_isinstance (pa_cons (pv 0) (pa_cons (pe_bltn (v := .ty "list") rfl T.no_list bt_list rfl) pa_nil)))))
    (pss_one (ps_raise T.x_NoBook rfl rfl T.mg_NoBook rz_def (pa_cons pe_str pa_nil)))
    pss_nil)
   (pss_cons (ps_set (i := 1) sc_book_list.nd rfl (Or.inl rfl) (pe_callTy call_list_of rfl T.no_list bt_list (pa_cons (pv 0) pa_nil)))
   (pss_cons (ps_set (i := 2) sc_book_list.nd rfl (Or.inl rfl) pe_dnewK)
   (pss_cons (ps_set (i := 3) sc_book_list.nd rfl (Or.inl rfl) pe_non)
   (pss_cons (ps_for own_def rfl (pi_list (pv 1)) (pg_name (i := 4) sc_book_list.nd rfl (Or.inl rfl))
    (pss_cons (ps_if (pt_not (pt_val (pe_callB call_isiA rfl T.no_isinstance bt_isinstance (pa_cons (pv 4) (pa_cons (pe_glob (v := .ref c.c_Entry) rfl T.mg_Entry rfl) pa_nil)))))
    (pss_one (ps_raise T.x_NoBook rfl rfl T.mg_NoBook rz_def (pa_cons pe_str pa_nil)))
    pss_nil)
   (pss_cons (ps_if (pt_cmp (pc_din (hu_of hr) (pe_fld (pv 4) rfl) (pv 2)))
    (pss_one (ps_raise T.x_NoBook rfl rfl T.mg_NoBook rz_def (pa_cons pe_str pa_nil)))
    pss_nil)
   (pss_cut (ps_if (PW.pt (pw_and (pt_cmp (pc_notN (pv 3))) (pw_and1 (pt_not (pt_val (pe_call (ok_ahead T) (hr.mono (by decide)) rfl T.ahead.mgf T.ahead.kp T.ahead.bi .nil pass0 (pa_cons (pv 3) (pa_cons (pv 4) pa_nil))))))))
    (pss_one (ps_raise T.x_NoBook rfl rfl T.mg_NoBook rz_def (pa_cons pe_str pa_nil)))
    pss_nil)
   (pss_cons (ps_dput (hu_of hr) (pv 2) (pe_fld (pv 4) rfl) pe_bl rfl)
   (pss_one (ps_set (i := 3) sc_book_list.nd rfl (Or.inl rfl) (pv 4))))))))
   (pss_one (ps_ret (pv 1)))))))), ?_⟩
  rcases h0 with ⟨l, ws, is, rfl, hL, hI, hz, k1, k2⟩ | ⟨n, ty, hn, k⟩
  rotate_left
  ·exact ⟨_, rfl, rIsiA.ty ty hn ⟨_, rfl, iteT ⟨le_ble rfl, k H (Same.refl H)⟩⟩⟩
  have sz : 2000 < sizeLine := le_ble rfl
  refine ⟨_, rfl, rIsiA.ty (.lst hL) rfl ⟨_, rfl, iteF ?_⟩⟩
  refine ⟨_, rfl, l, _, rfl, .inl (SqL.of hL), fun q hq => ?_⟩
  have s1 := Same.new (o := HO.lst ws) hq
  have hq1 := upd_same (H := H) (a := q) (o := .lst ws)
  generalize upd H q (.lst ws) = G1 at s1 hq1
  refine fun d hd => ?_
  have s2 := s1.trans (Same.new (o := HO.dK []) hd)
  have hd2 := upd_same (H := G1) (a := d) (o := .dK [])
  have hq2 := Same.new (o := HO.dK []) hd _ _ hq1
  have nHd : H d = none := s1.free hd
  generalize upd G1 d (.dK []) = G2 at s2 hd2 hq2
  refine ⟨_, rfl, q, rfl, ⟨_, SqL.of hq2⟩, ?_⟩
  refine for_list (xs := ws) (fun i σ G => ∃ seen last lv kvs z, σ = [some (.ref l), some (.ref q), some (.ref d), some lv, z] ∧ ((last = none ∧ lv = .non) ∨ ∃ e, last = some e ∧ EntAt G c.c_Entry lv e) ∧ G d = some (.dK kvs) ∧ (∀ s : Int, valV kvs (Sum.inl s) = none ↔ seen.contains s = false) ∧ kvs.length ≤ i ∧ bookOk [] none is = bookOk seen last (is.drop i) ∧ Same H G ∧ G q = some (.lst ws)) ?_ ?_ ?_ ?_
  ·exact ⟨[], none, .non, [], _, rfl, .inl ⟨rfl, rfl⟩, hd2, fun s => ⟨fun _ => rfl, fun _ => rfl⟩, Nat.le_refl _, rfl, s2, hq2⟩
  ·rintro i σ G _ ⟨_, _, _, _, _, _, _, _, _, _, _, _, h⟩
   exact SqL.of h
  ·rintro i x σ G hx ⟨seen, last, lv, kvs, z, rfl, g1, g2, g3, g4, g5, g6, g7⟩
   have hi : i < ws.length := (List.getElem?_eq_some_iff.mp hx).1
   have hii : i < is.length := by rw [← hI.1]; exact hi
   have it := hI.2 i x _ hx (List.getElem?_eq_getElem hii)
   have ed : is.drop i = is[i] :: is.drop (i + 1) := (List.getElem_cons_drop hii).symm
   rw [ed] at g5
   generalize is[i] = y at it g5
   cases it with
   | oth t hn =>
    refine ⟨_, rfl, rIsiA.tyC (t.same g6) hn ⟨_, rfl, iteT ⟨le_ble rfl, k2 g5 G g6⟩⟩⟩
   | @ent e h =>
    have h' := h.same g6
    obtain ⟨a, dx, rfl, ha⟩ := h'
    refine ⟨_, rfl, rIsiA.ins ha T.cl_Entry T.w_Entry T.ws_Entry ⟨_, rfl, iteF ?_⟩⟩
    refine ⟨_, rfl, a, _, dx, _, _, rfl, ha, T.cl_Entry, T.na_Entry_number, rfl, _, rfl, d, _, rfl, DGet.k (k := Sum.inl e.n) g2, ?_⟩
    have g5 : bookOk [] none is = (!seen.contains e.n && (lastOk last e && bookOk (seen ++ [e.n]) (some e) (is.drop (i + 1)))) := g5
    cases hv : valV kvs (Sum.inl e.n) with
    | some u =>
     have hc : seen.contains e.n = true := by
      cases q : seen.contains e.n with
      | true => rfl
      | false => rw [(g3 e.n).mpr q] at hv; cases hv
     rw [hc] at g5
     exact ⟨_, rfl, iteT ⟨le_ble rfl, k2 g5 G g6⟩⟩
    | none =>
     have hc := (g3 e.n).mp hv
     rw [hc] at g5
     refine ⟨_, rfl, iteF ?_⟩
     have g5 : bookOk [] none is = (lastOk last e && bookOk (seen ++ [e.n]) (some e) (is.drop (i + 1))) := g5
     refine ⟨fun σ' G' => σ' = [some (.ref l), some (.ref q), some (.ref d), some lv, some (.ref a)] ∧ Same G G' ∧ bookOk [] none is = bookOk (seen ++ [e.n]) (some e) (is.drop (i + 1)), ?_, ?_⟩
     ·rcases g1 with ⟨rfl, rfl⟩ | ⟨e0, rfl, he0⟩
      ·refine ⟨_, rfl, _, rfl, iteF ?_⟩
       exact ⟨rfl, Same.refl G, g5⟩
      ·have h3 := he0
       obtain ⟨a0, dx0, rfl, ha0⟩ := he0
       refine ⟨_, rfl, _, rfl, iteT ?_⟩
       refine ⟨_, rfl, _, rfl, _, _, e0, e, rfl, h3, ⟨a, dx, rfl, ha⟩, fun G' s' => ?_⟩
       have g5 : bookOk [] none is = (aheadE e0 e && bookOk (seen ++ [e.n]) (some e) (is.drop (i + 1))) := g5
       cases hb : aheadE e0 e with
       | true =>
        rw [hb] at g5
        exact ⟨_, rfl, iteF ⟨rfl, s', g5⟩⟩
       | false =>
        rw [hb] at g5
        exact ⟨_, rfl, iteT ⟨le_ble rfl, k2 g5 G' (g6.trans s')⟩⟩
     rintro σ' G' ⟨rfl, s', g5⟩
     have ha' := s' _ _ ha
     refine ⟨_, rfl, _, rfl, a, _, dx, _, _, rfl, ha', T.cl_Entry, T.na_Entry_number, rfl, d, _, rfl, DPut.k (k := Sum.inl e.n) (s' _ _ g2) (by omega), ?_⟩
     have nad : a ≠ d := ne_of ha' (s' _ _ g2) (by intro z; cases z)
     have nqd : q ≠ d := ne_of (s' _ _ g7) (s' _ _ g2) (by intro z; cases z)
     refine ⟨_, rfl, seen ++ [e.n], some e, .ref a, _, _, rfl, .inr ⟨e, rfl, a, dx, rfl, by rw [upd_ne nad]; exact ha'⟩, upd_same, fun s => ?_, ?_, g5, fun b u hb => ?_, by rw [upd_ne nqd]; exact s' _ _ g7⟩
     ·rw [valV_put]
      by_cases es : s = e.n
      ·subst es
       rw [if_pos rfl]
       refine ⟨fun z => (nomatch z), fun z => ?_⟩
       rw [List.contains_iff_mem.mpr (List.mem_append_right _ (List.mem_singleton.mpr rfl))] at z
       cases z
      ·rw [if_neg (fun z => es (Sum.inl.inj z)), g3 s]
       have : (seen ++ [e.n]).contains s = seen.contains s := by
        rw [Bool.eq_iff_iff, List.contains_iff_mem, List.contains_iff_mem, List.mem_append, List.mem_singleton]
        exact ⟨fun z => z.resolve_right es, fun z => .inl z⟩
       rw [this]
     ·unfold putK
      rw [if_neg (by rw [valV_any, hv]; decide), List.length_append]
      show kvs.length + 1 ≤ _
      omega
     ·rw [upd_ne (fun z => by rw [z, nHd] at hb; cases hb)]
      exact s' _ _ (g6 _ _ hb)
  ·rintro σ G ⟨seen, last, lv, kvs, z, rfl, g1, g2, g3, g4, g5, g6, g7⟩
   rw [hI.1, List.drop_length] at g5
   exact ⟨_, rfl, k1 g5 q G g6 hq g7⟩
set_option maxHeartbeats 4000000 in
theorem ok_above (T : Txt w K mg c) : FnOk P w K mg base (CXx P w) 2 c.a_above c.d_above ["rank"] (spTabE K) := by
 refine T.above.fn.okx sc_above (fun vs H Q E h => ?_) (fun cdv A outer s H vs Q E hr h => ?_)
 ·obtain ⟨z, rfl, _⟩ := h
  rfl
 ·obtain ⟨z, rfl, hz, k⟩ := h
  refine ⟨_, (pss_cons (ps_if (pt_not (pt_val (pe_call (ok_is_rank T) (hr.mono (by decide)) rfl T.is_rank.mgf T.is_rank.kp T.is_rank.bi .nil pass0 (pa_cons (pv 0) pa_nil))))
    (pss_one ps_never)
    pss_nil)
   (pss_one (ps_ret (pe_ix ix_kdict (pe_glob (v := .ref c.u_ABOVE) rfl T.mg_ABOVE rfl) (pv 0) (fun _ _ => rfl))))), ?_⟩
  refine ⟨_, rfl, _, rfl, Own.str, _, rfl, ?_⟩
  rcases hz with rfl | rfl
  ·exact iteF ⟨_, rfl, c.u_ABOVE, _, _, _, rfl, rfl, T.kd_ABOVE, rfl, k⟩
  ·exact iteF ⟨_, rfl, c.u_ABOVE, _, _, _, rfl, rfl, T.kd_ABOVE, rfl, k⟩
set_option maxHeartbeats 4000000 in
theorem ok_Results_init (T : Txt w K mg c) : FnOk P w K mg base CX0 1 c.a_Results_init c.d_Results_init ["self"] (spResInit c.c_Results c.c_Entry) := by
 refine T.Results_init.ok sc_Results_init (fun vs H Q E h => ?_) (fun cdv A outer s H vs Q E hr h => ?_)
 ·obtain ⟨a, dx, rfl, _⟩ := h
  rfl
 ·obtain ⟨a, dx, rfl, ha, k⟩ := h
  refine ⟨_, (pss_cut (ps_fld (pv 0) pe_dnewK rfl)
   (pss_cut (ps_fld (pv 0) pe_dnewK rfl)
   (pss_cut (ps_fld (pv 0) pe_dnewK rfl)
   (pss_one (ps_fld (pv 0) pe_dnewT rfl))))), ?_⟩
  have na : ∀ d, H d = none → d ≠ a := fun d hd z => by rw [z, ha] at hd; cases hd
  refine ⟨fun σ G => σ = [some (.ref a)] ∧ ∃ d0, (∀ b u, b ≠ a → H b = some u → G b = some u) ∧ G a = some (.ins c.c_Results dx [("outs", .ref d0)]) ∧ G d0 = some (.dK []) ∧ H d0 = none, ?_, ?_⟩
  ·refine fun d0 e => ⟨_, rfl, a, _, dx, _, rfl, Same.new e _ _ ha, T.cl_Results, T.na_Results_outs, le_ble rfl, rfl, d0, fun b u nb hb => ?_, upd_same, ?_, ?_⟩
   ·rw [upd_ne nb, upd_ne (ne_of_none (hb) e)]; exact hb
   ·rw [upd_ne (na _ e), upd_same]
   ·exact e
  rintro σ G ⟨rfl, d0, fr, ka, k0, h0⟩
  refine ⟨fun σ G => σ = [some (.ref a)] ∧ ∃ d0 d1, (∀ b u, b ≠ a → H b = some u → G b = some u) ∧ G a = some (.ins c.c_Results dx [("outs", .ref d0), ("names", .ref d1)]) ∧ G d0 = some (.dK []) ∧ H d0 = none ∧ G d1 = some (.dK []) ∧ H d1 = none ∧ d0 ≠ d1, ?_, ?_⟩
  ·refine fun d1 e => ⟨_, rfl, a, _, dx, _, rfl, Same.new e _ _ ka, T.cl_Results, T.na_Results_names, le_ble rfl, rfl, d0, d1, fun b u nb hb => ?_, upd_same, ?_, ?_, ?_, ?_, ?_⟩
   ·rw [upd_ne nb, upd_ne (ne_of_none (fr b u nb hb) e)]; exact fr b u nb hb
   ·rw [upd_ne (na _ h0), upd_ne (ne_of_none k0 e)]; exact k0
   ·exact h0
   ·rw [upd_ne (na _ (show H d1 = none by
     cases q : H d1 with
     | none => rfl
     | some u => rw [fr d1 u (fun z => by rw [z, ka] at e; cases e) q] at e; cases e)), upd_same]
   ·exact (show H d1 = none by
     cases q : H d1 with
     | none => rfl
     | some u => rw [fr d1 u (fun z => by rw [z, ka] at e; cases e) q] at e; cases e)
   ·exact ne_of_none k0 e
  rintro σ G ⟨rfl, d0, d1, fr, ka, k0, h0, k1, h1, n01⟩
  refine ⟨fun σ G => σ = [some (.ref a)] ∧ ∃ d0 d1 d2, (∀ b u, b ≠ a → H b = some u → G b = some u) ∧ G a = some (.ins c.c_Results dx [("outs", .ref d0), ("names", .ref d1), ("rights", .ref d2)]) ∧ G d0 = some (.dK []) ∧ H d0 = none ∧ G d1 = some (.dK []) ∧ H d1 = none ∧ G d2 = some (.dK []) ∧ H d2 = none ∧ d0 ≠ d1 ∧ d0 ≠ d2 ∧ d1 ≠ d2, ?_, ?_⟩
  ·refine fun d2 e => ⟨_, rfl, a, _, dx, _, rfl, Same.new e _ _ ka, T.cl_Results, T.na_Results_rights, le_ble rfl, rfl, d0, d1, d2, fun b u nb hb => ?_, upd_same, ?_, ?_, ?_, ?_, ?_, ?_, ?_, ?_, ?_⟩
   ·rw [upd_ne nb, upd_ne (ne_of_none (fr b u nb hb) e)]; exact fr b u nb hb
   ·rw [upd_ne (na _ h0), upd_ne (ne_of_none k0 e)]; exact k0
   ·exact h0
   ·rw [upd_ne (na _ h1), upd_ne (ne_of_none k1 e)]; exact k1
   ·exact h1
   ·rw [upd_ne (na _ (show H d2 = none by
     cases q : H d2 with
     | none => rfl
     | some u => rw [fr d2 u (fun z => by rw [z, ka] at e; cases e) q] at e; cases e)), upd_same]
   ·exact (show H d2 = none by
     cases q : H d2 with
     | none => rfl
     | some u => rw [fr d2 u (fun z => by rw [z, ka] at e; cases e) q] at e; cases e)
   ·exact n01
   ·exact ne_of_none k0 e
   ·exact ne_of_none k1 e
  rintro σ G ⟨rfl, d0, d1, d2, fr, ka, k0, h0, k1, h1, k2, h2, n01, n02, n12⟩
  refine fun d3 e => ⟨_, rfl, a, _, dx, _, rfl, Same.new e _ _ ka, T.cl_Results, T.na_Results_holders, le_ble rfl, ?_⟩
  have hf : H d3 = none := by
   cases q : H d3 with
   | none => rfl
   | some u => rw [fr d3 u (fun z => by rw [z, ka] at e; cases e) q] at e; cases e
  have m3 : ∀ b u, b ≠ a → G b = some u → upd (upd G d3 (.dT [])) a (.ins c.c_Results dx (putF "holders" (V.ref d3) [("outs", .ref d0), ("names", .ref d1), ("rights", .ref d2)])) b = some u := fun b u nb hb => by
   rw [upd_ne nb, upd_ne (ne_of_none hb e)]; exact hb
  refine k ⟨a, dx, d0, d1, d2, d3⟩ _ rfl rfl (fun b u nb hb => m3 b u nb (fr b u nb hb)) ⟨upd_same, m3 _ _ (na _ h0) k0, ⟨_, m3 _ _ (na _ h1) k1, .nil⟩, ⟨_, m3 _ _ (na _ h2) k2, .nil⟩, ⟨_, ?_, .nil⟩, n01, n02, n12⟩ h0 h1 h2 hf
  show upd (upd G d3 (.dT [])) a _ d3 = _
  rw [upd_ne (na _ hf), upd_same]
set_option maxHeartbeats 4000000 in
theorem ok_Results_name_of (T : Txt w K mg c) : FnOk P w K mg base CX0 3 c.a_Results_name_of c.d_Results_name_of ["self", "entry"] (spNameOf c.c_Results c.c_Entry) := by
 refine T.Results_name_of.ok sc_Results_name_of (fun vs H Q E h => ?_) (fun cdv A outer s H vs Q E hr h => ?_)
 ·obtain ⟨A, s, v, e, rfl, _⟩ := h
  rfl
 ·obtain ⟨A, s, v, e, rfl, rs, rok, hv, okk, k⟩ := h
  refine ⟨_, (pss_cons (ps_if (pt_cmpR op_eq (pe_fld (pv 1) rfl) pe_str (nomark _))
    (pss_one (ps_ret (pe_tup (pa_cons (pe_fld (pv 1) rfl) pa_nil))))
    pss_nil)
   (pss_cons (ps_set (i := 2) sc_Results_name_of.nd rfl (Or.inl rfl) (pe_dget1 (hu_of hr) (pe_fld (pv 0) rfl) (pe_fld (pv 1) rfl) ⟨rfl, rfl, rfl, rfl⟩))
   (pss_cons (ps_if (PW.pt (pw_or (pt_cmp (pc_isN (pv 2))) (pw_or1 (pt_cmpR op_ne (pe_fld (pv 2) rfl) (pe_callS (ok_above T) (hr.mono (by decide)) rfl T.above.mgf T.above.kp T.above.bi .nil passE0 (pa_cons (pe_fld (pv 1) rfl) pa_nil)) (nomark _)))))
    (pss_one (ps_ret pe_non))
    pss_nil)
   (pss_one (ps_ret (pe_op op_catT1 (pe_dget (hu_of hr) (pe_fld (pv 0) rfl) (pe_fld (pv 2) rfl) (fun _ _ => rfl)) (pe_tup (pa_cons (pe_fld (pv 1) rfl) pa_nil)))))))), ?_⟩
  have hv0 := hv
  obtain ⟨a, dx, rfl, ha⟩ := hv
  refine ⟨_, rfl, a, _, dx, _, _, rfl, ha, T.cl_Entry, T.na_Entry_rank, rfl, rfl, _, rfl, ?_⟩
  refine ite2 (fun z => ?_) (fun z => ?_)
  ·have z : e.r = Str.ofString "genus" := V.str.inj (of_decide_eq_true z)
   refine ⟨_, rfl, a, _, dx, _, _, rfl, ha, T.cl_Entry, T.na_Entry_word, rfl, le_ble rfl, fun t ht => ?_⟩
   refine k _ _ (Same.new ht) ?_
   have en : nameE s.r e = some [e.w] := by unfold nameE; rw [if_pos z]
   rw [en]
   exact ⟨t, rfl, upd_same⟩
  have z : e.r ≠ Str.ofString "genus" := fun q => z (decide_eq_true (congrArg V.str q))
  obtain ⟨u, hu⟩ := okE_u okk z
  have lu : (fieldsE e).lookup (Str.ofString "under") = some (V.int u) := by show some (optV e.u) = _; rw [hu]; rfl
  obtain ⟨kr, hR, pR⟩ := rs.rights
  obtain ⟨kn, hN, pN⟩ := rs.names
  have en : nameE s.r e = match findN s.r u with | none => none | some x => if x.e.r = aboveS e.r then some (x.nm ++ [e.w]) else none := by
   unfold nameE
   rw [if_neg z, hu]
   rfl
  refine ⟨_, rfl, A.a, _, A.dx, _, _, rfl, rs.at_, T.cl_Results, T.na_Results_rights, rfl, A.o3, rfl, .inl ⟨_, .inl hR⟩, _, rfl, a, _, dx, _, _, rfl, ha, T.cl_Entry, T.na_Entry_under, lu, _, DGet.k (k := Sum.inl u) hR, ?_⟩
  rcases rights_at pR u with ⟨f1, f2⟩ | ⟨x, w, f1, f2, hx⟩
  ·rw [f2]
   refine ⟨_, rfl, _, rfl, iteT ?_⟩
   refine k _ _ (Same.refl H) ?_
   rw [en, f1]
   rfl
  have hx0 := hx
  obtain ⟨xa, xdx, rfl, hxa⟩ := hx
  rw [f2]
  refine ⟨_, rfl, _, rfl, iteF ?_⟩
  rw [f1] at en
  have en : nameE s.r e = if x.e.r = aboveS e.r then some (x.nm ++ [e.w]) else none := en
  refine ⟨_, rfl, xa, _, xdx, _, _, rfl, hxa, T.cl_Entry, T.na_Entry_rank, rfl, _, rfl, a, _, dx, _, _, rfl, ha, T.cl_Entry, T.na_Entry_rank, rfl, e.r, rfl, (okE_rank okk).resolve_left z, rfl, _, rfl, ?_⟩
  refine ite2 (fun y => ?_) (fun y => ?_)
  ·have y : x.e.r ≠ aboveS e.r := fun q => by rw [q, decide_eq_true rfl] at y; exact absurd y (by decide)
   refine k _ _ (Same.refl H) ?_
   rw [en, if_neg y]
   rfl
  have y : x.e.r = aboveS e.r := V.str.inj (Decidable.of_not_not (p := V.str x.e.r = V.str (aboveS e.r)) (fun q => y (by rw [decide_eq_false q]; rfl)))
  rw [if_pos y] at en
  have hm := (findN_mem f1).1
  obtain ⟨nv, hnv, nt, rfl, hnt⟩ := names_at pN (by rw [rok.nk]; exact rok.nd) (rok.nm x hm)
  have dp := rok.dp x hm
  have d3 : depthR x.e.r ≤ 3 := by
   unfold depthR
   split
   ·decide
   ·split <;> decide
  have d0 : 0 < depthR x.e.r := by
   unfold depthR
   split
   ·decide
   ·split <;> decide
  have sz : 2000 < sizeLine := le_ble rfl
  refine ⟨_, rfl, A.a, _, A.dx, _, _, rfl, rs.at_, T.cl_Results, T.na_Results_names, rfl, _, rfl, xa, _, xdx, _, _, rfl, hxa, T.cl_Entry, T.na_Entry_number, rfl, A.o2, .ref nt, rfl, ?_, ?_⟩
  ·rw [← hnv]
   exact DGet.k (k := Sum.inl x.e.n) hN
  refine ⟨_, rfl, a, _, dx, _, _, rfl, ha, T.cl_Entry, T.na_Entry_word, rfl, le_ble rfl, fun t ht => ?_⟩
  have s1 := Same.new (o := HO.tup [V.str e.w]) ht
  refine ⟨nt, t, x.nm.map V.str, [V.str e.w], rfl, rfl, SqT.of (s1 _ _ hnt), SqT.of upd_same, (by intro q; cases q), ?_, fun q => ?_, fun _ p hp => ?_⟩
  ·rw [List.length_map, dp]
   show _ + 1 ≤ _
   omega
  ·exfalso
   have := congrArg List.length q
   rw [List.length_map, dp] at this
   have : depthR x.e.r = 0 := this
   omega
  refine k _ _ (s1.trans (Same.new hp)) ?_
  rw [en]
  exact ⟨p, rfl, by rw [upd_same, List.map_append]; rfl⟩
set_option maxHeartbeats 4000000 in
theorem ok_Results_outcome_of (T : Txt w K mg c) : FnOk P w K mg base CX0 1 c.a_Results_outcome_of c.d_Results_outcome_of ["self", "entry", "name"] (spOutOf c.c_Results c.c_Entry) := by
 refine T.Results_outcome_of.ok sc_Results_outcome_of (fun vs H Q E h => ?_) (fun cdv A outer s H vs Q E hr h => ?_)
 ·obtain ⟨A, s, v, e, w, nm, rfl, _⟩ := h
  rfl
 ·obtain ⟨A, s, v, e, w, nm, rfl, rs, hv, okk, hw, k⟩ := h
  refine ⟨_, (pss_cut (ps_if (PW.pt (pw_and (pt_cmp (pc_isN (pe_fld (pv 1) rfl))) (pw_and1 (pt_not (pt_val (pe_fld (pv 1) rfl))))))
    (pss_one (ps_ret pe_str))
    pss_nil)
   (pss_cons (ps_if (pt_cmp (pc_isN (pv 2)))
    (pss_one (ps_ret pe_str))
    pss_nil)
   (pss_cut (ps_if (pt_cmp (pc_notN (pe_fld (pv 1) rfl)))
    (pss_cons (ps_set (i := 3) sc_Results_outcome_of.nd rfl (Or.inl rfl) (pe_dget1 (hu_of hr) (pe_fld (pv 0) rfl) (pe_fld (pv 1) rfl) ⟨rfl, rfl, rfl, rfl⟩))
   (pss_cons (ps_if (PW.pt (pw_or (pt_cmp (pc_isN (pv 3))) (pw_or (pt_cmpR op_ne (pe_fld (pv 3) rfl) (pe_fld (pv 1) rfl) (nomark _)) (pw_or1 (pt_cmp (pc_notN (pe_fld (pv 3) rfl)))))))
    (pss_one (ps_ret pe_str))
    pss_nil)
   (pss_one (ps_if (pt_cmpR op_ne (pe_fld (pv 3) rfl) (pe_fld (pv 1) rfl) (nomark _))
    (pss_one (ps_ret pe_str))
    pss_nil))))
    pss_nil)
   (pss_cons (ps_if (pt_cmp (pc_din (hu_of hr) (pv 2) (pe_fld (pv 0) rfl)))
    (pss_one (ps_ret pe_str))
    pss_nil)
   (pss_one (ps_ret pe_str)))))), ?_⟩
  obtain ⟨a, dx, rfl, ha⟩ := hv
  obtain ⟨kr, hR, pR⟩ := rs.rights
  obtain ⟨kh, hH, pH⟩ := rs.holders
  have basef : ∀ b, e.b = some b → (fieldsE e).lookup (Str.ofString "base") = some (V.int b) := fun b hb => by show some (optV e.b) = _; rw [hb]; rfl
  have basen : e.b = none → (fieldsE e).lookup (Str.ofString "base") = some V.non := fun hb => by show some (optV e.b) = _; rw [hb]; rfl
  refine ⟨fun σ G => σ = [some (.ref A.a), some (.ref a), some w, none] ∧ G = H ∧ ¬ (e.b = none ∧ e.k = false), ?_, ?_⟩
  ·cases hb : e.b with
   | some b => exact ⟨_, rfl, a, _, dx, _, _, rfl, ha, T.cl_Entry, T.na_Entry_base, basef b hb, _, rfl, iteF ⟨rfl, rfl, fun z => nomatch z.1⟩⟩
   | none =>
    refine ⟨_, rfl, a, _, dx, _, _, rfl, ha, T.cl_Entry, T.na_Entry_base, basen hb, _, rfl, iteT ?_⟩
    refine ⟨_, rfl, a, _, dx, _, _, rfl, ha, T.cl_Entry, T.na_Entry_described, rfl, ?_⟩
    cases hk : e.k with
    | true => exact ⟨_, rfl, iteF ⟨rfl, rfl, fun z => nomatch z.2⟩⟩
    | false =>
     refine ⟨_, rfl, iteT ?_⟩
     have eo : outE s.r e nm = Str.ofString "undescribed" := by unfold outE; rw [if_pos ⟨hb, hk⟩]
     rw [eo] at k
     exact k
  rintro σ G ⟨rfl, rfl, hd⟩
  cases nm with
  | none =>
   obtain rfl : w = .non := hw
   refine ⟨_, rfl, _, rfl, iteT ?_⟩
   have eo : outE s.r e none = Str.ofString "unplaced" := by unfold outE; rw [if_neg hd]
   rw [eo] at k
   exact k
  | some z =>
   obtain ⟨t, rfl, ht⟩ := hw
   refine ⟨_, rfl, _, rfl, iteF ?_⟩
   refine ⟨fun σ G' => (∃ z3, σ = [some (.ref A.a), some (.ref a), some (.ref t), z3]) ∧ G' = G ∧ outE s.r e (some z) = alikeE s.r z, ?_, ?_⟩
   ·cases hb : e.b with
    | none =>
     refine ⟨_, rfl, a, _, dx, _, _, rfl, ha, T.cl_Entry, T.na_Entry_base, basen hb, _, rfl, iteF ⟨⟨_, rfl⟩, rfl, ?_⟩⟩
     unfold outE
     rw [if_neg hd, hb]
    | some b =>
     refine ⟨_, rfl, a, _, dx, _, _, rfl, ha, T.cl_Entry, T.na_Entry_base, basef b hb, _, rfl, iteT ?_⟩
     have eo : outE s.r e (some z) = basedE s.r e b z := by unfold outE; rw [if_neg hd, hb]
     rw [eo] at k
     refine ⟨_, rfl, A.a, _, A.dx, _, _, rfl, rs.at_, T.cl_Results, T.na_Results_rights, rfl, A.o3, rfl, .inl ⟨_, .inl hR⟩, _, rfl, a, _, dx, _, _, rfl, ha, T.cl_Entry, T.na_Entry_base, basef b hb, _, DGet.k (k := Sum.inl b) hR, ?_⟩
     rcases rights_at pR b with ⟨f1, f2⟩ | ⟨x, w, f1, f2, hx⟩
     ·rw [f2]
      refine ⟨_, rfl, _, rfl, iteT ?_⟩
      have e2 : basedE s.r e b z = Str.ofString "baseless" := by unfold basedE; rw [f1]
      rw [e2] at k
      exact k
     obtain ⟨xa, xdx, rfl, hxa⟩ := hx
     rw [f2]
     have e2 : basedE s.r e b z = if x.e.r ≠ e.r ∨ x.e.b ≠ none then Str.ofString "baseless" else if x.e.w ≠ e.w then Str.ofString "reworded" else alikeE s.r z := by unfold basedE; rw [f1]
     refine ⟨_, rfl, _, rfl, iteF ?_⟩
     refine ⟨_, rfl, xa, _, xdx, _, _, rfl, hxa, T.cl_Entry, T.na_Entry_rank, rfl, _, rfl, a, _, dx, _, _, rfl, ha, T.cl_Entry, T.na_Entry_rank, rfl, rfl, _, rfl, ?_⟩
     refine ite2 (fun y => ?_) (fun y => ?_)
     ·have y : x.e.r ≠ e.r := fun q => by rw [q, decide_eq_true rfl] at y; exact absurd y (by decide)
      rw [e2, if_pos (.inl y)] at k
      exact k
     have y : x.e.r = e.r := V.str.inj (Decidable.of_not_not (p := V.str x.e.r = V.str e.r) (fun q => y (by rw [decide_eq_false q]; rfl)))
     cases hxb : x.e.b with
     | some b' =>
      have lx : (fieldsE x.e).lookup (Str.ofString "base") = some (V.int b') := by show some (optV x.e.b) = _; rw [hxb]; rfl
      refine ⟨_, rfl, xa, _, xdx, _, _, rfl, hxa, T.cl_Entry, T.na_Entry_base, lx, _, rfl, iteT ?_⟩
      rw [e2, if_pos (.inr (by rw [hxb]; intro q; cases q))] at k
      exact k
     | none =>
      have lx : (fieldsE x.e).lookup (Str.ofString "base") = some V.non := by show some (optV x.e.b) = _; rw [hxb]; rfl
      refine ⟨_, rfl, xa, _, xdx, _, _, rfl, hxa, T.cl_Entry, T.na_Entry_base, lx, _, rfl, iteF ?_⟩
      have e3 : ¬ (x.e.r ≠ e.r ∨ x.e.b ≠ none) := fun q => q.elim (fun q => q y) (fun q => q hxb)
      rw [if_neg e3] at e2
      refine ⟨_, rfl, xa, _, xdx, _, _, rfl, hxa, T.cl_Entry, T.na_Entry_word, rfl, _, rfl, a, _, dx, _, _, rfl, ha, T.cl_Entry, T.na_Entry_word, rfl, rfl, _, rfl, ?_⟩
      refine ite2 (fun y2 => ?_) (fun y2 => ?_)
      ·have y2 : x.e.w ≠ e.w := fun q => by rw [q, decide_eq_true rfl] at y2; exact absurd y2 (by decide)
       rw [e2, if_pos y2] at k
       exact k
      have y2 : x.e.w = e.w := V.str.inj (Decidable.of_not_not (p := V.str x.e.w = V.str e.w) (fun q => y2 (by rw [decide_eq_false q]; rfl)))
      refine ⟨⟨_, rfl⟩, rfl, ?_⟩
      rw [eo, e2, if_neg (fun q => q y2)]
   rintro σ G' ⟨⟨z3, rfl⟩, rfl, ea⟩
   rw [ea] at k
   have hk := holders_at pH z
   refine ⟨_, rfl, _, rfl, A.a, _, A.dx, _, _, rfl, rs.at_, T.cl_Results, T.na_Results_holders, rfl, A.o4, _, rfl, DGet.t (k := z.map Sum.inr) hH (by rw [key_strs]; exact ht), ?_⟩
   rw [hk]
   unfold alikeE at k
   cases q : s.r.any (fun x => decide (x.nm = z)) with
   | true =>
    rw [q, if_pos rfl] at k
    exact ⟨_, rfl, iteT k⟩
   | false =>
    rw [q, if_neg (by decide)] at k
    exact ⟨_, rfl, iteF k⟩
set_option maxHeartbeats 4000000 in
theorem ok_Results_put (T : Txt w K mg c) : FnOk P w K mg base CX0 4 c.a_Results_put c.d_Results_put ["self", "entry"] (spPutR c.c_Results c.c_Entry) := by
 refine T.Results_put.ok sc_Results_put (fun vs H Q E h => ?_) (fun cdv A outer s H vs Q E hr h => ?_)
 ·obtain ⟨A, s, v, e, rfl, _⟩ := h
  rfl
 ·obtain ⟨A, s, v, e, rfl, rs, rok, hv, okk, fr, hl, k⟩ := h
  refine ⟨_, (pss_cons (ps_set (i := 2) sc_Results_put.nd rfl (Or.inl rfl) (pe_meth (pv 0) T.cl_Results T.m_Results_name_of (ok_Results_name_of T) (hr.mono (by decide)) T.bi_Results_name_of .nil pass0 (pa_cons (pv 1) pa_nil)))
   (pss_cons (ps_set (i := 3) sc_Results_put.nd rfl (Or.inl rfl) (pe_meth (pv 0) T.cl_Results T.m_Results_outcome_of (ok_Results_outcome_of T) (hr.mono (by decide)) T.bi_Results_outcome_of .nil pass0 (pa_cons (pv 1) (pa_cons (pv 2) pa_nil))))
   (pss_cons (ps_dput (hu_of hr) (pe_fld (pv 0) rfl) (pe_fld (pv 1) rfl) (pv 3) rfl)
   (pss_cons (ps_dput (hu_of hr) (pe_fld (pv 0) rfl) (pe_fld (pv 1) rfl) (pv 2) rfl)
   (pss_cons (ps_if (pt_cmpR op_eq (pv 3) pe_str (nomark _))
    (pss_cons (ps_dput (hu_of hr) (pe_fld (pv 0) rfl) (pe_fld (pv 1) rfl) (pv 1) rfl)
   (pss_one (ps_dput (hu_of hr) (pe_fld (pv 0) rfl) (pv 2) (pv 1) rfl)))
    pss_nil)
   (pss_one (ps_ret (pv 3)))))))), ?_⟩
  have hv0 := hv
  obtain ⟨a, dx, rfl, ha⟩ := hv
  have sz : 2000 < sizeLine := le_ble rfl
  refine ⟨_, rfl, A.a, A.dx, _, rfl, rs.at_, rfl, _, rfl, A, s, .ref a, e, rfl, rs, rok, hv0, okk, fun w G1 s1 n1 => ?_⟩
  have rs1 := rs.same s1
  refine ⟨_, rfl, A.a, A.dx, _, rfl, rs1.at_, rfl, _, rfl, _, rfl, A, s, .ref a, e, w, _, rfl, rs1, hv0.same s1, okk, n1, ?_⟩
  have eo : outE s.r e (nameE s.r e) = outS s e := rfl
  rw [eo]
  have ha1 := s1 _ _ ha
  have fr1 : FrR A H G1 := Same.frR s1
  obtain ⟨r1, r2, ⟨kn, r3, r4⟩, ⟨kr, r5, r6⟩, ⟨kh, r7, r8⟩, d12, d13, d23⟩ := rs1
  clear rs
  have d14 : A.o1 ≠ A.o4 := ne_of r2 r7 (by intro z; cases z)
  have d24 : A.o2 ≠ A.o4 := ne_of r3 r7 (by intro z; cases z)
  have d34 : A.o3 ≠ A.o4 := ne_of r5 r7 (by intro z; cases z)
  have na1 : A.a ≠ A.o1 := ne_of r1 r2 (by intro z; cases z)
  have na2 : A.a ≠ A.o2 := ne_of r1 r3 (by intro z; cases z)
  have na3 : A.a ≠ A.o3 := ne_of r1 r5 (by intro z; cases z)
  have na4 : A.a ≠ A.o4 := ne_of r1 r7 (by intro z; cases z)
  have ne1 : a ≠ A.o1 := ne_of ha1 r2 (by intro z; cases z)
  have ne2 : a ≠ A.o2 := ne_of ha1 r3 (by intro z; cases z)
  have ne3 : a ≠ A.o3 := ne_of ha1 r5 (by intro z; cases z)
  have lo : (outsD s).length = s.o.length := List.length_map ..
  have ln : kn.length = s.o.length := by rw [← Paired.length r4, ← List.length_map (f := fun p : Int × Option (List Str) => p.1), rok.nk, List.length_map]
  have lr : s.r.length ≤ s.o.length := by
   have h1 : (s.r.map (·.e.n)).length ≤ (s.o.map (·.1)).length := nd_len rok.rn fun x hx => by
    obtain ⟨y, hy, rfl⟩ := List.mem_map.mp hx
    exact rok.sub y hy
   rw [List.length_map, List.length_map] at h1
   exact h1
  have lkr : kr.length ≤ 1000 := by rw [← Paired.length r6]; omega
  have lkh : kh.length ≤ 1000 := by rw [← Paired.length r8]; omega
  have po : putK (outsD s) (Sum.inl e.n) (.str (outS s e)) = outsD (stepE s e) := by
   rw [putK_new (outs_none fr)]
   show _ = (s.o ++ [(e.n, outS s e)]).map _
   rw [List.map_append]
   rfl
  refine ⟨_, rfl, _, rfl, A.a, _, A.dx, _, _, rfl, r1, T.cl_Results, T.na_Results_outs, rfl, _, rfl, a, _, dx, _, _, rfl, ha1, T.cl_Entry, T.na_Entry_number, rfl, A.o1, _, rfl, DPut.k (k := Sum.inl e.n) r2 (by omega), ?_⟩
  rw [po]
  have f2 : ∀ b u, b ≠ A.o1 → G1 b = some u → upd G1 A.o1 (.dK (outsD (stepE s e))) b = some u := fun b u nb hb => by rw [upd_ne nb]; exact hb
  have g2 : upd G1 A.o1 (.dK (outsD (stepE s e))) A.o1 = some (.dK (outsD (stepE s e))) := upd_same
  generalize upd G1 A.o1 (.dK (outsD (stepE s e))) = G2 at f2 g2 ⊢
  have nn : valV kn (Sum.inl e.n) = none := names_none r4 (by rw [rok.nk]; exact fr)
  refine ⟨_, rfl, _, rfl, A.a, _, A.dx, _, _, rfl, f2 _ _ na1 r1, T.cl_Results, T.na_Results_names, rfl, _, rfl, a, _, dx, _, _, rfl, f2 _ _ ne1 ha1, T.cl_Entry, T.na_Entry_number, rfl, A.o2, _, rfl, DPut.k (k := Sum.inl e.n) (f2 _ _ d12.symm r3) (by omega), ?_⟩
  rw [putK_new nn]
  have f3 : ∀ b u, b ≠ A.o1 → b ≠ A.o2 → G1 b = some u → upd G2 A.o2 (.dK (kn ++ [(Sum.inl e.n, w)])) b = some u := fun b u n1 n2 hb => by rw [upd_ne n2]; exact f2 b u n1 hb
  have g3 : upd G2 A.o2 (.dK (kn ++ [(Sum.inl e.n, w)])) A.o2 = some (.dK (kn ++ [(Sum.inl e.n, w)])) := upd_same
  have g3' : upd G2 A.o2 (.dK (kn ++ [(Sum.inl e.n, w)])) A.o1 = some (.dK (outsD (stepE s e))) := by rw [upd_ne d12]; exact g2
  generalize upd G2 A.o2 (.dK (kn ++ [(Sum.inl e.n, w)])) = G3 at f3 g3 g3' ⊢
  have tups : ∀ G' : Hp, (∀ b u, b ≠ A.o1 → b ≠ A.o2 → b ≠ A.o3 → b ≠ A.o4 → G1 b = some u → G' b = some u) → ∀ t xs, G1 t = some (.tup xs) → G' t = some (.tup xs) := fun G' h t xs ht => h t _ (ne_of ht r2 (by intro z; cases z)) (ne_of ht r3 (by intro z; cases z)) (ne_of ht r5 (by intro z; cases z)) (ne_of ht r7 (by intro z; cases z)) ht
  have inss : ∀ G' : Hp, (∀ b u, b ≠ A.o1 → b ≠ A.o2 → b ≠ A.o3 → b ≠ A.o4 → G1 b = some u → G' b = some u) → ∀ t C dx fs, G1 t = some (.ins C dx fs) → G' t = some (.ins C dx fs) := fun G' h t C dx fs ht => h t _ (ne_of ht r2 (by intro z; cases z)) (ne_of ht r3 (by intro z; cases z)) (ne_of ht r5 (by intro z; cases z)) (ne_of ht r7 (by intro z; cases z)) ht
  have names' : ∀ G' : Hp, (∀ b u, b ≠ A.o1 → b ≠ A.o2 → b ≠ A.o3 → b ≠ A.o4 → G1 b = some u → G' b = some u) → Paired (NameP G') (stepE s e).n (kn ++ [(Sum.inl e.n, w)]) := fun G' h => Paired.snoc (Paired.mapP r4 fun x q z => ⟨z.1, z.2.same (tups G' h)⟩) ⟨rfl, n1.same (tups G' h)⟩
  refine ⟨_, rfl, rfl, _, rfl, ?_⟩
  refine ite2 (fun z => ?_) (fun z => ?_)
  ·have z : outS s e = Str.ofString "right" := V.str.inj (of_decide_eq_true z)
   obtain ⟨nm, hnm, hno, _⟩ := outE_right z
   rw [hnm] at n1
   obtain ⟨t, rfl, ht⟩ := n1
   have er : (stepE s e).r = s.r ++ [⟨e, nm⟩] := by
    show (if outS s e = Str.ofString "right" then s.r ++ [⟨e, (nameE s.r e).getD []⟩] else s.r) = _
    rw [if_pos z, hnm]
    rfl
   have nr : valV kr (Sum.inl e.n) = none := by
    rcases rights_at r6 e.n with ⟨_, q⟩ | ⟨x, v, q, _⟩
    ·exact q
    ·obtain ⟨q1, q2⟩ := findN_mem q
     exact absurd (q2 ▸ rok.sub x q1) fr
   have nh : valV kh (nm.map Sum.inr) = none := by
    have := holders_at r8 nm
    rw [hno] at this
    cases q : valV kh (nm.map Sum.inr) with
    | none => rfl
    | some v => rw [q] at this; cases this
   refine ⟨_, rfl, _, rfl, A.a, _, A.dx, _, _, rfl, f3 _ _ na1 na2 r1, T.cl_Results, T.na_Results_rights, rfl, _, rfl, a, _, dx, _, _, rfl, f3 _ _ ne1 ne2 ha1, T.cl_Entry, T.na_Entry_number, rfl, A.o3, _, rfl, DPut.k (k := Sum.inl e.n) (f3 _ _ d13.symm d23.symm r5) (by omega), ?_⟩
   rw [putK_new nr]
   have f4 : ∀ b u, b ≠ A.o1 → b ≠ A.o2 → b ≠ A.o3 → G1 b = some u → upd G3 A.o3 (.dK (kr ++ [(Sum.inl e.n, .ref a)])) b = some u := fun b u n1 n2 n3 hb => by rw [upd_ne n3]; exact f3 b u n1 n2 hb
   have g4 : upd G3 A.o3 (.dK (kr ++ [(Sum.inl e.n, .ref a)])) A.o3 = some (.dK (kr ++ [(Sum.inl e.n, .ref a)])) := upd_same
   have g4' : upd G3 A.o3 (.dK (kr ++ [(Sum.inl e.n, .ref a)])) A.o1 = some (.dK (outsD (stepE s e))) := by rw [upd_ne d13]; exact g3'
   have g4'' : upd G3 A.o3 (.dK (kr ++ [(Sum.inl e.n, .ref a)])) A.o2 = some (.dK (kn ++ [(Sum.inl e.n, .ref t)])) := by rw [upd_ne d23]; exact g3
   generalize upd G3 A.o3 (.dK (kr ++ [(Sum.inl e.n, .ref a)])) = G4 at f4 g4 g4' g4'' ⊢
   have nt : ∀ b xs, G1 b = some (.tup xs) → G4 b = some (.tup xs) := fun b xs hb => f4 b _ (ne_of hb r2 (by intro z; cases z)) (ne_of hb r3 (by intro z; cases z)) (ne_of hb r5 (by intro z; cases z)) hb
   refine ⟨_, rfl, _, rfl, A.a, _, A.dx, _, _, rfl, f4 _ _ na1 na2 na3 r1, T.cl_Results, T.na_Results_holders, rfl, _, rfl, A.o4, _, rfl, DPut.t (k := nm.map Sum.inr) (f4 _ _ d14.symm d24.symm d34.symm r7) (by rw [key_strs]; exact nt _ _ ht) (by omega), ?_⟩
   rw [putK_new nh]
   have f5 : ∀ b u, b ≠ A.o1 → b ≠ A.o2 → b ≠ A.o3 → b ≠ A.o4 → G1 b = some u → upd G4 A.o4 (.dT (kh ++ [(nm.map Sum.inr, .ref a)])) b = some u := fun b u n1 n2 n3 n4 hb => by rw [upd_ne n4]; exact f4 b u n1 n2 n3 hb
   refine ⟨_, rfl, k _ (fr1.trans f5) ⟨f5 _ _ na1 na2 na3 na4 r1, by rw [upd_ne d14]; exact g4', ⟨_, by rw [upd_ne d24]; exact g4'', names' _ f5⟩, ⟨_, by rw [upd_ne d34]; exact g4, ?_⟩, ⟨_, upd_same, ?_⟩, d12, d13, d23⟩⟩
   ·rw [er]
    exact Paired.snoc (Paired.mapP r6 fun x q z => ⟨z.1, z.2.keep fun t dx fs h => inss _ f5 t _ dx fs h⟩) ⟨rfl, a, dx, rfl, inss _ f5 _ _ _ _ ha1⟩
   ·rw [er]
    exact Paired.snoc (Paired.mapP r8 fun x q z => ⟨z.1, z.2.keep fun t dx fs h => inss _ f5 t _ dx fs h⟩) ⟨rfl, a, dx, rfl, inss _ f5 _ _ _ _ ha1⟩
  ·have z : ¬ outS s e = Str.ofString "right" := fun q => z (decide_eq_true (congrArg V.str q))
   have er : (stepE s e).r = s.r := by
    show (if outS s e = Str.ofString "right" then s.r ++ [⟨e, (nameE s.r e).getD []⟩] else s.r) = _
    rw [if_neg z]
   have f5 : ∀ b u, b ≠ A.o1 → b ≠ A.o2 → b ≠ A.o3 → b ≠ A.o4 → G1 b = some u → G3 b = some u := fun b u n1 n2 n3 n4 hb => f3 b u n1 n2 hb
   refine ⟨_, rfl, k _ (fr1.trans f5) ⟨f3 _ _ na1 na2 r1, g3', ⟨_, g3, names' _ f5⟩, ⟨kr, f3 _ _ d13.symm d23.symm r5, ?_⟩, ⟨kh, f3 _ _ d14.symm d24.symm r7, ?_⟩, d12, d13, d23⟩⟩
   ·rw [er]
    exact Paired.mapP r6 fun x q z => ⟨z.1, z.2.keep fun t dx fs h => inss _ f5 t _ dx fs h⟩
   ·rw [er]
    exact Paired.mapP r8 fun x q z => ⟨z.1, z.2.keep fun t dx fs h => inss _ f5 t _ dx fs h⟩
set_option maxHeartbeats 4000000 in
theorem ok_Results_root_of (T : Txt w K mg c) : FnOk P w K mg base CX0 1 c.a_Results_root_of c.d_Results_root_of ["self", "entry"] (spRootOf c.c_Results c.c_Entry) := by
 refine T.Results_root_of.ok sc_Results_root_of (fun vs H Q E h => ?_) (fun cdv A outer s H vs Q E hr h => ?_)
 ·obtain ⟨A, R, kr, v, x, rfl, _⟩ := h
  rfl
 ·obtain ⟨A, R, kr, v, x, rfl, hA, hR, pR, hv, hbs, k⟩ := h
  refine ⟨_, (pss_one (ps_ret (pe_ifExp (pt_cmp (pc_isN (pe_fld (pv 1) rfl))) (pv 1) (pe_dget (hu_of hr) (pe_fld (pv 0) rfl) (pe_fld (pv 1) rfl) (fun _ _ => rfl))))), ?_⟩
  have hv0 := hv
  obtain ⟨a, dx, rfl, ha⟩ := hv
  cases hb : x.e.b with
  | none =>
   have lx : (fieldsE x.e).lookup (Str.ofString "base") = some V.non := by show some (optV x.e.b) = _; rw [hb]; rfl
   have er : rootN R x = x.e := by unfold rootN; rw [hb]
   rw [er] at k
   exact ⟨_, rfl, a, _, dx, _, _, rfl, ha, T.cl_Entry, T.na_Entry_base, lx, _, rfl, iteT ⟨_, rfl, k _ hv0⟩⟩
  | some b =>
   have lx : (fieldsE x.e).lookup (Str.ofString "base") = some (V.int b) := by show some (optV x.e.b) = _; rw [hb]; rfl
   obtain ⟨y, hy⟩ := hbs b hb
   have er : rootN R x = y.e := by unfold rootN; rw [hb]; show ((findN R b).map (·.e)).getD x.e = _; rw [hy]; rfl
   rw [er] at k
   rcases rights_at pR b with ⟨f1, _⟩ | ⟨y', w, f1, f2, hw⟩
   ·rw [hy] at f1; cases f1
   rw [hy] at f1
   cases f1
   refine ⟨_, rfl, a, _, dx, _, _, rfl, ha, T.cl_Entry, T.na_Entry_base, lx, _, rfl, iteF ?_⟩
   refine ⟨_, rfl, A.a, _, A.dx, _, _, rfl, hA, T.cl_Results, T.na_Results_rights, rfl, _, rfl, a, _, dx, _, _, rfl, ha, T.cl_Entry, T.na_Entry_base, lx, A.o3, w, rfl, ?_, k w hw⟩
   exact .inl ⟨kr, Sum.inl b, hR, rfl, f2.symm⟩
set_option maxHeartbeats 4000000 in
theorem ok_results_of (T : Txt w K mg c) : FnOk P w K mg base CX0 5 c.a_results_of c.d_results_of ["book"] (spResultsOf c.c_Results c.c_Entry) := by
 refine T.results_of.fn.ok sc_results_of (fun vs H Q E h => ?_) (fun cdv A outer s H vs Q E hr h => ?_)
 ·obtain ⟨l, ws, es, rfl, _⟩ := h
  rfl
 ·obtain ⟨l, ws, es, rfl, hL, hE, okk, nd, hz, k⟩ := h
  refine ⟨_, (pss_cons (ps_set (i := 1) sc_results_of.nd rfl (Or.inl rfl) (pe_make0 T.mk_Results (ok_Results_init T) (hr.mono (by decide)) rfl T.mg_Results T.bi_Results_init .nil pass0))
   (pss_cons (ps_for PassesOwn.never rfl (pi_list (pv 0)) (pg_name (i := 2) sc_results_of.nd rfl (Or.inl rfl))
    (pss_one (ps_expr (pe_meth (pv 1) T.cl_Results T.m_Results_put (ok_Results_put T) (hr.mono (by decide)) T.bi_Results_put .nil pass0 (pa_cons (pv 2) pa_nil)))))
   (pss_one (ps_ret (pv 1))))), ?_⟩
  have sz : 2000 < sizeLine := le_ble rfl
  refine fun x dx hx hdx ndx => ⟨x, dx, rfl, upd_same, fun A G1 ea ed f1 rs h1 h2 h3 h4 => ⟨rfl, ?_⟩⟩
  subst ea ed
  have up : ∀ {b : Addr}, upd (upd H A.dx (.own A.a)) A.a (.ins c.c_Results A.dx []) b = none → H b = none := fun {b} hb => by
   have nb : b ≠ A.a := fun z => by rw [z, upd_same] at hb; cases hb
   rw [upd_ne nb] at hb
   have nd : b ≠ A.dx := fun z => by rw [z, upd_same] at hb; cases hb
   rw [upd_ne nd] at hb
   exact hb
  have s1 : Same H G1 := fun b u hb => f1 b u (ne_of_none hb hx) (by rw [upd_ne (ne_of_none hb hx), upd_ne (ne_of_none hb hdx)]; exact hb)
  have frs : ∀ {G G' : Hp}, Same H G → FrR A G G' → Same H G' := fun {G G'} s f b u hb => f b u (ne_of_none hb (up h1)) (ne_of_none hb (up h2)) (ne_of_none hb (up h3)) (ne_of_none hb (up h4)) (s b u hb)
  refine ⟨_, rfl, l, rfl, ⟨_, SqL.of (s1 _ _ hL)⟩, ?_⟩
  refine for_list (xs := ws) (fun i σ G => Same H G ∧ (∃ z, σ = [some (.ref l), some (.ref A.a), z]) ∧ ResAt G c.c_Results c.c_Entry A (resE (es.take i))) ⟨s1, ⟨_, rfl⟩, rs⟩ ?_ ?_ ?_
  ·rintro i σ G _ ⟨sG, _⟩
   exact SqL.of (sG _ _ hL)
  ·rintro i v σ G hv ⟨sG, ⟨z, rfl⟩, rs⟩
   have hi : i < ws.length := (List.getElem?_eq_some_iff.mp hv).1
   have hie : i < es.length := by rw [← hE.1]; exact hi
   have ee : es[i]? = some es[i] := List.getElem?_eq_getElem hie
   have rok := resE_ok okk nd i (by omega)
   refine ⟨_, rfl, A.a, A.dx, _, rfl, rs.at_, rfl, _, rfl, A, _, v, es[i], rfl, rs, rok, (hE.2 i v _ hv ee).same sG, okk _ (List.getElem_mem hie), ?_, ?_, fun G' fr rs' => ?_⟩
   ·rw [resE_keys]
    intro z
    have := nd
    have e2 : es.map (·.n) = (es.take i).map (·.n) ++ es[i].n :: (es.drop (i + 1)).map (·.n) := by
     rw [← List.map_cons, List.getElem_cons_drop, ← List.map_append, List.take_append_drop]
    rw [e2, List.nodup_append] at this
    exact this.2.2 _ z _ (List.mem_cons_self ..) rfl
   ·rw [← List.length_map (f := fun p : Int × Str => p.1), resE_keys, List.length_map, List.length_take]
    omega
   ·refine ⟨frs sG fr, ⟨_, rfl⟩, ?_⟩
    rw [take_one ee, resE_snoc]
    exact rs'
  ·rintro σ G ⟨sG, ⟨z, rfl⟩, rs⟩
   rw [hE.1, List.take_of_length_le (Nat.le_refl _)] at rs
   exact ⟨_, rfl, k A G sG rs hx (up h1) (up h2) (up h3) (up h4)⟩
set_option maxHeartbeats 4000000 in
theorem ok_outcomes (T : Txt w K mg c) : FnOk P w K mg base (CXx P w) 6 c.a_outcomes c.d_outcomes ["entries"] (spOuts K c.c_Entry c.c_NoBook) := by
 refine T.outcomes.fn.okx sc_outcomes (fun vs H Q E h => ?_) (fun cdv A outer s H vs Q E hr h => ?_)
 ·obtain ⟨x, rfl, _⟩ := h
  rfl
 ·obtain ⟨x, rfl, h0⟩ := h
  refine ⟨_, (pss_one (ps_ret (pe_fld (pe_call (ok_results_of T) (hr.mono (by decide)) rfl T.results_of.mgf T.results_of.kp T.results_of.bi .nil pass0 (pa_cons (pe_callS (ok_book_list T) (hr.mono (by decide)) rfl T.book_list.mgf T.book_list.kp T.book_list.bi .nil pass_def (pa_cons (pv 0) pa_nil)) pa_nil)) rfl))), ?_⟩
  rcases h0 with ⟨es, gb, k⟩ | ⟨bad, k⟩
  rotate_left
  ·refine ⟨_, rfl, x, rfl, ?_⟩
   rcases bad with ⟨l, ws, is, rfl, hL, hI, hz, hb⟩ | ⟨n, ty, hn⟩
   ·exact .inl ⟨l, ws, is, rfl, hL, hI, hz, fun h => absurd (hb.symm.trans h) (by decide), fun _ G sG => k G sG⟩
   ·exact .inr ⟨n, ty, hn, fun G sG => k G sG⟩
  obtain ⟨l, ws, rfl, hL, hE, ok, hz, hb⟩ := gb
  obtain ⟨nd, _⟩ := book_nd hb
  refine ⟨_, rfl, _, rfl, .inl ⟨l, ws, es.map some, rfl, hL, hE.its, hz, fun _ q G sG hq hq2 => ?_, fun h => absurd (hb.symm.trans h) (by decide)⟩⟩
  refine ⟨q, ws, es, rfl, hq2, hE.same sG, ok, nd, hz, fun A G' sG' rs fa f1 f2 f3 f4 => ?_⟩
  exact ⟨A.a, _, A.dx, _, _, rfl, rs.at_, T.cl_Results, T.na_Results_outs, rfl, k A.o1 G' (sG.trans sG') (sG.free f1) rs.outs⟩
set_option maxHeartbeats 4000000 in
theorem ok_full_names (T : Txt w K mg c) : FnOk P w K mg base (CXx P w) 6 c.a_full_names c.d_full_names ["entries"] (spNames K c.c_Entry c.c_NoBook) := by
 refine T.full_names.fn.okx sc_full_names (fun vs H Q E h => ?_) (fun cdv A outer s H vs Q E hr h => ?_)
 ·obtain ⟨x, rfl, _⟩ := h
  rfl
 ·obtain ⟨x, rfl, h0⟩ := h
  refine ⟨_, (pss_one (ps_ret (pe_fld (pe_call (ok_results_of T) (hr.mono (by decide)) rfl T.results_of.mgf T.results_of.kp T.results_of.bi .nil pass0 (pa_cons (pe_callS (ok_book_list T) (hr.mono (by decide)) rfl T.book_list.mgf T.book_list.kp T.book_list.bi .nil pass_def (pa_cons (pv 0) pa_nil)) pa_nil)) rfl))), ?_⟩
  rcases h0 with ⟨es, gb, k⟩ | ⟨bad, k⟩
  rotate_left
  ·refine ⟨_, rfl, x, rfl, ?_⟩
   rcases bad with ⟨l, ws, is, rfl, hL, hI, hz, hb⟩ | ⟨n, ty, hn⟩
   ·exact .inl ⟨l, ws, is, rfl, hL, hI, hz, fun h => absurd (hb.symm.trans h) (by decide), fun _ G sG => k G sG⟩
   ·exact .inr ⟨n, ty, hn, fun G sG => k G sG⟩
  obtain ⟨l, ws, rfl, hL, hE, ok, hz, hb⟩ := gb
  obtain ⟨nd, _⟩ := book_nd hb
  refine ⟨_, rfl, _, rfl, .inl ⟨l, ws, es.map some, rfl, hL, hE.its, hz, fun _ q G sG hq hq2 => ?_, fun h => absurd (hb.symm.trans h) (by decide)⟩⟩
  refine ⟨q, ws, es, rfl, hq2, hE.same sG, ok, nd, hz, fun A G' sG' rs fa f1 f2 f3 f4 => ?_⟩
  obtain ⟨kn, r3, r4⟩ := rs.names
  exact ⟨A.a, _, A.dx, _, _, rfl, rs.at_, T.cl_Results, T.na_Results_names, rfl, k A.o2 kn G' (sG.trans sG') (sG.free f2) r3 r4⟩
set_option maxHeartbeats 4000000 in
theorem ok_roots (T : Txt w K mg c) : FnOk P w K mg base (CXx P w) 6 c.a_roots c.d_roots ["entries"] (spRoots K c.c_Entry c.c_NoBook rootsD) := by
 refine T.roots.fn.okx sc_roots (fun vs H Q E h => ?_) (fun cdv A outer s H vs Q E hr h => ?_)
 ·obtain ⟨x, rfl, _⟩ := h
  rfl
 ·obtain ⟨x, rfl, h0⟩ := h
  refine ⟨_, (pss_cons (ps_set (i := 1) sc_roots.nd rfl (Or.inl rfl) (pe_call (ok_results_of T) (hr.mono (by decide)) rfl T.results_of.mgf T.results_of.kp T.results_of.bi .nil pass0 (pa_cons (pe_callS (ok_book_list T) (hr.mono (by decide)) rfl T.book_list.mgf T.book_list.kp T.book_list.bi .nil pass_def (pa_cons (pv 0) pa_nil)) pa_nil)))
   (pss_cons (ps_set (i := 2) sc_roots.nd rfl (Or.inl rfl) pe_dnewK)
   (pss_cons (ps_thaw (ps_for own_def rfl (pi_vals (pe_fld (pv 1) rfl)) (pg_name (i := 3) sc_roots.nd rfl (Or.inl rfl))
    (pss_one (ps_dput (hu_of hr) (pv 2) (pe_fld (pv 3) rfl) (pe_fld (pe_meth (pv 1) T.cl_Results T.m_Results_root_of (ok_Results_root_of T) (hr.mono (by decide)) T.bi_Results_root_of .nil pass0 (pa_cons (pv 3) pa_nil)) rfl) rfl))))
   (pss_one (ps_ret (pv 2)))))), ?_⟩
  rcases h0 with ⟨es, gb, k⟩ | ⟨bad, k⟩
  rotate_left
  ·refine ⟨_, rfl, x, rfl, ?_⟩
   rcases bad with ⟨l, ws, is, rfl, hL, hI, hz, hb⟩ | ⟨n, ty, hn⟩
   ·exact .inl ⟨l, ws, is, rfl, hL, hI, hz, fun h => absurd (hb.symm.trans h) (by decide), fun _ G sG => k G sG⟩
   ·exact .inr ⟨n, ty, hn, fun G sG => k G sG⟩
  obtain ⟨l, ws, rfl, hL, hE, ok, hz, hb⟩ := gb
  obtain ⟨nd, _⟩ := book_nd hb
  refine ⟨_, rfl, _, rfl, .inl ⟨l, ws, es.map some, rfl, hL, hE.its, hz, fun _ q G sG hq hq2 => ?_, fun h => absurd (hb.symm.trans h) (by decide)⟩⟩
  refine ⟨q, ws, es, rfl, hq2, hE.same sG, ok, nd, hz, fun A G' sG' rs fa f1 f2 f3 f4 => ?_⟩
  have s2 := sG.trans sG'
  have rok : RsOk (resE es) := by
   have := resE_ok ok nd es.length (Nat.le_refl _)
   rw [List.take_of_length_le (Nat.le_refl _)] at this
   exact this
  obtain ⟨kr, r5, r6⟩ := rs.rights
  have lr : kr.length = (resE es).r.length := (Paired.length r6).symm
  have lr2 : (resE es).r.length ≤ es.length := by
   have h1 : ((resE es).r.map (·.e.n)).length ≤ ((resE es).o.map (·.1)).length := nd_len rok.rn fun x hx => by
    obtain ⟨y, hy, rfl⟩ := List.mem_map.mp hx
    exact rok.sub y hy
   rw [resE_keys, List.length_map, List.length_map] at h1
   exact h1
  have le : es.length ≤ 1000 := by rw [← hE.1]; exact hz
  have sz : 2000 < sizeLine := le_ble rfl
  refine fun d hd => ?_
  have hD : upd G' d (.dK []) d = some (.dK []) := upd_same
  have nd3 : A.o3 ≠ d := ne_of_none r5 hd
  have s3 := Same.new (o := HO.dK []) hd
  generalize upd G' d (.dK []) = G1 at hD s3 ⊢
  have rs1 := rs.same s3
  refine ⟨_, rfl, A.a, _, A.dx, _, _, rfl, rs1.at_, T.cl_Results, T.na_Results_rights, rfl, A.o3, kr, rfl, s3 _ _ r5, fun o nf => ?_⟩
  have na3 : A.a ≠ A.o3 := ne_of rs1.at_ (s3 _ _ r5) (by intro z; cases z)
  have g2 : upd G1 A.o3 (.frz o (.dK kr)) A.o3 = some (.frz o (.dK kr)) := upd_same
  have f2 : ∀ b u, b ≠ A.o3 → G1 b = some u → upd G1 A.o3 (.frz o (.dK kr)) b = some u := fun b u nb hb => by rw [upd_ne nb]; exact hb
  generalize hG2 : upd G1 A.o3 (.frz o (.dK kr)) = G2 at g2 f2 ⊢
  have inss : ∀ G : Hp, (∀ b u, b ≠ d → G2 b = some u → G b = some u) → ∀ t C dx fs, G1 t = some (.ins C dx fs) → G t = some (.ins C dx fs) := fun G h t C dx fs ht => h t _ (ne_of ht hD (by intro z; cases z)) (f2 t _ (ne_of ht (s3 _ _ r5) (by intro z; cases z)) ht)
  have r6' : ∀ G : Hp, (∀ b u, b ≠ d → G2 b = some u → G b = some u) → Paired (RightP G c.c_Entry) (resE es).r kr := fun G h => Paired.mapP r6 fun x q z => ⟨z.1, (z.2.same s3).keep fun t dx fs ht => inss G h t _ dx fs ht⟩
  refine for_dict (kvs := kr) (f := fun p => p.2) rfl (fun i σ G => (∃ z, σ = [some (.ref l), some (.ref A.a), some (.ref d), z]) ∧ (∀ b u, b ≠ d → G2 b = some u → G b = some u) ∧ G d = some (.dK (((resE es).r.take i).map fun x => (Sum.inl x.e.n, .int (rootN (resE es).r x).n)))) ?_ ?_ ?_ ?_
  ·exact ⟨⟨_, rfl⟩, fun b u _ h => h, f2 _ _ nd3.symm hD⟩
  ·rintro i σ G _ ⟨_, h, _⟩
   exact h _ _ nd3 g2
  ·rintro i p σ G hp ⟨⟨z, rfl⟩, h, hG⟩
   have hi : i < kr.length := (List.getElem?_eq_some_iff.mp hp).1
   have hie : i < (resE es).r.length := by omega
   obtain ⟨x, ex⟩ : ∃ x, (resE es).r[i]? = some x := ⟨_, List.getElem?_eq_getElem hie⟩
   obtain ⟨p', ep, hx⟩ := paired_get (r6' G h) ex
   rw [hp] at ep
   cases ep
   have hm := List.mem_of_getElem? ex
   obtain ⟨h1, h2⟩ := hx
   have h20 := h2
   obtain ⟨a, dx, e2, ha⟩ := h2
   rw [e2]
   rw [e2] at h20
   refine ⟨_, rfl, A.a, A.dx, _, rfl, inss G h _ _ _ _ rs1.at_, rfl, _, rfl, A, (resE es).r, kr, .ref a, x, rfl, inss G h _ _ _ _ rs1.at_, .inr ⟨o, h _ _ nd3 g2⟩, r6' G h, h20, fun b hb => ?_, fun w hw => ?_⟩
   ·obtain ⟨y, hy, _⟩ := rok.bs x hm b hb
    exact ⟨y, hy⟩
   obtain ⟨wa, wdx, rfl, hwa⟩ := hw
   refine ⟨wa, _, wdx, _, _, rfl, hwa, T.cl_Entry, T.na_Entry_number, rfl, _, rfl, _, rfl, a, _, dx, _, _, rfl, ha, T.cl_Entry, T.na_Entry_number, rfl, d, _, rfl, DPut.k (k := Sum.inl x.e.n) hG (by rw [List.length_map, List.length_take]; omega), ?_⟩
   refine ⟨⟨_, rfl⟩, fun b u nb hb => by rw [upd_ne nb]; exact h b u nb hb, ?_⟩
   rw [upd_same, take_one ex, List.map_append]
   refine congrArg (fun z => some (HO.dK z)) (putK_new ?_)
   have nin : x.e.n ∉ ((resE es).r.take i).map (·.e.n) := fun z => by
    have q := rok.rn
    have e3 : (resE es).r.map (·.e.n) = ((resE es).r.take i).map (·.e.n) ++ x.e.n :: ((resE es).r.drop (i + 1)).map (·.e.n) := by
     have e4 : (resE es).r[i] = x := (List.getElem?_eq_some_iff.mp ex).2
     rw [← List.map_cons (f := fun y : Rt => y.e.n), ← e4, List.getElem_cons_drop, ← List.map_append, List.take_append_drop]
    rw [e3, List.nodup_append] at q
    exact q.2.2 _ z _ (List.mem_cons_self ..) rfl
   generalize (resE es).r.take i = l' at nin
   induction l' with
   | nil => rfl
   | cons y r ih =>
    rw [List.map_cons] at nin ⊢
    rw [valV_neg (fun z => nin (by rw [← Sum.inl.inj z]; exact List.mem_cons_self ..))]
    exact ih fun z => nin (List.mem_cons_of_mem _ z)
  ·rintro σ G ⟨⟨z, rfl⟩, h, hG⟩
   rw [lr, List.take_of_length_le (Nat.le_refl _)] at hG
   refine ⟨_, ⟨A.o3, o, kr, h _ _ nd3 g2, nf, rfl⟩, ?_⟩
   refine ⟨_, rfl, k d _ (fun b u hb => ?_) (s2.free hd) (by rw [upd_ne nd3.symm]; exact hG)⟩
   have nb3 : b ≠ A.o3 := ne_of_none hb (sG.free f3)
   rw [upd_ne nb3]
   exact h b u (ne_of_none (s2 _ _ hb) hd) (f2 b u nb3 (s3 _ _ (s2 _ _ hb)))
set_option maxHeartbeats 4000000 in
theorem ok_tied (T : Txt w K mg c) : FnOk P w K mg base (CXx P w) 6 c.a_tied c.d_tied ["entries"] (spRoots K c.c_Entry c.c_NoBook tiedD) := by
 refine T.tied.fn.okx sc_tied (fun vs H Q E h => ?_) (fun cdv A outer s H vs Q E hr h => ?_)
 ·obtain ⟨x, rfl, _⟩ := h
  rfl
 ·obtain ⟨x, rfl, h0⟩ := h
  refine ⟨_, (pss_cons (ps_set (i := 1) sc_tied.nd rfl (Or.inl rfl) (pe_call (ok_results_of T) (hr.mono (by decide)) rfl T.results_of.mgf T.results_of.kp T.results_of.bi .nil pass0 (pa_cons (pe_callS (ok_book_list T) (hr.mono (by decide)) rfl T.book_list.mgf T.book_list.kp T.book_list.bi .nil pass_def (pa_cons (pv 0) pa_nil)) pa_nil)))
   (pss_cons (ps_set (i := 2) sc_tied.nd rfl (Or.inl rfl) pe_dnewK)
   (pss_cons (ps_thaw (ps_for own_def rfl (pi_vals (pe_fld (pv 1) rfl)) (pg_name (i := 3) sc_tied.nd rfl (Or.inl rfl))
    (pss_one (ps_dput (hu_of hr) (pv 2) (pe_fld (pv 3) rfl) (pe_fld (pe_meth (pv 1) T.cl_Results T.m_Results_root_of (ok_Results_root_of T) (hr.mono (by decide)) T.bi_Results_root_of .nil pass0 (pa_cons (pv 3) pa_nil)) rfl) rfl))))
   (pss_one (ps_ret (pv 2)))))), ?_⟩
  rcases h0 with ⟨es, gb, k⟩ | ⟨bad, k⟩
  rotate_left
  ·refine ⟨_, rfl, x, rfl, ?_⟩
   rcases bad with ⟨l, ws, is, rfl, hL, hI, hz, hb⟩ | ⟨n, ty, hn⟩
   ·exact .inl ⟨l, ws, is, rfl, hL, hI, hz, fun h => absurd (hb.symm.trans h) (by decide), fun _ G sG => k G sG⟩
   ·exact .inr ⟨n, ty, hn, fun G sG => k G sG⟩
  obtain ⟨l, ws, rfl, hL, hE, ok, hz, hb⟩ := gb
  obtain ⟨nd, _⟩ := book_nd hb
  refine ⟨_, rfl, _, rfl, .inl ⟨l, ws, es.map some, rfl, hL, hE.its, hz, fun _ q G sG hq hq2 => ?_, fun h => absurd (hb.symm.trans h) (by decide)⟩⟩
  refine ⟨q, ws, es, rfl, hq2, hE.same sG, ok, nd, hz, fun A G' sG' rs fa f1 f2 f3 f4 => ?_⟩
  have s2 := sG.trans sG'
  have rok : RsOk (resE es) := by
   have := resE_ok ok nd es.length (Nat.le_refl _)
   rw [List.take_of_length_le (Nat.le_refl _)] at this
   exact this
  obtain ⟨kr, r5, r6⟩ := rs.rights
  have lr : kr.length = (resE es).r.length := (Paired.length r6).symm
  have lr2 : (resE es).r.length ≤ es.length := by
   have h1 : ((resE es).r.map (·.e.n)).length ≤ ((resE es).o.map (·.1)).length := nd_len rok.rn fun x hx => by
    obtain ⟨y, hy, rfl⟩ := List.mem_map.mp hx
    exact rok.sub y hy
   rw [resE_keys, List.length_map, List.length_map] at h1
   exact h1
  have le : es.length ≤ 1000 := by rw [← hE.1]; exact hz
  have sz : 2000 < sizeLine := le_ble rfl
  refine fun d hd => ?_
  have hD : upd G' d (.dK []) d = some (.dK []) := upd_same
  have nd3 : A.o3 ≠ d := ne_of_none r5 hd
  have s3 := Same.new (o := HO.dK []) hd
  generalize upd G' d (.dK []) = G1 at hD s3 ⊢
  have rs1 := rs.same s3
  refine ⟨_, rfl, A.a, _, A.dx, _, _, rfl, rs1.at_, T.cl_Results, T.na_Results_rights, rfl, A.o3, kr, rfl, s3 _ _ r5, fun o nf => ?_⟩
  have na3 : A.a ≠ A.o3 := ne_of rs1.at_ (s3 _ _ r5) (by intro z; cases z)
  have g2 : upd G1 A.o3 (.frz o (.dK kr)) A.o3 = some (.frz o (.dK kr)) := upd_same
  have f2 : ∀ b u, b ≠ A.o3 → G1 b = some u → upd G1 A.o3 (.frz o (.dK kr)) b = some u := fun b u nb hb => by rw [upd_ne nb]; exact hb
  generalize hG2 : upd G1 A.o3 (.frz o (.dK kr)) = G2 at g2 f2 ⊢
  have inss : ∀ G : Hp, (∀ b u, b ≠ d → G2 b = some u → G b = some u) → ∀ t C dx fs, G1 t = some (.ins C dx fs) → G t = some (.ins C dx fs) := fun G h t C dx fs ht => h t _ (ne_of ht hD (by intro z; cases z)) (f2 t _ (ne_of ht (s3 _ _ r5) (by intro z; cases z)) ht)
  have r6' : ∀ G : Hp, (∀ b u, b ≠ d → G2 b = some u → G b = some u) → Paired (RightP G c.c_Entry) (resE es).r kr := fun G h => Paired.mapP r6 fun x q z => ⟨z.1, (z.2.same s3).keep fun t dx fs ht => inss G h t _ dx fs ht⟩
  refine for_dict (kvs := kr) (f := fun p => p.2) rfl (fun i σ G => (∃ z, σ = [some (.ref l), some (.ref A.a), some (.ref d), z]) ∧ (∀ b u, b ≠ d → G2 b = some u → G b = some u) ∧ G d = some (.dK (((resE es).r.take i).map fun x => (Sum.inl x.e.n, optV (rootN (resE es).r x).s)))) ?_ ?_ ?_ ?_
  ·exact ⟨⟨_, rfl⟩, fun b u _ h => h, f2 _ _ nd3.symm hD⟩
  ·rintro i σ G _ ⟨_, h, _⟩
   exact h _ _ nd3 g2
  ·rintro i p σ G hp ⟨⟨z, rfl⟩, h, hG⟩
   have hi : i < kr.length := (List.getElem?_eq_some_iff.mp hp).1
   have hie : i < (resE es).r.length := by omega
   obtain ⟨x, ex⟩ : ∃ x, (resE es).r[i]? = some x := ⟨_, List.getElem?_eq_getElem hie⟩
   obtain ⟨p', ep, hx⟩ := paired_get (r6' G h) ex
   rw [hp] at ep
   cases ep
   have hm := List.mem_of_getElem? ex
   obtain ⟨h1, h2⟩ := hx
   have h20 := h2
   obtain ⟨a, dx, e2, ha⟩ := h2
   rw [e2]
   rw [e2] at h20
   refine ⟨_, rfl, A.a, A.dx, _, rfl, inss G h _ _ _ _ rs1.at_, rfl, _, rfl, A, (resE es).r, kr, .ref a, x, rfl, inss G h _ _ _ _ rs1.at_, .inr ⟨o, h _ _ nd3 g2⟩, r6' G h, h20, fun b hb => ?_, fun w hw => ?_⟩
   ·obtain ⟨y, hy, _⟩ := rok.bs x hm b hb
    exact ⟨y, hy⟩
   obtain ⟨wa, wdx, rfl, hwa⟩ := hw
   refine ⟨wa, _, wdx, _, _, rfl, hwa, T.cl_Entry, T.na_Entry_sheet, rfl, _, rfl, _, rfl, a, _, dx, _, _, rfl, ha, T.cl_Entry, T.na_Entry_number, rfl, d, _, rfl, DPut.k (k := Sum.inl x.e.n) hG (by rw [List.length_map, List.length_take]; omega), ?_⟩
   refine ⟨⟨_, rfl⟩, fun b u nb hb => by rw [upd_ne nb]; exact h b u nb hb, ?_⟩
   rw [upd_same, take_one ex, List.map_append]
   refine congrArg (fun z => some (HO.dK z)) (putK_new ?_)
   have nin : x.e.n ∉ ((resE es).r.take i).map (·.e.n) := fun z => by
    have q := rok.rn
    have e3 : (resE es).r.map (·.e.n) = ((resE es).r.take i).map (·.e.n) ++ x.e.n :: ((resE es).r.drop (i + 1)).map (·.e.n) := by
     have e4 : (resE es).r[i] = x := (List.getElem?_eq_some_iff.mp ex).2
     rw [← List.map_cons (f := fun y : Rt => y.e.n), ← e4, List.getElem_cons_drop, ← List.map_append, List.take_append_drop]
    rw [e3, List.nodup_append] at q
    exact q.2.2 _ z _ (List.mem_cons_self ..) rfl
   generalize (resE es).r.take i = l' at nin
   induction l' with
   | nil => rfl
   | cons y r ih =>
    rw [List.map_cons] at nin ⊢
    rw [valV_neg (fun z => nin (by rw [← Sum.inl.inj z]; exact List.mem_cons_self ..))]
    exact ih fun z => nin (List.mem_cons_of_mem _ z)
  ·rintro σ G ⟨⟨z, rfl⟩, h, hG⟩
   rw [lr, List.take_of_length_le (Nat.le_refl _)] at hG
   refine ⟨_, ⟨A.o3, o, kr, h _ _ nd3 g2, nf, rfl⟩, ?_⟩
   refine ⟨_, rfl, k d _ (fun b u hb => ?_) (s2.free hd) (by rw [upd_ne nd3.symm]; exact hG)⟩
   have nb3 : b ≠ A.o3 := ne_of_none hb (sG.free f3)
   rw [upd_ne nb3]
   exact h b u (ne_of_none (s2 _ _ hb) hd) (f2 b u nb3 (s3 _ _ (s2 _ _ hb)))
set_option maxHeartbeats 4000000 in
theorem ok_Lmixed (T : Txt w K mg c) : FnOk P w K mg base CX0 1 c.a_Lmixed c.d_Lmixed ["_law_cell", "_law_k"] (spMixC) := by
 refine T.Lmixed.fn.ok sc_Lmixed (fun vs H Q E h => ?_) (fun cdv A outer s H vs Q E hr h => ?_)
 ·obtain ⟨n, i, rfl, _⟩ := h
  rfl
 ·obtain ⟨n, i, rfl, h0, h1, k⟩ := h
  refine ⟨_, (pss_one (ps_ret (pe_op op_mod (pe_op op_mul (pe_op op_add (pe_op op_mod (pe_op op_fdiv (pv 0) pe_int) (pe_op op_pow pe_int pe_int)) pe_int) (pe_op op_add pe_int (pe_op op_mul (pe_op op_mul pe_int (pv 1)) (pv 1)))) pe_int))), ?_⟩
  have sq : i * i ≤ 100 * 100 := Int.mul_le_mul (by omega) (by omega) (by omega) (by omega)
  have sq0 : 0 ≤ i * i := Int.mul_nonneg h0 h0
  have e3 : 7919 * i * i = 7919 * (i * i) := Int.mul_assoc _ _ _
  walk_at "rd"
  refine ⟨.inl ⟨by omega, by omega⟩, ?_⟩
  walk_at "rd"
  refine ⟨.inr ⟨by rw [e3]; omega, by rw [e3]; omega⟩, ?_⟩
  walk_at "rd"
  exact k _ (Int.emod_nonneg _ (by decide)) (Int.emod_lt_of_pos _ (by decide))
set_option maxHeartbeats 4000000 in
theorem ok_Ldraws (T : Txt w K mg c) : FnOk P w K mg base CX0 2 c.a_Ldraws c.d_Ldraws ["_law_cell", "_law_k", "_law_free"] (spDraws) := by
 refine T.Ldraws.fn.ok sc_Ldraws (fun vs H Q E h => ?_) (fun cdv A outer s H vs Q E hr h => ?_)
 ·obtain ⟨n, i0, fr, rfl, _⟩ := h
  rfl
 ·obtain ⟨n, i0, fr, rfl, h0, h1, k⟩ := h
  refine ⟨_, (pss_cons (ps_set (i := 3) sc_Ldraws.nd rfl (Or.inl rfl) (pe_lst pa_nil))
   (pss_cons (ps_set (i := 4) sc_Ldraws.nd rfl (Or.inl rfl) (pe_op op_fdiv (pv 0) pe_int))
   (pss_cons (ps_set (i := 5) sc_Ldraws.nd rfl (Or.inl rfl) (pe_call (ok_Lmixed T) (hr.mono (by decide)) rfl T.Lmixed.mgf T.Lmixed.kp T.Lmixed.bi .nil pass0 (pa_cons (pv 0) (pa_cons (pv 1) pa_nil))))
   (pss_cons (ps_for PassesOwn.never rfl (pi_range1 rfl T.no_range (pa_cons pe_int pa_nil)) (pg_name (i := 6) sc_Ldraws.nd rfl (Or.inl rfl))
    (pss_one (ps_if (PW.pt (pw_and (pt_val (pv 2)) (pw_and1 (pt_cmpR op_ge (pv 4) (pe_op op_pow pe_int pe_int) (nomark _)))))
    (pss_cons (ps_expr (pe_bm PySem.F.plainAttrs_list PySem.F.slot_list_append PySem.F.type_list_append (MtM.r mt_append) (pv 3) (pa_cons (pe_op op_mod (pv 4) (pe_op op_pow pe_int pe_int)) pa_nil)))
   (pss_one (ps_set (i := 4) sc_Ldraws.nd rfl (Or.inl rfl) (pe_op op_fdivB (pv 4) (pe_op op_pow pe_int pe_int)))))
    (pss_cut (ps_set (i := 5) sc_Ldraws.nd rfl (Or.inl rfl) (pe_op op_mod (pe_op op_mul (pe_op op_add (pe_op op_add (pv 5) (pe_op op_mul (pv 6) (pv 6))) pe_int) pe_int) pe_int))
   (pss_one (ps_expr (pe_bm PySem.F.plainAttrs_list PySem.F.slot_list_append PySem.F.type_list_append (MtM.r mt_append) (pv 3) (pa_cons (pe_op op_mod (pe_op op_mul (pv 5) pe_int) pe_int) pa_nil))))))))
   (pss_one (ps_ret (pv 3))))))), ?_⟩
  have sz : 2000 < sizeLine := le_ble rfl
  refine ⟨le_ble rfl, fun l hl => ?_⟩
  have s0 := Same.new (o := HO.lst []) hl
  have k0 := upd_same (H := H) (a := l) (o := .lst [])
  generalize upd H l (.lst []) = G0 at s0 k0 ⊢
  walk_at "rd"
  refine ⟨h0, h1, fun r r0 r1 => ?_⟩
  walk_at "rd"
  refine ⟨by decide, by decide, ?_⟩
  refine for_range (n := 10) (lo := 0) (fun i σ G => ∃ (ds : List Int) (lf mx : Int) (z6 : Option V), σ = [some (.int n), some (.int i0), some (.bl fr), some (.ref l), some (.int lf), some (.int mx), z6] ∧ 0 ≤ mx ∧ mx < 2147483648 ∧ ds.length = i ∧ (∀ d ∈ ds, Drawn d) ∧ Same H G ∧ G l = some (.lst (ds.map V.int))) ?_ ?_ ?_
  ·exact ⟨[], _, _, _, rfl, by omega, by omega, rfl, fun _ h => (nomatch h), s0, k0⟩
  ·rintro i σ G hi ⟨ds, lf, mx, z6, rfl, x0, x1, hl', hw, sG, hG⟩
   have sq : (0 + (i : Int)) * (0 + (i : Int)) ≤ 10 * 10 := Int.mul_le_mul (by omega) (by omega) (by omega) (by omega)
   have sq0 : 0 ≤ (0 + (i : Int)) * (0 + (i : Int)) := Int.mul_nonneg (by omega) (by omega)
   walk_at "rd"
   cases fr with
   | true =>
    refine iteT ?_
    walk_at "rd"
    refine ite2 (fun hb => ?_) (fun _ => ?_)
    ·walk_at "rd"
     refine ⟨.inl ⟨rfl, _, SqL.of hG⟩, ?_⟩
     walk_at "rd"
     refine ⟨l, _, _, rfl, rfl, hG, by rw [List.length_map]; omega, ?_⟩
     walk_at "rd"
     refine ⟨ds ++ [lf % 10000000000], _, _, _, rfl, x0, x1, by rw [List.length_append, hl']; rfl, push_drawn hw ⟨Int.emod_nonneg _ (by decide), Int.emod_lt_of_pos _ (by decide)⟩, same_put hl sG, ?_⟩
     rw [upd_same, List.map_append]
     rfl
    ·refine ⟨fun σ' G' => G = G' ∧ ∃ m' : Int, σ' = [some (.int n), some (.int i0), some (.bl true), some (.ref l), some (.int lf), some (.int m'), some (.int (0 + (i : Int)))] ∧ 0 ≤ m' ∧ m' < 2147483648, ?_, ?_⟩
     ·walk_at "rd"
      refine ⟨.inl ⟨by omega, by omega⟩, ?_⟩
      walk_at "rd"
      exact ⟨Int.emod_nonneg _ (by decide), Int.lt_trans (Int.emod_lt_of_pos _ (by decide)) (by decide)⟩
     rintro σ' G' ⟨rfl, m', rfl, y0, y1⟩
     walk_at "rd"
     refine ⟨.inl ⟨rfl, _, SqL.of hG⟩, ?_⟩
     walk_at "rd"
     refine ⟨l, _, _, rfl, rfl, hG, by rw [List.length_map]; omega, ?_⟩
     walk_at "rd"
     refine ⟨ds ++ [m' * 16807 % 2147483629], _, _, _, rfl, y0, y1, by rw [List.length_append, hl']; rfl, push_drawn hw ⟨Int.emod_nonneg _ (by decide), Int.lt_trans (Int.emod_lt_of_pos _ (by decide)) (by decide)⟩, same_put hl sG, ?_⟩
     rw [upd_same, List.map_append]
     rfl
   | false =>
    refine iteF (iteF ?_)
    ·refine ⟨fun σ' G' => G = G' ∧ ∃ m' : Int, σ' = [some (.int n), some (.int i0), some (.bl false), some (.ref l), some (.int lf), some (.int m'), some (.int (0 + (i : Int)))] ∧ 0 ≤ m' ∧ m' < 2147483648, ?_, ?_⟩
     ·walk_at "rd"
      refine ⟨.inl ⟨by omega, by omega⟩, ?_⟩
      walk_at "rd"
      exact ⟨Int.emod_nonneg _ (by decide), Int.lt_trans (Int.emod_lt_of_pos _ (by decide)) (by decide)⟩
     rintro σ' G' ⟨rfl, m', rfl, y0, y1⟩
     walk_at "rd"
     refine ⟨.inl ⟨rfl, _, SqL.of hG⟩, ?_⟩
     walk_at "rd"
     refine ⟨l, _, _, rfl, rfl, hG, by rw [List.length_map]; omega, ?_⟩
     walk_at "rd"
     refine ⟨ds ++ [m' * 16807 % 2147483629], _, _, _, rfl, y0, y1, by rw [List.length_append, hl']; rfl, push_drawn hw ⟨Int.emod_nonneg _ (by decide), Int.lt_trans (Int.emod_lt_of_pos _ (by decide)) (by decide)⟩, same_put hl sG, ?_⟩
     rw [upd_same, List.map_append]
     rfl
  ·rintro σ G ⟨ds, lf, mx, z6, rfl, x0, x1, hl', hw, sG, hG⟩
   exact ⟨_, rfl, k ds l G hl' hw sG hl hG⟩
set_option maxHeartbeats 4000000 in
theorem ok_Lany_word (T : Txt w K mg c) : FnOk P w K mg base CX0 1 c.a_Lany_word c.d_Lany_word ["_law_number"] (spAnyW) := by
 refine T.Lany_word.fn.ok sc_Lany_word (fun vs H Q E h => ?_) (fun cdv A outer s H vs Q E hr h => ?_)
 ·obtain ⟨n, rfl, _⟩ := h
  rfl
 ·obtain ⟨n, rfl, k⟩ := h
  refine ⟨_, (pss_cons (ps_set (i := 1) sc_Lany_word.nd rfl (Or.inl rfl) (pe_op op_add pe_int (pe_op op_mod (pv 0) pe_int)))
   (pss_cons (ps_set (i := 0) sc_Lany_word.nd rfl (Or.inl rfl) (pe_op op_fdiv (pv 0) pe_int))
   (pss_cons (ps_set (i := 2) sc_Lany_word.nd rfl (Or.inl rfl) pe_str)
   (pss_cons (ps_for PassesOwn.never rfl (pi_range1 rfl T.no_range (pa_cons (pv 1) pa_nil)) (pg_name (i := 3) sc_Lany_word.nd rfl (Or.inl rfl))
    (pss_cons (ps_set (i := 2) sc_Lany_word.nd rfl (Or.inl rfl) (pe_op op_add_str (pv 2) (pe_ix ix_str pe_str (pe_op op_mod (pv 0) pe_int) (fun _ _ => rfl))))
   (pss_one (ps_set (i := 0) sc_Lany_word.nd rfl (Or.inl rfl) (pe_op op_fdiv (pv 0) pe_int)))))
   (pss_one (ps_ret (pv 2))))))), ?_⟩
  have sz : 2000 < sizeLine := le_ble rfl
  have abc : (Str.ofString "abcdefghijklmnopqrstuvwxyz").cps.toList.length = 26 := by decide +kernel
  have abl : ∀ c ∈ (Str.ofString "abcdefghijklmnopqrstuvwxyz").cps.toList, letter c = true := by decide +kernel
  have m0 := Int.emod_nonneg n (b := 12) (by decide)
  have m1 := Int.emod_lt_of_pos n (b := 12) (by decide)
  walk_at "rd"
  refine ⟨by omega, by omega, ?_⟩
  refine for_range (n := (1 + n % 12).toNat) (lo := 0) (fun j σ G' => G' = H ∧ ∃ (m : Int) (z : Str) (z3 : Option V), σ = [some (.int m), some (.int (1 + n % 12)), some (.str z), z3] ∧ z.length = j ∧ z.cps.toList.all letter = true) ?_ ?_ ?_
  ·exact ⟨rfl, _, _, _, rfl, rfl, rfl⟩
  ·rintro j σ G' hj ⟨rfl, m, z, z3, rfl, hz, ha⟩
   have hj' : (j : Int) < 12 := by omega
   walk_at "rd"
   obtain ⟨ch, hv, hm⟩ := atI_in (xs := (Str.ofString "abcdefghijklmnopqrstuvwxyz").cps.toList) (i := m % 26) (Int.emod_nonneg _ (by decide)) (by rw [abc]; exact Int.emod_lt_of_pos _ (by decide))
   refine ⟨_, _, ch, rfl, rfl, le_ble rfl, hv, ?_⟩
   refine ⟨_, _, rfl, rfl, ?_, ?_⟩
   ·show z.length + 1 ≤ sizeLine
    omega
   ·walk_at "rd"
    first | refine ⟨rfl, _, _, _, rfl, ?_, ?_⟩ | refine ⟨_, _, _, rfl, ?_, ?_⟩
    ·rw [Str.length_append, hz]
     rfl
    ·rw [all_app, ha]
     show (true && ([ch].all letter)) = true
     rw [List.all_cons, abl ch hm]
     rfl
  ·rintro σ G' ⟨rfl, m, z, z3, rfl, hz, ha⟩
   exact ⟨_, rfl, k _ (isWord_of (by omega) (by omega) ha)⟩
set_option maxHeartbeats 4000000 in
theorem ok_Lwords (T : Txt w K mg c) : FnOk P w K mg base CX0 1 c.a_Lwords c.d_Lwords ["_law_cell", "_law_free"] (spWordsF 4) := by
 refine T.Lwords.fn.ok sc_Lwords (fun vs H Q E h => ?_) (fun cdv A outer s H vs Q E hr h => ?_)
 ·obtain ⟨m, fr, rfl, _⟩ := h
  rfl
 ·obtain ⟨m, fr, rfl, k⟩ := h
  refine ⟨_, (pss_cons (ps_set (i := 2) sc_Lwords.nd rfl (Or.inl rfl) pe_str)
   (pss_cons (ps_set (i := 3) sc_Lwords.nd rfl (Or.inl rfl) (pe_op op_add pe_int (pe_op op_mod (pv 0) pe_int)))
   (pss_cut (ps_set (i := 4) sc_Lwords.nd rfl (Or.inl rfl) (pe_op op_mod (pe_op op_fdiv (pv 0) pe_int) (pv 3)))
   (pss_cons (ps_set (i := 5) sc_Lwords.nd rfl (Or.inl rfl) (pe_op op_fdiv (pv 0) pe_int))
   (pss_cons (ps_set (i := 6) sc_Lwords.nd rfl (Or.inl rfl) (pe_lst pa_nil))
   (pss_cons (ps_for PassesOwn.never rfl (pi_range1 rfl T.no_range (pa_cons (pv 3) pa_nil)) (pg_name (i := 7) sc_Lwords.nd rfl (Or.inl rfl))
    (pss_cut (ps_set (i := 8) sc_Lwords.nd rfl (Or.inl rfl) (pe_op op_fdiv (pe_op op_mul (pe_op op_add (pe_op op_mod (pv 0) pe_int) pe_int) (pe_op op_add pe_int (pe_op op_mul (pe_op op_mul pe_int (pv 7)) (pv 7)))) pe_int))
   (pss_cut (ps_if (PW.pt (pw_and (pt_val (pv 1)) (pw_and1 (pt_cmpR op_ge (pv 5) pe_int (nomark _)))))
    (pss_cons (ps_set (i := 8) sc_Lwords.nd rfl (Or.inl rfl) (pe_op op_mod (pv 5) pe_int))
   (pss_one (ps_set (i := 5) sc_Lwords.nd rfl (Or.inl rfl) (pe_op op_fdiv (pv 5) pe_int))))
    pss_nil)
   (pss_one (ps_expr (pe_bm PySem.F.plainAttrs_list PySem.F.slot_list_append PySem.F.type_list_append (MtM.r mt_append) (pv 6) (pa_cons (pv 8) pa_nil)))))))
   (pss_cons (ps_set (i := 9) sc_Lwords.nd rfl (Or.inl rfl) (pe_lst pa_nil))
   (pss_cons (ps_for PassesOwn.never rfl (pi_range1 rfl T.no_range (pa_cons pe_int pa_nil)) (pg_name (i := 10) sc_Lwords.nd rfl (Or.inl rfl))
    (pss_cons (ps_set (i := 11) sc_Lwords.nd rfl (Or.inl rfl) (pe_lst pa_nil))
   (pss_cons (ps_for PassesOwn.never rfl (pi_range1 rfl T.no_range (pa_cons (pv 3) pa_nil)) (pg_name (i := 7) sc_Lwords.nd rfl (Or.inl rfl))
    (pss_one (ps_expr (pe_bm PySem.F.plainAttrs_list PySem.F.slot_list_append PySem.F.type_list_append (MtM.r mt_append) (pv 11) (pa_cons (pe_ix ix_str (pv 2) (pe_op op_mod (pe_op op_add (pe_ix ix_list (pv 6) (pv 7) (fun _ _ => rfl)) (pe_op op_mul (pe_op op_mul pe_int (pv 10)) (pe_callTy call_int1 rfl T.no_int bt_int (pa_cons (pe_cmpR op_eq (pv 7) (pv 4) (nomark _)) pa_nil)))) pe_int) (fun _ _ => rfl)) pa_nil)))))
   (pss_one (ps_expr (pe_bm PySem.F.plainAttrs_list PySem.F.slot_list_append PySem.F.type_list_append (MtM.r mt_append) (pv 9) (pa_cons (pe_bm PySem.F.plainAttrs_str PySem.F.slot_str_join PySem.F.type_str_join mt_join pe_str (pa_cons (pv 11) pa_nil)) pa_nil)))))))
   (pss_one (ps_ret (pv 9))))))))))), ?_⟩
  have sz : 2000 < sizeLine := le_ble rfl
  have abc : (Str.ofString "abcdefghijklmnopqrstuvwxyz").cps.toList.length = 26 := by decide +kernel
  have abl : ∀ c ∈ (Str.ofString "abcdefghijklmnopqrstuvwxyz").cps.toList, letter c = true := by decide +kernel
  have m0 := Int.emod_nonneg m (b := 12) (by decide)
  have m1 := Int.emod_lt_of_pos m (b := 12) (by decide)
  have c0 := Int.emod_nonneg m (b := 1000003) (by decide)
  have c1 := Int.emod_lt_of_pos m (b := 1000003) (by decide)
  walk_at "rd"
  refine ⟨fun σ' G' => H = G' ∧ ∃ at0 : Int, σ' = [some (.int m), some (.bl fr), some (.str (Str.ofString "abcdefghijklmnopqrstuvwxyz")), some (.int (1 + m % 12)), some (.int at0), none, none, none, none, none, none, none], ?_, ?_⟩
  ·walk_at "rd"
   first | (refine ⟨by omega, ?_⟩; walk_at "rd") | skip
   first | exact ⟨rfl, _, rfl⟩ | exact ⟨_, rfl⟩
  rintro σ' G' ⟨rfl, at0, rfl⟩
  walk_at "rd"
  refine ⟨le_ble rfl, fun p hp => ?_⟩
  have s0 := Same.new (o := HO.lst []) hp
  have k0 := upd_same (H := H) (a := p) (o := .lst [])
  generalize upd H p (.lst []) = G0 at s0 k0 ⊢
  walk_at "rd"
  refine ⟨by omega, by omega, ?_⟩
  refine for_range (n := (1 + m % 12).toNat) (lo := 0) (fun j σ G => ∃ (ns : List Int) (lf : Int) (z7 z8 : Option V), σ = [some (.int m), some (.bl fr), some (.str (Str.ofString "abcdefghijklmnopqrstuvwxyz")), some (.int (1 + m % 12)), some (.int at0), some (.int lf), some (.ref p), z7, z8, none, none, none] ∧ ns.length = j ∧ Same H G ∧ G p = some (.lst (ns.map V.int))) ?_ ?_ ?_
  ·exact ⟨[], _, _, _, rfl, rfl, s0, k0⟩
  ·rintro j σ G hj ⟨ns, lf, z7, z8, rfl, hn, sG, hG⟩
   have hj' : (j : Int) < 12 := by omega
   have sq : (0 + (j : Int)) * (0 + (j : Int)) ≤ 12 * 12 := Int.mul_le_mul (by omega) (by omega) (by omega) (by omega)
   have sq0 : 0 ≤ (0 + (j : Int)) * (0 + (j : Int)) := Int.mul_nonneg (by omega) (by omega)
   have e3 : 7 * (0 + (j : Int)) * (0 + (j : Int)) = 7 * ((0 + (j : Int)) * (0 + (j : Int))) := Int.mul_assoc _ _ _
   refine ⟨fun σ' G' => G = G' ∧ ∃ num : Int, σ' = [some (.int m), some (.bl fr), some (.str (Str.ofString "abcdefghijklmnopqrstuvwxyz")), some (.int (1 + m % 12)), some (.int at0), some (.int lf), some (.ref p), some (.int (0 + (j : Int))), some (.int num), none, none, none], ?_, ?_⟩
   ·walk_at "rd"
    refine ⟨.inl ⟨by omega, by omega⟩, ?_⟩
    walk_at "rd"
    refine ⟨.inl ⟨by omega, by omega⟩, ?_⟩
    walk_at "rd"
    first | exact ⟨rfl, _, rfl⟩ | exact ⟨_, rfl⟩
   rintro σ' G' ⟨rfl, num, rfl⟩
   refine ⟨fun σ' G' => G = G' ∧ ∃ lf num : Int, σ' = [some (.int m), some (.bl fr), some (.str (Str.ofString "abcdefghijklmnopqrstuvwxyz")), some (.int (1 + m % 12)), some (.int at0), some (.int lf), some (.ref p), some (.int (0 + (j : Int))), some (.int num), none, none, none], ?_, ?_⟩
   ·walk_at "rd"
    cases fr with
    | true =>
     refine iteT ?_
     walk_at "rd"
     refine ite2 (fun _ => ?_) (fun _ => ?_)
     ·walk_at "rd"
      first | done | exact ⟨rfl, _, _, rfl⟩ | exact ⟨_, _, rfl⟩ | exact ⟨_, rfl⟩
     ·first | exact ⟨rfl, _, _, rfl⟩
    | false =>
     exact iteF (iteF ⟨rfl, _, _, rfl⟩)
   rintro σ' G' ⟨rfl, lf', num', rfl⟩
   walk_at "rd"
   refine ⟨.inl ⟨rfl, _, SqL.of hG⟩, ?_⟩
   walk_at "rd"
   refine ⟨p, _, _, rfl, rfl, hG, by rw [List.length_map]; omega, ?_⟩
   refine ⟨ns ++ [num'], _, _, _, rfl, by rw [List.length_append, hn]; rfl, same_put hp sG, ?_⟩
   rw [upd_same, List.map_append]
   rfl
  rintro σ G ⟨ns, lf, z7, z8, rfl, hn, sG, hG⟩
  refine ⟨le_ble rfl, fun l hl => ?_⟩
  have hlH := sG.free hl
  have np : p ≠ l := ne_of_none hG hl
  have s1 := sG.trans (Same.new (o := HO.lst []) hl)
  have k1 := upd_same (H := G) (a := l) (o := .lst [])
  have p1 := Same.new (o := HO.lst []) hl _ _ hG
  generalize upd G l (.lst []) = G1 at s1 k1 p1 ⊢
  walk_at "rd"
  refine ⟨by decide, by decide, ?_⟩
  refine for_range (n := 4) (lo := 0) (fun i σ G => ∃ (zs : List Str) (z7 z10 z11 : Option V), σ = [some (.int m), some (.bl fr), some (.str (Str.ofString "abcdefghijklmnopqrstuvwxyz")), some (.int (1 + m % 12)), some (.int at0), some (.int lf), some (.ref p), z7, z8, some (.ref l), z10, z11] ∧ zs.length = i ∧ (∀ z ∈ zs, isWord (.str z) = true) ∧ Same H G ∧ G p = some (.lst (ns.map V.int)) ∧ G l = some (.lst (zs.map V.str))) ?_ ?_ ?_
  ·exact ⟨[], _, _, _, rfl, rfl, fun _ h => (nomatch h), s1, p1, k1⟩
  ·rintro i σ G2 hi ⟨zs, z7', z10, z11, rfl, hz, hw, s2, p2, l2⟩
   walk_at "rd"
   refine ⟨le_ble rfl, fun q hq => ?_⟩
   have nq : p ≠ q := ne_of_none p2 hq
   have nl : l ≠ q := ne_of_none l2 hq
   have hqH := s2.free hq
   have s3 := s2.trans (Same.new (o := HO.lst []) hq)
   have k3 := upd_same (H := G2) (a := q) (o := .lst [])
   have p3 := Same.new (o := HO.lst []) hq _ _ p2
   have l3 := Same.new (o := HO.lst []) hq _ _ l2
   generalize upd G2 q (.lst []) = G3 at s3 k3 p3 l3 ⊢
   walk_at "rd"
   refine ⟨by omega, by omega, ?_⟩
   refine for_range (n := (1 + m % 12).toNat) (lo := 0) (fun j σ G => ∃ (ys : List Str) (z7 : Option V), σ = [some (.int m), some (.bl fr), some (.str (Str.ofString "abcdefghijklmnopqrstuvwxyz")), some (.int (1 + m % 12)), some (.int at0), some (.int lf), some (.ref p), z7, z8, some (.ref l), some (.int (0 + (i : Int))), some (.ref q)] ∧ ys.length = j ∧ (∀ y ∈ ys, y.length = 1 ∧ y.cps.toList.all letter = true) ∧ Same H G ∧ G p = some (.lst (ns.map V.int)) ∧ G l = some (.lst (zs.map V.str)) ∧ G q = some (.lst (ys.map V.str))) ?_ ?_ ?_
   ·exact ⟨[], _, rfl, rfl, fun _ h => (nomatch h), s3, p3, l3, k3⟩
   ·rintro j σ G4 hj ⟨ys, z7'', rfl, hy, hys, s4, p4, l4, q4⟩
    have hj' : (j : Int) < 12 := by omega
    walk_at "rd"
    refine ⟨.inl ⟨rfl, _, SqL.of q4⟩, ?_⟩
    walk_at "rd"
    obtain ⟨v, hv, hm⟩ := atI_in (xs := ns.map V.int) (i := 0 + (j : Int)) (by omega) (by rw [List.length_map]; omega)
    obtain ⟨num, _, rfl⟩ := List.mem_map.mp hm
    refine ⟨p, _, _, _, rfl, rfl, SqL.of p4, hv, ?_⟩
    walk_at "rd"
    refine .inr ⟨_, rfl, ?_⟩
    walk_at "rd"
    refine ⟨.inl ⟨by omega, by omega⟩, ?_⟩
    walk_at "rd"
    obtain ⟨bb, hbb⟩ : ∃ bb : Int, bb = (if decide (V.int (0 + (j : Int)) = V.int at0) = true then (1 : Int) else 0) := ⟨_, rfl⟩
    rw [← hbb]
    obtain ⟨ch, hv, hm⟩ := atI_in (xs := (Str.ofString "abcdefghijklmnopqrstuvwxyz").cps.toList) (i := (num + 5 * (0 + (i : Int)) * bb) % 26) (Int.emod_nonneg _ (by decide)) (by rw [abc]; exact Int.emod_lt_of_pos _ (by decide))
    refine ⟨_, _, ch, rfl, rfl, le_ble rfl, hv, ?_⟩
    refine ⟨q, _, _, rfl, rfl, q4, by rw [List.length_map]; omega, ?_⟩
    refine ⟨ys ++ [⟨#[ch]⟩], _, rfl, by rw [List.length_append, hy]; rfl, fun y hy => ?_, same_put hqH s4, by rw [upd_ne nq]; exact p4, by rw [upd_ne nl]; exact l4, by rw [upd_same, List.map_append]; rfl⟩
    rcases List.mem_append.mp hy with e | e
    ·exact hys y e
    ·rw [List.mem_singleton.mp e]
     refine ⟨rfl, ?_⟩
     show [ch].all letter = true
     rw [List.all_cons, abl ch hm]
     rfl
   ·rintro σ G4 ⟨ys, z7'', rfl, hy, hys, s4, p4, l4, q4⟩
    have su := ones_sum ys hys
    walk_at "rd"
    refine ⟨.inl ⟨rfl, _, SqL.of l4⟩, ?_⟩
    walk_at "rd"
    refine ⟨_, q, ys, rfl, rfl, SqL.of q4, le_ble (by decide +kernel), by omega, ?_⟩
    refine ⟨l, _, _, rfl, rfl, l4, by rw [List.length_map]; omega, ?_⟩
    refine ⟨zs ++ [Txt.join (Str.ofString "") ys], _, _, _, rfl, by rw [List.length_append, hz]; rfl, fun y hy' => ?_, same_put hlH s4, by rw [upd_ne np]; exact p4, by rw [upd_same, List.map_append]; rfl⟩
    rcases List.mem_append.mp hy' with e | e
    ·exact hw y e
    ·rw [List.mem_singleton.mp e]
     exact join_word hys (by omega) (by omega)
  ·rintro σ G ⟨zs, z7', z10, z11, rfl, hz, hw, s2, p2, l2⟩
   exact ⟨_, rfl, k zs l G hz hw s2 hlH l2⟩
set_option maxHeartbeats 4000000 in
theorem ok_Lstamp (T : Txt w K mg c) : FnOk P w K mg base CX0 1 c.a_Lstamp c.d_Lstamp ["_law_book_here", "_law_one", "_law_other_here"] (spStamp) := by
 refine T.Lstamp.fn.ok sc_Lstamp (fun vs H Q E h => ?_) (fun cdv A outer s H vs Q E hr h => ?_)
 ·obtain ⟨l, ws, es, x, y, rfl, _⟩ := h
  rfl
 ·obtain ⟨l, ws, es, x, y, rfl, hL, hR, hB, h84, dx, dy, k⟩ := h
  refine ⟨_, (pss_cons (ps_set (i := 3) sc_Lstamp.nd rfl (Or.inl rfl) (pe_op op_add pe_int (pe_op op_mod (pv 1) pe_int)))
   (pss_cons (ps_set (i := 4) sc_Lstamp.nd rfl (Or.inl rfl) (pe_op op_add pe_int (pe_op op_mod (pv 2) pe_int)))
   (pss_cut (ps_if (pt_cmpR op_eq (pe_op op_mod (pe_op op_fdiv (pv 1) pe_int) pe_int) pe_int (nomark _))
    (pss_one (ps_set (i := 4) sc_Lstamp.nd rfl (Or.inl rfl) (pe_op op_add pe_int (pe_op op_mod (pv 2) pe_int))))
    pss_nil)
   (pss_cut (ps_if (pt_cmpR (op_neD (hu62 hr)) (pv 0) (pe_lst pa_nil) (nomark _))
    (pss_cut (ps_set (i := 3) sc_Lstamp.nd rfl (Or.inl rfl) (pe_op op_add (pe_ix ix_list (pe_ix ix_list (pv 0) (pe_un un_neg pe_int) (fun _ _ => rfl)) pe_int (fun _ _ => rfl)) (pe_ix ix_list (pe_lst (pa_cons pe_int (pa_cons pe_int (pa_cons pe_int (pa_cons (pe_op op_mod (pe_op op_fdiv (pv 1) pe_int) pe_int) pa_nil))))) (pe_op op_mod (pe_op op_fdiv (pv 1) pe_int) pe_int) (fun _ _ => rfl))))
   (pss_one (ps_if (PW.pt (pw_and (pt_cmpR op_eq (pv 3) (pe_ix ix_list (pe_ix ix_list (pv 0) (pe_un un_neg pe_int) (fun _ _ => rfl)) pe_int (fun _ _ => rfl)) (nomark _)) (pw_and1 (pt_cmpR op_le (pv 4) (pe_ix ix_list (pe_ix ix_list (pv 0) (pe_un un_neg pe_int) (fun _ _ => rfl)) pe_int (fun _ _ => rfl)) (nomark _)))))
    (pss_one (ps_set (i := 4) sc_Lstamp.nd rfl (Or.inl rfl) (pe_op op_add (pe_op op_add (pe_ix ix_list (pe_ix ix_list (pv 0) (pe_un un_neg pe_int) (fun _ _ => rfl)) pe_int (fun _ _ => rfl)) pe_int) (pe_op op_mod (pv 2) pe_int))))
    pss_nil)))
    pss_nil)
   (pss_cut (ps_while PassesOwn.never (pt_cmpR op_in_seq (pv 4) (pe_comp (N' := ["_law_there"]) (js := [none]) rfl rfl (by decide +kernel) (by decide +kernel) (free_nil (by decide +kernel)) (cap_nil rfl rfl) (pi_list (pv 0)) (fun B => ⟨(pg_name (i := 0) (show List.Nodup (["_law_there"] : List Str) by decide +kernel) rfl (Or.inl rfl)), pifs_nil, (pe_ix ix_list (pv 0) pe_int (fun _ _ => rfl))⟩)) (by with_unfolding_all rfl))
    (pss_one (ps_set (i := 4) sc_Lstamp.nd rfl (Or.inl rfl) (pe_op op_add (pv 4) pe_int))))
   (pss_one (ps_ret (pe_tup (pa_cons (pv 4) (pa_cons (pv 3) pa_nil)))))))))), ?_⟩
  have sz : 2000 < sizeLine := le_ble rfl
  have lw := hR.1
  have a0 := Int.emod_nonneg x (b := 5) (by decide)
  have a1 := Int.emod_lt_of_pos x (b := 5) (by decide)
  have b0 := Int.emod_nonneg y (b := 999000000) (by decide)
  have b1 := Int.emod_lt_of_pos y (b := 999000000) (by decide)
  have c0 := Int.emod_nonneg y (b := 100) (by decide)
  have c1 := Int.emod_lt_of_pos y (b := 100) (by decide)
  have e0 := Int.emod_nonneg y (b := 1000) (by decide)
  have e1 := Int.emod_lt_of_pos y (b := 1000) (by decide)
  walk_at "rd"
  refine ⟨fun σ' G' => H = G' ∧ ∃ num : Int, σ' = [some (.ref l), some (.int x), some (.int y), some (.int (1 + x % 5)), some (.int num)] ∧ 1 ≤ num ∧ num ≤ 999000000, ?_, ?_⟩
  ·walk_at "rd"
   refine ite2 (fun _ => ?_) (fun _ => ?_)
   ·walk_at "rd"
    exact ⟨by omega, by omega⟩
   ·exact ⟨rfl, _, rfl, by omega, by omega⟩
  rintro σ' G' ⟨rfl, num, rfl, n0, n1⟩
  refine ⟨fun σ' G' => Same H G' ∧ ∃ day num : Int, σ' = [some (.ref l), some (.int x), some (.int y), some (.int day), some (.int num)] ∧ 1 ≤ num ∧ num ≤ 999000000 + 2000 * (es.length : Int) + 1001 ∧ 1 ≤ day ∧ day ≤ 9000 * ((es.length : Int) + 1) ∧ (∀ e, lastW none es = some e → e.d < day ∨ e.d = day ∧ e.n < num), ?_, ?_⟩
  ·refine ⟨_, rfl, le_ble rfl, fun q0 hq0 => ?_⟩
   have t0 := Same.new (o := HO.lst []) hq0
   have hL0 := t0 _ _ hL
   have hR0 := hR.same t0
   refine ⟨0, _, by decide, seqNil (SqL.of hL0) (SqL.of upd_same), _, rfl, ?_⟩
   generalize upd H q0 (.lst []) = G4 at t0 hL0 hR0 ⊢
   refine iteB (fun he => ?_) (fun he => ?_)
   ·have wne : ws ≠ [] := fun z => by rw [z] at he; exact absurd he (by decide)
    obtain ⟨e, ra, le, em, hat, hra⟩ := hR0.last wne
    have en := hB.nn e em
    have ed := hB.dd e em
    have f0 : atI (rowB e) 0 = some (.int e.n) := atI_nat (j := 0) rfl
    have f1 : atI (rowB e) 1 = some (.int e.d) := atI_nat (j := 1) rfl
    refine ⟨fun σ' G' => Same G4 G' ∧ ∃ day : Int, σ' = [some (.ref l), some (.int x), some (.int y), some (.int day), some (.int num)] ∧ e.d ≤ day ∧ day ≤ e.d + 8999, ?_, ?_⟩
    ·walk_at "rd"
     refine ⟨l, _, _, _, rfl, rfl, SqL.of hL0, hat, ?_⟩
     walk_at "rd"
     refine ⟨ra, _, _, _, rfl, rfl, SqL.of hra, f1, ?_⟩
     walk_at "rd"
     refine ⟨le_ble rfl, fun q1 hq1 => ?_⟩
     walk_at "rd"
     obtain ⟨sv, hsv, hsm⟩ := atI_in (xs := [V.int 0, V.int 0, V.int 1, V.int (x / 60 % 9000)]) (i := x / 15 % 4) (Int.emod_nonneg _ (by decide)) (by show _ < (4 : Int); exact Int.emod_lt_of_pos _ (by decide))
     obtain ⟨st, rfl, st0, st1⟩ : ∃ st : Int, sv = .int st ∧ 0 ≤ st ∧ st < 9000 := by
      have b0 := Int.emod_nonneg (x / 60) (b := 9000) (by decide)
      have b1 := Int.emod_lt_of_pos (x / 60) (b := 9000) (by decide)
      simp only [List.mem_cons, List.not_mem_nil, or_false] at hsm
      rcases hsm with rfl | rfl | rfl | rfl
      ·exact ⟨_, rfl, by decide, by decide⟩
      ·exact ⟨_, rfl, by decide, by decide⟩
      ·exact ⟨_, rfl, by decide, by decide⟩
      ·exact ⟨_, rfl, b0, b1⟩
     exact ⟨q1, _, _, _, rfl, rfl, SqL.of upd_same, hsv, _, _, rfl, rfl, Same.new hq1, _, rfl, by omega, by omega⟩
    rintro σ' G5 ⟨t5, day, rfl, d0, d1⟩
    have t45 := t0.trans t5
    have hL5 := t5 _ _ hL0
    have hra5 := t5 _ _ hra
    have fin : ∀ num' : Int, (e.d < day ∨ e.d = day ∧ e.n < num') → ∀ e', lastW none es = some e' → e'.d < day ∨ e'.d = day ∧ e'.n < num' := fun num' h e' q => by
     rw [le] at q
     cases q
     exact h
    walk_at "rd"
    refine ⟨l, _, _, _, rfl, rfl, SqL.of hL5, hat, ?_⟩
    walk_at "rd"
    refine ⟨ra, _, _, _, rfl, rfl, SqL.of hra5, f1, ?_⟩
    walk_at "rd"
    refine ite2 (fun z => ?_) (fun z => ?_)
    ·have z : day = e.d := V.int.inj (of_decide_eq_true z)
     walk_at "rd"
     refine ⟨l, _, _, _, rfl, rfl, SqL.of hL5, hat, ?_⟩
     walk_at "rd"
     refine ⟨ra, _, _, _, rfl, rfl, SqL.of hra5, f0, ?_⟩
     walk_at "rd"
     refine ite2 (fun z2 => ?_) (fun z2 => ?_)
     ·have z2 : num ≤ e.n := of_decide_eq_true z2
      walk_at "rd"
      refine ⟨l, _, _, _, rfl, rfl, SqL.of hL5, hat, ?_⟩
      walk_at "rd"
      refine ⟨ra, _, _, _, rfl, rfl, SqL.of hra5, f0, ?_⟩
      walk_at "rd"
      exact ⟨t45, _, _, rfl, by omega, by omega, by omega, by omega, fin _ (.inr ⟨z.symm, by omega⟩)⟩
     ·have z2 : ¬ num ≤ e.n := fun q => z2 (decide_eq_true q)
      exact ⟨t45, _, _, rfl, by omega, by omega, by omega, by omega, fin _ (.inr ⟨z.symm, by omega⟩)⟩
    ·have z : ¬ day = e.d := fun q => z (decide_eq_true (congrArg V.int q))
     exact iteF ⟨t45, _, _, rfl, by omega, by omega, by omega, by omega, fin _ (.inl (by omega))⟩
   ·have wn : ws = [] := by
     cases ws with
     | nil => rfl
     | cons _ _ => cases he
    have en : es = [] := List.eq_nil_of_length_eq_zero (by rw [← lw, wn]; rfl)
    refine ⟨t0, _, _, rfl, by omega, by omega, by omega, by omega, fun e q => ?_⟩
    rw [en] at q
    cases q
  rintro σ' G1 ⟨s1, day, num, rfl, n0, n1, d0, d1, la⟩
  refine ⟨fun σ' G' => Same H G' ∧ ∃ num' : Int, σ' = [some (.ref l), some (.int x), some (.int y), some (.int day), some (.int num')] ∧ num ≤ num' ∧ num' ≤ 999000000 + 2000 * (es.length : Int) + 1001 ∧ (∀ e ∈ es, e.n ≠ num'), ?_, ?_⟩
  ·refine ⟨fun m σ' G' => Same H G' ∧ ∃ num' : Int, σ' = [some (.ref l), some (.int x), some (.int y), some (.int day), some (.int num')] ∧ num ≤ num' ∧ num' ≤ 999000000 + 2000 * (es.length : Int) + 1001 ∧ m = (10000000000 - num').toNat, ⟨_, s1, num, rfl, Int.le_refl _, n1, rfl⟩, ?_⟩
   rintro m σ' G2 ⟨s2, num', rfl, m0, m1, rfl⟩
   have hL2 := s2 _ _ hL
   have hR2 := hR.same s2
   refine ⟨_, rfl, _, rfl, l, rfl, ⟨_, SqL.of hL2⟩, fun q B hq => ?_⟩
   refine loop_lst (xs := ws) (fun i σ acc G => (∃ o, σ = [o]) ∧ Same G2 G ∧ G q = some (.lst acc) ∧ acc = ((es.take i).map (·.n)).map V.int) (by omega) ?_ ?_ ?_ ?_
   ·exact ⟨⟨_, rfl⟩, Same.new hq, upd_same, rfl⟩
   ·rintro i σ acc G hi ⟨_, sG, h1, rfl⟩
    exact ⟨h1, SqL.of (sG _ _ hL2), by rw [List.length_map, List.length_map, List.length_take]; omega⟩
   ·rintro i v σ acc G hx ⟨⟨o, rfl⟩, sG, h1, rfl⟩
    have hi : i < ws.length := (List.getElem?_eq_some_iff.mp hx).1
    have hie : i < es.length := by omega
    have ee : es[i]? = some es[i] := List.getElem?_eq_getElem hie
    obtain ⟨ra, rfl, hrow⟩ := hR2.2 i v _ hx ee
    have f0 : atI (rowB es[i]) 0 = some (.int es[i].n) := atI_nat (j := 0) rfl
    have hrow := sG _ _ hrow
    refine ⟨_, rfl, ra, _, _, _, rfl, rfl, SqL.of hrow, f0, h1, Nx.mk hi ⟨⟨_, rfl⟩, same_put hq sG, upd_same, ?_⟩⟩
    rw [take_one ee, List.map_append, List.map_append]
    rfl
   ·rintro σ acc G ⟨_, sG, h1, rfl⟩
    rw [lw, List.take_of_length_le (Nat.le_refl _)] at h1
    refine ⟨q, _, rfl, .inl (SqL.of h1), rfl, flatI _, _, rfl, ?_⟩
    refine iteB (fun z => ?_) (fun z => ?_)
    ·obtain ⟨e, he, en⟩ := List.mem_map.mp (inV_ints.mp z)
     have en2 := (hB.nn e he).2
     refine ⟨fun σ' G' => G = G' ∧ σ' = [some (.ref l), some (.int x), some (.int y), some (.int day), some (.int (num' + 1))], fun σ' G' h => ⟨(10000000000 - (num' + 1)).toNat, by omega, h.1 ▸ s2.trans sG, num' + 1, h.2, by omega, by omega, rfl⟩, ?_⟩
     walk_at "rd"
     first | done | exact rfl | exact ⟨rfl, rfl⟩
    ·refine ⟨s2.trans sG, num', rfl, m0, m1, fun e he en => ?_⟩
     have : inV (.int num') ((es.map (·.n)).map V.int) = true := inV_ints.mpr (en ▸ List.mem_map_of_mem (f := fun x : En => x.n) he)
     rw [show inV (.int num') ((es.map (·.n)).map V.int) = false from z] at this
     cases this
  rintro σ' G2 ⟨s2, num', rfl, m0, m1, m2⟩
  refine ⟨_, rfl, _, rfl, le_ble rfl, fun t ht => ?_⟩
  refine k num' day t _ (s2.trans (Same.new ht)) upd_same m2 (by omega) (by omega) d0 d1 fun e q => ?_
  rcases la e q with h | h
  ·exact .inl h
  ·exact .inr ⟨h.1, by omega⟩
set_option maxHeartbeats 4000000 in
theorem ok_Lpick (T : Txt w K mg c) : FnOk P w K mg base CX0 1 c.a_Lpick c.d_Lpick ["_law_book_here", "_law_rank", "_law_one", "_law_other_here"] (spPick) := by
 refine T.Lpick.fn.ok sc_Lpick (fun vs H Q E h => ?_) (fun cdv A outer s H vs Q E hr h => ?_)
 ·obtain ⟨l, ws, es, rk, x, y, rfl, _⟩ := h
  rfl
 ·obtain ⟨l, ws, es, rk, x, y, rfl, hL, hR, hB, ne, k⟩ := h
  refine ⟨_, (pss_cut (ps_setComp (i := 4) sc_Lpick.nd rfl rfl (N' := ["_law_there", "_law_rank"]) (js := [none, some 1]) rfl rfl (by decide +kernel) (by decide +kernel) (free_of ["_law_rank"] (by decide +kernel) (fm_cons (.inl rfl) fm_nil)) (cap_of rfl (fm_cons (fun j e => nomatch e) (fm_cons (fun j e => by cases e; exact ⟨rfl, rfl, .inl rfl⟩) fm_nil))) (pi_list (pv 0)) (fun B => ⟨(pg_name (i := 0) (show List.Nodup (["_law_there", "_law_rank"] : List Str) by decide +kernel) rfl (Or.inl rfl)), (pifs_one (PW.pt (pw_and (pt_cmpR op_eq (pe_ix ix_list (pv 0) pe_int (fun _ _ => rfl)) (pv 1) (nomark _)) (pw_and1 (pt_cmp (pc_isN (pe_ix ix_list (pv 0) pe_int (fun _ _ => rfl)))))))), (pv 0)⟩))
   (pss_cut (ps_if (PW.pt (pw_or (pt_cmpR (op_eqD (hu62 hr)) (pv 4) (pe_lst pa_nil) (nomark _)) (pw_or1 (pt_cmpR op_eq (pe_op op_mod (pv 2) pe_int) pe_int (nomark _)))))
    (pss_one (ps_set (i := 4) sc_Lpick.nd rfl (Or.inl rfl) (pv 0)))
    pss_nil)
   (pss_cons (ps_if (pt_cmpR op_eq (pe_op op_mod (pe_op op_fdiv (pv 2) pe_int) pe_int) pe_int (nomark _))
    (pss_one (ps_ret (pe_op op_add pe_int (pe_op op_mod (pv 3) (pe_op op_pow pe_int pe_int)))))
    pss_nil)
   (pss_one (ps_ret (pe_ix ix_list (pe_ix ix_list (pv 4) (pe_op op_mod (pv 3) (pe_callB call_len_seq rfl T.no_len bt_len (pa_cons (pv 4) pa_nil))) (fun _ _ => rfl)) pe_int (fun _ _ => rfl))))))), ?_⟩
  have sz : 2000 < sizeLine := le_ble rfl
  have lw := hR.1
  have l84 := hB.le
  refine ⟨fun σ' G' => Same H G' ∧ ∃ q acc, σ' = [some (.ref l), some (.str rk), some (.int x), some (.int y), some (.ref q)] ∧ G' q = some (.lst acc) ∧ Some G' es acc, ?_, ?_⟩
  ·refine ⟨_, rfl, l, rfl, ⟨_, SqL.of hL⟩, fun q B hq => ?_⟩
   refine loop_lst (xs := ws) (fun i σ acc G => (∃ o, σ = [o, some (.str rk)]) ∧ Same H G ∧ G q = some (.lst acc) ∧ acc.length ≤ i ∧ ∀ v ∈ acc, ∃ e ∈ es, RowB H v e) (by omega) ?_ ?_ ?_ ?_
   ·exact ⟨⟨_, rfl⟩, Same.new hq, upd_same, Nat.zero_le _, fun _ h => nomatch h⟩
   ·rintro i σ acc G hi ⟨_, sG, h1, h2, _⟩
    exact ⟨h1, SqL.of (sG _ _ hL), by omega⟩
   ·rintro i v σ acc G hx ⟨⟨o, rfl⟩, sG, h1, h2, h3⟩
    have hi : i < ws.length := (List.getElem?_eq_some_iff.mp hx).1
    have hie : i < es.length := by omega
    have ee : es[i]? = some es[i] := List.getElem?_eq_getElem hie
    have hrw := hR.2 i v _ hx ee
    obtain ⟨ra, rfl, hrow⟩ := hR.2 i v _ hx ee
    have em := List.getElem_mem hie
    generalize es[i] = e at hrow em hrw
    have f2 : atI (rowB e) 2 = some (.str e.r) := atI_nat (j := 2) rfl
    have f6 : atI (rowB e) 6 = some (optV e.b) := atI_nat (j := 6) rfl
    have hrow := sG _ _ hrow
    have no : Nx ws.length i ((∃ o', [some (V.ref ra), some (V.str rk)] = [o', some (V.str rk)]) ∧ Same H G ∧ G q = some (.lst acc) ∧ acc.length ≤ i + 1 ∧ ∀ v ∈ acc, ∃ e ∈ es, RowB H v e) := Nx.mk hi ⟨⟨_, rfl⟩, sG, h1, by omega, h3⟩
    walk_at "rd"
    refine ⟨ra, _, _, _, rfl, rfl, SqL.of hrow, f2, ?_⟩
    walk_at "rd"
    refine ite2 (fun _ => ?_) (fun _ => iteF no)
    walk_at "rd"
    refine ⟨ra, _, _, _, rfl, rfl, SqL.of hrow, f6, ?_⟩
    walk_at "rd"
    refine iteB (fun _ => ?_) (fun _ => no)
    refine ⟨_, rfl, h1, Nx.mk hi ⟨⟨_, rfl⟩, same_put hq sG, upd_same, by rw [List.length_append]; exact Nat.add_le_add_right h2 1, fun v hv => ?_⟩⟩
    rcases List.mem_append.mp hv with z | z
    ·exact h3 v z
    ·rw [List.mem_singleton.mp z]; exact ⟨e, em, hrw⟩
   ·rintro σ acc G ⟨_, sG, h1, h2, h3⟩
    exact ⟨sG, q, acc, rfl, h1, by omega, fun v hv => let ⟨e, he, hr⟩ := h3 v hv; ⟨e, he, hr.same sG⟩⟩
  rintro σ' G1 ⟨s1, q, acc, rfl, hq, hS⟩
  refine ⟨fun σ' G' => Same H G' ∧ ∃ q acc, σ' = [some (.ref l), some (.str rk), some (.int x), some (.int y), some (.ref q)] ∧ G' q = some (.lst acc) ∧ Some G' es acc ∧ acc ≠ [], ?_, ?_⟩
  ·refine ⟨_, rfl, le_ble rfl, fun q0 hq0 => ?_⟩
   have t0 := Same.new (o := HO.lst []) hq0
   have hq1 := t0 _ _ hq
   have hS1 := hS.same t0
   have hL1 := (s1.trans t0) _ _ hL
   have hR1 := hR.same (s1.trans t0)
   refine ⟨0, _, by decide, seqNil (SqL.of hq1) (SqL.of upd_same), _, rfl, ?_⟩
   generalize upd G1 q0 (.lst []) = G4 at t0 hq1 hS1 hL1 hR1 ⊢
   have wne : ws ≠ [] := fun z => ne (List.eq_nil_of_length_eq_zero (by rw [← lw, z]; rfl))
   refine iteB (fun _ => iteT ?_) (fun he => ?_)
   ·exact ⟨_, rfl, s1.trans t0, l, ws, rfl, hL1, hR1.some, wne⟩
   ·have ane : acc ≠ [] := fun z => by rw [z] at he; cases he
    walk_at "rd"
    refine ite2 (fun _ => ?_) (fun _ => ?_)
    ·exact ⟨_, rfl, s1.trans t0, l, ws, rfl, hL1, hR1.some, wne⟩
    ·exact ⟨s1.trans t0, q, acc, rfl, hq1, hS1, ane⟩
  clear hq hS s1
  rintro σ' G2 ⟨s2, q, acc, rfl, hq, hS, ane⟩
  have ap : 0 < acc.length := List.length_pos_iff.mpr ane
  obtain ⟨v, hv, hm⟩ := atI_in (xs := acc) (i := y % (acc.length : Int)) (Int.emod_nonneg _ (by omega)) (Int.emod_lt_of_pos _ (by omega))
  obtain ⟨e, he, hr⟩ := hS.2 v hm
  have n9 := hB.nn e he
  obtain ⟨ra, rfl, hrow⟩ := hr
  have f0 : atI (rowB e) 0 = some (.int e.n) := atI_nat (j := 0) rfl
  walk_at "rd"
  refine ite2 (fun _ => ?_) (fun _ => ?_)
  ·walk_at "rd"
   refine k _ G2 s2 ?_ ?_
   ·have := Int.emod_nonneg y (b := 1000000000) (by decide)
    show 1 ≤ 1 + y % 1000000000
    omega
   ·have := Int.emod_lt_of_pos y (b := 1000000000) (by decide)
    show 1 + y % 1000000000 ≤ 1000000000
    omega
  ·walk_at "rd"
   refine ⟨q, _, rfl, .inl (SqL.of hq), ?_⟩
   walk_at "rd"
   refine ⟨by show (0 : Int) < acc.length; omega, ?_⟩
   refine ⟨q, _, _, _, rfl, rfl, SqL.of hq, hv, ?_⟩
   walk_at "rd"
   exact ⟨ra, _, _, _, rfl, rfl, SqL.of hrow, f0, k _ G2 s2 (by omega) (by omega)⟩
set_option maxHeartbeats 4000000 in
theorem ok_Lbase (T : Txt w K mg c) : FnOk P w K mg base CX0 1 c.a_Lbase c.d_Lbase ["_law_book_here", "_law_rank", "_law_one", "_law_other_here"] (spBaseB) := by
 refine T.Lbase.fn.ok sc_Lbase (fun vs H Q E h => ?_) (fun cdv A outer s H vs Q E hr h => ?_)
 ·obtain ⟨l, ws, es, rk, x, y, rfl, _⟩ := h
  rfl
 ·obtain ⟨l, ws, es, rk, x, y, rfl, hL, hR, hB, ne, k⟩ := h
  refine ⟨_, (pss_cut (ps_setComp (i := 4) sc_Lbase.nd rfl rfl (N' := ["_law_there", "_law_rank"]) (js := [none, some 1]) rfl rfl (by decide +kernel) (by decide +kernel) (free_of ["_law_rank"] (by decide +kernel) (fm_cons (.inl rfl) fm_nil)) (cap_of rfl (fm_cons (fun j e => nomatch e) (fm_cons (fun j e => by cases e; exact ⟨rfl, rfl, .inl rfl⟩) fm_nil))) (pi_list (pv 0)) (fun B => ⟨(pg_name (i := 0) (show List.Nodup (["_law_there", "_law_rank"] : List Str) by decide +kernel) rfl (Or.inl rfl)), (pifs_one (PW.pt (pw_and (pt_cmpR op_eq (pe_ix ix_list (pv 0) pe_int (fun _ _ => rfl)) (pv 1) (nomark _)) (pw_and1 (pt_cmp (pc_isN (pe_ix ix_list (pv 0) pe_int (fun _ _ => rfl)))))))), (pv 0)⟩))
   (pss_cut (ps_if (PW.pt (pw_or (pt_cmpR (op_eqD (hu62 hr)) (pv 4) (pe_lst pa_nil) (nomark _)) (pw_or1 (pt_cmpR op_eq (pe_op op_mod (pv 2) pe_int) pe_int (nomark _)))))
    (pss_one (ps_set (i := 4) sc_Lbase.nd rfl (Or.inl rfl) (pv 0)))
    pss_nil)
   (pss_one (ps_ret (pe_ix ix_list (pv 4) (pe_op op_mod (pv 3) (pe_callB call_len_seq rfl T.no_len bt_len (pa_cons (pv 4) pa_nil))) (fun _ _ => rfl)))))), ?_⟩
  have sz : 2000 < sizeLine := le_ble rfl
  have lw := hR.1
  have l84 := hB.le
  refine ⟨fun σ' G' => Same H G' ∧ ∃ q acc, σ' = [some (.ref l), some (.str rk), some (.int x), some (.int y), some (.ref q)] ∧ G' q = some (.lst acc) ∧ Some G' es acc, ?_, ?_⟩
  ·refine ⟨_, rfl, l, rfl, ⟨_, SqL.of hL⟩, fun q B hq => ?_⟩
   refine loop_lst (xs := ws) (fun i σ acc G => (∃ o, σ = [o, some (.str rk)]) ∧ Same H G ∧ G q = some (.lst acc) ∧ acc.length ≤ i ∧ ∀ v ∈ acc, ∃ e ∈ es, RowB H v e) (by omega) ?_ ?_ ?_ ?_
   ·exact ⟨⟨_, rfl⟩, Same.new hq, upd_same, Nat.zero_le _, fun _ h => nomatch h⟩
   ·rintro i σ acc G hi ⟨_, sG, h1, h2, _⟩
    exact ⟨h1, SqL.of (sG _ _ hL), by omega⟩
   ·rintro i v σ acc G hx ⟨⟨o, rfl⟩, sG, h1, h2, h3⟩
    have hi : i < ws.length := (List.getElem?_eq_some_iff.mp hx).1
    have hie : i < es.length := by omega
    have ee : es[i]? = some es[i] := List.getElem?_eq_getElem hie
    have hrw := hR.2 i v _ hx ee
    obtain ⟨ra, rfl, hrow⟩ := hR.2 i v _ hx ee
    have em := List.getElem_mem hie
    generalize es[i] = e at hrow em hrw
    have f2 : atI (rowB e) 2 = some (.str e.r) := atI_nat (j := 2) rfl
    have f6 : atI (rowB e) 6 = some (optV e.b) := atI_nat (j := 6) rfl
    have hrow := sG _ _ hrow
    have no : Nx ws.length i ((∃ o', [some (V.ref ra), some (V.str rk)] = [o', some (V.str rk)]) ∧ Same H G ∧ G q = some (.lst acc) ∧ acc.length ≤ i + 1 ∧ ∀ v ∈ acc, ∃ e ∈ es, RowB H v e) := Nx.mk hi ⟨⟨_, rfl⟩, sG, h1, by omega, h3⟩
    walk_at "rd"
    refine ⟨ra, _, _, _, rfl, rfl, SqL.of hrow, f2, ?_⟩
    walk_at "rd"
    refine ite2 (fun _ => ?_) (fun _ => iteF no)
    walk_at "rd"
    refine ⟨ra, _, _, _, rfl, rfl, SqL.of hrow, f6, ?_⟩
    walk_at "rd"
    refine iteB (fun _ => ?_) (fun _ => no)
    refine ⟨_, rfl, h1, Nx.mk hi ⟨⟨_, rfl⟩, same_put hq sG, upd_same, by rw [List.length_append]; exact Nat.add_le_add_right h2 1, fun v hv => ?_⟩⟩
    rcases List.mem_append.mp hv with z | z
    ·exact h3 v z
    ·rw [List.mem_singleton.mp z]; exact ⟨e, em, hrw⟩
   ·rintro σ acc G ⟨_, sG, h1, h2, h3⟩
    exact ⟨sG, q, acc, rfl, h1, by omega, fun v hv => let ⟨e, he, hr⟩ := h3 v hv; ⟨e, he, hr.same sG⟩⟩
  rintro σ' G1 ⟨s1, q, acc, rfl, hq, hS⟩
  refine ⟨fun σ' G' => Same H G' ∧ ∃ q acc, σ' = [some (.ref l), some (.str rk), some (.int x), some (.int y), some (.ref q)] ∧ G' q = some (.lst acc) ∧ Some G' es acc ∧ acc ≠ [], ?_, ?_⟩
  ·refine ⟨_, rfl, le_ble rfl, fun q0 hq0 => ?_⟩
   have t0 := Same.new (o := HO.lst []) hq0
   have hq1 := t0 _ _ hq
   have hS1 := hS.same t0
   have hL1 := (s1.trans t0) _ _ hL
   have hR1 := hR.same (s1.trans t0)
   refine ⟨0, _, by decide, seqNil (SqL.of hq1) (SqL.of upd_same), _, rfl, ?_⟩
   generalize upd G1 q0 (.lst []) = G4 at t0 hq1 hS1 hL1 hR1 ⊢
   have wne : ws ≠ [] := fun z => ne (List.eq_nil_of_length_eq_zero (by rw [← lw, z]; rfl))
   refine iteB (fun _ => iteT ?_) (fun he => ?_)
   ·exact ⟨_, rfl, s1.trans t0, l, ws, rfl, hL1, hR1.some, wne⟩
   ·have ane : acc ≠ [] := fun z => by rw [z] at he; cases he
    walk_at "rd"
    refine ite2 (fun _ => ?_) (fun _ => ?_)
    ·exact ⟨_, rfl, s1.trans t0, l, ws, rfl, hL1, hR1.some, wne⟩
    ·exact ⟨s1.trans t0, q, acc, rfl, hq1, hS1, ane⟩
  clear hq hS s1
  rintro σ' G2 ⟨s2, q, acc, rfl, hq, hS, ane⟩
  have ap : 0 < acc.length := List.length_pos_iff.mpr ane
  obtain ⟨v, hv, hm⟩ := atI_in (xs := acc) (i := y % (acc.length : Int)) (Int.emod_nonneg _ (by omega)) (Int.emod_lt_of_pos _ (by omega))
  obtain ⟨e, he, hr⟩ := hS.2 v hm
  walk_at "rd"
  refine ⟨q, _, rfl, .inl (SqL.of hq), ?_⟩
  walk_at "rd"
  refine ⟨by show (0 : Int) < acc.length; omega, ?_⟩
  exact ⟨q, _, _, _, rfl, rfl, SqL.of hq, hv, k v e G2 s2 he hr⟩
set_option maxHeartbeats 4000000 in
theorem ok_Lcell_at (T : Txt w K mg c) : FnOk P w K mg base CX0 1 c.a_Lcell_at c.d_Lcell_at ["_law_script", "_law_k"] (spCell K) := by
 refine T.Lcell_at.fn.ok sc_Lcell_at (fun vs H Q E h => ?_) (fun cdv A outer s H vs Q E hr h => ?_)
 ·obtain ⟨a, i, ns, rfl, _⟩ := h
  rfl
 ·obtain ⟨a, i, ns, rfl, h0, hS, k⟩ := h
  refine ⟨_, (pss_cons (ps_if (pt_cmpR op_lt (pv 1) (pe_callB call_len_seq rfl T.no_len bt_len (pa_cons (pv 0) pa_nil)) (nomark _))
    (pss_one (ps_ret (pe_ix ix_list (pv 0) (pv 1) (fun _ _ => rfl))))
    pss_nil)
   (pss_one (ps_ret pe_int))), ?_⟩
  refine ⟨_, rfl, _, rfl, a, _, rfl, .inl hS, _, _, rfl, rfl, _, rfl, ?_⟩
  refine ite2 (fun hl => ?_) (fun _ => k 0)
  obtain ⟨v, hv, hm⟩ := atI_in (xs := ns.map V.int) h0 (of_decide_eq_true hl)
  obtain ⟨z, _, rfl⟩ := List.mem_map.mp hm
  exact ⟨_, rfl, _, rfl, a, _, i, _, rfl, rfl, hS, hv, k z⟩
set_option maxHeartbeats 4000000 in
theorem ok_Lentry (T : Txt w K mg c) : FnOk P w K mg base CX0 3 c.a_Lentry c.d_Lentry ["_law_book_here", "_law_words_here", "_law_cell", "_law_k", "_law_free"] (spEntry) := by
 refine T.Lentry.fn.ok sc_Lentry (fun vs H Q E h => ?_) (fun cdv A outer s H vs Q E hr h => ?_)
 ·obtain ⟨l, ws, es, wl, zs, n, i, fr, rfl, _⟩ := h
  rfl
 ·obtain ⟨l, ws, es, wl, zs, n, i, fr, rfl, hL, hR, hB, h84, hW, lz, hz, i0, i1, k⟩ := h
  refine ⟨_, (pss_cons (ps_set (i := 5) sc_Lentry.nd rfl (Or.inl rfl) (pe_call (ok_Ldraws T) (hr.mono (by decide)) rfl T.Ldraws.mgf T.Ldraws.kp T.Ldraws.bi .nil pass0 (pa_cons (pv 2) (pa_cons (pv 3) (pa_cons (pv 4) pa_nil)))))
   (pss_cons (ps_asg (pe_call (ok_Lstamp T) (hr.mono (by decide)) rfl T.Lstamp.mgf T.Lstamp.kp T.Lstamp.bi .nil pass0 (pa_cons (pv 0) (pa_cons (pe_ix ix_list (pv 5) pe_int (fun _ _ => rfl)) (pa_cons (pe_ix ix_list (pv 5) pe_int (fun _ _ => rfl)) pa_nil)))) (pg_tup rfl (pgs_cons (pg_name (i := 6) sc_Lentry.nd rfl (Or.inl rfl)) (pgs_cons (pg_name (i := 7) sc_Lentry.nd rfl (Or.inl rfl)) pgs_nil))))
   (pss_cut (ps_set (i := 8) sc_Lentry.nd rfl (Or.inl rfl) (pe_ix ix_list (pv 1) (pe_op op_mod (pe_ix ix_list (pv 5) pe_int (fun _ _ => rfl)) pe_int) (fun _ _ => rfl)))
   (pss_cut (ps_if (PW.pt (pw_and (pt_val (pv 4)) (pw_and1 (pt_cmpR op_eq (pe_op op_mod (pe_op op_fdiv (pe_ix ix_list (pv 5) pe_int (fun _ _ => rfl)) pe_int) pe_int) pe_int (nomark _)))))
    (pss_one (ps_set (i := 8) sc_Lentry.nd rfl (Or.inl rfl) (pe_call (ok_Lany_word T) (hr.mono (by decide)) rfl T.Lany_word.mgf T.Lany_word.kp T.Lany_word.bi .nil pass0 (pa_cons (pe_op op_add (pe_ix ix_list (pv 5) pe_int (fun _ _ => rfl)) (pe_op op_mul (pe_ix ix_list (pv 5) pe_int (fun _ _ => rfl)) (pe_op op_pow pe_int pe_int))) pa_nil))))
    pss_nil)
   (pss_cut (ps_set (i := 9) sc_Lentry.nd rfl (Or.inl rfl) (pe_ix ix_list (pe_lst (pa_cons (pe_op op_add pe_int (pe_op op_mod (pe_ix ix_list (pv 5) pe_int (fun _ _ => rfl)) pe_int)) (pa_cons (pe_op op_add pe_int (pe_op op_mod (pe_op op_fdiv (pe_ix ix_list (pv 5) pe_int (fun _ _ => rfl)) pe_int) (pe_op op_pow pe_int pe_int))) pa_nil))) (pe_op op_mod (pe_ix ix_list (pv 5) pe_int (fun _ _ => rfl)) pe_int) (fun _ _ => rfl)))
   (pss_cut (ps_set (i := 10) sc_Lentry.nd rfl (Or.inl rfl) (pe_cmpR op_gt (pe_op op_mod (pe_op op_fdiv (pe_ix ix_list (pv 5) pe_int (fun _ _ => rfl)) pe_int) pe_int) pe_int (nomark _)))
   (pss_cons (ps_if (PW.pt (pw_or (pt_cmpR op_eq (pe_op op_mod (pv 2) pe_int) pe_int (nomark _)) (pw_or1 (pt_cmpR (op_eqD (hu62 hr)) (pv 0) (pe_lst pa_nil) (nomark _)))))
    (pss_one (ps_ret (pe_lst (pa_cons (pv 6) (pa_cons (pv 7) (pa_cons pe_str (pa_cons (pv 8) (pa_cons pe_non (pa_cons (pv 9) (pa_cons pe_non (pa_cons (pv 10) pa_nil)))))))))))
    pss_nil)
   (pss_cut (ps_set (i := 11) sc_Lentry.nd rfl (Or.inl rfl) (pe_ix ix_list (pe_lst (pa_cons pe_str (pa_cons pe_str pa_nil))) (pe_callTy call_int1 rfl T.no_int bt_int (pa_cons (pe_or (pe_cmpR op_eq (pe_op op_mod (pv 2) pe_int) pe_int (nomark _)) (pe_one (pe_cmpR op_eq (pe_op op_mod (pv 2) pe_int) pe_int (nomark _)))) pa_nil)) (fun _ _ => rfl)))
   (pss_cut (ps_set (i := 12) sc_Lentry.nd rfl (Or.inl rfl) (pe_call (ok_Lpick T) (hr.mono (by decide)) rfl T.Lpick.mgf T.Lpick.kp T.Lpick.bi .nil pass0 (pa_cons (pv 0) (pa_cons (pe_ix ix_list (pe_lst (pa_cons pe_str (pa_cons pe_str pa_nil))) (pe_callTy call_int1 rfl T.no_int bt_int (pa_cons (pe_cmpR op_eq (pv 11) pe_str (nomark _)) pa_nil)) (fun _ _ => rfl)) (pa_cons (pe_ix ix_list (pv 5) pe_int (fun _ _ => rfl)) (pa_cons (pe_ix ix_list (pv 5) pe_int (fun _ _ => rfl)) pa_nil))))))
   (pss_cut (ps_if (pt_cmpR op_eq (pe_op op_mod (pe_op op_fdiv (pe_ix ix_list (pv 5) pe_int (fun _ _ => rfl)) pe_int) pe_int) pe_int (nomark _))
    (pss_one (ps_set (i := 12) sc_Lentry.nd rfl (Or.inl rfl) (pv 6)))
    pss_nil)
   (pss_cons (ps_if (pt_cmpR op_lt (pe_op op_mod (pv 2) pe_int) pe_int (nomark _))
    (pss_one (ps_ret (pe_lst (pa_cons (pv 6) (pa_cons (pv 7) (pa_cons (pv 11) (pa_cons (pv 8) (pa_cons (pv 12) (pa_cons (pv 9) (pa_cons pe_non (pa_cons (pv 10) pa_nil)))))))))))
    pss_nil)
   (pss_cons (ps_set (i := 13) sc_Lentry.nd rfl (Or.inl rfl) (pe_call (ok_Lbase T) (hr.mono (by decide)) rfl T.Lbase.mgf T.Lbase.kp T.Lbase.bi .nil pass0 (pa_cons (pv 0) (pa_cons (pv 11) (pa_cons (pe_op op_fdiv (pe_ix ix_list (pv 5) pe_int (fun _ _ => rfl)) pe_int) (pa_cons (pe_ix ix_list (pv 5) pe_int (fun _ _ => rfl)) pa_nil))))))
   (pss_cut (ps_if (pt_cmpR op_gt (pe_op op_mod (pe_op op_fdiv (pe_ix ix_list (pv 5) pe_int (fun _ _ => rfl)) pe_int) pe_int) pe_int (nomark _))
    (pss_one (ps_set (i := 8) sc_Lentry.nd rfl (Or.inl rfl) (pe_ix ix_list (pv 13) pe_int (fun _ _ => rfl))))
    pss_nil)
   (pss_cons (ps_set (i := 14) sc_Lentry.nd rfl (Or.inl rfl) (pe_ix ix_list (pv 13) pe_int (fun _ _ => rfl)))
   (pss_cut (ps_if (pt_cmpR op_eq (pe_op op_mod (pe_op op_fdiv (pe_ix ix_list (pv 5) pe_int (fun _ _ => rfl)) pe_int) pe_int) pe_int (nomark _))
    (pss_one (ps_set (i := 14) sc_Lentry.nd rfl (Or.inl rfl) (pe_ix ix_list (pe_lst (pa_cons (pe_op op_add pe_int (pe_op op_mod (pe_ix ix_list (pv 5) pe_int (fun _ _ => rfl)) (pe_op op_pow pe_int pe_int))) (pa_cons (pv 6) (pa_cons (pe_op op_add (pe_op op_mod (pv 6) (pe_op op_pow pe_int pe_int)) pe_int) pa_nil)))) (pe_op op_mod (pe_op op_fdiv (pe_ix ix_list (pv 5) pe_int (fun _ _ => rfl)) pe_int) pe_int) (fun _ _ => rfl))))
    pss_nil)
   (pss_one (ps_ret (pe_lst (pa_cons (pv 6) (pa_cons (pv 7) (pa_cons (pv 11) (pa_cons (pv 8) (pa_cons (pv 12) (pa_cons pe_non (pa_cons (pv 14) (pa_cons (pv 10) pa_nil)))))))))))))))))))))))))), ?_⟩
  have sz : 2000 < sizeLine := le_ble rfl
  have lw := hR.1
  walk_at "rd"
  refine ⟨n, i, fr, rfl, i0, i1, fun ds dl G0 l10 hds s0 hdl hdr => ?_⟩
  have at_ : ∀ j : Nat, j < 10 → ∃ d, Drawn d ∧ atI (ds.map V.int) (j : Int) = some (.int d) := fun j hj => by
   have hl : j < ds.length := by omega
   refine ⟨ds[j], hds _ (List.getElem_mem hl), atI_nat ?_⟩
   rw [List.getElem?_map, List.getElem?_eq_getElem hl]
   rfl
  obtain ⟨x0, p0, g0⟩ := at_ 0 (by decide)
  obtain ⟨x1, p1, g1⟩ := at_ 1 (by decide)
  obtain ⟨x2, p2, g2⟩ := at_ 2 (by decide)
  obtain ⟨x3, p3, g3⟩ := at_ 3 (by decide)
  obtain ⟨x4, p4, g4⟩ := at_ 4 (by decide)
  obtain ⟨x5, p5, g5⟩ := at_ 5 (by decide)
  obtain ⟨x6, p6, g6⟩ := at_ 6 (by decide)
  obtain ⟨x7, p7, g7⟩ := at_ 7 (by decide)
  obtain ⟨x8, p8, g8⟩ := at_ 8 (by decide)
  obtain ⟨x9, p9, g9⟩ := at_ 9 (by decide)
  have rd : ∀ {G : Hp} (s : Same G0 G), SqL K G dl (ds.map V.int) := fun s => SqL.of (s _ _ hdr)
  walk_at "rd"
  refine ⟨dl, _, _, _, rfl, rfl, rd (Same.refl _), g0, ?_⟩
  walk_at "rd"
  refine ⟨dl, _, _, _, rfl, rfl, rd (Same.refl _), g1, ?_⟩
  refine ⟨l, ws, es, x0, x1, rfl, s0 _ _ hL, hR.same s0, hB, h84, p0, p1, fun num day t G1 s1 ht nw nn1 nn2 dd1 dd2 la => ?_⟩
  refine ⟨t, _, rfl, SqT.of ht, rfl, ?_⟩
  walk_at "rd"
  have sH := s0.trans s1
  have hW1 := sH _ _ hW
  refine ⟨fun σ' G' => G1 = G' ∧ ∃ wd : Str, σ' = [some (.ref l), some (.ref wl), some (.int n), some (.int i), some (.bl fr), some (.ref dl), some (.int num), some (.int day), some (.str wd), none, none, none, none, none, none] ∧ isWord (.str wd) = true, ?_, ?_⟩
  ·walk_at "rd"
   refine ⟨dl, _, _, _, rfl, rfl, rd s1, g2, ?_⟩
   walk_at "rd"
   obtain ⟨wv, hwv, hwm⟩ := atI_in (xs := zs.map V.str) (i := x2 % 4) (Int.emod_nonneg _ (by decide)) (by rw [List.length_map, lz]; exact Int.emod_lt_of_pos _ (by decide))
   obtain ⟨wd, hwd, rfl⟩ := List.mem_map.mp hwm
   exact ⟨wl, _, _, _, rfl, rfl, SqL.of hW1, hwv, rfl, wd, rfl, hz wd hwd⟩
  rintro σ' G' ⟨rfl, wd, rfl, hwd⟩
  refine ⟨fun σ' G' => G1 = G' ∧ ∃ wd : Str, σ' = [some (.ref l), some (.ref wl), some (.int n), some (.int i), some (.bl fr), some (.ref dl), some (.int num), some (.int day), some (.str wd), none, none, none, none, none, none] ∧ isWord (.str wd) = true, ?_, ?_⟩
  ·walk_at "rd"
   cases fr with
   | false => exact iteF (iteF ⟨rfl, wd, rfl, hwd⟩)
   | true =>
    refine iteT ?_
    walk_at "rd"
    refine ⟨dl, _, _, _, rfl, rfl, rd s1, g2, ?_⟩
    walk_at "rd"
    refine ite2 (fun _ => ?_) (fun _ => ⟨rfl, wd, rfl, hwd⟩)
    walk_at "rd"
    refine ⟨dl, _, _, _, rfl, rfl, rd s1, g8, ?_⟩
    walk_at "rd"
    refine ⟨dl, _, _, _, rfl, rfl, rd s1, g9, ?_⟩
    walk_at "rd"
    exact fun z hz => ⟨rfl, z, rfl, hz⟩
  clear wd hwd
  rintro σ' G' ⟨rfl, wd, rfl, hwd⟩
  refine ⟨fun σ' G' => Same G1 G' ∧ ∃ sh : Int, σ' = [some (.ref l), some (.ref wl), some (.int n), some (.int i), some (.bl fr), some (.ref dl), some (.int num), some (.int day), some (.str wd), some (.int sh), none, none, none, none, none] ∧ 1 ≤ sh ∧ sh ≤ 1000000000, ?_, ?_⟩
  ·walk_at "rd"
   refine ⟨dl, _, _, _, rfl, rfl, rd s1, g3, ?_⟩
   walk_at "rd"
   refine ⟨dl, _, _, _, rfl, rfl, rd s1, g3, ?_⟩
   walk_at "rd"
   refine ⟨le_ble rfl, fun q1 hq1 => ?_⟩
   walk_at "rd"
   refine ⟨dl, _, _, _, rfl, rfl, rd (s1.trans (Same.new hq1)), g4, ?_⟩
   walk_at "rd"
   have u0 := Int.emod_nonneg x3 (b := 9) (by decide)
   have u1 := Int.emod_lt_of_pos x3 (b := 9) (by decide)
   have u2 := Int.emod_nonneg (x3 / 2) (b := 1000000000) (by decide)
   have u3 := Int.emod_lt_of_pos (x3 / 2) (b := 1000000000) (by decide)
   obtain ⟨sv, hsv, hsm⟩ := atI_in (xs := [V.int (1 + x3 % 9), V.int (1 + x3 / 2 % 1000000000)]) (i := x4 % 2) (Int.emod_nonneg _ (by decide)) (by show _ < (2 : Int); exact Int.emod_lt_of_pos _ (by decide))
   obtain ⟨st, rfl, st0, st1⟩ : ∃ st : Int, sv = .int st ∧ 1 ≤ st ∧ st ≤ 1000000000 := by
    simp only [List.mem_cons, List.not_mem_nil, or_false] at hsm
    rcases hsm with rfl | rfl
    ·exact ⟨_, rfl, by omega, by omega⟩
    ·exact ⟨_, rfl, by omega, by omega⟩
   exact ⟨q1, _, _, _, rfl, rfl, SqL.of upd_same, hsv, Same.new hq1, st, rfl, st0, st1⟩
  rintro σ' G2 ⟨s2, sh, rfl, sh0, sh1⟩
  have s12 := s1.trans s2
  refine ⟨fun σ' G' => G2 = G' ∧ ∃ kd : Bool, σ' = [some (.ref l), some (.ref wl), some (.int n), some (.int i), some (.bl fr), some (.ref dl), some (.int num), some (.int day), some (.str wd), some (.int sh), some (.bl kd), none, none, none, none], ?_, ?_⟩
  ·walk_at "rd"
   refine ⟨dl, _, _, _, rfl, rfl, rd s12, g4, ?_⟩
   walk_at "rd"
   first | done | exact rfl | exact ⟨_, rfl⟩ | exact ⟨rfl, _, rfl⟩
  rintro σ' G' ⟨rfl, kd, rfl⟩
  have sH2 := sH.trans s2
  have hL2 := sH2 _ _ hL
  have hR2 := hR.same sH2
  have first : ∀ (G : Hp) q, Same G2 G → G q = none → Q (.ref q) (upd G q (.lst [.int num, .int day, .str (Str.ofString "genus"), .str wd, .non, .int sh, .non, .bl kd])) := fun G q s hq => by
   refine k (.ref q) ⟨num, day, Str.ofString "genus", wd, none, some sh, none, kd⟩ _ ((sH2.trans s).trans (Same.new hq)) ⟨q, rfl, upd_same⟩ ⟨okE_of (inR_of nn1 (by show num ≤ 1000000000; omega)) (inR_of dd1 (by show day ≤ 1000000; omega)) (by show isRank (.str (Str.ofString "genus")) = true; decide +kernel) hwd (by show underFits (.str (Str.ofString "genus")) .non = true; rw [under_g]; exact decide_eq_true rfl) (by show tieFits _ _ .non = true; rw [tie_n]; exact inR_of sh0 sh1), nw, nn1, nn2, dd1, dd2, la⟩
  walk_at "rd"
  refine ite2 (fun _ => iteT ?_) (fun _ => ?_)
  ·walk_at "rd"
   exact ⟨le_ble rfl, fun q hq => first _ q (Same.refl _) hq⟩
  walk_at "rd"
  refine ⟨le_ble rfl, fun q0 hq0 => ?_⟩
  have t0 := Same.new (o := HO.lst []) hq0
  have hL3 := t0 _ _ hL2
  have hR3 := hR2.same t0
  refine ⟨0, _, by decide, seqNil (SqL.of hL3) (SqL.of upd_same), _, rfl, ?_⟩
  generalize upd G2 q0 (.lst []) = G3 at t0 hL3 hR3 ⊢
  refine iteB (fun _ => ?_) (fun he => ?_)
  ·walk_at "rd"
   exact ⟨le_ble rfl, fun q hq => first _ q t0 hq⟩
  have ene : es ≠ [] := fun z => by
   have : ws = [] := List.eq_nil_of_length_eq_zero (by rw [lw, z]; rfl)
   rw [this] at he
   cases he
  clear first
  have s3 := s12.trans t0
  have sH3 := sH2.trans t0
  refine ⟨fun σ' G' => Same G3 G' ∧ ∃ rk : Str, σ' = [some (.ref l), some (.ref wl), some (.int n), some (.int i), some (.bl fr), some (.ref dl), some (.int num), some (.int day), some (.str wd), some (.int sh), some (.bl kd), some (.str rk), none, none, none] ∧ isRank (.str rk) = true ∧ rk ≠ Str.ofString "genus", ?_, ?_⟩
  ·walk_at "rd"
   refine ⟨le_ble rfl, fun q1 hq1 => ?_⟩
   walk_at "rd"
   have pickR : ∀ b : Bool, ∃ rk : Str, atI [V.str (Str.ofString "species"), V.str (Str.ofString "form")] (if b = true then (1 : Int) else 0) = some (.str rk) ∧ isRank (.str rk) = true ∧ rk ≠ Str.ofString "genus" := fun b => by
    cases b
    ·exact ⟨_, atI_nat (j := 0) rfl, by decide +kernel, by decide +kernel⟩
    ·exact ⟨_, atI_nat (j := 1) rfl, by decide +kernel, by decide +kernel⟩
   refine ite2 (fun _ => ?_) (fun _ => ?_)
   ·obtain ⟨rk, h1, h2, h3⟩ := pickR true
    exact .inr ⟨_, rfl, q1, _, _, _, rfl, rfl, SqL.of upd_same, h1, Same.new hq1, rk, rfl, h2, h3⟩
   ·walk_at "rd"
    obtain ⟨rk, h1, h2, h3⟩ := pickR (decide (V.int (n % 6) = V.int 5))
    exact .inr ⟨_, rfl, q1, _, _, _, rfl, rfl, SqL.of upd_same, h1, Same.new hq1, rk, rfl, h2, h3⟩
  rintro σ' G4 ⟨t4, rk, rfl, hrk, rg⟩
  have s4 := s3.trans t4
  have sH4 := sH3.trans t4
  refine ⟨fun σ' G' => Same G4 G' ∧ ∃ u : Int, σ' = [some (.ref l), some (.ref wl), some (.int n), some (.int i), some (.bl fr), some (.ref dl), some (.int num), some (.int day), some (.str wd), some (.int sh), some (.bl kd), some (.str rk), some (.int u), none, none] ∧ 1 ≤ u ∧ u ≤ 1000000000, ?_, ?_⟩
  ·walk_at "rd"
   refine ⟨le_ble rfl, fun q1 hq1 => ?_⟩
   walk_at "rd"
   have pickR : ∀ b : Bool, ∃ rk : Str, atI [V.str (Str.ofString "genus"), V.str (Str.ofString "species")] (if b = true then (1 : Int) else 0) = some (.str rk) := fun b => by
    cases b
    ·exact ⟨_, atI_nat (j := 0) rfl⟩
    ·exact ⟨_, atI_nat (j := 1) rfl⟩
   obtain ⟨r1, h1⟩ := pickR (decide (V.str rk = V.str (Str.ofString "form")))
   have tq := Same.new (o := HO.lst [V.str (Str.ofString "genus"), V.str (Str.ofString "species")]) hq1
   refine .inr ⟨_, rfl, q1, _, _, _, rfl, rfl, SqL.of upd_same, h1, ?_⟩
   generalize upd G4 q1 (.lst [V.str (Str.ofString "genus"), V.str (Str.ofString "species")]) = G5 at tq ⊢
   walk_at "rd"
   refine ⟨dl, _, _, _, rfl, rfl, rd (s4.trans tq), g5, ?_⟩
   walk_at "rd"
   refine ⟨dl, _, _, _, rfl, rfl, rd (s4.trans tq), g6, ?_⟩
   refine ⟨l, ws, es, r1, x5, x6, rfl, (sH4.trans tq) _ _ hL, hR.same (sH4.trans tq), hB, ene, fun u G6 s6 u0 u1 => ?_⟩
   exact ⟨tq.trans s6, u, rfl, u0, u1⟩
  rintro σ' G5 ⟨t5, u, rfl, u0, u1⟩
  have s5 := s4.trans t5
  have sH5 := sH4.trans t5
  refine ⟨fun σ' G' => G5 = G' ∧ ∃ u : Int, σ' = [some (.ref l), some (.ref wl), some (.int n), some (.int i), some (.bl fr), some (.ref dl), some (.int num), some (.int day), some (.str wd), some (.int sh), some (.bl kd), some (.str rk), some (.int u), none, none] ∧ 1 ≤ u ∧ u ≤ 1000000000, ?_, ?_⟩
  ·walk_at "rd"
   refine ⟨dl, _, _, _, rfl, rfl, rd s5, g4, ?_⟩
   walk_at "rd"
   refine ite2 (fun _ => ?_) (fun _ => ⟨rfl, u, rfl, u0, u1⟩)
   exact ⟨_, rfl, rfl, num, rfl, nn1, by omega⟩
  clear u0 u1
  rintro σ' G' ⟨rfl, u', rfl, u0, u1⟩
  walk_at "rd"
  have nN : num ≤ 1000000000 := by omega
  have dN : day ≤ 1000000 := by omega
  have uF : underFits (.str rk) (.int u') = true := by rw [under_n rg]; exact inR_of u0 u1
  refine ite2 (fun _ => ?_) (fun _ => ?_)
  ·walk_at "rd"
   refine ⟨le_ble rfl, fun q hq => ?_⟩
   exact k (.ref q) ⟨num, day, rk, wd, some u', some sh, none, kd⟩ _ (sH5.trans (Same.new hq)) ⟨q, rfl, upd_same⟩ ⟨okE_of (inR_of nn1 nN) (inR_of dd1 dN) hrk hwd uF (by show tieFits _ _ .non = true; rw [tie_n]; exact inR_of sh0 sh1), nw, nn1, nn2, dd1, dd2, la⟩
  walk_at "rd"
  refine ⟨dl, _, _, _, rfl, rfl, rd s5, g4, ?_⟩
  walk_at "rd"
  refine ⟨dl, _, _, _, rfl, rfl, rd s5, g7, ?_⟩
  refine ⟨l, ws, es, rk, x4 / 372, x7, rfl, sH5 _ _ hL, hR.same sH5, hB, ene, fun v e G6 s6 em hv => ?_⟩
  obtain ⟨ra, rfl, hrow⟩ := hv
  have f0 : atI (rowB e) 0 = some (.int e.n) := atI_nat (j := 0) rfl
  have f3 : atI (rowB e) 3 = some (.str e.w) := atI_nat (j := 3) rfl
  have sd6 := s5.trans s6
  have sH6 := sH5.trans s6
  have en := hB.nn e em
  refine ⟨fun σ' G' => G6 = G' ∧ ∃ wd : Str, σ' = [some (.ref l), some (.ref wl), some (.int n), some (.int i), some (.bl fr), some (.ref dl), some (.int num), some (.int day), some (.str wd), some (.int sh), some (.bl kd), some (.str rk), some (.int u'), some (.ref ra), none] ∧ isWord (.str wd) = true, ?_, ?_⟩
  ·walk_at "rd"
   refine ⟨dl, _, _, _, rfl, rfl, rd sd6, g4, ?_⟩
   walk_at "rd"
   refine ite2 (fun _ => ?_) (fun _ => ⟨rfl, wd, rfl, hwd⟩)
   walk_at "rd"
   exact ⟨ra, _, _, _, rfl, rfl, SqL.of hrow, f3, rfl, e.w, rfl, okE_word (hB.ok e em)⟩
  rintro σ' G' ⟨rfl, wd', rfl, hwd'⟩
  walk_at "rd"
  refine ⟨ra, _, _, _, rfl, rfl, SqL.of hrow, f0, ?_⟩
  refine ⟨fun σ' G' => Same G6 G' ∧ ∃ rt : Int, σ' = [some (.ref l), some (.ref wl), some (.int n), some (.int i), some (.bl fr), some (.ref dl), some (.int num), some (.int day), some (.str wd'), some (.int sh), some (.bl kd), some (.str rk), some (.int u'), some (.ref ra), some (.int rt)] ∧ 1 ≤ rt ∧ rt ≤ 1000000000, ?_, ?_⟩
  ·walk_at "rd"
   refine ⟨dl, _, _, _, rfl, rfl, rd sd6, g2, ?_⟩
   walk_at "rd"
   refine ite2 (fun _ => ?_) (fun _ => ⟨Same.refl _, e.n, rfl, by omega, by omega⟩)
   walk_at "rd"
   refine ⟨dl, _, _, _, rfl, rfl, rd sd6, g7, ?_⟩
   walk_at "rd"
   refine ⟨le_ble rfl, fun q1 hq1 => ?_⟩
   walk_at "rd"
   refine ⟨dl, _, _, _, rfl, rfl, rd (sd6.trans (Same.new hq1)), g2, ?_⟩
   walk_at "rd"
   have v0 := Int.emod_nonneg x7 (b := 1000000000) (by decide)
   have v1 := Int.emod_lt_of_pos x7 (b := 1000000000) (by decide)
   have v2 := Int.emod_nonneg num (b := 1000000000) (by decide)
   have v3 := Int.emod_lt_of_pos num (b := 1000000000) (by decide)
   obtain ⟨sv, hsv, hsm⟩ := atI_in (xs := [V.int (1 + x7 % 1000000000), V.int num, V.int (num % 1000000000 + 1)]) (i := x2 / 140 % 3) (Int.emod_nonneg _ (by decide)) (by show _ < (3 : Int); exact Int.emod_lt_of_pos _ (by decide))
   obtain ⟨st, rfl, st0, st1⟩ : ∃ st : Int, sv = .int st ∧ 1 ≤ st ∧ st ≤ 1000000000 := by
    simp only [List.mem_cons, List.not_mem_nil, or_false] at hsm
    rcases hsm with rfl | rfl | rfl
    ·exact ⟨_, rfl, by omega, by omega⟩
    ·exact ⟨_, rfl, nn1, nN⟩
    ·exact ⟨_, rfl, by omega, by omega⟩
   exact ⟨q1, _, _, _, rfl, rfl, SqL.of upd_same, hsv, Same.new hq1, st, rfl, st0, st1⟩
  rintro σ' G7 ⟨t7, rt, rfl, rt0, rt1⟩
  walk_at "rd"
  refine ⟨le_ble rfl, fun q hq => ?_⟩
  exact k (.ref q) ⟨num, day, rk, wd', some u', none, some rt, kd⟩ _ ((sH6.trans t7).trans (Same.new hq)) ⟨q, rfl, upd_same⟩ ⟨okE_of (inR_of nn1 nN) (inR_of dd1 dN) hrk hwd' uF (by show tieFits (.str rk) .non (.int rt) = true; rw [tie_b _ _ (by intro z; cases z), decide_eq_false (fun z => rg (V.str.inj z)), decide_eq_true rfl, inR_of rt0 rt1]; rfl), nw, nn1, nn2, dd1, dd2, la⟩
set_option maxHeartbeats 4000000 in
theorem ok_Lbook (T : Txt w K mg c) : FnOk P w K mg base CX0 4 c.a_Lbook c.d_Lbook ["_law_script", "_law_start"] (spBookB K) := by
 refine T.Lbook.fn.ok sc_Lbook (fun vs H Q E h => ?_) (fun cdv A outer s H vs Q E hr h => ?_)
 ·obtain ⟨a, st, ns, rfl, _⟩ := h
  rfl
 ·obtain ⟨a, st, ns, rfl, st0, st1, hS, hn, k⟩ := h
  refine ⟨_, (pss_cut (ps_set (i := 2) sc_Lbook.nd rfl (Or.inl rfl) (pe_cmpR op_eq (pe_op op_mod (pe_call (ok_Lcell_at T) (hr.mono (by decide)) rfl T.Lcell_at.mgf T.Lcell_at.kp T.Lcell_at.bi .nil pass0 (pa_cons (pv 0) (pa_cons pe_int pa_nil))) pe_int) pe_int (nomark _)))
   (pss_cons (ps_set (i := 3) sc_Lbook.nd rfl (Or.inl rfl) (pe_call (ok_Lwords T) (hr.mono (by decide)) rfl T.Lwords.mgf T.Lwords.kp T.Lwords.bi .nil pass0 (pa_cons (pe_op op_fdiv (pe_call (ok_Lcell_at T) (hr.mono (by decide)) rfl T.Lcell_at.mgf T.Lcell_at.kp T.Lcell_at.bi .nil pass0 (pa_cons (pv 0) (pa_cons pe_int pa_nil))) pe_int) (pa_cons (pv 2) pa_nil))))
   (pss_cons (ps_set (i := 4) sc_Lbook.nd rfl (Or.inl rfl) (pe_lst pa_nil))
   (pss_cons (ps_for PassesOwn.never rfl (pi_range2 rfl T.no_range (pa_cons (pv 1) (pa_cons (pe_callB (call_min2 rfl) rfl T.no_min bt_min (pa_cons (pe_callB call_len_seq rfl T.no_len bt_len (pa_cons (pv 0) pa_nil)) (pa_cons pe_int pa_nil))) pa_nil))) (pg_name (i := 5) sc_Lbook.nd rfl (Or.inl rfl))
    (pss_one (ps_expr (pe_bm PySem.F.plainAttrs_list PySem.F.slot_list_append PySem.F.type_list_append (MtM.r mt_append) (pv 4) (pa_cons (pe_call (ok_Lentry T) (hr.mono (by decide)) rfl T.Lentry.mgf T.Lentry.kp T.Lentry.bi .nil pass0 (pa_cons (pv 4) (pa_cons (pv 3) (pa_cons (pe_ix ix_list (pv 0) (pv 5) (fun _ _ => rfl)) (pa_cons (pv 5) (pa_cons (pv 2) pa_nil)))))) pa_nil)))))
   (pss_one (ps_ret (pv 4))))))), ?_⟩
  have sz : 2000 < sizeLine := le_ble rfl
  have lm : (ns.map V.int).length = ns.length := List.length_map ..
  refine ⟨fun σ' G' => H = G' ∧ ∃ fr : Bool, σ' = [some (.ref a), some (.int st), some (.bl fr), none, none, none], ?_, ?_⟩
  ·refine ⟨_, rfl, a, 0, ns, rfl, by decide, hS, fun c0 => ?_⟩
   walk_at "rd"
   first | done | exact rfl | exact ⟨_, rfl⟩ | exact ⟨rfl, _, rfl⟩
  rintro σ' G' ⟨rfl, fr, rfl⟩
  walk_at "rd"
  refine ⟨a, 0, ns, rfl, by decide, hS, fun c1 => ?_⟩
  walk_at "rd"
  refine fun zs wl G0 lz hw s0 hwl hWl => ?_
  walk_at "rd"
  refine ⟨le_ble rfl, fun l hl => ?_⟩
  have s1 := s0.trans (Same.new (o := HO.lst []) hl)
  have k1 := upd_same (H := G0) (a := l) (o := .lst [])
  have kW := Same.new (o := HO.lst []) hl _ _ hWl
  have nHl : H l = none := s0.free hl
  have nwl : wl ≠ l := ne_of_none hWl hl
  generalize upd G0 l (.lst []) = G1 at s1 k1 kW ⊢
  walk_at "rd"
  refine ⟨a, _, rfl, .inl (s1.seq hS), ?_⟩
  walk_at "rd"
  have hm2 : (if (84 : Int) < ((ns.map V.int).length : Int) then (84 : Int) else ((ns.map V.int).length : Int)) ≤ ns.length ∧ 0 ≤ (if (84 : Int) < ((ns.map V.int).length : Int) then (84 : Int) else ((ns.map V.int).length : Int)) := by
   split <;> omega
  generalize (if (84 : Int) < ((ns.map V.int).length : Int) then (84 : Int) else ((ns.map V.int).length : Int)) = hi at hm2 ⊢
  refine ⟨⟨by omega, by omega, by omega, by omega⟩, ?_⟩
  refine for_range (lo := st) (fun i σ G => Same H G ∧ ∃ (z5 : Option V) (ws : List V) (es : List En), σ = [some (.ref a), some (.int st), some (.bl fr), some (.ref wl), some (.ref l), z5] ∧ G wl = some (.lst (zs.map V.str)) ∧ G l = some (.lst ws) ∧ RowsB G ws es ∧ BkB es ∧ es.length = i) ?_ ?_ ?_
  ·exact ⟨s1, _, [], [], rfl, kW, k1, ⟨rfl, fun j v e h => nomatch h⟩, BkB.nil, rfl⟩
  ·rintro i σ G hi' ⟨sG, z5, ws, es, rfl, hW, hL, hR, hB, le⟩
   have lw : ws.length = i := by rw [hR.1]; exact le
   obtain ⟨v1, hv1, hm1⟩ := atI_in (xs := ns.map V.int) (i := st + (i : Int)) (by omega) (by omega)
   obtain ⟨c2, _, rfl⟩ := List.mem_map.mp hm1
   refine ⟨_, rfl, .inl ⟨rfl, _, SqL.of hL⟩, ?_⟩
   walk_at "rd"
   refine ⟨a, _, _, _, rfl, rfl, sG.seq hS, hv1, ?_⟩
   walk_at "rd"
   refine ⟨l, ws, es, wl, zs, c2, st + (i : Int), fr, rfl, hL, hR, hB, by omega, hW, lz, hw, by omega, by omega, fun v e G2 s2 hv ne => ?_⟩
   walk_at "rd"
   obtain ⟨ra, rfl, hrow⟩ := hv
   have hL2 := s2 _ _ hL
   have hR2 := hR.same s2
   have nra : ra ≠ l := RowB.ne hR2 hL2 hrow
   refine ⟨l, _, _, rfl, rfl, hL2, by omega, ?_⟩
   have mv : ∀ v x, RowB G2 v x → RowB (upd G2 l (.lst (ws ++ [.ref ra]))) v x := fun v x h => by
    obtain ⟨b, e1, h1⟩ := h
    exact ⟨b, e1, by rw [upd_ne (RowB.ne hR2 hL2 h1)]; exact h1⟩
   refine ⟨same_put nHl (sG.trans s2), _, ws ++ [.ref ra], es ++ [e], rfl, by rw [upd_ne nwl]; exact s2 _ _ hW, upd_same, ?_, hB.add ne (by omega), by rw [List.length_append, le]; rfl⟩
   exact rel_push ⟨hR2.1, fun j v x h1 h2 => mv v x (hR2.2 j v x h1 h2)⟩ (mv _ _ ⟨ra, rfl, hrow⟩)
  ·rintro σ G ⟨sG, z5, ws, es, rfl, hW, hL, hR, hB, le⟩
   exact ⟨_, rfl, k l ws es G sG hL hR hB (by omega)⟩
set_option maxHeartbeats 4000000 in
theorem ok_Lwhole (T : Txt w K mg c) : FnOk P w K mg base CX0 1 c.a_Lwhole c.d_Lwhole ["_law_found"] (spW K) := by
 refine T.Lwhole.fn.ok sc_Lwhole (fun vs H Q E h => ?_) (fun cdv A outer s H vs Q E hr h => ?_)
 ·obtain ⟨x, rfl, _⟩ := h
  rfl
 ·obtain ⟨x, rfl, ow, k⟩ := h
  refine ⟨_, (pss_one (ps_ret (pe_and (pe_callB call_isiA rfl T.no_isinstance bt_isinstance (pa_cons (pv 0) (pa_cons (pe_bltn (v := .ty "int") rfl T.no_int bt_int rfl) pa_nil))) (pe_one (pe_not (pe_callB call_isiA rfl T.no_isinstance bt_isinstance (pa_cons (pv 0) (pa_cons (pe_bltn (v := .ty "bool") rfl T.no_bool bt_bool rfl) pa_nil)))))))), ?_⟩
  refine ⟨x, rfl, rIsiA.int ow ⟨_, rfl, ?_⟩⟩
  cases x with
  | int i => exact iteT ⟨_, rfl, rIsiA.bool ow ⟨_, rfl, k⟩⟩
  | bl b => exact iteT ⟨_, rfl, rIsiA.bool ow ⟨_, rfl, k⟩⟩
  | _ => exact iteF k
set_option maxHeartbeats 4000000 in
theorem ok_Lmade (T : Txt w K mg c) : FnOk P w K mg base CX0 6 c.a_Lmade c.d_Lmade ["_law_book_here"] (spMade c.c_Entry) := by
 refine T.Lmade.fn.ok sc_Lmade (fun vs H Q E h => ?_) (fun cdv A outer s H vs Q E hr h => ?_)
 ·obtain ⟨l, ws, es, rfl, _⟩ := h
  rfl
 ·obtain ⟨l, ws, es, rfl, hL, hR, okk, l84, k⟩ := h
  refine ⟨_, (pss_cons (ps_set (i := 1) sc_Lmade.nd rfl (Or.inl rfl) (pe_lst pa_nil))
   (pss_cons (ps_for PassesOwn.never rfl (pi_list (pv 0)) (pg_name (i := 2) sc_Lmade.nd rfl (Or.inl rfl))
    (pss_one (ps_expr (pe_bm PySem.F.plainAttrs_list PySem.F.slot_list_append PySem.F.type_list_append (MtM.r mt_append) (pv 1) (pa_cons (pe_makeS T.mk_Entry (ok_Entry_init T) (hr.mono (by decide)) rfl T.mg_Entry T.b_Entry_8 passE0 (pa_cons (pe_ix ix_list (pv 2) pe_int (fun _ _ => rfl)) (pa_cons (pe_ix ix_list (pv 2) pe_int (fun _ _ => rfl)) (pa_cons (pe_ix ix_list (pv 2) pe_int (fun _ _ => rfl)) (pa_cons (pe_ix ix_list (pv 2) pe_int (fun _ _ => rfl)) (pa_cons (pe_ix ix_list (pv 2) pe_int (fun _ _ => rfl)) (pa_cons (pe_ix ix_list (pv 2) pe_int (fun _ _ => rfl)) (pa_cons (pe_ix ix_list (pv 2) pe_int (fun _ _ => rfl)) (pa_cons (pe_ix ix_list (pv 2) pe_int (fun _ _ => rfl)) pa_nil)))))))) pk_nil) pa_nil)))))
   (pss_one (ps_ret (pv 1))))), ?_⟩
  have sz : 2000 < sizeLine := le_ble rfl
  have lw := hR.1
  refine ⟨le_ble rfl, fun q hq => ?_⟩
  have s0 := Same.new (o := HO.lst []) hq
  have k0 := upd_same (H := H) (a := q) (o := .lst [])
  generalize upd H q (.lst []) = G0 at s0 k0 ⊢
  refine ⟨_, rfl, l, rfl, ⟨_, SqL.of (s0 _ _ hL)⟩, ?_⟩
  refine for_list (xs := ws) (fun i σ G => Same H G ∧ ∃ (z2 : Option V) (acc : List V), σ = [some (.ref l), some (.ref q), z2] ∧ G q = some (.lst acc) ∧ acc.length = i ∧ EntsAt G c.c_Entry acc (es.take i)) ?_ ?_ ?_ ?_
  ·exact ⟨s0, _, [], rfl, k0, rfl, rfl, fun j v e h => nomatch h⟩
  ·rintro i σ G _ ⟨sG, _⟩
   exact SqL.of (sG _ _ hL)
  ·rintro i x σ G hx ⟨sG, z2, acc, rfl, h1, h2, h3⟩
   have hi : i < ws.length := (List.getElem?_eq_some_iff.mp hx).1
   have hie : i < es.length := by omega
   have ee : es[i]? = some es[i] := List.getElem?_eq_getElem hie
   obtain ⟨ra, rfl, hrow⟩ := hR.2 i x _ hx ee
   have ok1 := okk _ (List.getElem_mem hie)
   rw [take_one ee]
   generalize es[i] = e at hrow ok1
   have hrow := sG _ _ hrow
   have f0 : atI (rowB e) 0 = some (.int e.n) := atI_nat (j := 0) rfl
   have f1 : atI (rowB e) 1 = some (.int e.d) := atI_nat (j := 1) rfl
   have f2 : atI (rowB e) 2 = some (.str e.r) := atI_nat (j := 2) rfl
   have f3 : atI (rowB e) 3 = some (.str e.w) := atI_nat (j := 3) rfl
   have f4 : atI (rowB e) 4 = some (optV e.u) := atI_nat (j := 4) rfl
   have f5 : atI (rowB e) 5 = some (optV e.s) := atI_nat (j := 5) rfl
   have f6 : atI (rowB e) 6 = some (optV e.b) := atI_nat (j := 6) rfl
   have f7 : atI (rowB e) 7 = some (.bl e.k) := atI_nat (j := 7) rfl
   have oO : ∀ (G : Hp) (o : Option Int), Own K G (optV o) := fun G o => by cases o with | none => exact Own.non | some _ => exact Own.int
   have fw : fits (.str e.w) := by
    have := (isWord_le (okE_word ok1)).1
    show e.w.length ≤ sizeLine
    omega
   have ok2 : why (.int e.n) (.int e.d) (.str e.r) (.str e.w) (optV e.u) (optV e.s) (optV e.b) = 0 := ok1
   refine ⟨_, rfl, .inl ⟨rfl, _, SqL.of h1⟩, ?_⟩
   refine ⟨_, rfl, ra, _, _, _, rfl, rfl, SqL.of hrow, f0, ?_⟩
   refine ⟨_, rfl, ra, _, _, _, rfl, rfl, SqL.of hrow, f1, ?_⟩
   refine ⟨_, rfl, ra, _, _, _, rfl, rfl, SqL.of hrow, f2, ?_⟩
   refine ⟨_, rfl, ra, _, _, _, rfl, rfl, SqL.of hrow, f3, ?_⟩
   refine ⟨_, rfl, ra, _, _, _, rfl, rfl, SqL.of hrow, f4, ?_⟩
   refine ⟨_, rfl, ra, _, _, _, rfl, rfl, SqL.of hrow, f5, ?_⟩
   refine ⟨_, rfl, ra, _, _, _, rfl, rfl, SqL.of hrow, f6, ?_⟩
   refine ⟨_, rfl, ra, _, _, _, rfl, rfl, SqL.of hrow, f7, ?_⟩
   refine ⟨rfl, rfl, fun x dx hx hdx ne => ?_⟩
   refine ⟨x, dx, .int e.n, .int e.d, .str e.r, .str e.w, optV e.u, optV e.s, optV e.b, .bl e.k, rfl, upd_same, Own.int, Own.int, Own.str, Own.str, fw, oO _ _, oO _ _, oO _ _, fun G1 s1 => ⟨fun _ => ⟨rfl, ?_⟩, fun h => absurd ok2 h⟩⟩
   have s2 := Same.upd (o := .ins c.c_Entry dx (fieldsE e)) ((Same.made hx hdx ne).trans s1) hx
   have he : EntAt (upd G1 x (.ins c.c_Entry dx (fieldsE e))) c.c_Entry (.ref x) e := ⟨x, dx, rfl, upd_same⟩
   have ef : fields (.int e.n) (.int e.d) (.str e.r) (.str e.w) (optV e.u) (optV e.s) (optV e.b) (.bl e.k) = fieldsE e := rfl
   rw [ef]
   generalize upd G1 x (.ins c.c_Entry dx (fieldsE e)) = G2 at s2 he ⊢
   have mv : ∀ v y, EntAt G2 c.c_Entry v y → EntAt (upd G2 q (.lst (acc ++ [.ref x]))) c.c_Entry v y := fun v y h => h.keep fun t dx fs ht => by rw [upd_ne (ne_of ht (s2 _ _ h1) (by intro z; cases z))]; exact ht
   refine ⟨q, _, _, rfl, rfl, s2 _ _ h1, by omega, same_put hq (sG.trans s2), _, acc ++ [.ref x], rfl, upd_same, by rw [List.length_append, h2]; rfl, ?_⟩
   have h3' := h3.same s2
   exact rel_push ⟨h3'.1, fun j v y a b => mv v y (h3'.2 j v y a b)⟩ (mv _ _ he)
  ·rintro σ G ⟨sG, z2, acc, rfl, h1, h2, h3⟩
   rw [lw, List.take_of_length_le (Nat.le_refl _)] at h3
   exact ⟨_, rfl, k q acc G sG hq h1 h3⟩
set_option maxHeartbeats 4000000 in
theorem ok_Lis_entry (T : Txt w K mg c) : FnOk P w K mg base CX0 2 c.a_Lis_entry c.d_Lis_entry ["_law_entry_here", "_law_one"] (spIsEntry c.c_Entry) := by
 refine T.Lis_entry.fn.ok sc_Lis_entry (fun vs H Q E h => ?_) (fun cdv A outer s H vs Q E hr h => ?_)
 ·obtain ⟨v, r, e, rfl, _⟩ := h
  rfl
 ·obtain ⟨v, r, e, rfl, hv, hw, k⟩ := h
  refine ⟨_, (pss_cons (ps_if (PW.pt (pw_or (pt_not (pt_val (pe_callB call_isiA rfl T.no_isinstance bt_isinstance (pa_cons (pv 0) (pa_cons (pe_glob (v := .ref c.c_Entry) rfl T.mg_Entry rfl) pa_nil))))) (pw_or (pt_not (pt_val (pe_call (ok_Lwhole T) (hr.mono (by decide)) rfl T.Lwhole.mgf T.Lwhole.kp T.Lwhole.bi .nil pass0 (pa_cons (pe_fld (pv 0) rfl) pa_nil)))) (pw_or1 (pt_not (pt_val (pe_call (ok_Lwhole T) (hr.mono (by decide)) rfl T.Lwhole.mgf T.Lwhole.kp T.Lwhole.bi .nil pass0 (pa_cons (pe_fld (pv 0) rfl) pa_nil))))))))
    (pss_one (ps_ret pe_bl))
    pss_nil)
   (pss_cons (ps_set (i := 2) sc_Lis_entry.nd rfl (Or.inl rfl) (pe_lst (pa_cons (pe_fld (pv 0) rfl) (pa_cons (pe_fld (pv 0) rfl) (pa_cons (pe_fld (pv 0) rfl) (pa_cons (pe_fld (pv 0) rfl) (pa_cons (pe_fld (pv 0) rfl) (pa_cons (pe_fld (pv 0) rfl) (pa_cons (pe_fld (pv 0) rfl) pa_nil)))))))))
   (pss_one (ps_ret (pe_and (pe_cmpR (op_eqD (hu62 hr)) (pv 2) (pe_slice sl_list (pv 1) po_none (po_some pe_int)) (nomark _)) (pe_and (pe_callB call_isiA rfl T.no_isinstance bt_isinstance (pa_cons (pe_fld (pv 0) rfl) (pa_cons (pe_bltn (v := .ty "bool") rfl T.no_bool bt_bool rfl) pa_nil))) (pe_one (pe_cmpR op_eq (pe_fld (pv 0) rfl) (pe_ix ix_list (pv 1) pe_int (fun _ _ => rfl)) (nomark _))))))))), ?_⟩
  obtain ⟨a, dx, rfl, ha⟩ := hv
  obtain ⟨ra, rfl, hra⟩ := hw
  have f7 : atI (rowB e) 7 = some (.bl e.k) := atI_nat (j := 7) rfl
  refine ⟨_, rfl, rIsiA.ins ha T.cl_Entry T.w_Entry T.ws_Entry ⟨_, rfl, iteF ?_⟩⟩
  refine ⟨_, rfl, a, _, dx, _, _, rfl, ha, T.cl_Entry, T.na_Entry_number, rfl, _, rfl, Own.int, _, rfl, iteF ?_⟩
  refine ⟨_, rfl, a, _, dx, _, _, rfl, ha, T.cl_Entry, T.na_Entry_day, rfl, _, rfl, Own.int, _, rfl, iteF ?_⟩
  refine ⟨_, rfl, a, _, dx, _, _, rfl, ha, T.cl_Entry, T.na_Entry_number, rfl, ?_⟩
  refine ⟨_, rfl, a, _, dx, _, _, rfl, ha, T.cl_Entry, T.na_Entry_day, rfl, ?_⟩
  refine ⟨_, rfl, a, _, dx, _, _, rfl, ha, T.cl_Entry, T.na_Entry_rank, rfl, ?_⟩
  refine ⟨_, rfl, a, _, dx, _, _, rfl, ha, T.cl_Entry, T.na_Entry_word, rfl, ?_⟩
  refine ⟨_, rfl, a, _, dx, _, _, rfl, ha, T.cl_Entry, T.na_Entry_under, rfl, ?_⟩
  refine ⟨_, rfl, a, _, dx, _, _, rfl, ha, T.cl_Entry, T.na_Entry_sheet, rfl, ?_⟩
  refine ⟨_, rfl, a, _, dx, _, _, rfl, ha, T.cl_Entry, T.na_Entry_base, rfl, ?_⟩
  refine ⟨le_ble rfl, fun q hq => ?_⟩
  have s1 := Same.new (o := HO.lst (row7 e)) hq
  have k1 : upd H q (.lst (row7 e)) q = some (.lst (row7 e)) := upd_same
  have e7 : upd H q (.lst [.int e.n, .int e.d, .str e.r, .str e.w, optV e.u, optV e.s, optV e.b]) = upd H q (.lst (row7 e)) := rfl
  first | rw [e7] | skip
  generalize upd H q (.lst (row7 e)) = G1 at s1 k1 ⊢
  refine ⟨_, rfl, _, rfl, _, rfl, ra, _, rfl, SqL.of (s1 _ _ hra), fun p hp => ?_⟩
  rw [cut7]
  have s2 := Same.new (o := HO.lst (row7 e)) hp
  have k2 : upd G1 p (.lst (row7 e)) p = some (.lst (row7 e)) := upd_same
  have k1 := s2 _ _ k1
  have s12 := s1.trans s2
  generalize upd G1 p (.lst (row7 e)) = G2 at s12 k1 k2 ⊢
  have q7 := SeqEq.flatL (K := K) (n := 0) (SqL.of k1) (SqL.of k2) (flat7 e) (flat7 e)
  rw [eqL_self (flat7 e)] at q7
  refine ⟨0, true, by decide, q7, _, rfl, iteT ?_⟩
  refine ⟨_, rfl, a, _, dx, _, _, rfl, s12 _ _ ha, T.cl_Entry, T.na_Entry_described, rfl, rIsiA.bool Own.bl ⟨_, rfl, iteT ?_⟩⟩
  refine ⟨_, rfl, a, _, dx, _, _, rfl, s12 _ _ ha, T.cl_Entry, T.na_Entry_described, rfl, _, rfl, ra, _, _, _, rfl, rfl, SqL.of (s12 _ _ hra), f7, rfl, ?_⟩
  rw [decide_eq_true rfl]
  exact k _ s12
set_option maxHeartbeats 4000000 in
theorem ok_Lis_book (T : Txt w K mg c) : FnOk P w K mg base CX0 3 c.a_Lis_book c.d_Lis_book ["_law_found", "_law_book_here"] (spIsBook c.c_Entry) := by
 refine T.Lis_book.fn.ok sc_Lis_book (fun vs H Q E h => ?_) (fun cdv A outer s H vs Q E hr h => ?_)
 ·obtain ⟨q, acc, l, ws, es, rfl, _⟩ := h
  rfl
 ·obtain ⟨q, acc, l, ws, es, rfl, hq, hE, hL, hR, k⟩ := h
  refine ⟨_, (pss_cons (ps_if (PW.pt (pw_or (pt_not (pt_val (pe_callB call_isiA rfl T.no_isinstance bt_isinstance (pa_cons (pv 0) (pa_cons (pe_bltn (v := .ty "list") rfl T.no_list bt_list rfl) pa_nil))))) (pw_or1 (pt_cmpR op_ne (pe_callB call_len_seq rfl T.no_len bt_len (pa_cons (pv 0) pa_nil)) (pe_callB call_len_seq rfl T.no_len bt_len (pa_cons (pv 1) pa_nil)) (nomark _)))))
    (pss_one (ps_ret pe_bl))
    pss_nil)
   (pss_cons (ps_for PassesOwn.never rfl (pi_zip rfl T.no_zip (pa_cons (pv 0) (pa_cons (pv 1) pa_nil))) (pg_tup rfl (pgs_cons (pg_name (i := 2) sc_Lis_book.nd rfl (Or.inl rfl)) (pgs_cons (pg_name (i := 3) sc_Lis_book.nd rfl (Or.inl rfl)) pgs_nil)))
    (pss_one (ps_if (pt_not (pt_val (pe_call (ok_Lis_entry T) (hr.mono (by decide)) rfl T.Lis_entry.mgf T.Lis_entry.kp T.Lis_entry.bi .nil pass0 (pa_cons (pv 2) (pa_cons (pv 3) pa_nil)))))
    (pss_one (ps_ret pe_bl))
    pss_nil)))
   (pss_one (ps_ret pe_bl)))), ?_⟩
  have lz : acc.length = ws.length := hE.1.trans hR.1.symm
  refine ⟨_, rfl, rIsiA.ty (.lst hq) rfl ⟨_, rfl, iteF ?_⟩⟩
  refine ⟨_, rfl, q, _, rfl, .inl (SqL.of hq), _, rfl, l, _, rfl, .inl (SqL.of hL), rfl, _, rfl, ?_⟩
  refine ite2 (fun z => ?_) (fun _ => ?_)
  ·exfalso
   rw [lz, decide_eq_true rfl] at z
   exact absurd z (by decide)
  refine ⟨_, rfl, _, rfl, q, l, rfl, ⟨_, SqL.of hq⟩, ⟨_, SqL.of hL⟩, ?_⟩
  refine for_zip (xs := acc) (ys := ws) (fun i σ G => (∃ z2 z3, σ = [some (.ref q), some (.ref l), z2, z3]) ∧ Same H G) ⟨⟨_, _, rfl⟩, Same.refl H⟩ ?_ ?_ ?_
  ·rintro i σ G _ ⟨_, sG⟩
   exact ⟨SqL.of (sG _ _ hq), SqL.of (sG _ _ hL)⟩
  ·rintro i x y T' σ G hx hy ⟨⟨z2, z3, rfl⟩, sG⟩ hT
   have hi : i < ws.length := (List.getElem?_eq_some_iff.mp hy).1
   have hie : i < es.length := by rw [← hR.1]; exact hi
   have ee : es[i]? = some es[i] := List.getElem?_eq_getElem hie
   have hx' := hE.2 i x _ hx ee
   have hy' := hR.2 i y _ hy ee
   have s1 := sG.trans (Same.new (o := HO.tup [x, y]) hT)
   refine ⟨T', _, rfl, SqT.of upd_same, rfl, _, _, rfl, _, _, rfl, rfl, ?_⟩
   generalize upd G T' (.tup [x, y]) = G1 at s1
   exact ⟨_, rfl, _, rfl, x, y, es[i], rfl, hx'.same s1, hy'.same s1, fun G2 s2 => ⟨_, rfl, iteF ⟨⟨_, _, rfl⟩, s1.trans s2⟩⟩⟩
  ·rintro σ G ⟨_, sG⟩
   exact k G sG
set_option maxHeartbeats 4000000 in
theorem ok_fields_of (T : Txt w K mg c) : FnOk P w K mg base CX0 1 c.a_fields_of c.d_fields_of ["entry"] (spFieldsT c.c_Entry) := by
 refine T.fields_of.fn.ok sc_fields_of (fun vs H Q E h => ?_) (fun cdv A outer s H vs Q E hr h => ?_)
 ·obtain ⟨v, e, rfl, _⟩ := h
  rfl
 ·obtain ⟨v, e, rfl, hv, k⟩ := h
  refine ⟨_, (pss_one (ps_ret (pe_tup (pa_cons (pe_fld (pv 0) rfl) (pa_cons (pe_fld (pv 0) rfl) (pa_cons (pe_fld (pv 0) rfl) (pa_cons (pe_fld (pv 0) rfl) (pa_cons (pe_fld (pv 0) rfl) (pa_cons (pe_fld (pv 0) rfl) (pa_cons (pe_fld (pv 0) rfl) (pa_cons (pe_fld (pv 0) rfl) pa_nil))))))))))), ?_⟩
  obtain ⟨a, dx, rfl, ha⟩ := hv
  refine ⟨_, rfl, a, _, dx, _, _, rfl, ha, T.cl_Entry, T.na_Entry_number, rfl, ?_⟩
  refine ⟨_, rfl, a, _, dx, _, _, rfl, ha, T.cl_Entry, T.na_Entry_day, rfl, ?_⟩
  refine ⟨_, rfl, a, _, dx, _, _, rfl, ha, T.cl_Entry, T.na_Entry_rank, rfl, ?_⟩
  refine ⟨_, rfl, a, _, dx, _, _, rfl, ha, T.cl_Entry, T.na_Entry_word, rfl, ?_⟩
  refine ⟨_, rfl, a, _, dx, _, _, rfl, ha, T.cl_Entry, T.na_Entry_under, rfl, ?_⟩
  refine ⟨_, rfl, a, _, dx, _, _, rfl, ha, T.cl_Entry, T.na_Entry_sheet, rfl, ?_⟩
  refine ⟨_, rfl, a, _, dx, _, _, rfl, ha, T.cl_Entry, T.na_Entry_base, rfl, ?_⟩
  refine ⟨_, rfl, a, _, dx, _, _, rfl, ha, T.cl_Entry, T.na_Entry_described, rfl, ?_⟩
  refine ⟨le_ble rfl, fun t ht => k t _ (Same.new ht) ?_⟩
  exact upd_same
set_option maxHeartbeats 4000000 in
theorem ok_same_book (T : Txt w K mg c) : FnOk P w K mg base (CXx P w) 3 c.a_same_book c.d_same_book ["one", "other"] (spSameB K c.c_Entry c.c_NoBook) := by
 refine T.same_book.fn.okx sc_same_book (fun vs H Q E h => ?_) (fun cdv A outer s H vs Q E hr h => ?_)
 ·obtain ⟨x, y, rfl, _⟩ := h
  rfl
 ·obtain ⟨x, y, rfl, h0⟩ := h
  refine ⟨_, (pss_cons (ps_set (i := 2) sc_same_book.nd rfl (Or.inl rfl) (pe_callS (ok_book_list T) (hr.mono (by decide)) rfl T.book_list.mgf T.book_list.kp T.book_list.bi .nil pass_def (pa_cons (pv 0) pa_nil)))
   (pss_cons (ps_set (i := 3) sc_same_book.nd rfl (Or.inl rfl) (pe_callS (ok_book_list T) (hr.mono (by decide)) rfl T.book_list.mgf T.book_list.kp T.book_list.bi .nil pass_def (pa_cons (pv 1) pa_nil)))
   (pss_one (ps_ret (pe_cmpR (op_eqD (hu62 hr)) (pe_comp (N' := ["entry"]) (js := [none]) rfl rfl (by decide +kernel) (by decide +kernel) (free_nil (by decide +kernel)) (cap_nil rfl rfl) (pi_list (pv 2)) (fun B => ⟨(pg_name (i := 0) (show List.Nodup (["entry"] : List Str) by decide +kernel) rfl (Or.inl rfl)), pifs_nil, (pe_call (ok_fields_of T) (hr.mono (by decide)) rfl T.fields_of.mgf T.fields_of.kp T.fields_of.bi .nil pass0 (pa_cons (pv 0) pa_nil))⟩)) (pe_comp (N' := ["entry"]) (js := [none]) rfl rfl (by decide +kernel) (by decide +kernel) (free_nil (by decide +kernel)) (cap_nil rfl rfl) (pi_list (pv 3)) (fun B => ⟨(pg_name (i := 0) (show List.Nodup (["entry"] : List Str) by decide +kernel) rfl (Or.inl rfl)), pifs_nil, (pe_call (ok_fields_of T) (hr.mono (by decide)) rfl T.fields_of.mgf T.fields_of.kp T.fields_of.bi .nil pass0 (pa_cons (pv 0) pa_nil))⟩)) (nomark _)))))), ?_⟩
  have sz : 2000 < sizeLine := le_ble rfl
  rcases h0 with ⟨es, fs, gx, gy, k⟩ | ⟨bad, k⟩ | ⟨es, gx, bad, k⟩
  rotate_left
  ·rcases bad with ⟨l, ws, is, rfl, hL, hI, hz, hb⟩ | ⟨n, ty, hn⟩
   ·exact ⟨_, rfl, _, rfl, .inl ⟨l, ws, is, rfl, hL, hI, hz, fun h => absurd (hb.symm.trans h) (by decide), fun _ G sG => k G (sG)⟩⟩
   ·exact ⟨_, rfl, _, rfl, .inr ⟨n, ty, hn, fun G sG => k G (sG)⟩⟩
  ·obtain ⟨l, ws, rfl, hL, hE, ok, hz, hb⟩ := gx
   refine ⟨_, rfl, _, rfl, .inl ⟨l, ws, es.map some, rfl, hL, hE.its, hz, fun _ q G sG hq hq2 => ?_, fun h => absurd (hb.symm.trans h) (by decide)⟩⟩
   have bad := bad.same sG
   rcases bad with ⟨l', ws', is, rfl, hL, hI, hz, hb⟩ | ⟨n, ty, hn⟩
   ·exact ⟨_, rfl, _, rfl, .inl ⟨l', ws', is, rfl, hL, hI, hz, fun h => absurd (hb.symm.trans h) (by decide), fun _ G sG' => k G (sG.trans sG')⟩⟩
   ·exact ⟨_, rfl, _, rfl, .inr ⟨n, ty, hn, fun G sG' => k G (sG.trans sG')⟩⟩
  obtain ⟨l, ws, rfl, hL, hE, ok, hz, hb⟩ := gx
  obtain ⟨m, us, rfl, hM, hF, ok2, hz2, hb2⟩ := gy
  refine ⟨_, rfl, _, rfl, .inl ⟨l, ws, es.map some, rfl, hL, hE.its, hz, fun _ q1 Ga sa _ hq1 => ?_, fun h => absurd (hb.symm.trans h) (by decide)⟩⟩
  have hE := hE.same sa
  have hF := hF.same sa
  refine ⟨_, rfl, _, rfl, .inl ⟨m, us, fs.map some, rfl, sa _ _ hM, hF.its, hz2, fun _ q2 Gb sb _ hq2 => ?_, fun h => absurd (hb2.symm.trans h) (by decide)⟩⟩
  have hE := hE.same sb
  have hF := hF.same sb
  have hq1 := sb _ _ hq1
  refine ⟨_, rfl, q1, rfl, ⟨_, SqL.of hq1⟩, fun c1 B hlc => ?_⟩
  refine loop_lst (xs := ws) (fun i σ acc G' => (∃ o, σ = [o]) ∧ Same Gb G' ∧ G' c1 = some (.lst acc) ∧ acc.length = i ∧ ∀ (j : Nat) v e, acc[j]? = some v → es[j]? = some e → ∃ t, v = .ref t ∧ G' t = some (.tup (rowB e))) (by omega) ?_ ?_ ?_ ?_
  ·exact ⟨⟨_, rfl⟩, Same.new hlc, upd_same, rfl, fun j v e h => nomatch h⟩
  ·rintro i σ acc G' hi ⟨_, s5, h1, h2, _⟩
   exact ⟨h1, SqL.of (s5 _ _ hq1), by omega⟩
  ·rintro i v σ acc G' hx ⟨⟨o, rfl⟩, s5, h1, h2, h3⟩
   have hi : i < ws.length := (List.getElem?_eq_some_iff.mp hx).1
   have hie : i < es.length := by rw [← hE.1]; exact hi
   have ee : es[i]? = some es[i] := List.getElem?_eq_getElem hie
   have hv := hE.2 i v _ hx ee
   refine ⟨_, rfl, v, _, rfl, hv.same s5, fun t G5 s6 ht => ?_⟩
   refine ⟨s6 _ _ h1, Nx.mk hi ⟨⟨_, rfl⟩, same_put hlc (s5.trans s6), upd_same, by rw [List.length_append, h2]; rfl, fun j v' e hv' he => ?_⟩⟩
   have ntup : ∀ {b : Addr} {xs : List V}, G5 b = some (.tup xs) → b ≠ c1 := fun hb z => by rw [z, s6 _ _ h1] at hb; cases hb
   by_cases hj : j < acc.length
   ·rw [List.getElem?_append_left hj] at hv'
    obtain ⟨t', e1, e2⟩ := h3 j v' e hv' he
    have e2 := s6 _ _ e2
    exact ⟨t', e1, by rw [upd_ne (ntup e2)]; exact e2⟩
   ·rw [List.getElem?_append_right (by omega)] at hv'
    obtain ⟨h6, _⟩ := List.getElem?_eq_some_iff.mp hv'
    have j0 : j - acc.length = 0 := by simpa using h6
    rw [j0] at hv'
    cases Option.some.inj hv'
    have ji : j = i := by omega
    rw [ji, ee] at he
    cases he
    exact ⟨t, rfl, by rw [upd_ne (ntup ht)]; exact ht⟩
  rintro σc accc Gc ⟨_, sc, hc, lc, tc⟩
  have Tc : TupsAt Gc accc es := ⟨lc.trans hE.1, tc⟩
  have hq2 := sc _ _ hq2
  have hF := hF.same sc
  refine ⟨_, rfl, q2, rfl, ⟨_, SqL.of hq2⟩, fun c2 B hlc => ?_⟩
  refine loop_lst (xs := us) (fun i σ acc G' => (∃ o, σ = [o]) ∧ Same Gc G' ∧ G' c2 = some (.lst acc) ∧ acc.length = i ∧ ∀ (j : Nat) v e, acc[j]? = some v → fs[j]? = some e → ∃ t, v = .ref t ∧ G' t = some (.tup (rowB e))) (by omega) ?_ ?_ ?_ ?_
  ·exact ⟨⟨_, rfl⟩, Same.new hlc, upd_same, rfl, fun j v e h => nomatch h⟩
  ·rintro i σ acc G' hi ⟨_, s5, h1, h2, _⟩
   exact ⟨h1, SqL.of (s5 _ _ hq2), by omega⟩
  ·rintro i v σ acc G' hx ⟨⟨o, rfl⟩, s5, h1, h2, h3⟩
   have hi : i < us.length := (List.getElem?_eq_some_iff.mp hx).1
   have hie : i < fs.length := by rw [← hF.1]; exact hi
   have ee : fs[i]? = some fs[i] := List.getElem?_eq_getElem hie
   have hv := hF.2 i v _ hx ee
   refine ⟨_, rfl, v, _, rfl, hv.same s5, fun t G5 s6 ht => ?_⟩
   refine ⟨s6 _ _ h1, Nx.mk hi ⟨⟨_, rfl⟩, same_put hlc (s5.trans s6), upd_same, by rw [List.length_append, h2]; rfl, fun j v' e hv' he => ?_⟩⟩
   have ntup : ∀ {b : Addr} {xs : List V}, G5 b = some (.tup xs) → b ≠ c2 := fun hb z => by rw [z, s6 _ _ h1] at hb; cases hb
   by_cases hj : j < acc.length
   ·rw [List.getElem?_append_left hj] at hv'
    obtain ⟨t', e1, e2⟩ := h3 j v' e hv' he
    have e2 := s6 _ _ e2
    exact ⟨t', e1, by rw [upd_ne (ntup e2)]; exact e2⟩
   ·rw [List.getElem?_append_right (by omega)] at hv'
    obtain ⟨h6, _⟩ := List.getElem?_eq_some_iff.mp hv'
    have j0 : j - acc.length = 0 := by simpa using h6
    rw [j0] at hv'
    cases Option.some.inj hv'
    have ji : j = i := by omega
    rw [ji, ee] at he
    cases he
    exact ⟨t, rfl, by rw [upd_ne (ntup ht)]; exact ht⟩
  rintro σd accd Gd ⟨_, sd, hd, ld, td⟩
  have Td : TupsAt Gd accd fs := ⟨ld.trans hF.1, td⟩
  obtain ⟨b, hb', hs⟩ := tups_eq (K := K) (sd _ _ hc) hd (Tc.same sd) Td
  exact ⟨1, b, by decide, hs, k b _ (sa.trans (sb.trans (sc.trans sd))) hb'⟩
set_option maxHeartbeats 4000000 in
theorem ok_Lfault (T : Txt w K mg c) : FnOk P w K mg base CX0 6 c.a_Lfault c.d_Lfault ["_law_entries", "_law_book_here", "_law_way", "_law_mixed_here"] (spFault K c.c_Entry) := by
 refine T.Lfault.fn.ok sc_Lfault (fun vs H Q E h => ?_) (fun cdv A outer s H vs Q E hr h => ?_)
 ·obtain ⟨q, acc, l, ws, es, i, m, rfl, _⟩ := h
  rfl
 ·obtain ⟨q, acc, l, ws, es, i, m, rfl, hq, hE, hL, hR, hB, i0, i1, m0, k⟩ := h
  refine ⟨_, (pss_cut (ps_set (i := 4) sc_Lfault.nd rfl (Or.inl rfl) (pe_op op_mod (pv 3) (pe_op op_add (pe_callB call_len_seq rfl T.no_len bt_len (pa_cons (pv 1) pa_nil)) pe_int)))
   (pss_cut (ps_set (i := 5) sc_Lfault.nd rfl (Or.inl rfl) (pe_makeS T.mk_Entry (ok_Entry_init T) (hr.mono (by decide)) rfl T.mg_Entry T.b_Entry_6 passE0 (pa_cons pe_int (pa_cons pe_int (pa_cons pe_str (pa_cons pe_str (pa_cons pe_non (pa_cons pe_int pa_nil)))))) pk_nil))
   (pss_cons (ps_if (PW.pt (pw_or (pt_cmpR op_eq (pv 2) pe_int (nomark _)) (pw_or1 (pt_cmpR (op_eqD (hu62 hr)) (pv 1) (pe_lst pa_nil) (nomark _)))))
    (pss_one (ps_ret (pe_op op_cat (pe_op op_cat (pe_slice sl_list (pv 0) po_none (po_some (pv 4))) (pe_lst (pa_cons (pe_ix ix_list (pe_lst (pa_cons pe_non (pa_cons pe_int (pa_cons pe_str (pa_cons (pe_tup (pa_cons pe_int (pa_cons pe_int pa_nil))) (pa_cons (pe_lst pa_nil) pa_nil)))))) (pe_op op_mod (pe_op op_fdiv (pv 3) pe_int) pe_int) (fun _ _ => rfl)) pa_nil))) (pe_slice sl_list (pv 0) (po_some (pv 4)) po_none))))
    pss_nil)
   (pss_cons (ps_if (pt_cmpR op_eq (pv 2) pe_int (nomark _))
    (pss_one (ps_ret (pe_op op_cat (pe_op op_cat (pe_slice sl_list (pv 0) po_none (po_some (pv 4))) (pe_lst (pa_cons (pe_ix ix_list (pv 0) (pe_callB (call_min2 rfl) rfl T.no_min bt_min (pa_cons (pv 4) (pa_cons (pe_op op_sub (pe_callB call_len_seq rfl T.no_len bt_len (pa_cons (pv 1) pa_nil)) pe_int) pa_nil))) (fun _ _ => rfl)) pa_nil))) (pe_slice sl_list (pv 0) (po_some (pv 4)) po_none))))
    pss_nil)
   (pss_cons (ps_if (pt_cmpR op_eq (pv 2) pe_int (nomark _))
    (pss_cons (ps_set (i := 6) sc_Lfault.nd rfl (Or.inl rfl) (pe_ix ix_list (pe_ix ix_list (pv 1) (pe_op op_mod (pe_op op_fdiv (pv 3) pe_int) (pe_callB call_len_seq rfl T.no_len bt_len (pa_cons (pv 1) pa_nil))) (fun _ _ => rfl)) pe_int (fun _ _ => rfl)))
   (pss_one (ps_ret (pe_op op_cat (pv 0) (pe_lst (pa_cons (pe_makeS T.mk_Entry (ok_Entry_init T) (hr.mono (by decide)) rfl T.mg_Entry T.b_Entry_6 passE0 (pa_cons (pv 6) (pa_cons (pe_op op_pow pe_int pe_int) (pa_cons pe_str (pa_cons pe_str (pa_cons pe_non (pa_cons pe_int pa_nil)))))) pk_nil) pa_nil))))))
    pss_nil)
   (pss_cut (ps_if (PW.pt (pw_and (pt_cmpR op_eq (pv 2) pe_int (nomark _)) (pw_and1 (pt_cmpR op_gt (pe_callB call_len_seq rfl T.no_len bt_len (pa_cons (pv 1) pa_nil)) pe_int (nomark _)))))
    (pss_cut (ps_set (i := 4) sc_Lfault.nd rfl (Or.inl rfl) (pe_op op_mod (pv 3) (pe_op op_sub (pe_callB call_len_seq rfl T.no_len bt_len (pa_cons (pv 1) pa_nil)) pe_int)))
   (pss_one (ps_ret (pe_op op_cat (pe_op op_cat (pe_slice sl_list (pv 0) po_none (po_some (pv 4))) (pe_lst (pa_cons (pe_ix ix_list (pv 0) (pe_op op_add (pv 4) pe_int) (fun _ _ => rfl)) (pa_cons (pe_ix ix_list (pv 0) (pv 4) (fun _ _ => rfl)) pa_nil)))) (pe_slice sl_list (pv 0) (po_some (pe_op op_add (pv 4) pe_int)) po_none)))))
    pss_nil)
   (pss_cons (ps_if (pt_cmpR op_eq (pv 2) pe_int (nomark _))
    (pss_one (ps_ret (pe_op op_cat (pv 0) (pe_lst (pa_cons (pv 5) (pa_cons (pv 5) pa_nil))))))
    pss_nil)
   (pss_one (ps_ret (pe_ix ix_list (pe_lst (pa_cons pe_non (pa_cons (pe_callTy call_tuple_of rfl T.no_tuple bt_tuple (pa_cons (pv 0) pa_nil)) (pa_cons pe_dnewK (pa_cons pe_str (pa_cons pe_int pa_nil)))))) (pe_op op_mod (pv 3) pe_int) (fun _ _ => rfl))))))))))), ?_⟩
  have sz : 2000 < sizeLine := le_ble rfl
  have lw := hR.1
  have lac : acc.length = es.length := hE.1
  have l84 := hB.le
  obtain ⟨nd, _⟩ := book_nd hB.bk
  have pw := (pairs_of hB.bk).1
  refine ⟨fun σ' G' => H = G' ∧ ∃ at' : Nat, σ' = [some (.ref q), some (.ref l), some (.int i), some (.int m), some (.int at'), none, none] ∧ at' ≤ es.length, ?_, ?_⟩
  ·walk_at "rd"
   refine ⟨l, _, rfl, .inl (SqL.of hL), ?_⟩
   walk_at "rd"
   refine ⟨by omega, ?_⟩
   have u0 := Int.emod_nonneg m (b := (ws.length : Int) + 1) (by omega)
   have u1 := Int.emod_lt_of_pos m (b := (ws.length : Int) + 1) (by omega)
   refine ⟨rfl, (m % ((ws.length : Int) + 1)).toNat, ?_, by omega⟩
   have e1 : (((m % ((ws.length : Int) + 1)).toNat : Nat) : Int) = m % ((ws.length : Int) + 1) := by omega
   rw [e1]
   rfl
  rintro σ' G' ⟨rfl, at', rfl, hat⟩
  refine ⟨fun σ' G' => Same H G' ∧ ∃ v1, σ' = [some (.ref q), some (.ref l), some (.int i), some (.int m), some (.int at'), some v1, none] ∧ EntAt G' c.c_Entry v1 (mkL 5 5), ?_, ?_⟩
  ·first | refine ⟨rfl, rfl, fun x dx hx hdx ne => ?_⟩ | refine fun x dx hx hdx ne => ?_
   refine ⟨x, dx, .int 5, .int 5, .str (Str.ofString "genus"), .str (Str.ofString "a"), .non, .int 5, .non, .bl true, rfl, upd_same, Own.int, Own.int, Own.str, Own.str, by show (Str.ofString "a").length ≤ sizeLine; exact Nat.le_trans (by decide +kernel : (Str.ofString "a").length ≤ 2000) (Nat.le_of_lt sz), Own.non, Own.int, Own.non, fun G1 s1 => ⟨fun _ => ⟨rfl, ?_⟩, fun h => absurd (show why (.int 5) (.int 5) (.str (Str.ofString "genus")) (.str (Str.ofString "a")) .non (.int 5) .non = 0 from okL (by decide) (by decide) (by decide) (by decide)) h⟩⟩
   have s2 := Same.upd (o := .ins c.c_Entry dx (fieldsE (mkL (5) (5)))) ((Same.made hx hdx ne).trans s1) hx
   have he : EntAt (upd G1 x (.ins c.c_Entry dx (fieldsE (mkL (5) (5))))) c.c_Entry (.ref x) (mkL (5) (5)) := ⟨x, dx, rfl, upd_same⟩
   have ef : fields (.int (5)) (.int (5)) (.str (Str.ofString "genus")) (.str (Str.ofString "a")) .non (.int 5) .non (.bl true) = fieldsE (mkL (5) (5)) := rfl
   rw [ef]
   generalize upd G1 x (.ins c.c_Entry dx (fieldsE (mkL (5) (5)))) = G1Z at s2 he ⊢
   exact ⟨s2, _, rfl, he⟩
  rintro σ' G ⟨sG, v1, rfl, hv1⟩
  walk_at "rd"
  refine ite2 (fun _ => iteT ?_) (fun _ => ?_)
  ·refine ⟨_, rfl, _, rfl, _, rfl, q, _, rfl, SqL.of (sG _ _ hq), fun p1 hp1 => ?_⟩
   rw [cut_lit]
   have u1 := Same.new (o := HO.lst (acc.take at')) hp1
   have k1 := upd_same (H := G) (a := p1) (o := .lst (acc.take at'))
   generalize upd G p1 (.lst (acc.take at')) = J1 at u1 k1 ⊢
   refine ⟨le_ble rfl, fun p2 hp2 => ?_⟩
   have u2 := Same.new (o := HO.tup [V.int 5, V.int 5]) hp2
   have k2 := upd_same (H := J1) (a := p2) (o := .tup [V.int 5, V.int 5])
   generalize upd J1 p2 (.tup [V.int 5, V.int 5]) = J2 at u2 k2 ⊢
   refine ⟨le_ble rfl, fun p3 hp3 => ?_⟩
   have u3 := Same.new (o := HO.lst []) hp3
   have k3 := upd_same (H := J2) (a := p3) (o := .lst [])
   generalize upd J2 p3 (.lst []) = J3 at u3 k3 ⊢
   refine ⟨le_ble rfl, fun p4 hp4 => ?_⟩
   have u4 := Same.new (o := HO.lst [V.non, .int 5, .str (Str.ofString "a"), .ref p2, .ref p3]) hp4
   have k4 := upd_same (H := J3) (a := p4) (o := .lst [V.non, .int 5, .str (Str.ofString "a"), .ref p2, .ref p3])
   generalize upd J3 p4 (.lst [V.non, .int 5, .str (Str.ofString "a"), .ref p2, .ref p3]) = J4 at u4 k4 ⊢
   walk_at "rd"
   obtain ⟨y, hy, hm⟩ := atI_in (xs := [V.non, .int 5, .str (Str.ofString "a"), .ref p2, .ref p3]) (i := m / 85 % 5) (Int.emod_nonneg _ (by decide)) (by show _ < (5 : Int); exact Int.emod_lt_of_pos _ (by decide))
   refine ⟨p4, _, _, y, rfl, rfl, SqL.of k4, hy, ?_⟩
   have it : ItAt K J4 c.c_Entry y none := by
    simp only [List.mem_cons, List.not_mem_nil, or_false] at hm
    rcases hm with rfl | rfl | rfl | rfl | rfl
    ·exact .oth .non T.wn_Entry_NoneType
    ·exact .oth (.int 5) T.wn_Entry_int
    ·exact .oth (.str _) T.wn_Entry_str
    ·exact .oth (.tup (u4 _ _ (u3 _ _ k2))) T.wn_Entry_tuple
    ·exact .oth (.lst (u4 _ _ k3)) T.wn_Entry_list
   refine ⟨le_ble rfl, fun p5 hp5 => ?_⟩
   have u5 := Same.new (o := HO.lst [y]) hp5
   have k5 := upd_same (H := J4) (a := p5) (o := .lst [y])
   generalize upd J4 p5 (.lst [y]) = J5 at u5 k5 ⊢
   have k1 := u5 _ _ (u4 _ _ (u3 _ _ (u2 _ _ k1)))
   have u15 := u1.trans (u2.trans (u3.trans (u4.trans u5)))
   refine ⟨p1, p5, _, _, rfl, rfl, k1, k5, by rw [List.length_take]; show _ + 1 ≤ _; omega, fun p6 hp6 => ?_⟩
   have u6 := Same.new (o := HO.lst (acc.take at' ++ [y])) hp6
   have k6 := upd_same (H := J5) (a := p6) (o := .lst (acc.take at' ++ [y]))
   generalize upd J5 p6 (.lst (acc.take at' ++ [y])) = J6 at u6 k6 ⊢
   refine ⟨_, rfl, _, rfl, _, rfl, q, _, rfl, SqL.of (u6 _ _ (u15 _ _ (sG _ _ hq))), fun p7 hp7 => ?_⟩
   rw [cut_drop]
   have u7 := Same.new (o := HO.lst (acc.drop at')) hp7
   have k7 := upd_same (H := J6) (a := p7) (o := .lst (acc.drop at'))
   generalize upd J6 p7 (.lst (acc.drop at')) = J7 at u7 k7 ⊢
   refine ⟨p6, p7, _, _, rfl, rfl, u7 _ _ k6, k7, by rw [List.length_append, List.length_take, List.length_drop]; show _ + 1 + _ ≤ _; omega, fun p8 hp8 => ?_⟩
   have u8 := Same.new (o := HO.lst (acc.take at' ++ [y] ++ acc.drop at')) hp8
   have uA := (sG).trans (u15.trans (u6.trans (u7.trans u8)))
   have it := it.same (u5.trans (u6.trans (u7.trans u8)))
   refine k _ _ uA (.inl ⟨p8, _, ((es.take at').map some ++ [none]) ++ (es.drop at').map some, rfl, upd_same, ?_, ?_, ?_⟩)
   ·exact (((hE.take at').its.same uA).app (ItsAt.cons it .nil)).app ((hE.drop at').its.same uA)
   ·rw [List.length_append, List.length_append, List.length_take, List.length_drop]
    show _ + 1 + _ ≤ 1000
    omega
   ·exact book_none _ _ _ (by simp)
  walk_at "rd"
  refine ⟨le_ble rfl, fun q0 hq0 => ?_⟩
  have t0 := Same.new (o := HO.lst []) hq0
  have hL0 := t0 _ _ (sG _ _ hL)
  refine ⟨0, _, by decide, seqNil (SqL.of hL0) (SqL.of upd_same), _, rfl, ?_⟩
  have sG := sG.trans t0
  have hv1 := hv1.same t0
  generalize upd G q0 (.lst []) = G2 at sG hL0 hv1 ⊢
  refine iteB (fun _ => ?_) (fun he => ?_)
  ·refine ⟨_, rfl, _, rfl, _, rfl, q, _, rfl, SqL.of (sG _ _ hq), fun p1 hp1 => ?_⟩
   rw [cut_lit]
   have u1 := Same.new (o := HO.lst (acc.take at')) hp1
   have k1 := upd_same (H := G2) (a := p1) (o := .lst (acc.take at'))
   generalize upd G2 p1 (.lst (acc.take at')) = J1 at u1 k1 ⊢
   refine ⟨le_ble rfl, fun p2 hp2 => ?_⟩
   have u2 := Same.new (o := HO.tup [V.int 5, V.int 5]) hp2
   have k2 := upd_same (H := J1) (a := p2) (o := .tup [V.int 5, V.int 5])
   generalize upd J1 p2 (.tup [V.int 5, V.int 5]) = J2 at u2 k2 ⊢
   refine ⟨le_ble rfl, fun p3 hp3 => ?_⟩
   have u3 := Same.new (o := HO.lst []) hp3
   have k3 := upd_same (H := J2) (a := p3) (o := .lst [])
   generalize upd J2 p3 (.lst []) = J3 at u3 k3 ⊢
   refine ⟨le_ble rfl, fun p4 hp4 => ?_⟩
   have u4 := Same.new (o := HO.lst [V.non, .int 5, .str (Str.ofString "a"), .ref p2, .ref p3]) hp4
   have k4 := upd_same (H := J3) (a := p4) (o := .lst [V.non, .int 5, .str (Str.ofString "a"), .ref p2, .ref p3])
   generalize upd J3 p4 (.lst [V.non, .int 5, .str (Str.ofString "a"), .ref p2, .ref p3]) = J4 at u4 k4 ⊢
   walk_at "rd"
   obtain ⟨y, hy, hm⟩ := atI_in (xs := [V.non, .int 5, .str (Str.ofString "a"), .ref p2, .ref p3]) (i := m / 85 % 5) (Int.emod_nonneg _ (by decide)) (by show _ < (5 : Int); exact Int.emod_lt_of_pos _ (by decide))
   refine ⟨p4, _, _, y, rfl, rfl, SqL.of k4, hy, ?_⟩
   have it : ItAt K J4 c.c_Entry y none := by
    simp only [List.mem_cons, List.not_mem_nil, or_false] at hm
    rcases hm with rfl | rfl | rfl | rfl | rfl
    ·exact .oth .non T.wn_Entry_NoneType
    ·exact .oth (.int 5) T.wn_Entry_int
    ·exact .oth (.str _) T.wn_Entry_str
    ·exact .oth (.tup (u4 _ _ (u3 _ _ k2))) T.wn_Entry_tuple
    ·exact .oth (.lst (u4 _ _ k3)) T.wn_Entry_list
   refine ⟨le_ble rfl, fun p5 hp5 => ?_⟩
   have u5 := Same.new (o := HO.lst [y]) hp5
   have k5 := upd_same (H := J4) (a := p5) (o := .lst [y])
   generalize upd J4 p5 (.lst [y]) = J5 at u5 k5 ⊢
   have k1 := u5 _ _ (u4 _ _ (u3 _ _ (u2 _ _ k1)))
   have u15 := u1.trans (u2.trans (u3.trans (u4.trans u5)))
   refine ⟨p1, p5, _, _, rfl, rfl, k1, k5, by rw [List.length_take]; show _ + 1 ≤ _; omega, fun p6 hp6 => ?_⟩
   have u6 := Same.new (o := HO.lst (acc.take at' ++ [y])) hp6
   have k6 := upd_same (H := J5) (a := p6) (o := .lst (acc.take at' ++ [y]))
   generalize upd J5 p6 (.lst (acc.take at' ++ [y])) = J6 at u6 k6 ⊢
   refine ⟨_, rfl, _, rfl, _, rfl, q, _, rfl, SqL.of (u6 _ _ (u15 _ _ (sG _ _ hq))), fun p7 hp7 => ?_⟩
   rw [cut_drop]
   have u7 := Same.new (o := HO.lst (acc.drop at')) hp7
   have k7 := upd_same (H := J6) (a := p7) (o := .lst (acc.drop at'))
   generalize upd J6 p7 (.lst (acc.drop at')) = J7 at u7 k7 ⊢
   refine ⟨p6, p7, _, _, rfl, rfl, u7 _ _ k6, k7, by rw [List.length_append, List.length_take, List.length_drop]; show _ + 1 + _ ≤ _; omega, fun p8 hp8 => ?_⟩
   have u8 := Same.new (o := HO.lst (acc.take at' ++ [y] ++ acc.drop at')) hp8
   have uA := (sG).trans (u15.trans (u6.trans (u7.trans u8)))
   have it := it.same (u5.trans (u6.trans (u7.trans u8)))
   refine k _ _ uA (.inl ⟨p8, _, ((es.take at').map some ++ [none]) ++ (es.drop at').map some, rfl, upd_same, ?_, ?_, ?_⟩)
   ·exact (((hE.take at').its.same uA).app (ItsAt.cons it .nil)).app ((hE.drop at').its.same uA)
   ·rw [List.length_append, List.length_append, List.length_take, List.length_drop]
    show _ + 1 + _ ≤ 1000
    omega
   ·exact book_none _ _ _ (by simp)
  have wne : ws ≠ [] := fun z => by rw [z] at he; cases he
  have wp : 0 < ws.length := List.length_pos_iff.mpr wne
  clear t0 hq0
  have hq := sG _ _ hq
  have hE := hE.same sG
  have hR := hR.same sG
  walk_at "rd"
  refine ite2 (fun _ => ?_) (fun _ => ?_)
  ·refine ⟨_, rfl, _, rfl, _, rfl, q, _, rfl, SqL.of hq, fun p1 hp1 => ?_⟩
   rw [cut_lit]
   have u1 := Same.new (o := HO.lst (acc.take at')) hp1
   have k1 := upd_same (H := G2) (a := p1) (o := .lst (acc.take at'))
   generalize upd G2 p1 (.lst (acc.take at')) = J1 at u1 k1 ⊢
   walk_at "rd"
   refine ⟨l, _, rfl, .inl (SqL.of (u1 _ _ hL0)), ?_⟩
   walk_at "rd"
   obtain ⟨mn, hmn, mn0, mn1⟩ : ∃ mn : Int, mn = (if (ws.length : Int) - 1 < (at' : Int) then (ws.length : Int) - 1 else (at' : Int)) ∧ 0 ≤ mn ∧ mn < (acc.length : Int) := by
    refine ⟨_, rfl, ?_, ?_⟩ <;> split <;> omega
   obtain ⟨j, y, hj, hy, hb, _⟩ := atI_ix (xs := acc) (i := mn) mn0 mn1
   rw [hmn] at hb
   have hje : j < es.length := by rw [← lac]; exact hj
   have ey := hE.2 j y _ hy (List.getElem?_eq_getElem hje)
   refine ⟨q, _, _, y, rfl, rfl, SqL.of (u1 _ _ hq), hb, ?_⟩
   refine ⟨le_ble rfl, fun p5 hp5 => ?_⟩
   have u5 := Same.new (o := HO.lst [y]) hp5
   have k5 := upd_same (H := J1) (a := p5) (o := .lst [y])
   generalize upd J1 p5 (.lst [y]) = J5 at u5 k5 ⊢
   refine ⟨p1, p5, _, _, rfl, rfl, u5 _ _ k1, k5, by rw [List.length_take]; show _ + 1 ≤ _; omega, fun p6 hp6 => ?_⟩
   have u6 := Same.new (o := HO.lst (acc.take at' ++ [y])) hp6
   have k6 := upd_same (H := J5) (a := p6) (o := .lst (acc.take at' ++ [y]))
   have u16 := u1.trans (u5.trans u6)
   generalize upd J5 p6 (.lst (acc.take at' ++ [y])) = J6 at u16 k6 ⊢
   refine ⟨_, rfl, _, rfl, _, rfl, q, _, rfl, SqL.of (u16 _ _ hq), fun p7 hp7 => ?_⟩
   rw [cut_drop]
   have u7 := Same.new (o := HO.lst (acc.drop at')) hp7
   have k7 := upd_same (H := J6) (a := p7) (o := .lst (acc.drop at'))
   generalize upd J6 p7 (.lst (acc.drop at')) = J7 at u7 k7 ⊢
   refine ⟨p6, p7, _, _, rfl, rfl, u7 _ _ k6, k7, by rw [List.length_append, List.length_take, List.length_drop]; show _ + 1 + _ ≤ _; omega, fun p8 hp8 => ?_⟩
   have uA := u16.trans (u7.trans (Same.new (o := HO.lst (acc.take at' ++ [y] ++ acc.drop at')) hp8))
   have all : EntsAt _ c.c_Entry (acc.take at' ++ [y] ++ acc.drop at') (es.take at' ++ [es[j]] ++ es.drop at') := ents_app (ents_app ((hE.take at').same uA) (EntsAt.one (ey.same uA))) ((hE.drop at').same uA)
   refine k _ _ (sG.trans uA) (.inl ⟨p8, _, (es.take at' ++ [es[j]] ++ es.drop at').map some, rfl, upd_same, all.its, ?_, bad_nd fun z => ?_⟩)
   ·rw [List.length_append, List.length_append, List.length_take, List.length_drop]
    show _ + 1 + _ ≤ 1000
    omega
   ·have pm : (es.take at' ++ [es[j]] ++ es.drop at').Perm (es[j] :: es) := by
     have := List.perm_middle (a := es[j]) (l₁ := es.take at') (l₂ := es.drop at')
     rw [List.take_append_drop] at this
     rw [List.append_assoc]
     exact this
    have := (pm.map (·.n)).nodup_iff.mp z
    rw [List.map_cons, List.nodup_cons] at this
    exact this.1 (List.mem_map_of_mem (f := fun x : En => x.n) (List.getElem_mem hje))
  walk_at "rd"
  refine ite2 (fun _ => ?_) (fun _ => ?_)
  ·obtain ⟨j, y, hj, hy, hb, _⟩ := atI_ix (xs := ws) (i := m / 85 % (ws.length : Int)) (Int.emod_nonneg _ (by omega)) (Int.emod_lt_of_pos _ (by omega))
   have hje : j < es.length := by rw [← lw]; exact hj
   obtain ⟨ra, rfl, hrow⟩ := hR.2 j y _ hy (List.getElem?_eq_getElem hje)
   have f0 : atI (rowB es[j]) 0 = some (.int es[j].n) := atI_nat (j := 0) rfl
   have em := List.getElem_mem hje
   generalize es[j] = e1 at hrow f0 em
   have nn := hB.nn e1 em
   have on1 : 1 ≤ e1.n := nn.1
   have on2 : e1.n ≤ 1000000000 := by omega
   walk_at "rd"
   refine ⟨l, _, rfl, .inl (SqL.of hL0), ?_⟩
   walk_at "rd"
   refine ⟨by show (0 : Int) < ws.length; omega, ?_⟩
   refine ⟨l, _, _, _, rfl, rfl, SqL.of hL0, hb, ?_⟩
   refine ⟨ra, _, _, _, rfl, rfl, SqL.of hrow, f0, ?_⟩
   refine ⟨_, rfl, ?_⟩
   walk_at "rd"
   first | refine ⟨rfl, rfl, fun x dx hx hdx ne => ?_⟩ | refine fun x dx hx hdx ne => ?_
   refine ⟨x, dx, .int e1.n, .int 1000000, .str (Str.ofString "genus"), .str (Str.ofString "a"), .non, .int 5, .non, .bl true, rfl, upd_same, Own.int, Own.int, Own.str, Own.str, by show (Str.ofString "a").length ≤ sizeLine; exact Nat.le_trans (by decide +kernel : (Str.ofString "a").length ≤ 2000) (Nat.le_of_lt sz), Own.non, Own.int, Own.non, fun G1 s1 => ⟨fun _ => ⟨rfl, ?_⟩, fun h => absurd (show why (.int e1.n) (.int 1000000) (.str (Str.ofString "genus")) (.str (Str.ofString "a")) .non (.int 5) .non = 0 from okL on1 on2 (by decide) (by decide)) h⟩⟩
   have s2 := Same.upd (o := .ins c.c_Entry dx (fieldsE (mkL (e1.n) (1000000)))) ((Same.made hx hdx ne).trans s1) hx
   have he : EntAt (upd G1 x (.ins c.c_Entry dx (fieldsE (mkL (e1.n) (1000000))))) c.c_Entry (.ref x) (mkL (e1.n) (1000000)) := ⟨x, dx, rfl, upd_same⟩
   have ef : fields (.int (e1.n)) (.int (1000000)) (.str (Str.ofString "genus")) (.str (Str.ofString "a")) .non (.int 5) .non (.bl true) = fieldsE (mkL (e1.n) (1000000)) := rfl
   rw [ef]
   generalize upd G1 x (.ins c.c_Entry dx (fieldsE (mkL (e1.n) (1000000)))) = G1Z at s2 he ⊢
   refine ⟨le_ble rfl, fun p5 hp5 => ?_⟩
   have u5 := Same.new (o := HO.lst [V.ref x]) hp5
   have k5 := upd_same (H := G1Z) (a := p5) (o := .lst [V.ref x])
   generalize upd G1Z p5 (.lst [V.ref x]) = J5 at u5 k5 ⊢
   have u25 := s2.trans u5
   refine ⟨q, p5, _, _, rfl, rfl, u25 _ _ hq, k5, by show _ + 1 ≤ _; omega, fun p6 hp6 => ?_⟩
   have uA := u25.trans (Same.new (o := HO.lst (acc ++ [V.ref x])) hp6)
   have all : EntsAt _ c.c_Entry (acc ++ [V.ref x]) (es ++ [mkL e1.n 1000000]) := ents_app (hE.same uA) (EntsAt.one (he.same (u5.trans (Same.new hp6))))
   refine k _ _ (sG.trans uA) (.inl ⟨p6, _, (es ++ [mkL e1.n 1000000]).map some, rfl, upd_same, all.its, by rw [List.length_append]; show _ + 1 ≤ 1000; omega, bad_nd fun z => ?_⟩)
   rw [List.map_append, List.nodup_append] at z
   exact z.2.2 _ (List.mem_map_of_mem (f := fun x : En => x.n) em) _ (List.mem_singleton.mpr rfl) rfl
  refine ⟨fun σ' G' => G2 = G' ∧ σ' = [some (.ref q), some (.ref l), some (.int i), some (.int m), some (.int at'), some v1, none], ?_, ?_⟩
  ·walk_at "rd"
   refine ite2 (fun _ => ?_) (fun _ => iteF ⟨rfl, rfl⟩)
   walk_at "rd"
   refine ⟨l, _, rfl, .inl (SqL.of hL0), ?_⟩
   walk_at "rd"
   refine ite2 (fun h1 => ?_) (fun _ => ⟨rfl, rfl⟩)
   have h1 : 1 < (ws.length : Int) := of_decide_eq_true h1
   refine ⟨fun σ' G' => G2 = G' ∧ ∃ a2 : Nat, σ' = [some (.ref q), some (.ref l), some (.int i), some (.int m), some (.int a2), some v1, none] ∧ a2 + 1 < es.length, ?_, ?_⟩
   ·walk_at "rd"
    refine ⟨l, _, rfl, .inl (SqL.of hL0), ?_⟩
    walk_at "rd"
    refine ⟨by omega, ?_⟩
    have u0 := Int.emod_nonneg m (b := (ws.length : Int) - 1) (by omega)
    have u1 := Int.emod_lt_of_pos m (b := (ws.length : Int) - 1) (by omega)
    refine ⟨rfl, (m % ((ws.length : Int) - 1)).toNat, ?_, by omega⟩
    have e1 : (((m % ((ws.length : Int) - 1)).toNat : Nat) : Int) = m % ((ws.length : Int) - 1) := by omega
    rw [e1]
    rfl
   rintro σ' G' ⟨rfl, a2, rfl, ha2⟩
   refine ⟨_, rfl, _, rfl, _, rfl, q, _, rfl, SqL.of hq, fun p1 hp1 => ?_⟩
   rw [cut_lit]
   have u1 := Same.new (o := HO.lst (acc.take a2)) hp1
   have k1 := upd_same (H := G2) (a := p1) (o := .lst (acc.take a2))
   generalize upd G2 p1 (.lst (acc.take a2)) = J1 at u1 k1 ⊢
   obtain ⟨y1, hy1⟩ : ∃ y, acc[a2 + 1]? = some y := ⟨_, List.getElem?_eq_getElem (by omega)⟩
   obtain ⟨y0, hy0⟩ : ∃ y, acc[a2]? = some y := ⟨_, List.getElem?_eq_getElem (by omega)⟩
   have b1 : atI acc ((a2 : Int) + 1) = some y1 := by
    have e9 : ((a2 : Int) + 1) = ((a2 + 1 : Nat) : Int) := by omega
    rw [e9]
    exact atI_nat hy1
   have b0 : atI acc (a2 : Int) = some y0 := atI_nat hy0
   have ey1 := hE.2 (a2 + 1) y1 _ hy1 (List.getElem?_eq_getElem ha2)
   have ey0 := hE.2 a2 y0 _ hy0 (List.getElem?_eq_getElem (by omega))
   have pr := List.pairwise_iff_getElem.mp pw a2 (a2 + 1) (by omega) ha2 (by omega)
   walk_at "rd"
   refine ⟨q, _, _, y1, rfl, rfl, SqL.of (u1 _ _ hq), b1, ?_⟩
   refine ⟨_, rfl, _, rfl, q, _, _, y0, rfl, rfl, SqL.of (u1 _ _ hq), b0, ?_⟩
   refine ⟨le_ble rfl, fun p5 hp5 => ?_⟩
   have u5 := Same.new (o := HO.lst [y1, y0]) hp5
   have k5 := upd_same (H := J1) (a := p5) (o := .lst [y1, y0])
   generalize upd J1 p5 (.lst [y1, y0]) = J5 at u5 k5 ⊢
   refine ⟨p1, p5, _, _, rfl, rfl, u5 _ _ k1, k5, by rw [List.length_take]; show _ + 2 ≤ _; omega, fun p6 hp6 => ?_⟩
   have u6 := Same.new (o := HO.lst (acc.take a2 ++ [y1, y0])) hp6
   have k6 := upd_same (H := J5) (a := p6) (o := .lst (acc.take a2 ++ [y1, y0]))
   have u16 := u1.trans (u5.trans u6)
   generalize upd J5 p6 (.lst (acc.take a2 ++ [y1, y0])) = J6 at u16 k6 ⊢
   walk_at "rd"
   refine ⟨q, _, rfl, SqL.of (u16 _ _ hq), fun p7 hp7 => ?_⟩
   have cd2 : cutV acc (some ((a2 : Int) + 2)) none = acc.drop (a2 + 2) := by
    have e9 : ((a2 : Int) + 2) = ((a2 + 2 : Nat) : Int) := by omega
    rw [e9]
    exact cut_drop acc (a2 + 2)
   rw [cd2]
   have u7 := Same.new (o := HO.lst (acc.drop (a2 + 2))) hp7
   have k7 := upd_same (H := J6) (a := p7) (o := .lst (acc.drop (a2 + 2)))
   generalize upd J6 p7 (.lst (acc.drop (a2 + 2))) = J7 at u7 k7 ⊢
   refine ⟨p6, p7, _, _, rfl, rfl, u7 _ _ k6, k7, by rw [List.length_append, List.length_take, List.length_drop]; show _ + 2 + _ ≤ _; omega, fun p8 hp8 => ?_⟩
   have uA := u16.trans (u7.trans (Same.new (o := HO.lst (acc.take a2 ++ [y1, y0] ++ acc.drop (a2 + 2))) hp8))
   have two : EntsAt _ c.c_Entry [y1, y0] [es[a2 + 1], es[a2]] := ents_app (EntsAt.one (ey1.same uA)) (EntsAt.one (ey0.same uA))
   have all := ents_app (ents_app ((hE.take a2).same uA) two) ((hE.drop (a2 + 2)).same uA)
   refine k _ _ (sG.trans uA) (.inl ⟨p8, _, (es.take a2 ++ [es[a2 + 1], es[a2]] ++ es.drop (a2 + 2)).map some, rfl, upd_same, all.its, ?_, bad_pw fun z => ?_⟩)
   ·rw [List.length_append, List.length_append, List.length_take, List.length_drop]
    show _ + 2 + _ ≤ 1000
    omega
   ·have z := (List.pairwise_append.mp (List.pairwise_append.mp z).1).2.1
    have z := (List.pairwise_cons.mp z).1 _ (List.mem_singleton.mpr rfl)
    have z := (ahead_iff _ _).mp z
    have pr := (ahead_iff _ _).mp pr
    omega
  rintro σ' G' ⟨rfl, rfl⟩
  walk_at "rd"
  refine ite2 (fun _ => ?_) (fun _ => ?_)
  ·refine ⟨_, rfl, _, rfl, _, rfl, le_ble rfl, fun p5 hp5 => ?_⟩
   have u5 := Same.new (o := HO.lst [v1, v1]) hp5
   have k5 := upd_same (H := G2) (a := p5) (o := .lst [v1, v1])
   generalize upd G2 p5 (.lst [v1, v1]) = J5 at u5 k5 ⊢
   refine ⟨q, p5, _, _, rfl, rfl, u5 _ _ hq, k5, by show _ + 2 ≤ _; omega, fun p6 hp6 => ?_⟩
   have uA := u5.trans (Same.new (o := HO.lst (acc ++ [v1, v1])) hp6)
   have two : EntsAt _ c.c_Entry [v1, v1] [mkL 5 5, mkL 5 5] := ents_app (EntsAt.one (hv1.same uA)) (EntsAt.one (hv1.same uA))
   have all := ents_app (hE.same uA) two
   refine k _ _ (sG.trans uA) (.inl ⟨p6, _, (es ++ [mkL 5 5, mkL 5 5]).map some, rfl, upd_same, all.its, by rw [List.length_append]; show _ + 2 ≤ 1000; omega, bad_nd fun z => ?_⟩)
   rw [List.map_append, List.nodup_append] at z
   have z := z.2.1
   rw [List.map_cons, List.nodup_cons] at z
   exact z.1 (List.mem_singleton.mpr rfl)
  refine ⟨_, rfl, q, _, rfl, .inl ⟨SqL.of hq, fun p1 hp1 => ?_⟩⟩
  have u1 := Same.new (o := HO.tup acc) hp1
  have k1 := upd_same (H := G2) (a := p1) (o := .tup acc)
  generalize upd G2 p1 (.tup acc) = J1 at u1 k1 ⊢
  refine fun d hd => ?_
  have u2 := Same.new (o := HO.dK []) hd
  have k2 := upd_same (H := J1) (a := d) (o := .dK [])
  generalize upd J1 d (.dK []) = J2 at u2 k2 ⊢
  refine ⟨le_ble rfl, fun p4 hp4 => ?_⟩
  have u4 := Same.new (o := HO.lst [V.non, .ref p1, .ref d, .str (Str.ofString ""), .int 5]) hp4
  have k4 := upd_same (H := J2) (a := p4) (o := .lst [V.non, .ref p1, .ref d, .str (Str.ofString ""), .int 5])
  generalize upd J2 p4 (.lst [V.non, .ref p1, .ref d, .str (Str.ofString ""), .int 5]) = J4 at u4 k4 ⊢
  walk_at "rd"
  obtain ⟨y, hy, hm⟩ := atI_in (xs := [V.non, .ref p1, .ref d, .str (Str.ofString ""), .int 5]) (i := m % 5) (Int.emod_nonneg _ (by decide)) (by show _ < (5 : Int); exact Int.emod_lt_of_pos _ (by decide))
  refine ⟨p4, _, _, y, rfl, rfl, SqL.of k4, hy, k _ _ (sG.trans (u1.trans (u2.trans u4))) (.inr ?_)⟩
  simp only [List.mem_cons, List.not_mem_nil, or_false] at hm
  rcases hm with rfl | rfl | rfl | rfl | rfl
  ·exact ⟨_, .non, rfl⟩
  ·exact ⟨_, .tup (u4 _ _ (u2 _ _ k1)), rfl⟩
  ·exact ⟨_, .dK (u4 _ _ k2), rfl⟩
  ·exact ⟨_, .str _, rfl⟩
  ·exact ⟨_, .int 5, rfl⟩
set_option maxHeartbeats 4000000 in
theorem ok_Lother (T : Txt w K mg c) : FnOk P w K mg base CX0 1 c.a_Lother c.d_Lother ["_law_book_here", "_law_mixed_here"] (spOtherB) := by
 refine T.Lother.fn.ok sc_Lother (fun vs H Q E h => ?_) (fun cdv A outer s H vs Q E hr h => ?_)
 ·obtain ⟨l, ws, es, m, rfl, _⟩ := h
  rfl
 ·obtain ⟨l, ws, es, m, rfl, hL, hR, hB, ene, h64, k⟩ := h
  refine ⟨_, (pss_cut (ps_setComp (i := 2) sc_Lother.nd rfl rfl (N' := ["_law_one"]) (js := [none]) rfl rfl (by decide +kernel) (by decide +kernel) (free_nil (by decide +kernel)) (cap_nil rfl rfl) (pi_list (pv 0)) (fun B => ⟨(pg_name (i := 0) (show List.Nodup (["_law_one"] : List Str) by decide +kernel) rfl (Or.inl rfl)), pifs_nil, (pe_callTy call_list_of rfl T.no_list bt_list (pa_cons (pv 0) pa_nil))⟩))
   (pss_cut (ps_set (i := 3) sc_Lother.nd rfl (Or.inl rfl) (pe_ix ix_list (pv 2) (pe_op op_mod (pe_op op_fdiv (pv 1) pe_int) (pe_callB call_len_seq rfl T.no_len bt_len (pa_cons (pv 0) pa_nil))) (fun _ _ => rfl)))
   (pss_cons (ps_set (i := 4) sc_Lother.nd rfl (Or.inl rfl) (pe_op op_mod (pv 1) pe_int))
   (pss_cut (ps_if (PW.pt (pw_and (pt_cmpR op_eq (pv 4) pe_int (nomark _)) (pw_and1 (pt_cmpR (op_eqD (hu62 hr)) (pv 3) (pe_ix ix_list (pv 2) (pe_un un_neg pe_int) (fun _ _ => rfl)) (nomark _)))))
    (pss_one (ps_while PassesOwn.never (pt_cmpR op_in_seq (pe_ix ix_list (pv 3) pe_int (fun _ _ => rfl)) (pe_comp (N' := ["_law_there"]) (js := [none]) rfl rfl (by decide +kernel) (by decide +kernel) (free_nil (by decide +kernel)) (cap_nil rfl rfl) (pi_list (pv 0)) (fun B => ⟨(pg_name (i := 0) (show List.Nodup (["_law_there"] : List Str) by decide +kernel) rfl (Or.inl rfl)), pifs_nil, (pe_ix ix_list (pv 0) pe_int (fun _ _ => rfl))⟩)) (by with_unfolding_all rfl))
    (pss_one (ps_asg (pe_op op_add (pe_ix ix_list (pv 3) pe_int (fun _ _ => rfl)) pe_int) (pg_sub (pv 3) pe_int set_list)))))
    (pss_one (ps_if (PW.pt (pw_and (pt_cmpR op_eq (pv 4) pe_int (nomark _)) (pw_and1 (pt_cmpR (op_eqD (hu62 hr)) (pv 3) (pe_ix ix_list (pv 2) (pe_un un_neg pe_int) (fun _ _ => rfl)) (nomark _)))))
    (pss_one (ps_asg (pe_op op_add (pe_ix ix_list (pv 3) pe_int (fun _ _ => rfl)) pe_int) (pg_sub (pv 3) pe_int set_list)))
    (pss_one (ps_if (PW.pt (pw_and (pt_cmpR op_eq (pv 4) pe_int (nomark _)) (pw_and1 (pt_cmpR op_ne (pe_ix ix_list (pv 3) pe_int (fun _ _ => rfl)) pe_str (nomark _)))))
    (pss_one (ps_asg (pe_dget (hu_of hr) (pe_disp (pps_cons pe_str pe_str (pps_cons pe_str pe_str pps_nil)) rfl rfl (by intro z; cases z) (by decide)) (pe_ix ix_list (pv 3) pe_int (fun _ _ => rfl)) (fun _ _ => rfl)) (pg_sub (pv 3) pe_int set_list)))
    (pss_one (ps_if (PW.pt (pw_and (pt_cmpR op_eq (pv 4) pe_int (nomark _)) (pw_and1 (pt_cmpR op_ne (pe_ix ix_list (pv 3) pe_int (fun _ _ => rfl)) pe_str (nomark _)))))
    (pss_one (ps_asg (pe_op op_add (pe_op op_mod (pe_ix ix_list (pv 3) pe_int (fun _ _ => rfl)) (pe_op op_pow pe_int pe_int)) pe_int) (pg_sub (pv 3) pe_int set_list)))
    (pss_one (ps_if (PW.pt (pw_and (pt_cmpR op_eq (pv 4) pe_int (nomark _)) (pw_and1 (pt_cmp (pc_notN (pe_ix ix_list (pv 3) pe_int (fun _ _ => rfl)))))))
    (pss_one (ps_asg (pe_op op_add (pe_op op_mod (pe_ix ix_list (pv 3) pe_int (fun _ _ => rfl)) (pe_op op_pow pe_int pe_int)) pe_int) (pg_sub (pv 3) pe_int set_list)))
    (pss_one (ps_if (PW.pt (pw_and (pt_cmpR op_eq (pv 4) pe_int (nomark _)) (pw_and1 (pt_cmp (pc_notN (pe_ix ix_list (pv 3) pe_int (fun _ _ => rfl)))))))
    (pss_one (ps_asg (pe_op op_add (pe_op op_mod (pe_ix ix_list (pv 3) pe_int (fun _ _ => rfl)) (pe_op op_pow pe_int pe_int)) pe_int) (pg_sub (pv 3) pe_int set_list)))
    (pss_one (ps_if (pt_cmpR op_eq (pv 4) pe_int (nomark _))
    (pss_one (ps_asg (pe_not (pe_ix ix_list (pv 3) pe_int (fun _ _ => rfl))) (pg_sub (pv 3) pe_int set_list)))
    (pss_one (ps_asg (pe_ix ix_list (pe_lst (pa_cons pe_str (pa_cons pe_str pa_nil))) (pe_callTy call_int1 rfl T.no_int bt_int (pa_cons (pe_cmpR op_eq (pe_ix ix_list (pv 3) pe_int (fun _ _ => rfl)) pe_str (nomark _)) pa_nil)) (fun _ _ => rfl)) (pg_sub (pv 3) pe_int set_list))))))))))))))))
   (pss_one (ps_ret (pv 2))))))), ?_⟩
  have sz : 2000 < sizeLine := le_ble rfl
  have lw := hR.1
  have l84 := hB.le
  obtain ⟨nd, _⟩ := book_nd hB.bk
  refine ⟨fun σ' G' => Same H G' ∧ ∃ f us, σ' = [some (.ref l), some (.int m), some (.ref f), none, none] ∧ H f = none ∧ G' f = some (.lst us) ∧ Cop H G' us es, ?_, ?_⟩
  ·refine ⟨_, rfl, l, rfl, ⟨_, SqL.of hL⟩, fun f B hf => ?_⟩
   refine loop_lst (xs := ws) (fun i σ acc G => (∃ o, σ = [o]) ∧ Same H G ∧ G f = some (.lst acc) ∧ acc.length = i ∧ Cop H G acc (es.take i)) (by omega) ?_ ?_ ?_ ?_
   ·exact ⟨⟨_, rfl⟩, Same.new hf, upd_same, rfl, ⟨rfl, fun j v e h => (nomatch h), fun i j b h => (nomatch h)⟩⟩
   ·rintro i σ acc G hi ⟨_, sG, h1, h2, _⟩
    exact ⟨h1, SqL.of (sG _ _ hL), by omega⟩
   ·rintro i v σ acc G hx ⟨⟨o, rfl⟩, sG, h1, h2, h3⟩
    have hi : i < ws.length := (List.getElem?_eq_some_iff.mp hx).1
    have hie : i < es.length := by omega
    have ee : es[i]? = some es[i] := List.getElem?_eq_getElem hie
    obtain ⟨ra, rfl, hrow⟩ := hR.2 i v _ hx ee
    rw [take_one ee]
    generalize es[i] = e at hrow
    refine ⟨_, rfl, ra, _, rfl, .inl (SqL.of (sG _ _ hrow)), fun b hb => ?_⟩
    have nb : f ≠ b := ne_of_none h1 hb
    have sb := Same.new (o := HO.lst (rowB e)) hb
    have kb := upd_same (H := G) (a := b) (o := .lst (rowB e))
    have old : ∀ (j : Nat) c, acc[j]? = some (.ref c) → c ≠ b ∧ c ≠ f := fun j c hc => by
     have hj : j < (es.take i).length := by rw [← h3.len]; exact (List.getElem?_eq_some_iff.mp hc).1
     obtain ⟨c', e1, e2, e3⟩ := h3.row j _ _ hc (List.getElem?_eq_getElem hj)
     cases e1
     refine ⟨fun z => (by rw [z, hb] at e3; cases e3), fun z => ?_⟩
     rw [z, h1] at e3
     have e3 : acc = rowB _ := HO.lst.inj (Option.some.inj e3)
     have h0 : acc[0]? = some (.int ((es.take i)[j]).n) := by rw [e3]; rfl
     obtain ⟨_, q, _⟩ := h3.row 0 _ _ h0 (List.getElem?_eq_getElem (by rw [← h3.len, e3]; exact Nat.succ_pos _))
     cases q
    generalize upd G b (.lst (rowB e)) = G1 at sb kb ⊢
    refine ⟨sb _ _ h1, Nx.mk hi ⟨⟨_, rfl⟩, same_put hf (sG.trans sb), upd_same, by rw [List.length_append, h2]; rfl, ?_⟩⟩
    have lt : acc.length = (es.take i).length := h3.len
    refine ⟨by rw [List.length_append, List.length_append, lt]; rfl, fun j v x hv hx' => ?_, fun x y c hx' hy => ?_⟩
    ·by_cases hj : j < acc.length
     ·rw [List.getElem?_append_left hj] at hv
      rw [List.getElem?_append_left (by rw [← lt]; exact hj)] at hx'
      obtain ⟨c, rfl, e2, e3⟩ := h3.row j v x hv hx'
      exact ⟨c, rfl, e2, by rw [upd_ne (old j c hv).2]; exact sb _ _ e3⟩
     ·rw [List.getElem?_append_right (by omega)] at hv
      rw [List.getElem?_append_right (by rw [← lt]; omega), ← lt] at hx'
      obtain ⟨h6, _⟩ := List.getElem?_eq_some_iff.mp hv
      have j0 : j - acc.length = 0 := by simpa using h6
      rw [j0] at hv hx'
      cases Option.some.inj hv
      cases Option.some.inj hx'
      exact ⟨b, rfl, sG.free hb, by rw [upd_ne nb.symm]; exact kb⟩
    ·have one : ∀ (x : Nat), (acc ++ [V.ref b])[x]? = some (.ref c) → ¬ x < acc.length → x = acc.length ∧ c = b := fun x hx' hn => by
      rw [List.getElem?_append_right (by omega)] at hx'
      obtain ⟨h6, _⟩ := List.getElem?_eq_some_iff.mp hx'
      have j0 : x - acc.length = 0 := by simpa using h6
      rw [j0] at hx'
      cases Option.some.inj hx'
      exact ⟨by omega, rfl⟩
     by_cases h5 : x < acc.length
     ·have hx2 := hx'
      rw [List.getElem?_append_left h5] at hx2
      by_cases h6 : y < acc.length
      ·rw [List.getElem?_append_left h6] at hy
       exact h3.inj x y c hx2 hy
      ·exact absurd (one y hy h6).2 (old x c hx2).1
     ·by_cases h6 : y < acc.length
      ·have hy2 := hy
       rw [List.getElem?_append_left h6] at hy2
       exact absurd (one x hx' h5).2 (old y c hy2).1
      ·rw [(one x hx' h5).1, (one y hy h6).1]
   ·rintro σ acc G ⟨_, sG, h1, h2, h3⟩
    rw [lw, List.take_of_length_le (Nat.le_refl _)] at h3
    exact ⟨sG, f, acc, rfl, hf, h1, h3⟩
  rintro σ' G ⟨sG, f, us, rfl, hfn, hf, cop⟩
  have lu := cop.len
  have ep : 0 < es.length := List.length_pos_iff.mpr ene
  refine ⟨fun σ' G' => G = G' ∧ ∃ i0 ra, σ' = [some (.ref l), some (.int m), some (.ref f), some (.ref ra), none] ∧ us[i0]? = some (.ref ra) ∧ i0 < es.length, ?_, ?_⟩
  ·walk_at "rd"
   refine ⟨l, _, rfl, .inl (SqL.of (sG _ _ hL)), ?_⟩
   walk_at "rd"
   refine ⟨by show (0 : Int) < ws.length; omega, ?_⟩
   obtain ⟨j, y, hj, hy, hb, _⟩ := atI_ix (xs := us) (i := m / 8 % (ws.length : Int)) (Int.emod_nonneg _ (by omega)) (by have := Int.emod_lt_of_pos (m / 8) (b := (ws.length : Int)) (by omega); omega)
   have hje : j < es.length := by rw [← lu]; exact hj
   obtain ⟨ra, rfl, _, _⟩ := cop.row j y _ hy (List.getElem?_eq_getElem hje)
   exact ⟨f, _, _, _, rfl, rfl, SqL.of hf, hb, rfl, j, ra, rfl, hy, hje⟩
  rintro σ' G' ⟨rfl, i0, ra, rfl, hi0, hie⟩
  obtain ⟨_, e1, fra, hra⟩ := cop.row i0 _ _ hi0 (List.getElem?_eq_getElem hie)
  cases e1
  have em := List.getElem_mem hie
  obtain ⟨e0, he0⟩ : ∃ e0, e0 = es[i0] := ⟨_, rfl⟩
  rw [← he0] at hra em
  have ok0 := hB.ok e0 em
  have nn0 := hB.nn e0 em
  have dd0 := hB.dd e0 em
  have rk0 := rank_of ok0
  have wd0 := okE_word ok0
  obtain ⟨uf0, tf0⟩ := okE_fits ok0
  have f0 : atI (rowB e0) 0 = some (.int e0.n) := atI_nat (j := 0) rfl
  have f1 : atI (rowB e0) 1 = some (.int e0.d) := atI_nat (j := 1) rfl
  have f2 : atI (rowB e0) 2 = some (.str e0.r) := atI_nat (j := 2) rfl
  have f3 : atI (rowB e0) 3 = some (.str e0.w) := atI_nat (j := 3) rfl
  have f4 : atI (rowB e0) 4 = some (optV e0.u) := atI_nat (j := 4) rfl
  have f5 : atI (rowB e0) 5 = some (optV e0.s) := atI_nat (j := 5) rfl
  have f6 : atI (rowB e0) 6 = some (optV e0.b) := atI_nat (j := 6) rfl
  have f7 : atI (rowB e0) 7 = some (.bl e0.k) := atI_nat (j := 7) rfl
  have rowsU : RowsB G us es := ⟨lu, fun j v e hv he => let ⟨b, e1, _, e3⟩ := cop.row j v e hv he; ⟨b, e1, e3⟩⟩
  have nraf : ra ≠ f := RowB.ne rowsU hf hra
  obtain ⟨eL, rL, leL, emL, hatL, hrL⟩ := rowsU.last (fun z => by rw [z] at lu; rw [← lu] at ep; exact absurd ep (by decide))
  have same2 : ∀ e', nd2 e' = nd2 e0 → bookOk [] none ((es.set i0 e').map some) = true := fun e' h => by rw [set_nd2 hie (by rw [h, he0])]; exact hB.bk
  have lastC : eL = e0 → ∃ p, es = p ++ [e0] ∧ i0 = p.length := fun h => by
   obtain ⟨p, x, hp⟩ : ∃ p x, es = p ++ [x] := ⟨_, _, (List.dropLast_concat_getLast ene).symm⟩
   have hx : x = eL := by
    rw [hp, lastW_snoc] at leL
    exact Option.some.inj leL
   have hx : x = e0 := hx.trans h
   subst hx
   refine ⟨p, hp, ?_⟩
   have q1 : (es.map (·.n))[i0]? = some x.n := by rw [List.getElem?_map, List.getElem?_eq_getElem hie, ← he0]; rfl
   have q2 : (es.map (·.n))[p.length]? = some x.n := by rw [List.getElem?_map, hp]; simp
   have hl1 := (List.getElem?_eq_some_iff.mp q1).1
   have := (List.getElem?_inj hl1 nd).mp (q1.trans q2.symm)
   exact this
  have bigN : e0.n ≤ 999168000 := by omega
  have bigD : e0.d ≤ 756000 := by omega
  walk_at "rd"
  refine ⟨fun σ' G' => (∃ z4, σ' = [some (.ref l), some (.int m), some (.ref f), some (.ref ra), z4]) ∧ (∀ b u, b ≠ ra → G b = some u → G' b = some u) ∧ ∃ e', G' ra = some (.lst (rowB e')) ∧ Chg es i0 e0 e', ?_, ?_⟩
  rotate_left
  ·rintro σ' G' ⟨⟨z4, rfl⟩, fr, e', hra', chg⟩
   have sF : Same H G' := fun b u hb => fr b u (ne_of_none hb fra) (sG _ _ hb)
   refine ⟨_, rfl, k f us (es.set i0 e') G' sF (fr _ _ nraf.symm hf) ⟨by rw [List.length_set]; exact lu, fun j v x hv hx => ?_⟩ (fun x hx => ?_) (by rw [List.length_set]; exact l84) chg.bk (fun z => ?_)⟩
   ·by_cases hj : j = i0
    ·subst hj
     rw [hi0] at hv
     cases hv
     rw [List.getElem?_set_self hie] at hx
     cases hx
     exact ⟨ra, rfl, hra'⟩
    ·rw [List.getElem?_set_ne (fun z => hj z.symm)] at hx
     obtain ⟨b, rfl, _, e3⟩ := cop.row j v x hv hx
     exact ⟨b, rfl, fr _ _ (fun z => hj (cop.inj j i0 b hv (by rw [z]; exact hi0))) e3⟩
   ·rcases List.mem_or_eq_of_mem_set hx with q | q
    ·exact hB.ok x q
    ·rw [q]; exact chg.ok
   ·have : (es.set i0 e')[i0]? = es[i0]? := by rw [z]
    rw [List.getElem?_set_self hie, List.getElem?_eq_getElem hie, ← he0] at this
    exact chg.ne (Option.some.inj this)
  have put : ∀ (G1 : Hp) (j : Nat) (v : V) (e' : En), (∀ b u, b ≠ ra → G b = some u → G1 b = some u) → (rowB e0).set j v = rowB e' → Chg es i0 e0 e' → (∀ b u, b ≠ ra → G b = some u → upd G1 ra (.lst ((rowB e0).set j v)) b = some u) ∧ ∃ e', upd G1 ra (.lst ((rowB e0).set j v)) ra = some (.lst (rowB e')) ∧ Chg es i0 e0 e' := fun G1 j v e' h1 h2 h3 =>
   ⟨fun b u nb hb => by rw [upd_ne nb]; exact h1 b u nb hb, e', by rw [upd_same, h2], h3⟩
  have eqLast : SeqEq K G (EqD K G 0) (.ref ra) (.ref rL) (eqL (rowB e0) (rowB eL)) := SeqEq.flatL (SqL.of hra) (SqL.of hrL) (flat8 _) (flat8 _)
  have hL0 := hL
  have hR0 := hR
  have hL := sG _ _ hL
  have hR := hR.same sG
  walk_at "rd"
  refine iteAnd ?_ (fun _ hY => ?_)
  rotate_left
  ·refine ⟨_, rfl, _, rfl, _, rfl, f, _, _, _, rfl, rfl, SqL.of hf, hatL, 0, _, by decide, eqLast, _, rfl, ?_⟩
   refine ite2 (fun z => ?_) (fun _ => hY)
   obtain ⟨p, hp, hip⟩ := lastC ((row_eq _ _).mp z).symm
   have in0 : e0.n ∈ es.map (·.n) := List.mem_map_of_mem (f := fun x : En => x.n) em
   refine ⟨fun m' σ' G' => σ' = [some (.ref l), some (.int m), some (.ref f), some (.ref ra), some (.int (m % 8))] ∧ (∀ b u, b ≠ ra → G b = some u → G' b = some u) ∧ ∃ num : Int, G' ra = some (.lst (rowB { e0 with n := num })) ∧ e0.n ≤ num ∧ num ≤ 999168001 ∧ m' = (1000000000 - num).toNat, ⟨_, rfl, fun b u _ h => h, e0.n, hra, Int.le_refl _, by omega, rfl⟩, ?_⟩
   rintro m' σ' G2 ⟨rfl, fr2, num, hra2, m0, m1, rfl⟩
   have g0 : atI (rowB { e0 with n := num }) 0 = some (.int num) := atI_nat (j := 0) rfl
   have nl : l ≠ ra := fun z => by rw [z, fra] at hL0; cases hL0
   have hL2 := fr2 _ _ nl hL
   have hR2 : RowsB G2 ws es := ⟨hR.1, fun j v e a b => let ⟨c, e1, e2⟩ := hR0.2 j v e a b; ⟨c, e1, fr2 _ _ (ne_of_none e2 fra) (sG _ _ e2)⟩⟩
   refine ⟨_, rfl, ra, _, _, _, rfl, rfl, SqL.of hra2, g0, _, rfl, l, rfl, ⟨_, SqL.of hL2⟩, fun q B hq => ?_⟩
   refine loop_lst (xs := ws) (fun i σ acc G => (∃ o, σ = [o]) ∧ Same G2 G ∧ G q = some (.lst acc) ∧ acc = ((es.take i).map (·.n)).map V.int) (by omega) ?_ ?_ ?_ ?_
   ·exact ⟨⟨_, rfl⟩, Same.new hq, upd_same, rfl⟩
   ·rintro i σ acc G hi ⟨_, sG, h1, rfl⟩
    exact ⟨h1, SqL.of (sG _ _ hL2), by rw [List.length_map, List.length_map, List.length_take]; omega⟩
   ·rintro i v σ acc G hx ⟨⟨o, rfl⟩, sG, h1, rfl⟩
    have hi : i < ws.length := (List.getElem?_eq_some_iff.mp hx).1
    have hie : i < es.length := by omega
    have ee : es[i]? = some es[i] := List.getElem?_eq_getElem hie
    obtain ⟨rb, rfl, hrow⟩ := hR2.2 i v _ hx ee
    have f0 : atI (rowB es[i]) 0 = some (.int es[i].n) := atI_nat (j := 0) rfl
    have hrow := sG _ _ hrow
    refine ⟨_, rfl, rb, _, _, _, rfl, rfl, SqL.of hrow, f0, h1, Nx.mk hi ⟨⟨_, rfl⟩, same_put hq sG, upd_same, ?_⟩⟩
    rw [take_one ee, List.map_append, List.map_append]
    rfl
   ·rintro σ acc G3 ⟨_, s3, h1, rfl⟩
    rw [lw, List.take_of_length_le (Nat.le_refl _)] at h1
    refine ⟨q, _, rfl, .inl (SqL.of h1), rfl, flatI _, _, rfl, ?_⟩
    refine iteB (fun z => ?_) (fun z => ?_)
    ·obtain ⟨e, he, en⟩ := List.mem_map.mp (inV_ints.mp z)
     have en2 := (hB.nn e he).2
     have n168 : num ≤ 999168000 := by omega
     refine ⟨fun σ' G' => σ' = [some (.ref l), some (.int m), some (.ref f), some (.ref ra), some (.int (m % 8))] ∧ (∀ b u, b ≠ ra → G b = some u → G' b = some u) ∧ G' ra = some (.lst (rowB { e0 with n := num + 1 })), fun σ' G' h => ⟨(1000000000 - (num + 1)).toNat, by omega, h.1, h.2.1, num + 1, h.2.2, by omega, by omega, rfl⟩, ?_⟩
     refine ⟨_, rfl, ra, _, _, _, rfl, rfl, SqL.of (s3 _ _ hra2), g0, ?_⟩
     walk_at "rd"
     exact ⟨ra, _, _, 0, rfl, rfl, s3 _ _ hra2, rfl, rfl, fun b u nb hb => by rw [upd_ne nb]; exact s3 _ _ (fr2 b u nb hb), upd_same⟩
    ·have nin : num ∉ es.map (·.n) := fun w => by
      have : inV (.int num) ((es.map (·.n)).map V.int) = true := inV_ints.mpr w
      rw [show inV (.int num) ((es.map (·.n)).map V.int) = false from z] at this
      cases this
     have nne : num ≠ e0.n := fun w => nin (by rw [w]; exact in0)
     refine ⟨⟨_, rfl⟩, fun b u nb hb => s3 _ _ (fr2 b u nb hb), { e0 with n := num }, s3 _ _ hra2, ok_with (by show 1 ≤ num; omega) (by show num ≤ 1000000000; omega) dd0.1 (by show e0.d ≤ 1000000; omega) rk0 wd0 uf0 tf0, fun w => nne (congrArg En.n w), ?_⟩
     rw [hip, hp, List.set_append_right _ _ (Nat.le_refl _), Nat.sub_self]
     exact set_last (e0 := e0) (by rw [← hp]; exact hB.bk) (fun x hx w => nin (by rw [← show x.n = num from w, hp]; exact List.mem_map_of_mem (f := fun x : En => x.n) (List.mem_append_left _ hx))) (.inr ⟨rfl, by show e0.n ≤ num; omega⟩)
  walk_at "rd"
  refine iteAnd ?_ (fun _ hY => ?_)
  rotate_left
  ·refine ⟨_, rfl, _, rfl, _, rfl, f, _, _, _, rfl, rfl, SqL.of hf, hatL, 0, _, by decide, eqLast, _, rfl, ?_⟩
   refine ite2 (fun z => ?_) (fun _ => hY)
   obtain ⟨p, hp, hip⟩ := lastC ((row_eq _ _).mp z).symm
   refine ⟨_, rfl, ra, _, _, _, rfl, rfl, SqL.of hra, f1, ?_⟩
   walk_at "rd"
   refine ⟨ra, _, _, 1, rfl, rfl, hra, rfl, ⟨_, rfl⟩, put G 1 _ { e0 with d := e0.d + 1 } (fun _ _ _ h => h) rfl ⟨ok_with nn0.1 (by show e0.n ≤ 1000000000; omega) (by show 1 ≤ e0.d + 1; omega) (by show e0.d + 1 ≤ 1000000; omega) rk0 wd0 uf0 tf0, fun w => ?_, ?_⟩⟩
   ·have : e0.d + 1 = e0.d := congrArg En.d w
    omega
   ·rw [hip, hp, List.set_append_right _ _ (Nat.le_refl _), Nat.sub_self]
    refine set_last (e0 := e0) (by rw [← hp]; exact hB.bk) (fun x hx w => ?_) (.inl (by show e0.d < e0.d + 1; omega))
    have q := nd
    rw [hp, List.map_append, List.nodup_append] at q
    exact q.2.2 _ (List.mem_map_of_mem (f := fun x : En => x.n) hx) _ (List.mem_singleton.mpr rfl) w
  walk_at "rd"
  refine iteAnd ?_ (fun _ hY => ?_)
  rotate_left
  ·refine ⟨_, rfl, ra, _, _, _, rfl, rfl, SqL.of hra, f2, rfl, _, rfl, ?_⟩
   refine ite2 (fun z => ?_) (fun _ => hY)
   have z : e0.r ≠ Str.ofString "genus" := fun w => by
    have z : (!decide (V.str e0.r = V.str (Str.ofString "genus"))) = true := z
    rw [w, decide_eq_true rfl] at z
    cases z
   obtain ⟨r', hr', hv, hne, hng⟩ : ∃ r' : Str, isRank (.str r') = true ∧ valV (mergeK [] [(Sum.inr (Str.ofString "species"), V.str (Str.ofString "form")), (Sum.inr (Str.ofString "form"), V.str (Str.ofString "species"))]) (Sum.inr e0.r) = some (.str r') ∧ r' ≠ e0.r ∧ r' ≠ Str.ofString "genus" := by
    rcases (okE_rank ok0).resolve_left z with w | w
    ·rw [w]; exact ⟨Str.ofString "form", by decide +kernel, by decide +kernel, by decide +kernel, by decide +kernel⟩
    ·rw [w]; exact ⟨Str.ofString "species", by decide +kernel, by decide +kernel, by decide +kernel, by decide +kernel⟩
   refine fun pd hpd => ⟨upd_same, [(Sum.inr (Str.ofString "species"), V.str (Str.ofString "form")), (Sum.inr (Str.ofString "form"), V.str (Str.ofString "species"))], rfl, by decide, ?_⟩
   have sm : Same G (upd (upd G pd (.dK [])) pd (.dK (mergeK [] [(Sum.inr (Str.ofString "species"), V.str (Str.ofString "form")), (Sum.inr (Str.ofString "form"), V.str (Str.ofString "species"))]))) := fun b u hb => by rw [upd_upd, upd_ne (ne_of_none hb hpd)]; exact hb
   refine ⟨_, rfl, ra, _, _, _, rfl, rfl, SqL.of (sm _ _ hra), f2, pd, .str r', rfl, by rw [← hv]; exact DGet.k (k := Sum.inr e0.r) upd_same, ?_⟩
   generalize upd (upd G pd (.dK [])) pd (.dK (mergeK [] [(Sum.inr (Str.ofString "species"), V.str (Str.ofString "form")), (Sum.inr (Str.ofString "form"), V.str (Str.ofString "species"))])) = G1 at sm ⊢
   have uf : underFits (.str r') (optV e0.u) = true := by rw [under_n hng, ← under_n z]; exact uf0
   have tf : tieFits (.str r') (optV e0.s) (optV e0.b) = true := by
    rcases tie_parts tf0 with ⟨x, h1, h2, b1, b2⟩ | ⟨x, h1, h2, _, b1, b2⟩
    ·rw [h1, h2]; show tieFits (.str r') (.int x) .non = true; rw [tie_n]; exact inR_of b1 b2
    ·rw [h1, h2]; show tieFits (.str r') .non (.int x) = true; rw [tie_b _ _ (by intro z; cases z), decide_eq_false (fun z => hng (V.str.inj z)), decide_eq_true rfl, inR_of b1 b2]; rfl
   exact ⟨_, rfl, ra, _, _, 2, rfl, rfl, sm _ _ hra, rfl, ⟨_, rfl⟩, put G1 2 _ { e0 with r := r' } (fun b u _ h => sm b u h) rfl ⟨ok_with nn0.1 (by show e0.n ≤ 1000000000; omega) dd0.1 (by show e0.d ≤ 1000000; omega) hr' wd0 uf tf, fun w => hne (congrArg En.r w), same2 _ rfl⟩⟩
  walk_at "rd"
  refine iteAnd ?_ (fun _ hY => ?_)
  rotate_left
  ·refine ⟨_, rfl, ra, _, _, _, rfl, rfl, SqL.of hra, f2, rfl, _, rfl, ?_⟩
   refine ite2 (fun z => ?_) (fun _ => hY)
   have z : e0.r ≠ Str.ofString "genus" := fun w => by
    have z : (!decide (V.str e0.r = V.str (Str.ofString "genus"))) = true := z
    rw [w, decide_eq_true rfl] at z
    cases z
   rw [under_n z] at uf0
   obtain ⟨x, hx, b1, b2⟩ := inR_le uf0
   rw [hx] at f4
   have f4 : atI (rowB e0) 4 = some (.int x) := f4
   obtain ⟨c1, c2, c3⟩ := up_ne b1 b2
   refine ⟨_, rfl, ra, _, _, _, rfl, rfl, SqL.of hra, f4, ?_⟩
   walk_at "rd"
   exact ⟨ra, _, _, 4, rfl, rfl, hra, rfl, ⟨_, rfl⟩, put G 4 _ { e0 with u := some (x % 1000000000 + 1) } (fun _ _ _ h => h) rfl ⟨ok_with nn0.1 (by show e0.n ≤ 1000000000; omega) dd0.1 (by show e0.d ≤ 1000000; omega) rk0 wd0 (by show underFits (.str e0.r) (.int (x % 1000000000 + 1)) = true; rw [under_n z]; exact inR_of c1 c2) tf0, fun w => c3 (Option.some.inj ((congrArg En.u w).trans hx)), same2 _ rfl⟩⟩
  walk_at "rd"
  refine iteAnd ?_ (fun _ hY => ?_)
  rotate_left
  ·refine ⟨_, rfl, ra, _, _, _, rfl, rfl, SqL.of hra, f5, ?_⟩
   rcases tie_parts tf0 with ⟨x, h1, h2, b1, b2⟩ | ⟨x, h1, h2, _, b1, b2⟩
   rotate_left
   ·rw [h2]
    exact ⟨_, rfl, iteF hY⟩
   rw [h1] at f5 ⊢
   refine ⟨_, rfl, iteT ?_⟩
   have f5 : atI (rowB e0) 5 = some (.int x) := f5
   obtain ⟨c1, c2, c3⟩ := up_ne b1 b2
   refine ⟨_, rfl, ra, _, _, _, rfl, rfl, SqL.of hra, f5, ?_⟩
   walk_at "rd"
   exact ⟨ra, _, _, 5, rfl, rfl, hra, rfl, ⟨_, rfl⟩, put G 5 _ { e0 with s := some (x % 1000000000 + 1) } (fun _ _ _ h => h) rfl ⟨ok_with nn0.1 (by show e0.n ≤ 1000000000; omega) dd0.1 (by show e0.d ≤ 1000000; omega) rk0 wd0 uf0 (by show tieFits (.str e0.r) (.int (x % 1000000000 + 1)) (optV e0.b) = true; rw [h2]; show tieFits (.str e0.r) (.int (x % 1000000000 + 1)) .non = true; rw [tie_n]; exact inR_of c1 c2), fun w => c3 (Option.some.inj ((congrArg En.s w).trans h1)), same2 _ rfl⟩⟩
  walk_at "rd"
  refine iteAnd ?_ (fun _ hY => ?_)
  rotate_left
  ·refine ⟨_, rfl, ra, _, _, _, rfl, rfl, SqL.of hra, f6, ?_⟩
   rcases tie_parts tf0 with ⟨x, h1, h2, b1, b2⟩ | ⟨x, h1, h2, hng, b1, b2⟩
   ·rw [h2]
    exact ⟨_, rfl, iteF hY⟩
   rw [h1] at f6 ⊢
   refine ⟨_, rfl, iteT ?_⟩
   have f6 : atI (rowB e0) 6 = some (.int x) := f6
   obtain ⟨c1, c2, c3⟩ := up_ne b1 b2
   refine ⟨_, rfl, ra, _, _, _, rfl, rfl, SqL.of hra, f6, ?_⟩
   walk_at "rd"
   exact ⟨ra, _, _, 6, rfl, rfl, hra, rfl, ⟨_, rfl⟩, put G 6 _ { e0 with b := some (x % 1000000000 + 1) } (fun _ _ _ h => h) rfl ⟨ok_with nn0.1 (by show e0.n ≤ 1000000000; omega) dd0.1 (by show e0.d ≤ 1000000; omega) rk0 wd0 uf0 (by show tieFits (.str e0.r) (optV e0.s) (.int (x % 1000000000 + 1)) = true; rw [h2]; show tieFits (.str e0.r) .non (.int (x % 1000000000 + 1)) = true; rw [tie_b _ _ (by intro z; cases z), decide_eq_false (fun z => hng (V.str.inj z)), decide_eq_true rfl, inR_of c1 c2]; rfl), fun w => c3 (Option.some.inj ((congrArg En.b w).trans h1)), same2 _ rfl⟩⟩
  walk_at "rd"
  refine ite2 (fun _ => ?_) (fun _ => ?_)
  ·refine ⟨_, rfl, ra, _, _, _, rfl, rfl, SqL.of hra, f7, _, rfl, ?_⟩
   exact ⟨_, rfl, ra, _, _, 7, rfl, rfl, hra, rfl, ⟨_, rfl⟩, put G 7 _ { e0 with k := !e0.k } (fun _ _ _ h => h) rfl ⟨ok_with nn0.1 (by show e0.n ≤ 1000000000; omega) dd0.1 (by show e0.d ≤ 1000000; omega) rk0 wd0 uf0 tf0, fun w => (by have this : (!e0.k) = e0.k := congrArg En.k w; revert this; cases e0.k <;> decide), same2 _ rfl⟩⟩
  refine ⟨le_ble rfl, fun p hp => ?_⟩
  have sp := Same.new (o := HO.lst [V.str (Str.ofString "b"), V.str (Str.ofString "a")]) hp
  have kp := upd_same (H := G) (a := p) (o := .lst [V.str (Str.ofString "b"), V.str (Str.ofString "a")])
  generalize upd G p (.lst [V.str (Str.ofString "b"), V.str (Str.ofString "a")]) = G1 at sp kp ⊢
  refine ⟨_, rfl, ra, _, _, _, rfl, rfl, SqL.of (sp _ _ hra), f3, rfl, .inr ⟨_, rfl, ?_⟩⟩
  obtain ⟨w', hw', hv, hne⟩ : ∃ w' : Str, isWord (.str w') = true ∧ atI [V.str (Str.ofString "b"), V.str (Str.ofString "a")] (if decide (V.str e0.w = V.str (Str.ofString "b")) = true then (1 : Int) else 0) = some (.str w') ∧ w' ≠ e0.w := by
   by_cases h : e0.w = Str.ofString "b"
   ·rw [h, decide_eq_true rfl]
    exact ⟨Str.ofString "a", by decide +kernel, atI_nat (j := 1) rfl, by decide +kernel⟩
   ·rw [decide_eq_false (fun z => h (V.str.inj z))]
    exact ⟨Str.ofString "b", by decide +kernel, atI_nat (j := 0) rfl, fun z => h z.symm⟩
  refine ⟨p, _, _, .str w', rfl, rfl, SqL.of kp, hv, ?_⟩
  exact ⟨_, rfl, ra, _, _, 3, rfl, rfl, sp _ _ hra, rfl, ⟨_, rfl⟩, put G1 3 _ { e0 with w := w' } (fun b u _ h => sp b u h) rfl ⟨ok_with nn0.1 (by show e0.n ≤ 1000000000; omega) dd0.1 (by show e0.d ≤ 1000000; omega) rk0 hw' uf0 tf0, fun w => hne (congrArg En.w w), same2 _ rfl⟩⟩
set_option maxHeartbeats 4000000 in
theorem ok_Lasked (T : Txt w K mg c) : FnOk P w K mg base (CXx P w) 7 c.a_Lasked c.d_Lasked ["_law_way", "_law_entries"] (spAskedB K c.c_Entry c.c_NoBook) := by
 refine T.Lasked.fn.okx sc_Lasked (fun vs H Q E h => ?_) (fun cdv A outer s H vs Q E hr h => ?_)
 ·obtain ⟨i, v, rfl, _⟩ := h
  rfl
 ·obtain ⟨i, v, rfl, h0⟩ := h
  refine ⟨_, (pss_cons (ps_if (pt_cmpR op_eq (pv 0) pe_int (nomark _))
    (pss_one (ps_ret (pe_callS (ok_book_list T) (hr.mono (by decide)) rfl T.book_list.mgf T.book_list.kp T.book_list.bi .nil pass_def (pa_cons (pv 1) pa_nil))))
    pss_nil)
   (pss_cons (ps_if (pt_cmpR op_eq (pv 0) pe_int (nomark _))
    (pss_one (ps_ret (pe_callS (ok_same_book T) (hr.mono (by decide)) rfl T.same_book.mgf T.same_book.kp T.same_book.bi .nil pass_def (pa_cons (pv 1) (pa_cons (pe_lst pa_nil) pa_nil)))))
    pss_nil)
   (pss_cons (ps_if (pt_cmpR op_eq (pv 0) pe_int (nomark _))
    (pss_one (ps_ret (pe_callS (ok_same_book T) (hr.mono (by decide)) rfl T.same_book.mgf T.same_book.kp T.same_book.bi .nil pass_def (pa_cons (pe_lst pa_nil) (pa_cons (pv 1) pa_nil)))))
    pss_nil)
   (pss_cons (ps_if (pt_cmpR op_eq (pv 0) pe_int (nomark _))
    (pss_one (ps_ret (pe_callS (ok_outcomes T) (hr.mono (by decide)) rfl T.outcomes.mgf T.outcomes.kp T.outcomes.bi .nil pass_def (pa_cons (pv 1) pa_nil))))
    pss_nil)
   (pss_cons (ps_if (pt_cmpR op_eq (pv 0) pe_int (nomark _))
    (pss_one (ps_ret (pe_callS (ok_full_names T) (hr.mono (by decide)) rfl T.full_names.mgf T.full_names.kp T.full_names.bi .nil pass_def (pa_cons (pv 1) pa_nil))))
    pss_nil)
   (pss_cons (ps_if (pt_cmpR op_eq (pv 0) pe_int (nomark _))
    (pss_one (ps_ret (pe_callS (ok_roots T) (hr.mono (by decide)) rfl T.roots.mgf T.roots.kp T.roots.bi .nil pass_def (pa_cons (pv 1) pa_nil))))
    pss_nil)
   (pss_one (ps_ret (pe_callS (ok_tied T) (hr.mono (by decide)) rfl T.tied.mgf T.tied.kp T.tied.bi .nil pass_def (pa_cons (pv 1) pa_nil)))))))))), ?_⟩
  have sz : 2000 < sizeLine := le_ble rfl
  have cases7 : ∀ {P : Prop}, P → P := fun h => h
  clear cases7
  walk_at "rd"
  refine ite2 (fun _ => ?_) (fun _ => ?_)
  ·rcases h0 with ⟨es, gb, k⟩ | ⟨bad, k⟩
   ·obtain ⟨l, ws, rfl, hL, hE, ok, hz, hb⟩ := gb
    exact ⟨_, rfl, _, rfl, .inl ⟨l, ws, es.map some, rfl, hL, hE.its, hz, fun _ q G sG hq hq2 => k _ G sG, fun h => absurd (hb.symm.trans h) (by decide)⟩⟩
   ·rcases bad with ⟨l, ws, is, rfl, hL, hI, hz, hb⟩ | ⟨n, ty, hn⟩
    ·exact ⟨_, rfl, _, rfl, .inl ⟨l, ws, is, rfl, hL, hI, hz, fun h => absurd (hb.symm.trans h) (by decide), fun _ G sG => k G sG⟩⟩
    ·exact ⟨_, rfl, _, rfl, .inr ⟨n, ty, hn, fun G sG => k G sG⟩⟩
  walk_at "rd"
  refine ite2 (fun _ => ?_) (fun _ => ?_)
  ·refine ⟨_, rfl, le_ble rfl, fun q hq => ?_⟩
   have s1 := Same.new (o := HO.lst []) hq
   rcases h0 with ⟨es, gb, k⟩ | ⟨bad, k⟩
   ·exact ⟨v, .ref q, rfl, .inl ⟨es, [], gb.same s1, GoodB.nil upd_same, fun b G sG _ => k _ G (s1.trans sG)⟩⟩
   ·exact ⟨v, .ref q, rfl, .inr (.inl ⟨bad.same s1, fun G sG => k G (s1.trans sG)⟩)⟩
  walk_at "rd"
  refine ite2 (fun _ => ?_) (fun _ => ?_)
  ·refine ⟨le_ble rfl, fun q hq => ?_⟩
   have s1 := Same.new (o := HO.lst []) hq
   rcases h0 with ⟨es, gb, k⟩ | ⟨bad, k⟩
   ·exact ⟨_, rfl, .ref q, v, rfl, .inl ⟨[], es, GoodB.nil upd_same, gb.same s1, fun b G sG _ => k _ G (s1.trans sG)⟩⟩
   ·exact ⟨_, rfl, .ref q, v, rfl, .inr (.inr ⟨[], GoodB.nil upd_same, bad.same s1, fun G sG => k G (s1.trans sG)⟩)⟩
  walk_at "rd"
  refine ite2 (fun _ => ?_) (fun _ => ?_)
  ·rcases h0 with ⟨es, gb, k⟩ | ⟨bad, k⟩
   ·exact ⟨_, rfl, v, rfl, .inl ⟨es, gb, fun d G sG _ _ => k _ G sG⟩⟩
   ·exact ⟨_, rfl, v, rfl, .inr ⟨bad, fun G sG => k G sG⟩⟩
  walk_at "rd"
  refine ite2 (fun _ => ?_) (fun _ => ?_)
  ·rcases h0 with ⟨es, gb, k⟩ | ⟨bad, k⟩
   ·exact ⟨_, rfl, v, rfl, .inl ⟨es, gb, fun d kn G sG _ _ _ => k _ G sG⟩⟩
   ·exact ⟨_, rfl, v, rfl, .inr ⟨bad, fun G sG => k G sG⟩⟩
  walk_at "rd"
  refine ite2 (fun _ => ?_) (fun _ => ?_)
  ·rcases h0 with ⟨es, gb, k⟩ | ⟨bad, k⟩
   ·exact ⟨_, rfl, v, rfl, .inl ⟨es, gb, fun d G sG _ _ => k _ G sG⟩⟩
   ·exact ⟨_, rfl, v, rfl, .inr ⟨bad, fun G sG => k G sG⟩⟩
  rcases h0 with ⟨es, gb, k⟩ | ⟨bad, k⟩
  ·exact ⟨_, rfl, v, rfl, .inl ⟨es, gb, fun d G sG _ _ => k _ G sG⟩⟩
  ·exact ⟨_, rfl, v, rfl, .inr ⟨bad, fun G sG => k G sG⟩⟩
set_option maxHeartbeats 4000000 in
theorem ok_Ltruths (T : Txt w K mg c) : FnOk P w K mg base CX0 8 c.a_Ltruths c.d_Ltruths ["_law_way", "_law_entries"] (spTruths K c.c_Entry) := by
 refine T.Ltruths.fn.ok sc_Ltruths (fun vs H Q E h => ?_) (fun cdv A outer s H vs Q E hr h => ?_)
 ·obtain ⟨i, v, rfl, _⟩ := h
  rfl
 ·obtain ⟨i, v, rfl, h0⟩ := h
  refine ⟨_, (pss_cons (ps_set (i := 2) sc_Ltruths.nd rfl (Or.inl rfl) (pe_lst pa_nil))
   (pss_cut (ps_try rfl rfl rfl sc_Ltruths.nd (i := 3) rfl rfl rfl T.mg_RightError (fun Ez pins W hp =>
    (pss_one (ps_expr (pe_callS (ok_Lasked T) (hr.mono (by decide)) rfl T.Lasked.mgf T.Lasked.kp T.Lasked.bi .nil hp (pa_cons (pv 0) (pa_cons (pv 1) pa_nil))))))
    (fun e => (pss_cons (ps_set (i := 2) sc_Ltruths.nd rfl (Or.inl rfl) (pe_lst (pa_cons (pe_callB call_isiA rfl T.no_isinstance bt_isinstance (pa_cons (pv 3) (pa_cons (pe_bltn (v := .ty "ValueError") rfl T.no_ValueError bt_ValueError rfl) pa_nil))) (pa_cons (pe_callB call_isiA rfl T.no_isinstance bt_isinstance (pa_cons (pv 3) (pa_cons (pe_glob (v := .ref c.c_NoBook) rfl T.mg_NoBook rfl) pa_nil))) pa_nil))))
   (pss_cons (ps_set (i := 2) sc_Ltruths.nd rfl (Or.inl rfl) (pe_op op_cat (pv 2) (pe_lst (pa_cons (pe_callB call_isiA rfl T.no_isinstance bt_isinstance (pa_cons (pv 3) (pa_cons (pe_glob (v := .ref c.c_NoEntry) rfl T.mg_NoEntry rfl) pa_nil))) (pa_cons (pe_callB call_isiA rfl T.no_isinstance bt_isinstance (pa_cons (pv 3) (pa_cons (pe_glob (v := .ref c.c_NoNumber) rfl T.mg_NoNumber rfl) pa_nil))) pa_nil)))))
   (pss_cons (ps_if (PW.pt (pw_or (pt_val (pe_callB call_isiA rfl T.no_isinstance bt_isinstance (pa_cons (pv 3) (pa_cons (pe_glob (v := .ref c.c_NoText) rfl T.mg_NoText rfl) pa_nil)))) (pw_or (pt_val (pe_callB call_isiA rfl T.no_isinstance bt_isinstance (pa_cons (pv 3) (pa_cons (pe_glob (v := .ref c.c_NoAct) rfl T.mg_NoAct rfl) pa_nil)))) (pw_or (pt_val (pe_callB call_isiA rfl T.no_isinstance bt_isinstance (pa_cons (pv 3) (pa_cons (pe_glob (v := .ref c.c_NoDay) rfl T.mg_NoDay rfl) pa_nil)))) (pw_or1 (pt_val (pe_callB call_isiA rfl T.no_isinstance bt_isinstance (pa_cons (pv 3) (pa_cons (pe_glob (v := .ref c.c_NoWord) rfl T.mg_NoWord rfl) pa_nil)))))))))
    (pss_one (ps_set (i := 2) sc_Ltruths.nd rfl (Or.inl rfl) (pe_lst pa_nil)))
    pss_nil)
   (pss_cons (ps_if (PW.pt (pw_or (pt_val (pe_callB call_isiA rfl T.no_isinstance bt_isinstance (pa_cons (pv 3) (pa_cons (pe_glob (v := .ref c.c_NoRank) rfl T.mg_NoRank rfl) pa_nil)))) (pw_or (pt_val (pe_callB call_isiA rfl T.no_isinstance bt_isinstance (pa_cons (pv 3) (pa_cons (pe_glob (v := .ref c.c_NoSheet) rfl T.mg_NoSheet rfl) pa_nil)))) (pw_or (pt_val (pe_callB call_isiA rfl T.no_isinstance bt_isinstance (pa_cons (pv 3) (pa_cons (pe_glob (v := .ref c.c_NoSorting) rfl T.mg_NoSorting rfl) pa_nil)))) (pw_or1 (pt_val (pe_callB call_isiA rfl T.no_isinstance bt_isinstance (pa_cons (pv 3) (pa_cons (pe_glob (v := .ref c.c_NoPath) rfl T.mg_NoPath rfl) pa_nil)))))))))
    (pss_one (ps_set (i := 2) sc_Ltruths.nd rfl (Or.inl rfl) (pe_lst pa_nil)))
    pss_nil)
   (pss_one (ps_if (PW.pt (pw_or (pt_val (pe_callB call_isiA rfl T.no_isinstance bt_isinstance (pa_cons (pv 3) (pa_cons (pe_glob (v := .ref c.c_Late) rfl T.mg_Late rfl) pa_nil)))) (pw_or1 (pt_val (pe_callB call_isiA rfl T.no_isinstance bt_isinstance (pa_cons (pv 3) (pa_cons (pe_glob (v := .ref c.c_NoRow) rfl T.mg_NoRow rfl) pa_nil)))))))
    (pss_one (ps_set (i := 2) sc_Ltruths.nd rfl (Or.inl rfl) (pe_lst pa_nil)))
    pss_nil))))))))
   (pss_one (ps_ret (pv 2))))), ?_⟩
  refine ⟨le_ble rfl, fun p0 hp0 => ?_⟩
  have s0 := Same.new (o := HO.lst []) hp0
  have k0 := upd_same (H := H) (a := p0) (o := .lst [])
  generalize upd H p0 (.lst []) = G0 at s0 k0 ⊢
  rcases h0 with ⟨es, gb, k⟩ | ⟨bad, k⟩
  ·refine ⟨fun σ G => Same H G ∧ σ = [some (.int i), some v, some (.ref p0), none] ∧ G p0 = some (.lst []), ?_, ?_⟩
   ·refine ⟨fun σ1 X dd H1 => False, fun pins W => ?_, ?_⟩
    ·exact ⟨_, rfl, _, rfl, i, v, rfl, .inl ⟨es, gb.same s0, fun u G sG => ⟨s0.trans sG, rfl, sG _ _ k0⟩⟩⟩
    ·intro σ1 X dd H1 z
     exact False.elim z
   rintro σ G ⟨sG, rfl, hq⟩
   exact ⟨_, rfl, k p0 G sG hq⟩
  ·refine ⟨fun σ G => Same H G ∧ ∃ q, σ = [some (.int i), some v, some (.ref q), none] ∧ G q = some (.lst truthsB), ?_, ?_⟩
   ·refine ⟨fun σ1 X dd H1 => σ1 = [some (.int i), some v, some (.ref p0), none] ∧ X = .ref c.c_NoBook ∧ dd = none ∧ Same G0 H1, fun pins W => ?_, ?_⟩
    ·exact ⟨_, rfl, _, rfl, i, v, rfl, .inr ⟨bad.same s0, fun G sG => ⟨rfl, rfl, rfl, sG⟩⟩⟩
    rintro σ1 X dd H1 ⟨rfl, rfl, rfl, sH⟩
    refine ⟨T.e_NoBook_RightError, fun e he0 => ?_⟩
    have s1 := Same.new (o := exO (.ref c.c_NoBook) none e) he0
    have he := upd_same (H := H1) (a := e) (o := exO (.ref c.c_NoBook) none e)
    generalize upd H1 e (exO (.ref c.c_NoBook) none e) = G1 at s1 he ⊢
    refine ⟨_, rfl, rIsiA.excT he T.q_NoBook T.i_NoBook_ValueError ?_⟩
    refine ⟨_, rfl, rIsiA.exc he T.q_NoBook T.i_NoBook_NoBook ?_⟩
    refine ⟨le_ble rfl, fun p1 hp1 => ?_⟩
    have s2 := Same.new (o := HO.lst [V.bl true, V.bl true]) hp1
    have k1 := upd_same (H := G1) (a := p1) (o := .lst [V.bl true, V.bl true])
    have he := s2 _ _ he
    generalize upd G1 p1 (.lst [V.bl true, V.bl true]) = G2 at s2 k1 he ⊢
    refine ⟨_, rfl, ?_⟩
    refine ⟨_, rfl, rIsiA.exc he T.q_NoBook T.i_NoBook_NoEntry ?_⟩
    refine ⟨_, rfl, rIsiA.exc he T.q_NoBook T.i_NoBook_NoNumber ?_⟩
    refine ⟨le_ble rfl, fun p2 hp2 => ?_⟩
    have s3 := Same.new (o := HO.lst [V.bl false, V.bl false]) hp2
    have k2 := upd_same (H := G2) (a := p2) (o := .lst [V.bl false, V.bl false])
    have he := s3 _ _ he
    have k1 := s3 _ _ k1
    generalize upd G2 p2 (.lst [V.bl false, V.bl false]) = G3 at s3 k1 k2 he ⊢
    refine ⟨p1, p2, _, _, rfl, rfl, k1, k2, le_ble rfl, fun p3 hp3 => ?_⟩
    have s4 := Same.new (o := HO.lst truthsB) hp3
    have k3 : upd G3 p3 (.lst ([V.bl true, V.bl true] ++ [V.bl false, V.bl false])) p3 = some (.lst truthsB) := upd_same
    have he : upd G3 p3 (.lst ([V.bl true, V.bl true] ++ [V.bl false, V.bl false])) e = some (exO (.ref c.c_NoBook) none e) := s4 _ _ he
    have s4 : Same G3 (upd G3 p3 (.lst ([V.bl true, V.bl true] ++ [V.bl false, V.bl false]))) := s4
    generalize upd G3 p3 (.lst ([V.bl true, V.bl true] ++ [V.bl false, V.bl false])) = G4 at s4 k3 he ⊢
    refine ⟨_, rfl, rIsiA.exc he T.q_NoBook T.i_NoBook_NoText ⟨_, rfl, iteF ?_⟩⟩
    refine ⟨_, rfl, rIsiA.exc he T.q_NoBook T.i_NoBook_NoAct ⟨_, rfl, iteF ?_⟩⟩
    refine ⟨_, rfl, rIsiA.exc he T.q_NoBook T.i_NoBook_NoDay ⟨_, rfl, iteF ?_⟩⟩
    refine ⟨_, rfl, rIsiA.exc he T.q_NoBook T.i_NoBook_NoWord ⟨_, rfl, iteF ?_⟩⟩
    refine ⟨_, rfl, rIsiA.exc he T.q_NoBook T.i_NoBook_NoRank ⟨_, rfl, iteF ?_⟩⟩
    refine ⟨_, rfl, rIsiA.exc he T.q_NoBook T.i_NoBook_NoSheet ⟨_, rfl, iteF ?_⟩⟩
    refine ⟨_, rfl, rIsiA.exc he T.q_NoBook T.i_NoBook_NoSorting ⟨_, rfl, iteF ?_⟩⟩
    refine ⟨_, rfl, rIsiA.exc he T.q_NoBook T.i_NoBook_NoPath ⟨_, rfl, iteF ?_⟩⟩
    refine ⟨_, rfl, rIsiA.exc he T.q_NoBook T.i_NoBook_Late ⟨_, rfl, iteF ?_⟩⟩
    refine ⟨_, rfl, rIsiA.exc he T.q_NoBook T.i_NoBook_NoRow ⟨_, rfl, iteF ?_⟩⟩
    exact ⟨s0.trans (sH.trans (s1.trans (s2.trans (s3.trans s4)))), p3, rfl, k3⟩
   rintro σ G ⟨sG, q, rfl, hq⟩
   exact ⟨_, rfl, k q G sG hq⟩
set_option maxHeartbeats 4000000 in
theorem ok_law (T : Txt w K mg c) : FnOk P w K mg base CX0 9 c.a_law c.d_law ["_law_script"] (spLaw K) := by
 refine T.law.fn.ok sc_law (fun vs H Q E h => ?_) (fun cdv A outer s H vs Q E hr h => ?_)
 ·obtain ⟨a, ns, rfl, _⟩ := h
  rfl
 ·obtain ⟨a, ns, rfl, hS, hn, k⟩ := h
  refine ⟨_, (pss_cons (ps_set (i := 1) sc_law.nd rfl (Or.inl rfl) (pe_call (ok_Lbook T) (hr.mono (by decide)) rfl T.Lbook.mgf T.Lbook.kp T.Lbook.bi .nil pass0 (pa_cons (pv 0) (pa_cons pe_int pa_nil))))
   (pss_cons (ps_set (i := 2) sc_law.nd rfl (Or.inl rfl) (pe_call (ok_Lmade T) (hr.mono (by decide)) rfl T.Lmade.mgf T.Lmade.kp T.Lmade.bi .nil pass0 (pa_cons (pv 1) pa_nil)))
   (pss_cut (ps_for PassesOwn.never rfl (pi_range1 rfl T.no_range (pa_cons (pe_callB call_len_seq rfl T.no_len bt_len (pa_cons (pv 1) pa_nil)) pa_nil)) (pg_name (i := 3) sc_law.nd rfl (Or.inl rfl))
    (pss_cons (ps_if (pt_cmpR op_isnotB (pe_call (ok_ahead T) (hr.mono (by decide)) rfl T.ahead.mgf T.ahead.kp T.ahead.bi .nil pass0 (pa_cons (pe_ix ix_list (pv 2) (pv 3) (fun _ _ => rfl)) (pa_cons (pe_ix ix_list (pv 2) (pv 3) (fun _ _ => rfl)) pa_nil))) pe_bl (nomark _))
    (pss_one (ps_ret pe_bl))
    pss_nil)
   (pss_cons (ps_if (PW.pt (pw_and (pt_cmpR op_gt (pv 3) pe_int (nomark _)) (pw_and1 (pt_cmpR op_isnotB (pe_call (ok_ahead T) (hr.mono (by decide)) rfl T.ahead.mgf T.ahead.kp T.ahead.bi .nil pass0 (pa_cons (pe_ix ix_list (pv 2) (pe_op op_sub (pv 3) pe_int) (fun _ _ => rfl)) (pa_cons (pe_ix ix_list (pv 2) (pv 3) (fun _ _ => rfl)) pa_nil))) pe_bl (nomark _)))))
    (pss_one (ps_ret pe_bl))
    pss_nil)
   (pss_one (ps_if (PW.pt (pw_and (pt_cmpR op_gt (pv 3) pe_int (nomark _)) (pw_and1 (pt_cmpR op_isnotB (pe_call (ok_ahead T) (hr.mono (by decide)) rfl T.ahead.mgf T.ahead.kp T.ahead.bi .nil pass0 (pa_cons (pe_ix ix_list (pv 2) (pv 3) (fun _ _ => rfl)) (pa_cons (pe_ix ix_list (pv 2) (pe_op op_sub (pv 3) pe_int) (fun _ _ => rfl)) pa_nil))) pe_bl (nomark _)))))
    (pss_one (ps_ret pe_bl))
    pss_nil)))))
   (pss_cons (ps_set (i := 4) sc_law.nd rfl (Or.inl rfl) (pe_callTy call_list_of rfl T.no_list bt_list (pa_cons (pv 2) pa_nil)))
   (pss_cons (ps_set (i := 5) sc_law.nd rfl (Or.inl rfl) (pe_callS (ok_book_list T) (hr.mono (by decide)) rfl T.book_list.mgf T.book_list.kp T.book_list.bi .nil passE0 (pa_cons (pv 4) pa_nil)))
   (pss_cons (ps_expr (pe_bm0 PySem.F.plainAttrs_list PySem.F.slot_list_clear PySem.F.type_list_clear mt_lclear (pv 4)))
   (pss_cons (ps_if (PW.pt (pw_or (pt_not (pt_val (pe_call (ok_Lis_book T) (hr.mono (by decide)) rfl T.Lis_book.mgf T.Lis_book.kp T.Lis_book.bi .nil pass0 (pa_cons (pv 5) (pa_cons (pv 1) pa_nil))))) (pw_or1 (pt_cmpR op_isnotB (pe_callS (ok_same_book T) (hr.mono (by decide)) rfl T.same_book.mgf T.same_book.kp T.same_book.bi .nil passE0 (pa_cons (pv 2) (pa_cons (pe_call (ok_Lmade T) (hr.mono (by decide)) rfl T.Lmade.mgf T.Lmade.kp T.Lmade.bi .nil pass0 (pa_cons (pv 1) pa_nil)) pa_nil))) pe_bl (nomark _)))))
    (pss_one (ps_ret pe_bl))
    pss_nil)
   (pss_cons (ps_set (i := 6) sc_law.nd rfl (Or.inl rfl) (pe_call (ok_Lmixed T) (hr.mono (by decide)) rfl T.Lmixed.mgf T.Lmixed.kp T.Lmixed.bi .nil pass0 (pa_cons (pe_call (ok_Lcell_at T) (hr.mono (by decide)) rfl T.Lcell_at.mgf T.Lcell_at.kp T.Lcell_at.bi .nil pass0 (pa_cons (pv 0) (pa_cons pe_int pa_nil))) (pa_cons pe_int pa_nil))))
   (pss_cut (ps_if (pt_cmpR (op_neD (hu62 hr)) (pv 1) (pe_lst pa_nil) (nomark _))
    (pss_cons (ps_set (i := 7) sc_law.nd rfl (Or.inl rfl) (pe_call (ok_Lmade T) (hr.mono (by decide)) rfl T.Lmade.mgf T.Lmade.kp T.Lmade.bi .nil pass0 (pa_cons (pe_call (ok_Lother T) (hr.mono (by decide)) rfl T.Lother.mgf T.Lother.kp T.Lother.bi .nil pass0 (pa_cons (pv 1) (pa_cons (pv 6) pa_nil))) pa_nil)))
   (pss_one (ps_if (PW.pt (pw_or (pt_cmpR op_isnotB (pe_callS (ok_same_book T) (hr.mono (by decide)) rfl T.same_book.mgf T.same_book.kp T.same_book.bi .nil passE0 (pa_cons (pv 2) (pa_cons (pv 7) pa_nil))) pe_bl (nomark _)) (pw_or1 (pt_cmpR op_isnotB (pe_callS (ok_same_book T) (hr.mono (by decide)) rfl T.same_book.mgf T.same_book.kp T.same_book.bi .nil passE0 (pa_cons (pv 7) (pa_cons (pv 2) pa_nil))) pe_bl (nomark _)))))
    (pss_one (ps_ret pe_bl))
    pss_nil)))
    pss_nil)
   (pss_cons (ps_set (i := 8) sc_law.nd rfl (Or.inl rfl) (pe_call (ok_Lfault T) (hr.mono (by decide)) rfl T.Lfault.mgf T.Lfault.kp T.Lfault.bi .nil pass0 (pa_cons (pv 2) (pa_cons (pv 1) (pa_cons (pe_op op_mod (pe_call (ok_Lcell_at T) (hr.mono (by decide)) rfl T.Lcell_at.mgf T.Lcell_at.kp T.Lcell_at.bi .nil pass0 (pa_cons (pv 0) (pa_cons pe_int pa_nil))) pe_int) (pa_cons (pv 6) pa_nil))))))
   (pss_cons (ps_for PassesOwn.never rfl (pi_range1 rfl T.no_range (pa_cons pe_int pa_nil)) (pg_name (i := 9) sc_law.nd rfl (Or.inl rfl))
    (pss_one (ps_if (PW.pt (pw_or (pt_cmpR (op_neD (hu62 hr)) (pe_call (ok_Ltruths T) (hr.mono (by decide)) rfl T.Ltruths.mgf T.Ltruths.kp T.Ltruths.bi .nil pass0 (pa_cons (pv 9) (pa_cons (pv 8) pa_nil))) (pe_lst (pa_cons pe_bl (pa_cons pe_bl (pa_cons pe_bl (pa_cons pe_bl pa_nil))))) (nomark _)) (pw_or1 (pt_cmpR (op_neD (hu62 hr)) (pe_call (ok_Ltruths T) (hr.mono (by decide)) rfl T.Ltruths.mgf T.Ltruths.kp T.Ltruths.bi .nil pass0 (pa_cons (pv 9) (pa_cons (pv 2) pa_nil))) (pe_lst pa_nil) (nomark _)))))
    (pss_one (ps_ret pe_bl))
    pss_nil)))
   (pss_one (ps_ret (pe_call (ok_Lis_book T) (hr.mono (by decide)) rfl T.Lis_book.mgf T.Lis_book.kp T.Lis_book.bi .nil pass0 (pa_cons (pv 2) (pa_cons (pv 1) pa_nil)))))))))))))))), ?_⟩
  have sz : 2000 < sizeLine := le_ble rfl
  refine ⟨_, rfl, a, 2, ns, rfl, by decide, by decide, hS, hn, fun l ws es G0 s0 hL hR hB h64 => ?_⟩
  have l84 := hB.le
  have okk := hB.ok
  have lw := hR.1
  obtain ⟨nd, _⟩ := book_nd hB.bk
  have pw := (pairs_of hB.bk).1
  refine ⟨_, rfl, l, ws, es, rfl, hL, hR, okk, l84, fun q acc G1 s1 fq hq hE => ?_⟩
  have lac : acc.length = es.length := hE.1
  have hL := s1 _ _ hL
  have hR := hR.same s1
  have gb : ∀ G', Same G1 G' → GoodB G' c.c_Entry (.ref q) es := fun G' s => ⟨q, acc, rfl, s _ _ hq, hE.same s, okk, by omega, hB.bk⟩
  refine ⟨fun σ G => Same G1 G ∧ ∃ z3, σ = [some (.ref a), some (.ref l), some (.ref q), z3, none, none, none, none, none, none], ?_, ?_⟩
  ·refine ⟨_, rfl, l, _, rfl, .inl (SqL.of hL), ?_⟩
   walk_at "rd"
   refine ⟨by omega, by omega, ?_⟩
   refine for_range (n := ws.length) (lo := 0) (fun i σ G => Same G1 G ∧ ∃ z3, σ = [some (.ref a), some (.ref l), some (.ref q), z3, none, none, none, none, none, none]) ?_ ?_ ?_
   ·exact ⟨Same.refl _, _, rfl⟩
   ·rintro i σ G hi ⟨sG, z3, rfl⟩
    have hie : i < es.length := by omega
    obtain ⟨y, hy⟩ : ∃ y, acc[i]? = some y := ⟨_, List.getElem?_eq_getElem (by omega)⟩
    have by_ : atI acc (0 + (i : Int)) = some y := by rw [Int.zero_add]; exact atI_nat hy
    have ey := hE.2 i y _ hy (List.getElem?_eq_getElem hie)
    have irr : aheadE es[i] es[i] = false := by
     cases h : aheadE es[i] es[i] with
     | false => rfl
     | true => have := (ahead_iff _ _).mp h; omega
    refine ⟨_, rfl, _, rfl, q, _, _, y, rfl, rfl, SqL.of (sG _ _ hq), by_, _, rfl, _, rfl, q, _, _, y, rfl, rfl, SqL.of (sG _ _ hq), by_, y, y, es[i], es[i], rfl, ey.same sG, ey.same sG, fun Ga sa => ?_⟩
    rw [irr]
    refine ⟨_, rfl, _, rfl, ite2 (fun z => absurd z (by decide)) (fun _ => ?_)⟩
    have sG := sG.trans sa
    have cyc : ∀ {j : Nat} (h : j < es.length) (h2 : j + 1 < es.length), aheadE es[j] es[j + 1] = true ∧ aheadE es[j + 1] es[j] = false := fun {j} h h2 => by
     have pr := List.pairwise_iff_getElem.mp pw j (j + 1) h h2 (by omega)
     refine ⟨pr, ?_⟩
     cases w : aheadE es[j + 1] es[j] with
     | false => rfl
     | true =>
      have a1 := (ahead_iff _ _).mp w
      have a2 := (ahead_iff _ _).mp pr
      omega
    walk_at "rd"
    refine ite2 (fun h1 => ?_) (fun h1 => iteF ?_)
    rotate_left
    ·walk_at "rd"
     refine ite2 (fun h2 => absurd h2 h1) (fun _ => iteF ⟨sG, _, rfl⟩)
    have h1 : 0 < (0 + (i : Int)) := of_decide_eq_true h1
    obtain ⟨j, rfl⟩ : ∃ j, i = j + 1 := ⟨i - 1, by omega⟩
    obtain ⟨c1, c2⟩ := cyc (j := j) (by omega) hie
    obtain ⟨y0, hy0⟩ : ∃ y, acc[j]? = some y := ⟨_, List.getElem?_eq_getElem (by omega)⟩
    have b0 : atI acc (0 + ((j + 1 : Nat) : Int) - 1) = some y0 := by
     have e9 : (0 + ((j + 1 : Nat) : Int) - 1) = ((j : Nat) : Int) := by omega
     rw [e9]
     exact atI_nat hy0
    have ey0 := hE.2 j y0 _ hy0 (List.getElem?_eq_getElem (by omega))
    walk_at "rd"
    refine ⟨q, _, _, y0, rfl, rfl, SqL.of (sG _ _ hq), b0, ?_⟩
    refine ⟨_, rfl, _, rfl, q, _, _, y, rfl, rfl, SqL.of (sG _ _ hq), by_, y0, y, es[j], es[j + 1], rfl, ey0.same sG, ey.same sG, fun Gb sb => ?_⟩
    rw [c1]
    refine ⟨_, rfl, _, rfl, ite2 (fun z => absurd z (by decide)) (fun _ => ?_)⟩
    have sG := sG.trans sb
    walk_at "rd"
    refine ite2 (fun _ => ?_) (fun _ => iteF ⟨sG, _, rfl⟩)
    refine ⟨_, rfl, _, rfl, q, _, _, y, rfl, rfl, SqL.of (sG _ _ hq), by_, ?_⟩
    walk_at "rd"
    refine ⟨q, _, _, y0, rfl, rfl, SqL.of (sG _ _ hq), b0, y, y0, es[j + 1], es[j], rfl, ey.same sG, ey0.same sG, fun Gc sc => ?_⟩
    rw [c2]
    exact ⟨_, rfl, _, rfl, ite2 (fun z => absurd z (by decide)) (fun _ => ⟨sG.trans sc, _, rfl⟩)⟩
   ·rintro σ G ⟨sG, z3, rfl⟩
    exact ⟨sG, _, rfl⟩
  rintro σ G ⟨sG, z3, rfl⟩
  refine ⟨_, rfl, q, _, rfl, .inl (SqL.of (sG _ _ hq)), fun hd hhd => ?_⟩
  have t1 := Same.new (o := HO.lst acc) hhd
  have k1 := upd_same (H := G) (a := hd) (o := .lst acc)
  have fhd : G1 hd = none := sG.free hhd
  have sA := sG.trans t1
  generalize upd G hd (.lst acc) = Ga at t1 k1 sA ⊢
  refine ⟨_, rfl, .ref hd, rfl, .inl ⟨hd, acc, es.map some, rfl, k1, (hE.same sA).its, by omega, fun _ fb Gb sb hfn hfb => ?_, fun h => absurd (hB.bk.symm.trans h) (by decide)⟩⟩
  have nfh : fb ≠ hd := fun z => by rw [z, k1] at hfn; cases hfn
  have k1 := sb _ _ k1
  refine ⟨_, rfl, .inl ⟨rfl, _, SqL.of k1⟩, hd, _, rfl, rfl, k1, ?_⟩
  have sB := same_put fhd (sA.trans sb) (o := .lst [])
  have kf : upd Gb hd (.lst []) fb = some (.lst acc) := by rw [upd_ne nfh]; exact hfb
  generalize upd Gb hd (.lst []) = Gc at sB kf ⊢
  refine ⟨_, rfl, _, rfl, fb, acc, l, ws, es, rfl, kf, hE.same sB, sB _ _ hL, hR.same sB, fun Gd sd => ⟨_, rfl, iteF ?_⟩⟩
  have sD := sB.trans sd
  refine ⟨_, rfl, _, rfl, l, ws, es, rfl, sD _ _ hL, hR.same sD, okk, l84, fun q2 acc2 Ge se fq2 hq2 hE2 => ?_⟩
  have lac2 : acc2.length = es.length := hE2.1
  have sE := sD.trans se
  refine ⟨.ref q, .ref q2, rfl, .inl ⟨es, es, gb _ sE, ⟨q2, acc2, rfl, hq2, hE2, okk, by omega, hB.bk⟩, fun b Gf sf hb => ?_⟩⟩
  obtain rfl : b = true := hb.mpr rfl
  refine ⟨_, rfl, _, rfl, ite2 (fun z => absurd z (by decide)) (fun _ => ?_)⟩
  have sF := sE.trans sf
  clear sG t1 k1 sA sb nfh hfn hfb sB kf sd sD se sE sf hb
  refine ⟨_, rfl, a, 1, ns, rfl, by decide, (s0.trans (s1.trans sF)).seq hS, fun cc => ?_⟩
  walk_at "rd"
  refine ⟨by decide, by decide, fun mx m0 m1 => ?_⟩
  refine ⟨fun σ G => Same G1 G ∧ ∃ z3 z7, σ = [some (.ref a), some (.ref l), some (.ref q), z3, some (.ref hd), some (.ref fb), some (.int mx), z7, none, none], ?_, ?_⟩
  ·refine ⟨_, rfl, le_ble rfl, fun q0 hq0 => ?_⟩
   have t0 := Same.new (o := HO.lst []) hq0
   have hL0 := t0 _ _ (sF _ _ hL)
   refine ⟨0, _, by decide, seqNil (SqL.of hL0) (SqL.of upd_same), _, rfl, ?_⟩
   have sF := sF.trans t0
   generalize upd Gf q0 (.lst []) = Gg at sF hL0 ⊢
   refine iteB (fun he => ?_) (fun _ => ⟨sF, _, _, rfl⟩)
   have wne : ws ≠ [] := fun z => by rw [z] at he; exact absurd he (by decide)
   have ene : es ≠ [] := fun z => wne (List.eq_nil_of_length_eq_zero (by rw [lw, z]; rfl))
   refine ⟨_, rfl, _, rfl, l, ws, es, mx, rfl, hL0, hR.same sF, hB, ene, h64, fun f us es' Gh sh hf rows ok' l' bk' ne' => ?_⟩
   refine ⟨f, us, es', rfl, hf, rows, ok', l', fun q3 acc3 Gi si fq3 hq3 hE3 => ?_⟩
   have lac3 : acc3.length = es'.length := hE3.1
   have sI := sF.trans (sh.trans si)
   have gO : ∀ G', Same Gi G' → GoodB G' c.c_Entry (.ref q3) es' := fun G' s => ⟨q3, acc3, rfl, s _ _ hq3, hE3.same s, ok', by omega, bk'⟩
   refine ⟨_, rfl, _, rfl, .ref q, .ref q3, rfl, .inl ⟨es, es', gb _ sI, gO _ (Same.refl _), fun b Gj sj hb => ?_⟩⟩
   obtain rfl : b = false := by
    cases b with
    | false => rfl
    | true => exact absurd (hb.mp rfl).symm ne'
   refine ⟨_, rfl, _, rfl, ite2 (fun z => absurd z (by decide)) (fun _ => ?_)⟩
   refine ⟨_, rfl, _, rfl, .ref q3, .ref q, rfl, .inl ⟨es', es, gO _ sj, gb _ (sI.trans sj), fun b Gk sk hb => ?_⟩⟩
   obtain rfl : b = false := by
    cases b with
    | false => rfl
    | true => exact absurd (hb.mp rfl) ne'
   exact ⟨_, rfl, _, rfl, ite2 (fun z => absurd z (by decide)) (fun _ => ⟨sI.trans (sj.trans sk), _, _, rfl⟩)⟩
  rintro σ G ⟨sG, z3', z7, rfl⟩
  refine ⟨_, rfl, _, rfl, _, rfl, a, 1, ns, rfl, by decide, (s0.trans (s1.trans sG)).seq hS, fun cc2 => ?_⟩
  walk_at "rd"
  refine ⟨q, acc, l, ws, es, cc2 % 5, mx, rfl, sG _ _ hq, hE.same sG, sG _ _ hL, hR.same sG, hB, Int.emod_nonneg _ (by decide), Int.emod_lt_of_pos _ (by decide), m0, fun fv Gi si bad => ?_⟩
  have sI := sG.trans si
  walk_at "rd"
  refine ⟨by decide, by decide, ?_⟩
  refine for_range (n := 7) (lo := 0) (fun i σ G => Same Gi G ∧ ∃ z9, σ = [some (.ref a), some (.ref l), some (.ref q), z3', some (.ref hd), some (.ref fb), some (.int mx), z7, some fv, z9]) ?_ ?_ ?_
  ·exact ⟨Same.refl _, _, rfl⟩
  ·rintro i σ G hi ⟨sJ, z9, rfl⟩
   refine ⟨_, rfl, _, rfl, _, fv, rfl, .inr ⟨bad.same sJ, fun q5 Gj sj hq5 => ?_⟩⟩
   refine ⟨le_ble rfl, fun p5 hp5 => ?_⟩
   have t5 := Same.new (o := HO.lst truthsB) hp5
   have hs := SeqEq.flatL (K := K) (n := 0) (SqL.of (t5 _ _ hq5)) (SqL.of (upd_same (H := Gj) (a := p5) (o := .lst truthsB))) (by decide) (by decide)
   rw [eqL_self (by decide)] at hs
   refine ⟨0, true, by decide, hs, _, rfl, iteF ?_⟩
   have sK := sJ.trans (sj.trans t5)
   have gQ : GoodB (upd Gj p5 (.lst truthsB)) c.c_Entry (.ref q) es := gb _ (sI.trans sK)
   refine ⟨_, rfl, _, rfl, _, .ref q, rfl, .inl ⟨es, gQ, fun q6 Gk sk hq6 => ?_⟩⟩
   refine ⟨le_ble rfl, fun p6 hp6 => ?_⟩
   have t6 := Same.new (o := HO.lst []) hp6
   exact ⟨0, true, by decide, seqNil (SqL.of (t6 _ _ hq6)) (SqL.of upd_same), _, rfl, iteF ⟨sK.trans (sk.trans t6), _, rfl⟩⟩
  ·rintro σ G ⟨sJ, z9, rfl⟩
   have sK := sI.trans sJ
   exact ⟨_, rfl, _, rfl, q, acc, l, ws, es, rfl, sK _ _ hq, hE.same sK, sK _ _ hL, hR.same sK, fun H' _ => k H'⟩
end
theorem all_mk {l : PySem.W.OpenLaw} {w : World} {K : PySem.W.Frag} {h : Heap} {mg : Str → Option Value} {fa : Addr} (X : K.In h) (G : h.Ns mainGlobals mg) (hfa : mg "law" = some (.ref fa))
    {f0 : Addr} {od0 an0 : Option Addr} {sl0 : Array (Option Value)} {oc0 kV0 dc0 pm0 cd0 ct0 : Value}
    {f1 : Addr} {od1 an1 : Option Addr} {sl1 : Array (Option Value)} {oc1 kV1 dc1 pm1 cd1 ct1 : Value}
    {f2 : Addr} {od2 an2 : Option Addr} {sl2 : Array (Option Value)} {oc2 kV2 dc2 pm2 cd2 ct2 : Value}
    {f3 : Addr} {od3 an3 : Option Addr} {sl3 : Array (Option Value)} {oc3 kV3 dc3 pm3 cd3 ct3 : Value}
    {f4 : Addr} {od4 an4 : Option Addr} {sl4 : Array (Option Value)} {oc4 kV4 dc4 pm4 cd4 ct4 : Value}
    {f5 : Addr} {od5 an5 : Option Addr} {sl5 : Array (Option Value)} {oc5 kV5 dc5 pm5 cd5 ct5 : Value}
    {f6 : Addr} {od6 an6 : Option Addr} {sl6 : Array (Option Value)} {oc6 kV6 dc6 pm6 cd6 ct6 : Value}
    {f7 : Addr} {od7 an7 : Option Addr} {sl7 : Array (Option Value)} {oc7 kV7 dc7 pm7 cd7 ct7 : Value}
    {f8 : Addr} {od8 an8 : Option Addr} {sl8 : Array (Option Value)} {oc8 kV8 dc8 pm8 cd8 ct8 : Value}
    {f9 : Addr} {od9 an9 : Option Addr} {sl9 : Array (Option Value)} {oc9 kV9 dc9 pm9 cd9 ct9 : Value}
    {f10 : Addr} {od10 an10 : Option Addr} {sl10 : Array (Option Value)} {oc10 kV10 dc10 pm10 cd10 ct10 : Value}
    {f11 : Addr} {od11 an11 : Option Addr} {sl11 : Array (Option Value)} {oc11 kV11 dc11 pm11 cd11 ct11 : Value}
    {f12 : Addr} {od12 an12 : Option Addr} {sl12 : Array (Option Value)} {oc12 kV12 dc12 pm12 cd12 ct12 : Value}
    {f13 : Addr} {od13 an13 : Option Addr} {sl13 : Array (Option Value)} {oc13 kV13 dc13 pm13 cd13 ct13 : Value}
    {f14 : Addr} {od14 an14 : Option Addr} {sl14 : Array (Option Value)} {oc14 kV14 dc14 pm14 cd14 ct14 : Value}
    {f15 : Addr} {od15 an15 : Option Addr} {sl15 : Array (Option Value)} {oc15 kV15 dc15 pm15 cd15 ct15 : Value}
    {f16 : Addr} {od16 an16 : Option Addr} {sl16 : Array (Option Value)} {oc16 kV16 dc16 pm16 cd16 ct16 : Value}
    {f17 : Addr} {od17 an17 : Option Addr} {sl17 : Array (Option Value)} {oc17 kV17 dc17 pm17 cd17 ct17 : Value}
    {f18 : Addr} {od18 an18 : Option Addr} {sl18 : Array (Option Value)} {oc18 kV18 dc18 pm18 cd18 ct18 : Value}
    {f19 : Addr} {od19 an19 : Option Addr} {sl19 : Array (Option Value)} {oc19 kV19 dc19 pm19 cd19 ct19 : Value}
    {f20 : Addr} {od20 an20 : Option Addr} {sl20 : Array (Option Value)} {oc20 kV20 dc20 pm20 cd20 ct20 : Value}
    {f21 : Addr} {od21 an21 : Option Addr} {sl21 : Array (Option Value)} {oc21 kV21 dc21 pm21 cd21 ct21 : Value}
    {f22 : Addr} {od22 an22 : Option Addr} {sl22 : Array (Option Value)} {oc22 kV22 dc22 pm22 cd22 ct22 : Value}
    {f23 : Addr} {od23 an23 : Option Addr} {sl23 : Array (Option Value)} {oc23 kV23 dc23 pm23 cd23 ct23 : Value}
    {f24 : Addr} {od24 an24 : Option Addr} {sl24 : Array (Option Value)} {oc24 kV24 dc24 pm24 cd24 ct24 : Value}
    {f25 : Addr} {od25 an25 : Option Addr} {sl25 : Array (Option Value)} {oc25 kV25 dc25 pm25 cd25 ct25 : Value}
    {f26 : Addr} {od26 an26 : Option Addr} {sl26 : Array (Option Value)} {oc26 kV26 dc26 pm26 cd26 ct26 : Value}
    {f27 : Addr} {od27 an27 : Option Addr} {sl27 : Array (Option Value)} {oc27 kV27 dc27 pm27 cd27 ct27 : Value}
    {f28 : Addr} {od28 an28 : Option Addr} {sl28 : Array (Option Value)} {oc28 kV28 dc28 pm28 cd28 ct28 : Value}
    {f29 : Addr} {od29 an29 : Option Addr} {sl29 : Array (Option Value)} {oc29 kV29 dc29 pm29 cd29 ct29 : Value}
    {f30 : Addr} {od30 an30 : Option Addr} {sl30 : Array (Option Value)} {oc30 kV30 dc30 pm30 cd30 ct30 : Value}
    {f31 : Addr} {od31 an31 : Option Addr} {sl31 : Array (Option Value)} {oc31 kV31 dc31 pm31 cd31 ct31 : Value}
    {f32 : Addr} {od32 an32 : Option Addr} {sl32 : Array (Option Value)} {oc32 kV32 dc32 pm32 cd32 ct32 : Value}
    {f33 : Addr} {od33 an33 : Option Addr} {sl33 : Array (Option Value)} {oc33 kV33 dc33 pm33 cd33 ct33 : Value}
    {f34 : Addr} {od34 an34 : Option Addr} {sl34 : Array (Option Value)} {oc34 kV34 dc34 pm34 cd34 ct34 : Value}
    {f35 : Addr} {od35 an35 : Option Addr} {sl35 : Array (Option Value)} {oc35 kV35 dc35 pm35 cd35 ct35 : Value}
    {f36 : Addr} {od36 an36 : Option Addr} {sl36 : Array (Option Value)} {oc36 kV36 dc36 pm36 cd36 ct36 : Value}
    {c_Entry f_Entry t_Entry : Addr} {od_Entry an_Entry : Option Addr} {sl_Entry : Array (Option Value)} {oc_Entry kV_Entry dc_Entry pm_Entry cd_Entry ct_Entry : Value} {o_Entry : Obj} {n_Entry : Nat}
    {c_Results : Addr}
    {f_Results_init : Addr} {od_Results_init an_Results_init : Option Addr} {sl_Results_init : Array (Option Value)} {oc_Results_init kV_Results_init dc_Results_init pm_Results_init cd_Results_init ct_Results_init : Value}
    {f_Results_put : Addr} {od_Results_put an_Results_put : Option Addr} {sl_Results_put : Array (Option Value)} {oc_Results_put kV_Results_put dc_Results_put pm_Results_put cd_Results_put ct_Results_put : Value}
    {f_Results_name_of : Addr} {od_Results_name_of an_Results_name_of : Option Addr} {sl_Results_name_of : Array (Option Value)} {oc_Results_name_of kV_Results_name_of dc_Results_name_of pm_Results_name_of cd_Results_name_of ct_Results_name_of : Value}
    {f_Results_outcome_of : Addr} {od_Results_outcome_of an_Results_outcome_of : Option Addr} {sl_Results_outcome_of : Array (Option Value)} {oc_Results_outcome_of kV_Results_outcome_of dc_Results_outcome_of pm_Results_outcome_of cd_Results_outcome_of ct_Results_outcome_of : Value}
    {f_Results_root_of : Addr} {od_Results_root_of an_Results_root_of : Option Addr} {sl_Results_root_of : Array (Option Value)} {oc_Results_root_of kV_Results_root_of dc_Results_root_of pm_Results_root_of cd_Results_root_of ct_Results_root_of : Value}
    {u_MOST_LETTERS : Value}
    {u_LAST_DAY : Value}
    {u_LAST_NUMBER : Value}
    {u_RANKS : Addr} {o_RANKS : Obj} {i_RANKS : List Value} {n_RANKS : Nat}
    {u_ABOVE : Addr} {e_ABOVE : List DictEntry} {n_ABOVE : Nat}
    {c_NoRank : Addr}
    {c_NoNumber : Addr}
    {c_NoDay : Addr}
    {c_NoWord : Addr}
    {c_NoBook : Addr}
    {c_NoEntry : Addr}
    {c_RightError : Addr}
    {c_NoText : Addr}
    {c_NoAct : Addr}
    {c_NoSheet : Addr}
    {c_NoSorting : Addr}
    {c_NoPath : Addr}
    {c_Late : Addr}
    {c_NoRow : Addr}
    {N_NoRank A_NoRank : Addr} {nm_NoRank q_NoRank : Str} {bs_NoRank : List Value} {hd_NoRank : Bool} {sn_NoRank : List Str} {sub_NoRank : List Value} {ab_NoRank : Bool} {col_NoRank : Option Bool} {dd_NoRank : Option Addr} {k0_NoRank k1_NoRank k2_NoRank k3_NoRank k5_NoRank : Option Value}
    {es_NoRank : Array DictEntry} {x1_NoRank : Value} {x2_NoRank : Option Addr} {x3_NoRank : Nat} {x4_NoRank : Array (Option Value)} {y0_NoRank : Value} {y1_NoRank : Option Addr} {y2_NoRank : ClassData} {y3_NoRank : Array (Option Value)} {et_NoRank : Array DictEntry} {z1_NoRank : Value} {z2_NoRank : Option Addr} {z3_NoRank : Nat} {z4_NoRank : Array (Option Value)}
    {N_NoNumber A_NoNumber : Addr} {nm_NoNumber q_NoNumber : Str} {bs_NoNumber : List Value} {hd_NoNumber : Bool} {sn_NoNumber : List Str} {sub_NoNumber : List Value} {ab_NoNumber : Bool} {col_NoNumber : Option Bool} {dd_NoNumber : Option Addr} {k0_NoNumber k1_NoNumber k2_NoNumber k3_NoNumber k5_NoNumber : Option Value}
    {es_NoNumber : Array DictEntry} {x1_NoNumber : Value} {x2_NoNumber : Option Addr} {x3_NoNumber : Nat} {x4_NoNumber : Array (Option Value)} {y0_NoNumber : Value} {y1_NoNumber : Option Addr} {y2_NoNumber : ClassData} {y3_NoNumber : Array (Option Value)} {et_NoNumber : Array DictEntry} {z1_NoNumber : Value} {z2_NoNumber : Option Addr} {z3_NoNumber : Nat} {z4_NoNumber : Array (Option Value)}
    {N_NoDay A_NoDay : Addr} {nm_NoDay q_NoDay : Str} {bs_NoDay : List Value} {hd_NoDay : Bool} {sn_NoDay : List Str} {sub_NoDay : List Value} {ab_NoDay : Bool} {col_NoDay : Option Bool} {dd_NoDay : Option Addr} {k0_NoDay k1_NoDay k2_NoDay k3_NoDay k5_NoDay : Option Value}
    {es_NoDay : Array DictEntry} {x1_NoDay : Value} {x2_NoDay : Option Addr} {x3_NoDay : Nat} {x4_NoDay : Array (Option Value)} {y0_NoDay : Value} {y1_NoDay : Option Addr} {y2_NoDay : ClassData} {y3_NoDay : Array (Option Value)} {et_NoDay : Array DictEntry} {z1_NoDay : Value} {z2_NoDay : Option Addr} {z3_NoDay : Nat} {z4_NoDay : Array (Option Value)}
    {N_NoWord A_NoWord : Addr} {nm_NoWord q_NoWord : Str} {bs_NoWord : List Value} {hd_NoWord : Bool} {sn_NoWord : List Str} {sub_NoWord : List Value} {ab_NoWord : Bool} {col_NoWord : Option Bool} {dd_NoWord : Option Addr} {k0_NoWord k1_NoWord k2_NoWord k3_NoWord k5_NoWord : Option Value}
    {es_NoWord : Array DictEntry} {x1_NoWord : Value} {x2_NoWord : Option Addr} {x3_NoWord : Nat} {x4_NoWord : Array (Option Value)} {y0_NoWord : Value} {y1_NoWord : Option Addr} {y2_NoWord : ClassData} {y3_NoWord : Array (Option Value)} {et_NoWord : Array DictEntry} {z1_NoWord : Value} {z2_NoWord : Option Addr} {z3_NoWord : Nat} {z4_NoWord : Array (Option Value)}
    {N_NoBook A_NoBook : Addr} {nm_NoBook q_NoBook : Str} {bs_NoBook : List Value} {hd_NoBook : Bool} {sn_NoBook : List Str} {sub_NoBook : List Value} {ab_NoBook : Bool} {col_NoBook : Option Bool} {dd_NoBook : Option Addr} {k0_NoBook k1_NoBook k2_NoBook k3_NoBook k5_NoBook : Option Value}
    {es_NoBook : Array DictEntry} {x1_NoBook : Value} {x2_NoBook : Option Addr} {x3_NoBook : Nat} {x4_NoBook : Array (Option Value)} {y0_NoBook : Value} {y1_NoBook : Option Addr} {y2_NoBook : ClassData} {y3_NoBook : Array (Option Value)} {et_NoBook : Array DictEntry} {z1_NoBook : Value} {z2_NoBook : Option Addr} {z3_NoBook : Nat} {z4_NoBook : Array (Option Value)}
    {N_NoEntry A_NoEntry : Addr} {nm_NoEntry q_NoEntry : Str} {bs_NoEntry : List Value} {hd_NoEntry : Bool} {sn_NoEntry : List Str} {sub_NoEntry : List Value} {ab_NoEntry : Bool} {col_NoEntry : Option Bool} {dd_NoEntry : Option Addr} {k0_NoEntry k1_NoEntry k2_NoEntry k3_NoEntry k5_NoEntry : Option Value}
    {es_NoEntry : Array DictEntry} {x1_NoEntry : Value} {x2_NoEntry : Option Addr} {x3_NoEntry : Nat} {x4_NoEntry : Array (Option Value)} {y0_NoEntry : Value} {y1_NoEntry : Option Addr} {y2_NoEntry : ClassData} {y3_NoEntry : Array (Option Value)} {et_NoEntry : Array DictEntry} {z1_NoEntry : Value} {z2_NoEntry : Option Addr} {z3_NoEntry : Nat} {z4_NoEntry : Array (Option Value)}
    (a0 : PySem.W.nsIn K mainGlobals "is_whole" = some (some (.ref f0)))
    (l0 : K.lookup f0 = some ⟨oc0, od0, .func (PySem.W.fnOf "is_whole" "is_whole" (defArgs s_is_whole) (defBody s_is_whole) (defScope s_is_whole) .none kV0 dc0 pm0 an0 cd0 ct0), sl0⟩)
    (c0 : PySem.W.codeIn K cd0 "is_whole" = true)
    (k0 : PySem.W.keepIn K (.ref f0) = true)
    (a1 : PySem.W.nsIn K mainGlobals "is_day" = some (some (.ref f1)))
    (l1 : K.lookup f1 = some ⟨oc1, od1, .func (PySem.W.fnOf "is_day" "is_day" (defArgs s_is_day) (defBody s_is_day) (defScope s_is_day) .none kV1 dc1 pm1 an1 cd1 ct1), sl1⟩)
    (c1 : PySem.W.codeIn K cd1 "is_day" = true)
    (k1 : PySem.W.keepIn K (.ref f1) = true)
    (a2 : PySem.W.nsIn K mainGlobals "is_number" = some (some (.ref f2)))
    (l2 : K.lookup f2 = some ⟨oc2, od2, .func (PySem.W.fnOf "is_number" "is_number" (defArgs s_is_number) (defBody s_is_number) (defScope s_is_number) .none kV2 dc2 pm2 an2 cd2 ct2), sl2⟩)
    (c2 : PySem.W.codeIn K cd2 "is_number" = true)
    (k2 : PySem.W.keepIn K (.ref f2) = true)
    (a3 : PySem.W.nsIn K mainGlobals "is_word" = some (some (.ref f3)))
    (l3 : K.lookup f3 = some ⟨oc3, od3, .func (PySem.W.fnOf "is_word" "is_word" (defArgs s_is_word) (defBody s_is_word) (defScope s_is_word) .none kV3 dc3 pm3 an3 cd3 ct3), sl3⟩)
    (c3 : PySem.W.codeIn K cd3 "is_word" = true)
    (k3 : PySem.W.keepIn K (.ref f3) = true)
    (a4 : PySem.W.nsIn K mainGlobals "is_rank" = some (some (.ref f4)))
    (l4 : K.lookup f4 = some ⟨oc4, od4, .func (PySem.W.fnOf "is_rank" "is_rank" (defArgs s_is_rank) (defBody s_is_rank) (defScope s_is_rank) .none kV4 dc4 pm4 an4 cd4 ct4), sl4⟩)
    (c4 : PySem.W.codeIn K cd4 "is_rank" = true)
    (k4 : PySem.W.keepIn K (.ref f4) = true)
    (a5 : PySem.W.nsIn K mainGlobals "above" = some (some (.ref f5)))
    (l5 : K.lookup f5 = some ⟨oc5, od5, .func (PySem.W.fnOf "above" "above" (defArgs s_above) (defBody s_above) (defScope s_above) .none kV5 dc5 pm5 an5 cd5 ct5), sl5⟩)
    (c5 : PySem.W.codeIn K cd5 "above" = true)
    (k5 : PySem.W.keepIn K (.ref f5) = true)
    (a6 : PySem.W.nsIn K mainGlobals "refuse_head" = some (some (.ref f6)))
    (l6 : K.lookup f6 = some ⟨oc6, od6, .func (PySem.W.fnOf "refuse_head" "refuse_head" (defArgs s_refuse_head) (defBody s_refuse_head) (defScope s_refuse_head) .none kV6 dc6 pm6 an6 cd6 ct6), sl6⟩)
    (c6 : PySem.W.codeIn K cd6 "refuse_head" = true)
    (k6 : PySem.W.keepIn K (.ref f6) = true)
    (a7 : PySem.W.nsIn K mainGlobals "under_fits" = some (some (.ref f7)))
    (l7 : K.lookup f7 = some ⟨oc7, od7, .func (PySem.W.fnOf "under_fits" "under_fits" (defArgs s_under_fits) (defBody s_under_fits) (defScope s_under_fits) .none kV7 dc7 pm7 an7 cd7 ct7), sl7⟩)
    (c7 : PySem.W.codeIn K cd7 "under_fits" = true)
    (k7 : PySem.W.keepIn K (.ref f7) = true)
    (a8 : PySem.W.nsIn K mainGlobals "tie_fits" = some (some (.ref f8)))
    (l8 : K.lookup f8 = some ⟨oc8, od8, .func (PySem.W.fnOf "tie_fits" "tie_fits" (defArgs s_tie_fits) (defBody s_tie_fits) (defScope s_tie_fits) .none kV8 dc8 pm8 an8 cd8 ct8), sl8⟩)
    (c8 : PySem.W.codeIn K cd8 "tie_fits" = true)
    (k8 : PySem.W.keepIn K (.ref f8) = true)
    (a9 : PySem.W.nsIn K mainGlobals "ahead" = some (some (.ref f9)))
    (l9 : K.lookup f9 = some ⟨oc9, od9, .func (PySem.W.fnOf "ahead" "ahead" (defArgs s_ahead) (defBody s_ahead) (defScope s_ahead) .none kV9 dc9 pm9 an9 cd9 ct9), sl9⟩)
    (c9 : PySem.W.codeIn K cd9 "ahead" = true)
    (k9 : PySem.W.keepIn K (.ref f9) = true)
    (a10 : PySem.W.nsIn K mainGlobals "book_list" = some (some (.ref f10)))
    (l10 : K.lookup f10 = some ⟨oc10, od10, .func (PySem.W.fnOf "book_list" "book_list" (defArgs s_book_list) (defBody s_book_list) (defScope s_book_list) .none kV10 dc10 pm10 an10 cd10 ct10), sl10⟩)
    (c10 : PySem.W.codeIn K cd10 "book_list" = true)
    (k10 : PySem.W.keepIn K (.ref f10) = true)
    (a11 : PySem.W.nsIn K mainGlobals "fields_of" = some (some (.ref f11)))
    (l11 : K.lookup f11 = some ⟨oc11, od11, .func (PySem.W.fnOf "fields_of" "fields_of" (defArgs s_fields_of) (defBody s_fields_of) (defScope s_fields_of) .none kV11 dc11 pm11 an11 cd11 ct11), sl11⟩)
    (c11 : PySem.W.codeIn K cd11 "fields_of" = true)
    (k11 : PySem.W.keepIn K (.ref f11) = true)
    (a12 : PySem.W.nsIn K mainGlobals "same_book" = some (some (.ref f12)))
    (l12 : K.lookup f12 = some ⟨oc12, od12, .func (PySem.W.fnOf "same_book" "same_book" (defArgs s_same_book) (defBody s_same_book) (defScope s_same_book) .none kV12 dc12 pm12 an12 cd12 ct12), sl12⟩)
    (c12 : PySem.W.codeIn K cd12 "same_book" = true)
    (k12 : PySem.W.keepIn K (.ref f12) = true)
    (a13 : PySem.W.nsIn K mainGlobals "results_of" = some (some (.ref f13)))
    (l13 : K.lookup f13 = some ⟨oc13, od13, .func (PySem.W.fnOf "results_of" "results_of" (defArgs s_results_of) (defBody s_results_of) (defScope s_results_of) .none kV13 dc13 pm13 an13 cd13 ct13), sl13⟩)
    (c13 : PySem.W.codeIn K cd13 "results_of" = true)
    (k13 : PySem.W.keepIn K (.ref f13) = true)
    (a14 : PySem.W.nsIn K mainGlobals "outcomes" = some (some (.ref f14)))
    (l14 : K.lookup f14 = some ⟨oc14, od14, .func (PySem.W.fnOf "outcomes" "outcomes" (defArgs s_outcomes) (defBody s_outcomes) (defScope s_outcomes) .none kV14 dc14 pm14 an14 cd14 ct14), sl14⟩)
    (c14 : PySem.W.codeIn K cd14 "outcomes" = true)
    (k14 : PySem.W.keepIn K (.ref f14) = true)
    (a15 : PySem.W.nsIn K mainGlobals "full_names" = some (some (.ref f15)))
    (l15 : K.lookup f15 = some ⟨oc15, od15, .func (PySem.W.fnOf "full_names" "full_names" (defArgs s_full_names) (defBody s_full_names) (defScope s_full_names) .none kV15 dc15 pm15 an15 cd15 ct15), sl15⟩)
    (c15 : PySem.W.codeIn K cd15 "full_names" = true)
    (k15 : PySem.W.keepIn K (.ref f15) = true)
    (a16 : PySem.W.nsIn K mainGlobals "roots" = some (some (.ref f16)))
    (l16 : K.lookup f16 = some ⟨oc16, od16, .func (PySem.W.fnOf "roots" "roots" (defArgs s_roots) (defBody s_roots) (defScope s_roots) .none kV16 dc16 pm16 an16 cd16 ct16), sl16⟩)
    (c16 : PySem.W.codeIn K cd16 "roots" = true)
    (k16 : PySem.W.keepIn K (.ref f16) = true)
    (a17 : PySem.W.nsIn K mainGlobals "tied" = some (some (.ref f17)))
    (l17 : K.lookup f17 = some ⟨oc17, od17, .func (PySem.W.fnOf "tied" "tied" (defArgs s_tied) (defBody s_tied) (defScope s_tied) .none kV17 dc17 pm17 an17 cd17 ct17), sl17⟩)
    (c17 : PySem.W.codeIn K cd17 "tied" = true)
    (k17 : PySem.W.keepIn K (.ref f17) = true)
    (a18 : PySem.W.nsIn K mainGlobals "_law_cell_at" = some (some (.ref f18)))
    (l18 : K.lookup f18 = some ⟨oc18, od18, .func (PySem.W.fnOf "_law_cell_at" "_law_cell_at" (defArgs s_Lcell_at) (defBody s_Lcell_at) (defScope s_Lcell_at) .none kV18 dc18 pm18 an18 cd18 ct18), sl18⟩)
    (c18 : PySem.W.codeIn K cd18 "_law_cell_at" = true)
    (k18 : PySem.W.keepIn K (.ref f18) = true)
    (a19 : PySem.W.nsIn K mainGlobals "_law_whole" = some (some (.ref f19)))
    (l19 : K.lookup f19 = some ⟨oc19, od19, .func (PySem.W.fnOf "_law_whole" "_law_whole" (defArgs s_Lwhole) (defBody s_Lwhole) (defScope s_Lwhole) .none kV19 dc19 pm19 an19 cd19 ct19), sl19⟩)
    (c19 : PySem.W.codeIn K cd19 "_law_whole" = true)
    (k19 : PySem.W.keepIn K (.ref f19) = true)
    (a20 : PySem.W.nsIn K mainGlobals "_law_mixed" = some (some (.ref f20)))
    (l20 : K.lookup f20 = some ⟨oc20, od20, .func (PySem.W.fnOf "_law_mixed" "_law_mixed" (defArgs s_Lmixed) (defBody s_Lmixed) (defScope s_Lmixed) .none kV20 dc20 pm20 an20 cd20 ct20), sl20⟩)
    (c20 : PySem.W.codeIn K cd20 "_law_mixed" = true)
    (k20 : PySem.W.keepIn K (.ref f20) = true)
    (a21 : PySem.W.nsIn K mainGlobals "_law_draws" = some (some (.ref f21)))
    (l21 : K.lookup f21 = some ⟨oc21, od21, .func (PySem.W.fnOf "_law_draws" "_law_draws" (defArgs s_Ldraws) (defBody s_Ldraws) (defScope s_Ldraws) .none kV21 dc21 pm21 an21 cd21 ct21), sl21⟩)
    (c21 : PySem.W.codeIn K cd21 "_law_draws" = true)
    (k21 : PySem.W.keepIn K (.ref f21) = true)
    (a22 : PySem.W.nsIn K mainGlobals "_law_words" = some (some (.ref f22)))
    (l22 : K.lookup f22 = some ⟨oc22, od22, .func (PySem.W.fnOf "_law_words" "_law_words" (defArgs s_Lwords) (defBody s_Lwords) (defScope s_Lwords) .none kV22 dc22 pm22 an22 cd22 ct22), sl22⟩)
    (c22 : PySem.W.codeIn K cd22 "_law_words" = true)
    (k22 : PySem.W.keepIn K (.ref f22) = true)
    (a23 : PySem.W.nsIn K mainGlobals "_law_any_word" = some (some (.ref f23)))
    (l23 : K.lookup f23 = some ⟨oc23, od23, .func (PySem.W.fnOf "_law_any_word" "_law_any_word" (defArgs s_Lany_word) (defBody s_Lany_word) (defScope s_Lany_word) .none kV23 dc23 pm23 an23 cd23 ct23), sl23⟩)
    (c23 : PySem.W.codeIn K cd23 "_law_any_word" = true)
    (k23 : PySem.W.keepIn K (.ref f23) = true)
    (a24 : PySem.W.nsIn K mainGlobals "_law_stamp" = some (some (.ref f24)))
    (l24 : K.lookup f24 = some ⟨oc24, od24, .func (PySem.W.fnOf "_law_stamp" "_law_stamp" (defArgs s_Lstamp) (defBody s_Lstamp) (defScope s_Lstamp) .none kV24 dc24 pm24 an24 cd24 ct24), sl24⟩)
    (c24 : PySem.W.codeIn K cd24 "_law_stamp" = true)
    (k24 : PySem.W.keepIn K (.ref f24) = true)
    (a25 : PySem.W.nsIn K mainGlobals "_law_pick" = some (some (.ref f25)))
    (l25 : K.lookup f25 = some ⟨oc25, od25, .func (PySem.W.fnOf "_law_pick" "_law_pick" (defArgs s_Lpick) (defBody s_Lpick) (defScope s_Lpick) .none kV25 dc25 pm25 an25 cd25 ct25), sl25⟩)
    (c25 : PySem.W.codeIn K cd25 "_law_pick" = true)
    (k25 : PySem.W.keepIn K (.ref f25) = true)
    (a26 : PySem.W.nsIn K mainGlobals "_law_base" = some (some (.ref f26)))
    (l26 : K.lookup f26 = some ⟨oc26, od26, .func (PySem.W.fnOf "_law_base" "_law_base" (defArgs s_Lbase) (defBody s_Lbase) (defScope s_Lbase) .none kV26 dc26 pm26 an26 cd26 ct26), sl26⟩)
    (c26 : PySem.W.codeIn K cd26 "_law_base" = true)
    (k26 : PySem.W.keepIn K (.ref f26) = true)
    (a27 : PySem.W.nsIn K mainGlobals "_law_entry" = some (some (.ref f27)))
    (l27 : K.lookup f27 = some ⟨oc27, od27, .func (PySem.W.fnOf "_law_entry" "_law_entry" (defArgs s_Lentry) (defBody s_Lentry) (defScope s_Lentry) .none kV27 dc27 pm27 an27 cd27 ct27), sl27⟩)
    (c27 : PySem.W.codeIn K cd27 "_law_entry" = true)
    (k27 : PySem.W.keepIn K (.ref f27) = true)
    (a28 : PySem.W.nsIn K mainGlobals "_law_book" = some (some (.ref f28)))
    (l28 : K.lookup f28 = some ⟨oc28, od28, .func (PySem.W.fnOf "_law_book" "_law_book" (defArgs s_Lbook) (defBody s_Lbook) (defScope s_Lbook) .none kV28 dc28 pm28 an28 cd28 ct28), sl28⟩)
    (c28 : PySem.W.codeIn K cd28 "_law_book" = true)
    (k28 : PySem.W.keepIn K (.ref f28) = true)
    (a29 : PySem.W.nsIn K mainGlobals "_law_made" = some (some (.ref f29)))
    (l29 : K.lookup f29 = some ⟨oc29, od29, .func (PySem.W.fnOf "_law_made" "_law_made" (defArgs s_Lmade) (defBody s_Lmade) (defScope s_Lmade) .none kV29 dc29 pm29 an29 cd29 ct29), sl29⟩)
    (c29 : PySem.W.codeIn K cd29 "_law_made" = true)
    (k29 : PySem.W.keepIn K (.ref f29) = true)
    (a30 : PySem.W.nsIn K mainGlobals "_law_is_entry" = some (some (.ref f30)))
    (l30 : K.lookup f30 = some ⟨oc30, od30, .func (PySem.W.fnOf "_law_is_entry" "_law_is_entry" (defArgs s_Lis_entry) (defBody s_Lis_entry) (defScope s_Lis_entry) .none kV30 dc30 pm30 an30 cd30 ct30), sl30⟩)
    (c30 : PySem.W.codeIn K cd30 "_law_is_entry" = true)
    (k30 : PySem.W.keepIn K (.ref f30) = true)
    (a31 : PySem.W.nsIn K mainGlobals "_law_is_book" = some (some (.ref f31)))
    (l31 : K.lookup f31 = some ⟨oc31, od31, .func (PySem.W.fnOf "_law_is_book" "_law_is_book" (defArgs s_Lis_book) (defBody s_Lis_book) (defScope s_Lis_book) .none kV31 dc31 pm31 an31 cd31 ct31), sl31⟩)
    (c31 : PySem.W.codeIn K cd31 "_law_is_book" = true)
    (k31 : PySem.W.keepIn K (.ref f31) = true)
    (a32 : PySem.W.nsIn K mainGlobals "_law_fault" = some (some (.ref f32)))
    (l32 : K.lookup f32 = some ⟨oc32, od32, .func (PySem.W.fnOf "_law_fault" "_law_fault" (defArgs s_Lfault) (defBody s_Lfault) (defScope s_Lfault) .none kV32 dc32 pm32 an32 cd32 ct32), sl32⟩)
    (c32 : PySem.W.codeIn K cd32 "_law_fault" = true)
    (k32 : PySem.W.keepIn K (.ref f32) = true)
    (a33 : PySem.W.nsIn K mainGlobals "_law_other" = some (some (.ref f33)))
    (l33 : K.lookup f33 = some ⟨oc33, od33, .func (PySem.W.fnOf "_law_other" "_law_other" (defArgs s_Lother) (defBody s_Lother) (defScope s_Lother) .none kV33 dc33 pm33 an33 cd33 ct33), sl33⟩)
    (c33 : PySem.W.codeIn K cd33 "_law_other" = true)
    (k33 : PySem.W.keepIn K (.ref f33) = true)
    (a34 : PySem.W.nsIn K mainGlobals "_law_asked" = some (some (.ref f34)))
    (l34 : K.lookup f34 = some ⟨oc34, od34, .func (PySem.W.fnOf "_law_asked" "_law_asked" (defArgs s_Lasked) (defBody s_Lasked) (defScope s_Lasked) .none kV34 dc34 pm34 an34 cd34 ct34), sl34⟩)
    (c34 : PySem.W.codeIn K cd34 "_law_asked" = true)
    (k34 : PySem.W.keepIn K (.ref f34) = true)
    (a35 : PySem.W.nsIn K mainGlobals "_law_truths" = some (some (.ref f35)))
    (l35 : K.lookup f35 = some ⟨oc35, od35, .func (PySem.W.fnOf "_law_truths" "_law_truths" (defArgs s_Ltruths) (defBody s_Ltruths) (defScope s_Ltruths) .none kV35 dc35 pm35 an35 cd35 ct35), sl35⟩)
    (c35 : PySem.W.codeIn K cd35 "_law_truths" = true)
    (k35 : PySem.W.keepIn K (.ref f35) = true)
    (a36 : PySem.W.nsIn K mainGlobals "law" = some (some (.ref f36)))
    (l36 : K.lookup f36 = some ⟨oc36, od36, .func (PySem.W.fnOf "law" "law" (defArgs s_law) (defBody s_law) (defScope s_law) .none kV36 dc36 pm36 an36 cd36 ct36), sl36⟩)
    (c36 : PySem.W.codeIn K cd36 "law" = true)
    (k36 : PySem.W.keepIn K (.ref f36) = true)
    (cg_Entry : PySem.W.nsIn K mainGlobals "Entry" = some (some (.ref c_Entry)))
    (pg_Entry : PySem.W.plainGet K c_Entry Str.empty = true)
    (hd_Entry : PySem.W.hasDictIn K c_Entry = true)
    (po_Entry : PySem.W.plainOver K c_Entry = true)
    (sa_Entry : PySem.W.findIn K (.ref c_Entry) "__setattr__" = some (some (.builtin "object.__setattr__")))
    (mk_Entry : PySem.W.makesIn K c_Entry = true)
    (in_Entry : PySem.W.findIn K (.ref c_Entry) "__init__" = some (some (.ref f_Entry)))
    (fn_Entry : PySem.W.isFn K (.ref f_Entry) = true)
    (kc_Entry : PySem.W.keepIn K (.ref c_Entry) = true)
    (kf_Entry : PySem.W.keepIn K (.ref f_Entry) = true)
    (lf_Entry : K.lookup f_Entry = some ⟨oc_Entry, od_Entry, .func (PySem.W.fnOf "__init__" "Entry.__init__" (defArgs s_Entry_init) (defBody s_Entry_init) (defScope s_Entry_init) (.ref t_Entry) kV_Entry dc_Entry pm_Entry an_Entry cd_Entry ct_Entry), sl_Entry⟩)
    (cf_Entry : PySem.W.codeIn K cd_Entry "Entry.__init__" = true)
    (lt_Entry : K.lookup t_Entry = some o_Entry)
    (dt_Entry : o_Entry.data = .seq #[.none, .none, .none, .bool true] n_Entry)
    (na_Entry_number : PySem.W.findIn K (.ref c_Entry) "number" = some none)
    (na_Entry_day : PySem.W.findIn K (.ref c_Entry) "day" = some none)
    (na_Entry_rank : PySem.W.findIn K (.ref c_Entry) "rank" = some none)
    (na_Entry_word : PySem.W.findIn K (.ref c_Entry) "word" = some none)
    (na_Entry_under : PySem.W.findIn K (.ref c_Entry) "under" = some none)
    (na_Entry_sheet : PySem.W.findIn K (.ref c_Entry) "sheet" = some none)
    (na_Entry_base : PySem.W.findIn K (.ref c_Entry) "base" = some none)
    (na_Entry_described : PySem.W.findIn K (.ref c_Entry) "described" = some none)
    (cg_Results : PySem.W.nsIn K mainGlobals "Results" = some (some (.ref c_Results)))
    (pg_Results : PySem.W.plainGet K c_Results Str.empty = true)
    (hd_Results : PySem.W.hasDictIn K c_Results = true)
    (po_Results : PySem.W.plainOver K c_Results = true)
    (sa_Results : PySem.W.findIn K (.ref c_Results) "__setattr__" = some (some (.builtin "object.__setattr__")))
    (kc_Results : PySem.W.keepIn K (.ref c_Results) = true)
    (mk_Results : PySem.W.makesIn K c_Results = true)
    (in_Results : PySem.W.findIn K (.ref c_Results) "__init__" = some (some (.ref f_Results_init)))
    (fn_Results : PySem.W.isFn K (.ref f_Results_init) = true)
    (l_Results_init : K.lookup f_Results_init = some ⟨oc_Results_init, od_Results_init, .func (PySem.W.fnOf "__init__" "Results.__init__" (defArgs s_Results_init) (defBody s_Results_init) (defScope s_Results_init) .none kV_Results_init dc_Results_init pm_Results_init an_Results_init cd_Results_init ct_Results_init), sl_Results_init⟩)
    (k_Results_init : PySem.W.codeIn K cd_Results_init "Results.__init__" = true)
    (p_Results_init : PySem.W.keepIn K (.ref f_Results_init) = true)
    (na_Results_outs : PySem.W.findIn K (.ref c_Results) "outs" = some none)
    (na_Results_names : PySem.W.findIn K (.ref c_Results) "names" = some none)
    (na_Results_rights : PySem.W.findIn K (.ref c_Results) "rights" = some none)
    (na_Results_holders : PySem.W.findIn K (.ref c_Results) "holders" = some none)
    (mf_Results_put : PySem.W.findIn K (.ref c_Results) "put" = some (some (.ref f_Results_put)))
    (mi_Results_put : PySem.W.isFn K (.ref f_Results_put) = true)
    (l_Results_put : K.lookup f_Results_put = some ⟨oc_Results_put, od_Results_put, .func (PySem.W.fnOf "put" "Results.put" (defArgs s_Results_put) (defBody s_Results_put) (defScope s_Results_put) .none kV_Results_put dc_Results_put pm_Results_put an_Results_put cd_Results_put ct_Results_put), sl_Results_put⟩)
    (k_Results_put : PySem.W.codeIn K cd_Results_put "Results.put" = true)
    (p_Results_put : PySem.W.keepIn K (.ref f_Results_put) = true)
    (mf_Results_name_of : PySem.W.findIn K (.ref c_Results) "name_of" = some (some (.ref f_Results_name_of)))
    (mi_Results_name_of : PySem.W.isFn K (.ref f_Results_name_of) = true)
    (l_Results_name_of : K.lookup f_Results_name_of = some ⟨oc_Results_name_of, od_Results_name_of, .func (PySem.W.fnOf "name_of" "Results.name_of" (defArgs s_Results_name_of) (defBody s_Results_name_of) (defScope s_Results_name_of) .none kV_Results_name_of dc_Results_name_of pm_Results_name_of an_Results_name_of cd_Results_name_of ct_Results_name_of), sl_Results_name_of⟩)
    (k_Results_name_of : PySem.W.codeIn K cd_Results_name_of "Results.name_of" = true)
    (p_Results_name_of : PySem.W.keepIn K (.ref f_Results_name_of) = true)
    (mf_Results_outcome_of : PySem.W.findIn K (.ref c_Results) "outcome_of" = some (some (.ref f_Results_outcome_of)))
    (mi_Results_outcome_of : PySem.W.isFn K (.ref f_Results_outcome_of) = true)
    (l_Results_outcome_of : K.lookup f_Results_outcome_of = some ⟨oc_Results_outcome_of, od_Results_outcome_of, .func (PySem.W.fnOf "outcome_of" "Results.outcome_of" (defArgs s_Results_outcome_of) (defBody s_Results_outcome_of) (defScope s_Results_outcome_of) .none kV_Results_outcome_of dc_Results_outcome_of pm_Results_outcome_of an_Results_outcome_of cd_Results_outcome_of ct_Results_outcome_of), sl_Results_outcome_of⟩)
    (k_Results_outcome_of : PySem.W.codeIn K cd_Results_outcome_of "Results.outcome_of" = true)
    (p_Results_outcome_of : PySem.W.keepIn K (.ref f_Results_outcome_of) = true)
    (mf_Results_root_of : PySem.W.findIn K (.ref c_Results) "root_of" = some (some (.ref f_Results_root_of)))
    (mi_Results_root_of : PySem.W.isFn K (.ref f_Results_root_of) = true)
    (l_Results_root_of : K.lookup f_Results_root_of = some ⟨oc_Results_root_of, od_Results_root_of, .func (PySem.W.fnOf "root_of" "Results.root_of" (defArgs s_Results_root_of) (defBody s_Results_root_of) (defScope s_Results_root_of) .none kV_Results_root_of dc_Results_root_of pm_Results_root_of an_Results_root_of cd_Results_root_of ct_Results_root_of), sl_Results_root_of⟩)
    (k_Results_root_of : PySem.W.codeIn K cd_Results_root_of "Results.root_of" = true)
    (p_Results_root_of : PySem.W.keepIn K (.ref f_Results_root_of) = true)
    (cg_MOST_LETTERS : PySem.W.nsIn K mainGlobals "MOST_LETTERS" = some (some u_MOST_LETTERS))
    (cr_MOST_LETTERS : RelV (.int 12) u_MOST_LETTERS)
    (cg_LAST_DAY : PySem.W.nsIn K mainGlobals "LAST_DAY" = some (some u_LAST_DAY))
    (cr_LAST_DAY : RelV (.int 1000000) u_LAST_DAY)
    (cg_LAST_NUMBER : PySem.W.nsIn K mainGlobals "LAST_NUMBER" = some (some u_LAST_NUMBER))
    (cr_LAST_NUMBER : RelV (.int 1000000000) u_LAST_NUMBER)
    (cg_RANKS : PySem.W.nsIn K mainGlobals "RANKS" = some (some (.ref u_RANKS)))
    (cl_RANKS : K.lookup u_RANKS = some o_RANKS)
    (cc_RANKS : o_RANKS.cls = .type "tuple")
    (cd_RANKS : o_RANKS.data = .seq i_RANKS.toArray n_RANKS)
    (cv_RANKS : Vals [.str "genus", .str "species", .str "form"] i_RANKS)
    (cg_ABOVE : PySem.W.nsIn K mainGlobals "ABOVE" = some (some (.ref u_ABOVE)))
    (cl_ABOVE : K.lookup u_ABOVE = some ⟨.type "dict", none, .dict e_ABOVE.toArray n_ABOVE, #[]⟩)
    (cv_ABOVE : Paired (EntryIs w) ([("genus", .non), ("species", .str "genus"), ("form", .str "species")] : List (Str × V)) e_ABOVE)
    (cg_NoRank : PySem.W.nsIn K mainGlobals "NoRank" = some (some (.ref c_NoRank)))
    (cg_NoNumber : PySem.W.nsIn K mainGlobals "NoNumber" = some (some (.ref c_NoNumber)))
    (cg_NoDay : PySem.W.nsIn K mainGlobals "NoDay" = some (some (.ref c_NoDay)))
    (cg_NoWord : PySem.W.nsIn K mainGlobals "NoWord" = some (some (.ref c_NoWord)))
    (cg_NoBook : PySem.W.nsIn K mainGlobals "NoBook" = some (some (.ref c_NoBook)))
    (cg_NoEntry : PySem.W.nsIn K mainGlobals "NoEntry" = some (some (.ref c_NoEntry)))
    (cg_RightError : PySem.W.nsIn K mainGlobals "RightError" = some (some (.ref c_RightError)))
    (cg_NoText : PySem.W.nsIn K mainGlobals "NoText" = some (some (.ref c_NoText)))
    (cg_NoAct : PySem.W.nsIn K mainGlobals "NoAct" = some (some (.ref c_NoAct)))
    (cg_NoSheet : PySem.W.nsIn K mainGlobals "NoSheet" = some (some (.ref c_NoSheet)))
    (cg_NoSorting : PySem.W.nsIn K mainGlobals "NoSorting" = some (some (.ref c_NoSorting)))
    (cg_NoPath : PySem.W.nsIn K mainGlobals "NoPath" = some (some (.ref c_NoPath)))
    (cg_Late : PySem.W.nsIn K mainGlobals "Late" = some (some (.ref c_Late)))
    (cg_NoRow : PySem.W.nsIn K mainGlobals "NoRow" = some (some (.ref c_NoRow)))
    (xl_NoRank : K.lookup c_NoRank = some (excClassObj nm_NoRank q_NoRank c_NoRank N_NoRank bs_NoRank (.ref A_NoRank :: vmro) hd_NoRank sn_NoRank sub_NoRank ab_NoRank col_NoRank dd_NoRank k0_NoRank k1_NoRank k2_NoRank k3_NoRank k5_NoRank "ValueError.__new__"))
    (xn_NoRank : K.lookup N_NoRank = some ⟨x1_NoRank, x2_NoRank, .dict es_NoRank x3_NoRank, x4_NoRank⟩)
    (xs_NoRank : strKeysB es_NoRank = true)
    (xi_NoRank : nsFind es_NoRank "__init__" = none)
    (xa_NoRank : K.lookup A_NoRank = some { cls := y0_NoRank, dict := y1_NoRank, data := .cls y2_NoRank, slots := y3_NoRank })
    (xb_NoRank : K.lookup y2_NoRank.ns = some ⟨z1_NoRank, z2_NoRank, .dict et_NoRank z3_NoRank, z4_NoRank⟩)
    (xt_NoRank : strKeysB et_NoRank = true)
    (xj_NoRank : nsFind et_NoRank "__init__" = none)
    (qcs_NoRank : (PySem.W.clsIn K c_NoRank).isSome = true)
    (qga_NoRank : PySem.W.findIn K (.ref c_NoRank) "__getattribute__" = some (some (.builtin "BaseException.__getattribute__")))
    (qgt_NoRank : PySem.W.findIn K (.ref c_NoRank) "__getattr__" = some none)
    (qca_NoRank : PySem.W.findIn K (.ref c_NoRank) "__class__" = some (some (.builtin "object.__class__")))
    (qgg_NoRank : PySem.W.specialIn K (.builtin "object.__class__") "__get__" = some (some (.builtin "getset_descriptor.__get__")))
    (qtk_NoRank : PySem.W.takesIn K (.builtin "object.__class__") = some true)
    (qmo_NoRank : PySem.W.mroIn K c_NoRank (.type "object") = some true)
    (qsb_NoRank : PySem.W.subIn K (.ref c_NoRank) (.type "BaseException") = some true)
    (i_NoRank_ValueError : PySem.W.kitOne K (.ref c_NoRank) (.type "ValueError") = some true)
    (i_NoRank_NoBook : PySem.W.kitOne K (.ref c_NoRank) (.ref c_NoBook) = some false)
    (i_NoRank_NoText : PySem.W.kitOne K (.ref c_NoRank) (.ref c_NoText) = some false)
    (i_NoRank_NoAct : PySem.W.kitOne K (.ref c_NoRank) (.ref c_NoAct) = some false)
    (i_NoRank_NoDay : PySem.W.kitOne K (.ref c_NoRank) (.ref c_NoDay) = some false)
    (i_NoRank_NoWord : PySem.W.kitOne K (.ref c_NoRank) (.ref c_NoWord) = some false)
    (i_NoRank_NoRank : PySem.W.kitOne K (.ref c_NoRank) (.ref c_NoRank) = some true)
    (i_NoRank_NoSheet : PySem.W.kitOne K (.ref c_NoRank) (.ref c_NoSheet) = some false)
    (i_NoRank_NoSorting : PySem.W.kitOne K (.ref c_NoRank) (.ref c_NoSorting) = some false)
    (i_NoRank_NoPath : PySem.W.kitOne K (.ref c_NoRank) (.ref c_NoPath) = some false)
    (i_NoRank_Late : PySem.W.kitOne K (.ref c_NoRank) (.ref c_Late) = some false)
    (i_NoRank_NoRow : PySem.W.kitOne K (.ref c_NoRank) (.ref c_NoRow) = some false)
    (i_NoRank_NoEntry : PySem.W.kitOne K (.ref c_NoRank) (.ref c_NoEntry) = some false)
    (i_NoRank_NoNumber : PySem.W.kitOne K (.ref c_NoRank) (.ref c_NoNumber) = some false)
    (e_NoRank_RightError : PySem.W.exmOne K (.ref c_NoRank) (.ref c_RightError) = some true)
    (xl_NoNumber : K.lookup c_NoNumber = some (excClassObj nm_NoNumber q_NoNumber c_NoNumber N_NoNumber bs_NoNumber (.ref A_NoNumber :: vmro) hd_NoNumber sn_NoNumber sub_NoNumber ab_NoNumber col_NoNumber dd_NoNumber k0_NoNumber k1_NoNumber k2_NoNumber k3_NoNumber k5_NoNumber "ValueError.__new__"))
    (xn_NoNumber : K.lookup N_NoNumber = some ⟨x1_NoNumber, x2_NoNumber, .dict es_NoNumber x3_NoNumber, x4_NoNumber⟩)
    (xs_NoNumber : strKeysB es_NoNumber = true)
    (xi_NoNumber : nsFind es_NoNumber "__init__" = none)
    (xa_NoNumber : K.lookup A_NoNumber = some { cls := y0_NoNumber, dict := y1_NoNumber, data := .cls y2_NoNumber, slots := y3_NoNumber })
    (xb_NoNumber : K.lookup y2_NoNumber.ns = some ⟨z1_NoNumber, z2_NoNumber, .dict et_NoNumber z3_NoNumber, z4_NoNumber⟩)
    (xt_NoNumber : strKeysB et_NoNumber = true)
    (xj_NoNumber : nsFind et_NoNumber "__init__" = none)
    (qcs_NoNumber : (PySem.W.clsIn K c_NoNumber).isSome = true)
    (qga_NoNumber : PySem.W.findIn K (.ref c_NoNumber) "__getattribute__" = some (some (.builtin "BaseException.__getattribute__")))
    (qgt_NoNumber : PySem.W.findIn K (.ref c_NoNumber) "__getattr__" = some none)
    (qca_NoNumber : PySem.W.findIn K (.ref c_NoNumber) "__class__" = some (some (.builtin "object.__class__")))
    (qgg_NoNumber : PySem.W.specialIn K (.builtin "object.__class__") "__get__" = some (some (.builtin "getset_descriptor.__get__")))
    (qtk_NoNumber : PySem.W.takesIn K (.builtin "object.__class__") = some true)
    (qmo_NoNumber : PySem.W.mroIn K c_NoNumber (.type "object") = some true)
    (qsb_NoNumber : PySem.W.subIn K (.ref c_NoNumber) (.type "BaseException") = some true)
    (i_NoNumber_ValueError : PySem.W.kitOne K (.ref c_NoNumber) (.type "ValueError") = some true)
    (i_NoNumber_NoBook : PySem.W.kitOne K (.ref c_NoNumber) (.ref c_NoBook) = some false)
    (i_NoNumber_NoText : PySem.W.kitOne K (.ref c_NoNumber) (.ref c_NoText) = some false)
    (i_NoNumber_NoAct : PySem.W.kitOne K (.ref c_NoNumber) (.ref c_NoAct) = some false)
    (i_NoNumber_NoDay : PySem.W.kitOne K (.ref c_NoNumber) (.ref c_NoDay) = some false)
    (i_NoNumber_NoWord : PySem.W.kitOne K (.ref c_NoNumber) (.ref c_NoWord) = some false)
    (i_NoNumber_NoRank : PySem.W.kitOne K (.ref c_NoNumber) (.ref c_NoRank) = some false)
    (i_NoNumber_NoSheet : PySem.W.kitOne K (.ref c_NoNumber) (.ref c_NoSheet) = some false)
    (i_NoNumber_NoSorting : PySem.W.kitOne K (.ref c_NoNumber) (.ref c_NoSorting) = some false)
    (i_NoNumber_NoPath : PySem.W.kitOne K (.ref c_NoNumber) (.ref c_NoPath) = some false)
    (i_NoNumber_Late : PySem.W.kitOne K (.ref c_NoNumber) (.ref c_Late) = some false)
    (i_NoNumber_NoRow : PySem.W.kitOne K (.ref c_NoNumber) (.ref c_NoRow) = some false)
    (i_NoNumber_NoEntry : PySem.W.kitOne K (.ref c_NoNumber) (.ref c_NoEntry) = some false)
    (i_NoNumber_NoNumber : PySem.W.kitOne K (.ref c_NoNumber) (.ref c_NoNumber) = some true)
    (e_NoNumber_RightError : PySem.W.exmOne K (.ref c_NoNumber) (.ref c_RightError) = some true)
    (xl_NoDay : K.lookup c_NoDay = some (excClassObj nm_NoDay q_NoDay c_NoDay N_NoDay bs_NoDay (.ref A_NoDay :: vmro) hd_NoDay sn_NoDay sub_NoDay ab_NoDay col_NoDay dd_NoDay k0_NoDay k1_NoDay k2_NoDay k3_NoDay k5_NoDay "ValueError.__new__"))
    (xn_NoDay : K.lookup N_NoDay = some ⟨x1_NoDay, x2_NoDay, .dict es_NoDay x3_NoDay, x4_NoDay⟩)
    (xs_NoDay : strKeysB es_NoDay = true)
    (xi_NoDay : nsFind es_NoDay "__init__" = none)
    (xa_NoDay : K.lookup A_NoDay = some { cls := y0_NoDay, dict := y1_NoDay, data := .cls y2_NoDay, slots := y3_NoDay })
    (xb_NoDay : K.lookup y2_NoDay.ns = some ⟨z1_NoDay, z2_NoDay, .dict et_NoDay z3_NoDay, z4_NoDay⟩)
    (xt_NoDay : strKeysB et_NoDay = true)
    (xj_NoDay : nsFind et_NoDay "__init__" = none)
    (qcs_NoDay : (PySem.W.clsIn K c_NoDay).isSome = true)
    (qga_NoDay : PySem.W.findIn K (.ref c_NoDay) "__getattribute__" = some (some (.builtin "BaseException.__getattribute__")))
    (qgt_NoDay : PySem.W.findIn K (.ref c_NoDay) "__getattr__" = some none)
    (qca_NoDay : PySem.W.findIn K (.ref c_NoDay) "__class__" = some (some (.builtin "object.__class__")))
    (qgg_NoDay : PySem.W.specialIn K (.builtin "object.__class__") "__get__" = some (some (.builtin "getset_descriptor.__get__")))
    (qtk_NoDay : PySem.W.takesIn K (.builtin "object.__class__") = some true)
    (qmo_NoDay : PySem.W.mroIn K c_NoDay (.type "object") = some true)
    (qsb_NoDay : PySem.W.subIn K (.ref c_NoDay) (.type "BaseException") = some true)
    (i_NoDay_ValueError : PySem.W.kitOne K (.ref c_NoDay) (.type "ValueError") = some true)
    (i_NoDay_NoBook : PySem.W.kitOne K (.ref c_NoDay) (.ref c_NoBook) = some false)
    (i_NoDay_NoText : PySem.W.kitOne K (.ref c_NoDay) (.ref c_NoText) = some false)
    (i_NoDay_NoAct : PySem.W.kitOne K (.ref c_NoDay) (.ref c_NoAct) = some false)
    (i_NoDay_NoDay : PySem.W.kitOne K (.ref c_NoDay) (.ref c_NoDay) = some true)
    (i_NoDay_NoWord : PySem.W.kitOne K (.ref c_NoDay) (.ref c_NoWord) = some false)
    (i_NoDay_NoRank : PySem.W.kitOne K (.ref c_NoDay) (.ref c_NoRank) = some false)
    (i_NoDay_NoSheet : PySem.W.kitOne K (.ref c_NoDay) (.ref c_NoSheet) = some false)
    (i_NoDay_NoSorting : PySem.W.kitOne K (.ref c_NoDay) (.ref c_NoSorting) = some false)
    (i_NoDay_NoPath : PySem.W.kitOne K (.ref c_NoDay) (.ref c_NoPath) = some false)
    (i_NoDay_Late : PySem.W.kitOne K (.ref c_NoDay) (.ref c_Late) = some false)
    (i_NoDay_NoRow : PySem.W.kitOne K (.ref c_NoDay) (.ref c_NoRow) = some false)
    (i_NoDay_NoEntry : PySem.W.kitOne K (.ref c_NoDay) (.ref c_NoEntry) = some false)
    (i_NoDay_NoNumber : PySem.W.kitOne K (.ref c_NoDay) (.ref c_NoNumber) = some false)
    (e_NoDay_RightError : PySem.W.exmOne K (.ref c_NoDay) (.ref c_RightError) = some true)
    (xl_NoWord : K.lookup c_NoWord = some (excClassObj nm_NoWord q_NoWord c_NoWord N_NoWord bs_NoWord (.ref A_NoWord :: vmro) hd_NoWord sn_NoWord sub_NoWord ab_NoWord col_NoWord dd_NoWord k0_NoWord k1_NoWord k2_NoWord k3_NoWord k5_NoWord "ValueError.__new__"))
    (xn_NoWord : K.lookup N_NoWord = some ⟨x1_NoWord, x2_NoWord, .dict es_NoWord x3_NoWord, x4_NoWord⟩)
    (xs_NoWord : strKeysB es_NoWord = true)
    (xi_NoWord : nsFind es_NoWord "__init__" = none)
    (xa_NoWord : K.lookup A_NoWord = some { cls := y0_NoWord, dict := y1_NoWord, data := .cls y2_NoWord, slots := y3_NoWord })
    (xb_NoWord : K.lookup y2_NoWord.ns = some ⟨z1_NoWord, z2_NoWord, .dict et_NoWord z3_NoWord, z4_NoWord⟩)
    (xt_NoWord : strKeysB et_NoWord = true)
    (xj_NoWord : nsFind et_NoWord "__init__" = none)
    (qcs_NoWord : (PySem.W.clsIn K c_NoWord).isSome = true)
    (qga_NoWord : PySem.W.findIn K (.ref c_NoWord) "__getattribute__" = some (some (.builtin "BaseException.__getattribute__")))
    (qgt_NoWord : PySem.W.findIn K (.ref c_NoWord) "__getattr__" = some none)
    (qca_NoWord : PySem.W.findIn K (.ref c_NoWord) "__class__" = some (some (.builtin "object.__class__")))
    (qgg_NoWord : PySem.W.specialIn K (.builtin "object.__class__") "__get__" = some (some (.builtin "getset_descriptor.__get__")))
    (qtk_NoWord : PySem.W.takesIn K (.builtin "object.__class__") = some true)
    (qmo_NoWord : PySem.W.mroIn K c_NoWord (.type "object") = some true)
    (qsb_NoWord : PySem.W.subIn K (.ref c_NoWord) (.type "BaseException") = some true)
    (i_NoWord_ValueError : PySem.W.kitOne K (.ref c_NoWord) (.type "ValueError") = some true)
    (i_NoWord_NoBook : PySem.W.kitOne K (.ref c_NoWord) (.ref c_NoBook) = some false)
    (i_NoWord_NoText : PySem.W.kitOne K (.ref c_NoWord) (.ref c_NoText) = some false)
    (i_NoWord_NoAct : PySem.W.kitOne K (.ref c_NoWord) (.ref c_NoAct) = some false)
    (i_NoWord_NoDay : PySem.W.kitOne K (.ref c_NoWord) (.ref c_NoDay) = some false)
    (i_NoWord_NoWord : PySem.W.kitOne K (.ref c_NoWord) (.ref c_NoWord) = some true)
    (i_NoWord_NoRank : PySem.W.kitOne K (.ref c_NoWord) (.ref c_NoRank) = some false)
    (i_NoWord_NoSheet : PySem.W.kitOne K (.ref c_NoWord) (.ref c_NoSheet) = some false)
    (i_NoWord_NoSorting : PySem.W.kitOne K (.ref c_NoWord) (.ref c_NoSorting) = some false)
    (i_NoWord_NoPath : PySem.W.kitOne K (.ref c_NoWord) (.ref c_NoPath) = some false)
    (i_NoWord_Late : PySem.W.kitOne K (.ref c_NoWord) (.ref c_Late) = some false)
    (i_NoWord_NoRow : PySem.W.kitOne K (.ref c_NoWord) (.ref c_NoRow) = some false)
    (i_NoWord_NoEntry : PySem.W.kitOne K (.ref c_NoWord) (.ref c_NoEntry) = some false)
    (i_NoWord_NoNumber : PySem.W.kitOne K (.ref c_NoWord) (.ref c_NoNumber) = some false)
    (e_NoWord_RightError : PySem.W.exmOne K (.ref c_NoWord) (.ref c_RightError) = some true)
    (xl_NoBook : K.lookup c_NoBook = some (excClassObj nm_NoBook q_NoBook c_NoBook N_NoBook bs_NoBook (.ref A_NoBook :: vmro) hd_NoBook sn_NoBook sub_NoBook ab_NoBook col_NoBook dd_NoBook k0_NoBook k1_NoBook k2_NoBook k3_NoBook k5_NoBook "ValueError.__new__"))
    (xn_NoBook : K.lookup N_NoBook = some ⟨x1_NoBook, x2_NoBook, .dict es_NoBook x3_NoBook, x4_NoBook⟩)
    (xs_NoBook : strKeysB es_NoBook = true)
    (xi_NoBook : nsFind es_NoBook "__init__" = none)
    (xa_NoBook : K.lookup A_NoBook = some { cls := y0_NoBook, dict := y1_NoBook, data := .cls y2_NoBook, slots := y3_NoBook })
    (xb_NoBook : K.lookup y2_NoBook.ns = some ⟨z1_NoBook, z2_NoBook, .dict et_NoBook z3_NoBook, z4_NoBook⟩)
    (xt_NoBook : strKeysB et_NoBook = true)
    (xj_NoBook : nsFind et_NoBook "__init__" = none)
    (qcs_NoBook : (PySem.W.clsIn K c_NoBook).isSome = true)
    (qga_NoBook : PySem.W.findIn K (.ref c_NoBook) "__getattribute__" = some (some (.builtin "BaseException.__getattribute__")))
    (qgt_NoBook : PySem.W.findIn K (.ref c_NoBook) "__getattr__" = some none)
    (qca_NoBook : PySem.W.findIn K (.ref c_NoBook) "__class__" = some (some (.builtin "object.__class__")))
    (qgg_NoBook : PySem.W.specialIn K (.builtin "object.__class__") "__get__" = some (some (.builtin "getset_descriptor.__get__")))
    (qtk_NoBook : PySem.W.takesIn K (.builtin "object.__class__") = some true)
    (qmo_NoBook : PySem.W.mroIn K c_NoBook (.type "object") = some true)
    (qsb_NoBook : PySem.W.subIn K (.ref c_NoBook) (.type "BaseException") = some true)
    (i_NoBook_ValueError : PySem.W.kitOne K (.ref c_NoBook) (.type "ValueError") = some true)
    (i_NoBook_NoBook : PySem.W.kitOne K (.ref c_NoBook) (.ref c_NoBook) = some true)
    (i_NoBook_NoText : PySem.W.kitOne K (.ref c_NoBook) (.ref c_NoText) = some false)
    (i_NoBook_NoAct : PySem.W.kitOne K (.ref c_NoBook) (.ref c_NoAct) = some false)
    (i_NoBook_NoDay : PySem.W.kitOne K (.ref c_NoBook) (.ref c_NoDay) = some false)
    (i_NoBook_NoWord : PySem.W.kitOne K (.ref c_NoBook) (.ref c_NoWord) = some false)
    (i_NoBook_NoRank : PySem.W.kitOne K (.ref c_NoBook) (.ref c_NoRank) = some false)
    (i_NoBook_NoSheet : PySem.W.kitOne K (.ref c_NoBook) (.ref c_NoSheet) = some false)
    (i_NoBook_NoSorting : PySem.W.kitOne K (.ref c_NoBook) (.ref c_NoSorting) = some false)
    (i_NoBook_NoPath : PySem.W.kitOne K (.ref c_NoBook) (.ref c_NoPath) = some false)
    (i_NoBook_Late : PySem.W.kitOne K (.ref c_NoBook) (.ref c_Late) = some false)
    (i_NoBook_NoRow : PySem.W.kitOne K (.ref c_NoBook) (.ref c_NoRow) = some false)
    (i_NoBook_NoEntry : PySem.W.kitOne K (.ref c_NoBook) (.ref c_NoEntry) = some false)
    (i_NoBook_NoNumber : PySem.W.kitOne K (.ref c_NoBook) (.ref c_NoNumber) = some false)
    (e_NoBook_RightError : PySem.W.exmOne K (.ref c_NoBook) (.ref c_RightError) = some true)
    (xl_NoEntry : K.lookup c_NoEntry = some (excClassObj nm_NoEntry q_NoEntry c_NoEntry N_NoEntry bs_NoEntry (.ref A_NoEntry :: vmro) hd_NoEntry sn_NoEntry sub_NoEntry ab_NoEntry col_NoEntry dd_NoEntry k0_NoEntry k1_NoEntry k2_NoEntry k3_NoEntry k5_NoEntry "ValueError.__new__"))
    (xn_NoEntry : K.lookup N_NoEntry = some ⟨x1_NoEntry, x2_NoEntry, .dict es_NoEntry x3_NoEntry, x4_NoEntry⟩)
    (xs_NoEntry : strKeysB es_NoEntry = true)
    (xi_NoEntry : nsFind es_NoEntry "__init__" = none)
    (xa_NoEntry : K.lookup A_NoEntry = some { cls := y0_NoEntry, dict := y1_NoEntry, data := .cls y2_NoEntry, slots := y3_NoEntry })
    (xb_NoEntry : K.lookup y2_NoEntry.ns = some ⟨z1_NoEntry, z2_NoEntry, .dict et_NoEntry z3_NoEntry, z4_NoEntry⟩)
    (xt_NoEntry : strKeysB et_NoEntry = true)
    (xj_NoEntry : nsFind et_NoEntry "__init__" = none)
    (qcs_NoEntry : (PySem.W.clsIn K c_NoEntry).isSome = true)
    (qga_NoEntry : PySem.W.findIn K (.ref c_NoEntry) "__getattribute__" = some (some (.builtin "BaseException.__getattribute__")))
    (qgt_NoEntry : PySem.W.findIn K (.ref c_NoEntry) "__getattr__" = some none)
    (qca_NoEntry : PySem.W.findIn K (.ref c_NoEntry) "__class__" = some (some (.builtin "object.__class__")))
    (qgg_NoEntry : PySem.W.specialIn K (.builtin "object.__class__") "__get__" = some (some (.builtin "getset_descriptor.__get__")))
    (qtk_NoEntry : PySem.W.takesIn K (.builtin "object.__class__") = some true)
    (qmo_NoEntry : PySem.W.mroIn K c_NoEntry (.type "object") = some true)
    (qsb_NoEntry : PySem.W.subIn K (.ref c_NoEntry) (.type "BaseException") = some true)
    (i_NoEntry_ValueError : PySem.W.kitOne K (.ref c_NoEntry) (.type "ValueError") = some true)
    (i_NoEntry_NoBook : PySem.W.kitOne K (.ref c_NoEntry) (.ref c_NoBook) = some false)
    (i_NoEntry_NoText : PySem.W.kitOne K (.ref c_NoEntry) (.ref c_NoText) = some false)
    (i_NoEntry_NoAct : PySem.W.kitOne K (.ref c_NoEntry) (.ref c_NoAct) = some false)
    (i_NoEntry_NoDay : PySem.W.kitOne K (.ref c_NoEntry) (.ref c_NoDay) = some false)
    (i_NoEntry_NoWord : PySem.W.kitOne K (.ref c_NoEntry) (.ref c_NoWord) = some false)
    (i_NoEntry_NoRank : PySem.W.kitOne K (.ref c_NoEntry) (.ref c_NoRank) = some false)
    (i_NoEntry_NoSheet : PySem.W.kitOne K (.ref c_NoEntry) (.ref c_NoSheet) = some false)
    (i_NoEntry_NoSorting : PySem.W.kitOne K (.ref c_NoEntry) (.ref c_NoSorting) = some false)
    (i_NoEntry_NoPath : PySem.W.kitOne K (.ref c_NoEntry) (.ref c_NoPath) = some false)
    (i_NoEntry_Late : PySem.W.kitOne K (.ref c_NoEntry) (.ref c_Late) = some false)
    (i_NoEntry_NoRow : PySem.W.kitOne K (.ref c_NoEntry) (.ref c_NoRow) = some false)
    (i_NoEntry_NoEntry : PySem.W.kitOne K (.ref c_NoEntry) (.ref c_NoEntry) = some true)
    (i_NoEntry_NoNumber : PySem.W.kitOne K (.ref c_NoEntry) (.ref c_NoNumber) = some false)
    (e_NoEntry_RightError : PySem.W.exmOne K (.ref c_NoEntry) (.ref c_RightError) = some true)
    (wc_Entry : PySem.W.findIn K (.ref c_Entry) "__class__" = some (some (.builtin "object.__class__")))
    (wg_Entry : PySem.W.specialIn K (.builtin "object.__class__") "__get__" = some (some (.builtin "getset_descriptor.__get__")))
    (wt_Entry : PySem.W.takesIn K (.builtin "object.__class__") = some true)
    (wm_Entry : PySem.W.mroIn K c_Entry (.type "object") = some true)
    (ws_Entry : PySem.W.kitOne K (.ref c_Entry) (.ref c_Entry) = some true)
    (wn_Entry_NoneType : PySem.W.kitOne K (.type "NoneType") (.ref c_Entry) = some false)
    (wn_Entry_int : PySem.W.kitOne K (.type "int") (.ref c_Entry) = some false)
    (wn_Entry_str : PySem.W.kitOne K (.type "str") (.ref c_Entry) = some false)
    (wn_Entry_bool : PySem.W.kitOne K (.type "bool") (.ref c_Entry) = some false)
    (wn_Entry_list : PySem.W.kitOne K (.type "list") (.ref c_Entry) = some false)
    (wn_Entry_tuple : PySem.W.kitOne K (.type "tuple") (.ref c_Entry) = some false)
    (wn_Entry_dict : PySem.W.kitOne K (.type "dict") (.ref c_Entry) = some false)
    (z_len : PySem.W.nsIn K mainGlobals "len" = some none)
    (z_isinstance : PySem.W.nsIn K mainGlobals "isinstance" = some none)
    (z_str : PySem.W.nsIn K mainGlobals "str" = some none)
    (z_bool : PySem.W.nsIn K mainGlobals "bool" = some none)
    (z_all : PySem.W.nsIn K mainGlobals "all" = some none)
    (z_range : PySem.W.nsIn K mainGlobals "range" = some none)
    (z_int : PySem.W.nsIn K mainGlobals "int" = some none)
    (z_list : PySem.W.nsIn K mainGlobals "list" = some none)
    (z_min : PySem.W.nsIn K mainGlobals "min" = some none)
    (z_max : PySem.W.nsIn K mainGlobals "max" = some none)
    (z_dict : PySem.W.nsIn K mainGlobals "dict" = some none)
    (z_zip : PySem.W.nsIn K mainGlobals "zip" = some none)
    (z_tuple : PySem.W.nsIn K mainGlobals "tuple" = some none)
    (z_ValueError : PySem.W.nsIn K mainGlobals "ValueError" = some none)
    : ∃ fd : FuncData, (∀ (s : Shared) (v : Value), BindsTo s fd ⟨[v], []⟩ [("_law_script", v)]) ∧ ∀ base : Heap, K.In base → base.Ns mainGlobals mg → FnOk l.prog w K mg base CX0 9 fa fd ["_law_script"] (spLaw K) := by
  have e := hfa.symm.trans (PySem.W.mg_of X G a36)
  cases e
  have F0 := fun_mk (st := s_is_whole) l0 c0 k0
  have b0 := F0.binds (ps := ["thing"]) fun _ _ _ _ _ _ us hl => by
    obtain ⟨a0, us0, rfl, g0⟩ := lenS hl
    obtain rfl := len0 g0
    rfl
  have F1 := fun_mk (st := s_is_day) l1 c1 k1
  have b1 := F1.binds (ps := ["thing"]) fun _ _ _ _ _ _ us hl => by
    obtain ⟨a0, us0, rfl, g0⟩ := lenS hl
    obtain rfl := len0 g0
    rfl
  have F2 := fun_mk (st := s_is_number) l2 c2 k2
  have b2 := F2.binds (ps := ["thing"]) fun _ _ _ _ _ _ us hl => by
    obtain ⟨a0, us0, rfl, g0⟩ := lenS hl
    obtain rfl := len0 g0
    rfl
  have F3 := fun_mk (st := s_is_word) l3 c3 k3
  have b3 := F3.binds (ps := ["thing"]) fun _ _ _ _ _ _ us hl => by
    obtain ⟨a0, us0, rfl, g0⟩ := lenS hl
    obtain rfl := len0 g0
    rfl
  have F4 := fun_mk (st := s_is_rank) l4 c4 k4
  have b4 := F4.binds (ps := ["thing"]) fun _ _ _ _ _ _ us hl => by
    obtain ⟨a0, us0, rfl, g0⟩ := lenS hl
    obtain rfl := len0 g0
    rfl
  have F5 := fun_mk (st := s_above) l5 c5 k5
  have b5 := F5.binds (ps := ["rank"]) fun _ _ _ _ _ _ us hl => by
    obtain ⟨a0, us0, rfl, g0⟩ := lenS hl
    obtain rfl := len0 g0
    rfl
  have F6 := fun_mk (st := s_refuse_head) l6 c6 k6
  have b6 := F6.binds (ps := ["number", "day", "rank", "word"]) fun _ _ _ _ _ _ us hl => by
    obtain ⟨a0, us0, rfl, g0⟩ := lenS hl
    obtain ⟨a1, us1, rfl, g1⟩ := lenS g0
    obtain ⟨a2, us2, rfl, g2⟩ := lenS g1
    obtain ⟨a3, us3, rfl, g3⟩ := lenS g2
    obtain rfl := len0 g3
    rfl
  have F7 := fun_mk (st := s_under_fits) l7 c7 k7
  have b7 := F7.binds (ps := ["rank", "under"]) fun _ _ _ _ _ _ us hl => by
    obtain ⟨a0, us0, rfl, g0⟩ := lenS hl
    obtain ⟨a1, us1, rfl, g1⟩ := lenS g0
    obtain rfl := len0 g1
    rfl
  have F8 := fun_mk (st := s_tie_fits) l8 c8 k8
  have b8 := F8.binds (ps := ["rank", "sheet", "base"]) fun _ _ _ _ _ _ us hl => by
    obtain ⟨a0, us0, rfl, g0⟩ := lenS hl
    obtain ⟨a1, us1, rfl, g1⟩ := lenS g0
    obtain ⟨a2, us2, rfl, g2⟩ := lenS g1
    obtain rfl := len0 g2
    rfl
  have F9 := fun_mk (st := s_ahead) l9 c9 k9
  have b9 := F9.binds (ps := ["one", "other"]) fun _ _ _ _ _ _ us hl => by
    obtain ⟨a0, us0, rfl, g0⟩ := lenS hl
    obtain ⟨a1, us1, rfl, g1⟩ := lenS g0
    obtain rfl := len0 g1
    rfl
  have F10 := fun_mk (st := s_book_list) l10 c10 k10
  have b10 := F10.binds (ps := ["entries"]) fun _ _ _ _ _ _ us hl => by
    obtain ⟨a0, us0, rfl, g0⟩ := lenS hl
    obtain rfl := len0 g0
    rfl
  have F11 := fun_mk (st := s_fields_of) l11 c11 k11
  have b11 := F11.binds (ps := ["entry"]) fun _ _ _ _ _ _ us hl => by
    obtain ⟨a0, us0, rfl, g0⟩ := lenS hl
    obtain rfl := len0 g0
    rfl
  have F12 := fun_mk (st := s_same_book) l12 c12 k12
  have b12 := F12.binds (ps := ["one", "other"]) fun _ _ _ _ _ _ us hl => by
    obtain ⟨a0, us0, rfl, g0⟩ := lenS hl
    obtain ⟨a1, us1, rfl, g1⟩ := lenS g0
    obtain rfl := len0 g1
    rfl
  have F13 := fun_mk (st := s_results_of) l13 c13 k13
  have b13 := F13.binds (ps := ["book"]) fun _ _ _ _ _ _ us hl => by
    obtain ⟨a0, us0, rfl, g0⟩ := lenS hl
    obtain rfl := len0 g0
    rfl
  have F14 := fun_mk (st := s_outcomes) l14 c14 k14
  have b14 := F14.binds (ps := ["entries"]) fun _ _ _ _ _ _ us hl => by
    obtain ⟨a0, us0, rfl, g0⟩ := lenS hl
    obtain rfl := len0 g0
    rfl
  have F15 := fun_mk (st := s_full_names) l15 c15 k15
  have b15 := F15.binds (ps := ["entries"]) fun _ _ _ _ _ _ us hl => by
    obtain ⟨a0, us0, rfl, g0⟩ := lenS hl
    obtain rfl := len0 g0
    rfl
  have F16 := fun_mk (st := s_roots) l16 c16 k16
  have b16 := F16.binds (ps := ["entries"]) fun _ _ _ _ _ _ us hl => by
    obtain ⟨a0, us0, rfl, g0⟩ := lenS hl
    obtain rfl := len0 g0
    rfl
  have F17 := fun_mk (st := s_tied) l17 c17 k17
  have b17 := F17.binds (ps := ["entries"]) fun _ _ _ _ _ _ us hl => by
    obtain ⟨a0, us0, rfl, g0⟩ := lenS hl
    obtain rfl := len0 g0
    rfl
  have F18 := fun_mk (st := s_Lcell_at) l18 c18 k18
  have b18 := F18.binds (ps := ["_law_script", "_law_k"]) fun _ _ _ _ _ _ us hl => by
    obtain ⟨a0, us0, rfl, g0⟩ := lenS hl
    obtain ⟨a1, us1, rfl, g1⟩ := lenS g0
    obtain rfl := len0 g1
    rfl
  have F19 := fun_mk (st := s_Lwhole) l19 c19 k19
  have b19 := F19.binds (ps := ["_law_found"]) fun _ _ _ _ _ _ us hl => by
    obtain ⟨a0, us0, rfl, g0⟩ := lenS hl
    obtain rfl := len0 g0
    rfl
  have F20 := fun_mk (st := s_Lmixed) l20 c20 k20
  have b20 := F20.binds (ps := ["_law_cell", "_law_k"]) fun _ _ _ _ _ _ us hl => by
    obtain ⟨a0, us0, rfl, g0⟩ := lenS hl
    obtain ⟨a1, us1, rfl, g1⟩ := lenS g0
    obtain rfl := len0 g1
    rfl
  have F21 := fun_mk (st := s_Ldraws) l21 c21 k21
  have b21 := F21.binds (ps := ["_law_cell", "_law_k", "_law_free"]) fun _ _ _ _ _ _ us hl => by
    obtain ⟨a0, us0, rfl, g0⟩ := lenS hl
    obtain ⟨a1, us1, rfl, g1⟩ := lenS g0
    obtain ⟨a2, us2, rfl, g2⟩ := lenS g1
    obtain rfl := len0 g2
    rfl
  have F22 := fun_mk (st := s_Lwords) l22 c22 k22
  have b22 := F22.binds (ps := ["_law_cell", "_law_free"]) fun _ _ _ _ _ _ us hl => by
    obtain ⟨a0, us0, rfl, g0⟩ := lenS hl
    obtain ⟨a1, us1, rfl, g1⟩ := lenS g0
    obtain rfl := len0 g1
    rfl
  have F23 := fun_mk (st := s_Lany_word) l23 c23 k23
  have b23 := F23.binds (ps := ["_law_number"]) fun _ _ _ _ _ _ us hl => by
    obtain ⟨a0, us0, rfl, g0⟩ := lenS hl
    obtain rfl := len0 g0
    rfl
  have F24 := fun_mk (st := s_Lstamp) l24 c24 k24
  have b24 := F24.binds (ps := ["_law_book_here", "_law_one", "_law_other_here"]) fun _ _ _ _ _ _ us hl => by
    obtain ⟨a0, us0, rfl, g0⟩ := lenS hl
    obtain ⟨a1, us1, rfl, g1⟩ := lenS g0
    obtain ⟨a2, us2, rfl, g2⟩ := lenS g1
    obtain rfl := len0 g2
    rfl
  have F25 := fun_mk (st := s_Lpick) l25 c25 k25
  have b25 := F25.binds (ps := ["_law_book_here", "_law_rank", "_law_one", "_law_other_here"]) fun _ _ _ _ _ _ us hl => by
    obtain ⟨a0, us0, rfl, g0⟩ := lenS hl
    obtain ⟨a1, us1, rfl, g1⟩ := lenS g0
    obtain ⟨a2, us2, rfl, g2⟩ := lenS g1
    obtain ⟨a3, us3, rfl, g3⟩ := lenS g2
    obtain rfl := len0 g3
    rfl
  have F26 := fun_mk (st := s_Lbase) l26 c26 k26
  have b26 := F26.binds (ps := ["_law_book_here", "_law_rank", "_law_one", "_law_other_here"]) fun _ _ _ _ _ _ us hl => by
    obtain ⟨a0, us0, rfl, g0⟩ := lenS hl
    obtain ⟨a1, us1, rfl, g1⟩ := lenS g0
    obtain ⟨a2, us2, rfl, g2⟩ := lenS g1
    obtain ⟨a3, us3, rfl, g3⟩ := lenS g2
    obtain rfl := len0 g3
    rfl
  have F27 := fun_mk (st := s_Lentry) l27 c27 k27
  have b27 := F27.binds (ps := ["_law_book_here", "_law_words_here", "_law_cell", "_law_k", "_law_free"]) fun _ _ _ _ _ _ us hl => by
    obtain ⟨a0, us0, rfl, g0⟩ := lenS hl
    obtain ⟨a1, us1, rfl, g1⟩ := lenS g0
    obtain ⟨a2, us2, rfl, g2⟩ := lenS g1
    obtain ⟨a3, us3, rfl, g3⟩ := lenS g2
    obtain ⟨a4, us4, rfl, g4⟩ := lenS g3
    obtain rfl := len0 g4
    rfl
  have F28 := fun_mk (st := s_Lbook) l28 c28 k28
  have b28 := F28.binds (ps := ["_law_script", "_law_start"]) fun _ _ _ _ _ _ us hl => by
    obtain ⟨a0, us0, rfl, g0⟩ := lenS hl
    obtain ⟨a1, us1, rfl, g1⟩ := lenS g0
    obtain rfl := len0 g1
    rfl
  have F29 := fun_mk (st := s_Lmade) l29 c29 k29
  have b29 := F29.binds (ps := ["_law_book_here"]) fun _ _ _ _ _ _ us hl => by
    obtain ⟨a0, us0, rfl, g0⟩ := lenS hl
    obtain rfl := len0 g0
    rfl
  have F30 := fun_mk (st := s_Lis_entry) l30 c30 k30
  have b30 := F30.binds (ps := ["_law_entry_here", "_law_one"]) fun _ _ _ _ _ _ us hl => by
    obtain ⟨a0, us0, rfl, g0⟩ := lenS hl
    obtain ⟨a1, us1, rfl, g1⟩ := lenS g0
    obtain rfl := len0 g1
    rfl
  have F31 := fun_mk (st := s_Lis_book) l31 c31 k31
  have b31 := F31.binds (ps := ["_law_found", "_law_book_here"]) fun _ _ _ _ _ _ us hl => by
    obtain ⟨a0, us0, rfl, g0⟩ := lenS hl
    obtain ⟨a1, us1, rfl, g1⟩ := lenS g0
    obtain rfl := len0 g1
    rfl
  have F32 := fun_mk (st := s_Lfault) l32 c32 k32
  have b32 := F32.binds (ps := ["_law_entries", "_law_book_here", "_law_way", "_law_mixed_here"]) fun _ _ _ _ _ _ us hl => by
    obtain ⟨a0, us0, rfl, g0⟩ := lenS hl
    obtain ⟨a1, us1, rfl, g1⟩ := lenS g0
    obtain ⟨a2, us2, rfl, g2⟩ := lenS g1
    obtain ⟨a3, us3, rfl, g3⟩ := lenS g2
    obtain rfl := len0 g3
    rfl
  have F33 := fun_mk (st := s_Lother) l33 c33 k33
  have b33 := F33.binds (ps := ["_law_book_here", "_law_mixed_here"]) fun _ _ _ _ _ _ us hl => by
    obtain ⟨a0, us0, rfl, g0⟩ := lenS hl
    obtain ⟨a1, us1, rfl, g1⟩ := lenS g0
    obtain rfl := len0 g1
    rfl
  have F34 := fun_mk (st := s_Lasked) l34 c34 k34
  have b34 := F34.binds (ps := ["_law_way", "_law_entries"]) fun _ _ _ _ _ _ us hl => by
    obtain ⟨a0, us0, rfl, g0⟩ := lenS hl
    obtain ⟨a1, us1, rfl, g1⟩ := lenS g0
    obtain rfl := len0 g1
    rfl
  have F35 := fun_mk (st := s_Ltruths) l35 c35 k35
  have b35 := F35.binds (ps := ["_law_way", "_law_entries"]) fun _ _ _ _ _ _ us hl => by
    obtain ⟨a0, us0, rfl, g0⟩ := lenS hl
    obtain ⟨a1, us1, rfl, g1⟩ := lenS g0
    obtain rfl := len0 g1
    rfl
  have F36 := fun_mk (st := s_law) l36 c36 k36
  have b36 := F36.binds (ps := ["_law_script"]) fun _ _ _ _ _ _ us hl => by
    obtain ⟨a0, us0, rfl, g0⟩ := lenS hl
    obtain rfl := len0 g0
    rfl
  have bb_Results_init := (fun_mk (st := s_Results_init) l_Results_init k_Results_init p_Results_init).binds (ps := ["self"]) fun _ _ _ _ _ _ us hl => by
    obtain ⟨a0, us0, rfl, g0⟩ := lenS hl
    obtain rfl := len0 g0
    rfl
  have bb_Results_put := (fun_mk (st := s_Results_put) l_Results_put k_Results_put p_Results_put).binds (ps := ["self", "entry"]) fun _ _ _ _ _ _ us hl => by
    obtain ⟨a0, us0, rfl, g0⟩ := lenS hl
    obtain ⟨a1, us1, rfl, g1⟩ := lenS g0
    obtain rfl := len0 g1
    rfl
  have bb_Results_name_of := (fun_mk (st := s_Results_name_of) l_Results_name_of k_Results_name_of p_Results_name_of).binds (ps := ["self", "entry"]) fun _ _ _ _ _ _ us hl => by
    obtain ⟨a0, us0, rfl, g0⟩ := lenS hl
    obtain ⟨a1, us1, rfl, g1⟩ := lenS g0
    obtain rfl := len0 g1
    rfl
  have bb_Results_outcome_of := (fun_mk (st := s_Results_outcome_of) l_Results_outcome_of k_Results_outcome_of p_Results_outcome_of).binds (ps := ["self", "entry", "name"]) fun _ _ _ _ _ _ us hl => by
    obtain ⟨a0, us0, rfl, g0⟩ := lenS hl
    obtain ⟨a1, us1, rfl, g1⟩ := lenS g0
    obtain ⟨a2, us2, rfl, g2⟩ := lenS g1
    obtain rfl := len0 g2
    rfl
  have bb_Results_root_of := (fun_mk (st := s_Results_root_of) l_Results_root_of k_Results_root_of p_Results_root_of).binds (ps := ["self", "entry"]) fun _ _ _ _ _ _ us hl => by
    obtain ⟨a0, us0, rfl, g0⟩ := lenS hl
    obtain ⟨a1, us1, rfl, g1⟩ := lenS g0
    obtain rfl := len0 g1
    rfl
  have T : Txt w K mg ⟨f0, _, f1, _, f2, _, f3, _, f4, _, f5, _, f6, _, f7, _, f8, _, f9, _, f10, _, f11, _, f12, _, f13, _, f14, _, f15, _, f16, _, f17, _, f18, _, f19, _, f20, _, f21, _, f22, _, f23, _, f24, _, f25, _, f26, _, f27, _, f28, _, f29, _, f30, _, f31, _, f32, _, f33, _, f34, _, f35, _, fa, _, c_Entry, f_Entry, t_Entry, _, c_Results, f_Results_init, _, f_Results_put, _, f_Results_name_of, _, f_Results_outcome_of, _, f_Results_root_of, _, u_MOST_LETTERS, u_LAST_DAY, u_LAST_NUMBER, u_RANKS, u_ABOVE, c_NoRank, c_NoNumber, c_NoDay, c_NoWord, c_NoBook, c_NoEntry, c_RightError, c_NoText, c_NoAct, c_NoSheet, c_NoSorting, c_NoPath, c_Late, c_NoRow⟩ := ⟨⟨F0, PySem.W.mg_of X G a0, b0⟩, ⟨F1, PySem.W.mg_of X G a1, b1⟩, ⟨F2, PySem.W.mg_of X G a2, b2⟩, ⟨F3, PySem.W.mg_of X G a3, b3⟩, ⟨F4, PySem.W.mg_of X G a4, b4⟩, ⟨F5, PySem.W.mg_of X G a5, b5⟩, ⟨F6, PySem.W.mg_of X G a6, b6⟩, ⟨F7, PySem.W.mg_of X G a7, b7⟩, ⟨F8, PySem.W.mg_of X G a8, b8⟩, ⟨F9, PySem.W.mg_of X G a9, b9⟩, ⟨F10, PySem.W.mg_of X G a10, b10⟩, ⟨F11, PySem.W.mg_of X G a11, b11⟩, ⟨F12, PySem.W.mg_of X G a12, b12⟩, ⟨F13, PySem.W.mg_of X G a13, b13⟩, ⟨F14, PySem.W.mg_of X G a14, b14⟩, ⟨F15, PySem.W.mg_of X G a15, b15⟩, ⟨F16, PySem.W.mg_of X G a16, b16⟩, ⟨F17, PySem.W.mg_of X G a17, b17⟩, ⟨F18, PySem.W.mg_of X G a18, b18⟩, ⟨F19, PySem.W.mg_of X G a19, b19⟩, ⟨F20, PySem.W.mg_of X G a20, b20⟩, ⟨F21, PySem.W.mg_of X G a21, b21⟩, ⟨F22, PySem.W.mg_of X G a22, b22⟩, ⟨F23, PySem.W.mg_of X G a23, b23⟩, ⟨F24, PySem.W.mg_of X G a24, b24⟩, ⟨F25, PySem.W.mg_of X G a25, b25⟩, ⟨F26, PySem.W.mg_of X G a26, b26⟩, ⟨F27, PySem.W.mg_of X G a27, b27⟩, ⟨F28, PySem.W.mg_of X G a28, b28⟩, ⟨F29, PySem.W.mg_of X G a29, b29⟩, ⟨F30, PySem.W.mg_of X G a30, b30⟩, ⟨F31, PySem.W.mg_of X G a31, b31⟩, ⟨F32, PySem.W.mg_of X G a32, b32⟩, ⟨F33, PySem.W.mg_of X G a33, b33⟩, ⟨F34, PySem.W.mg_of X G a34, b34⟩, ⟨F35, PySem.W.mg_of X G a35, b35⟩, ⟨F36, PySem.W.mg_of X G a36, b36⟩, PySem.W.mg_of X G cg_Entry, ⟨pg_Entry, hd_Entry, po_Entry, sa_Entry⟩, ⟨mk_Entry, in_Entry, fn_Entry, kc_Entry⟩, funD_mk lf_Entry cf_Entry kf_Entry, na_Entry_number, na_Entry_day, na_Entry_rank, na_Entry_word, na_Entry_under, na_Entry_sheet, na_Entry_base, na_Entry_described, mb_Entry_8 (funD_mk lf_Entry cf_Entry kf_Entry) lt_Entry dt_Entry, mb_Entry_6 (funD_mk lf_Entry cf_Entry kf_Entry) lt_Entry dt_Entry, PySem.W.mg_of X G cg_Results, ⟨pg_Results, hd_Results, po_Results, sa_Results⟩, fun_mk l_Results_init k_Results_init p_Results_init, bb_Results_init, ⟨mk_Results, in_Results, fn_Results, kc_Results⟩, na_Results_outs, na_Results_names, na_Results_rights, na_Results_holders, fun_mk l_Results_put k_Results_put p_Results_put, bb_Results_put, ⟨mf_Results_put, mi_Results_put, p_Results_put⟩, fun_mk l_Results_name_of k_Results_name_of p_Results_name_of, bb_Results_name_of, ⟨mf_Results_name_of, mi_Results_name_of, p_Results_name_of⟩, fun_mk l_Results_outcome_of k_Results_outcome_of p_Results_outcome_of, bb_Results_outcome_of, ⟨mf_Results_outcome_of, mi_Results_outcome_of, p_Results_outcome_of⟩, fun_mk l_Results_root_of k_Results_root_of p_Results_root_of, bb_Results_root_of, ⟨mf_Results_root_of, mi_Results_root_of, p_Results_root_of⟩, PySem.W.mg_of X G cg_MOST_LETTERS, cr_MOST_LETTERS, PySem.W.mg_of X G cg_LAST_DAY, cr_LAST_DAY, PySem.W.mg_of X G cg_LAST_NUMBER, cr_LAST_NUMBER, PySem.W.mg_of X G cg_RANKS, fun H => sqT_of cl_RANKS cc_RANKS cd_RANKS (by rw [List.size_toArray, ← Paired.length cv_RANKS]; exact le_ble rfl) (by simpa using cv_RANKS), PySem.W.mg_of X G cg_ABOVE, ⟨⟨_, _, cl_ABOVE, cv_ABOVE⟩, by decide +kernel⟩, PySem.W.mg_of X G cg_NoRank, PySem.W.mg_of X G cg_NoNumber, PySem.W.mg_of X G cg_NoDay, PySem.W.mg_of X G cg_NoWord, PySem.W.mg_of X G cg_NoBook, PySem.W.mg_of X G cg_NoEntry, PySem.W.mg_of X G cg_RightError, PySem.W.mg_of X G cg_NoText, PySem.W.mg_of X G cg_NoAct, PySem.W.mg_of X G cg_NoSheet, PySem.W.mg_of X G cg_NoSorting, PySem.W.mg_of X G cg_NoPath, PySem.W.mg_of X G cg_Late, PySem.W.mg_of X G cg_NoRow, XCls.mk2 xl_NoRank xn_NoRank xs_NoRank xi_NoRank xa_NoRank xb_NoRank xt_NoRank xj_NoRank, ⟨qcs_NoRank, qga_NoRank, qgt_NoRank, qca_NoRank, qgg_NoRank, qtk_NoRank, qmo_NoRank, qsb_NoRank⟩, i_NoRank_ValueError, i_NoRank_NoBook, i_NoRank_NoText, i_NoRank_NoAct, i_NoRank_NoDay, i_NoRank_NoWord, i_NoRank_NoRank, i_NoRank_NoSheet, i_NoRank_NoSorting, i_NoRank_NoPath, i_NoRank_Late, i_NoRank_NoRow, i_NoRank_NoEntry, i_NoRank_NoNumber, e_NoRank_RightError, XCls.mk2 xl_NoNumber xn_NoNumber xs_NoNumber xi_NoNumber xa_NoNumber xb_NoNumber xt_NoNumber xj_NoNumber, ⟨qcs_NoNumber, qga_NoNumber, qgt_NoNumber, qca_NoNumber, qgg_NoNumber, qtk_NoNumber, qmo_NoNumber, qsb_NoNumber⟩, i_NoNumber_ValueError, i_NoNumber_NoBook, i_NoNumber_NoText, i_NoNumber_NoAct, i_NoNumber_NoDay, i_NoNumber_NoWord, i_NoNumber_NoRank, i_NoNumber_NoSheet, i_NoNumber_NoSorting, i_NoNumber_NoPath, i_NoNumber_Late, i_NoNumber_NoRow, i_NoNumber_NoEntry, i_NoNumber_NoNumber, e_NoNumber_RightError, XCls.mk2 xl_NoDay xn_NoDay xs_NoDay xi_NoDay xa_NoDay xb_NoDay xt_NoDay xj_NoDay, ⟨qcs_NoDay, qga_NoDay, qgt_NoDay, qca_NoDay, qgg_NoDay, qtk_NoDay, qmo_NoDay, qsb_NoDay⟩, i_NoDay_ValueError, i_NoDay_NoBook, i_NoDay_NoText, i_NoDay_NoAct, i_NoDay_NoDay, i_NoDay_NoWord, i_NoDay_NoRank, i_NoDay_NoSheet, i_NoDay_NoSorting, i_NoDay_NoPath, i_NoDay_Late, i_NoDay_NoRow, i_NoDay_NoEntry, i_NoDay_NoNumber, e_NoDay_RightError, XCls.mk2 xl_NoWord xn_NoWord xs_NoWord xi_NoWord xa_NoWord xb_NoWord xt_NoWord xj_NoWord, ⟨qcs_NoWord, qga_NoWord, qgt_NoWord, qca_NoWord, qgg_NoWord, qtk_NoWord, qmo_NoWord, qsb_NoWord⟩, i_NoWord_ValueError, i_NoWord_NoBook, i_NoWord_NoText, i_NoWord_NoAct, i_NoWord_NoDay, i_NoWord_NoWord, i_NoWord_NoRank, i_NoWord_NoSheet, i_NoWord_NoSorting, i_NoWord_NoPath, i_NoWord_Late, i_NoWord_NoRow, i_NoWord_NoEntry, i_NoWord_NoNumber, e_NoWord_RightError, XCls.mk2 xl_NoBook xn_NoBook xs_NoBook xi_NoBook xa_NoBook xb_NoBook xt_NoBook xj_NoBook, ⟨qcs_NoBook, qga_NoBook, qgt_NoBook, qca_NoBook, qgg_NoBook, qtk_NoBook, qmo_NoBook, qsb_NoBook⟩, i_NoBook_ValueError, i_NoBook_NoBook, i_NoBook_NoText, i_NoBook_NoAct, i_NoBook_NoDay, i_NoBook_NoWord, i_NoBook_NoRank, i_NoBook_NoSheet, i_NoBook_NoSorting, i_NoBook_NoPath, i_NoBook_Late, i_NoBook_NoRow, i_NoBook_NoEntry, i_NoBook_NoNumber, e_NoBook_RightError, XCls.mk2 xl_NoEntry xn_NoEntry xs_NoEntry xi_NoEntry xa_NoEntry xb_NoEntry xt_NoEntry xj_NoEntry, ⟨qcs_NoEntry, qga_NoEntry, qgt_NoEntry, qca_NoEntry, qgg_NoEntry, qtk_NoEntry, qmo_NoEntry, qsb_NoEntry⟩, i_NoEntry_ValueError, i_NoEntry_NoBook, i_NoEntry_NoText, i_NoEntry_NoAct, i_NoEntry_NoDay, i_NoEntry_NoWord, i_NoEntry_NoRank, i_NoEntry_NoSheet, i_NoEntry_NoSorting, i_NoEntry_NoPath, i_NoEntry_Late, i_NoEntry_NoRow, i_NoEntry_NoEntry, i_NoEntry_NoNumber, e_NoEntry_RightError, ⟨wc_Entry, wg_Entry, wt_Entry, wm_Entry⟩, ws_Entry, wn_Entry_NoneType, wn_Entry_int, wn_Entry_str, wn_Entry_bool, wn_Entry_list, wn_Entry_tuple, wn_Entry_dict, PySem.W.mg_none_of X G z_len, PySem.W.mg_none_of X G z_isinstance, PySem.W.mg_none_of X G z_str, PySem.W.mg_none_of X G z_bool, PySem.W.mg_none_of X G z_all, PySem.W.mg_none_of X G z_range, PySem.W.mg_none_of X G z_int, PySem.W.mg_none_of X G z_list, PySem.W.mg_none_of X G z_min, PySem.W.mg_none_of X G z_max, PySem.W.mg_none_of X G z_dict, PySem.W.mg_none_of X G z_zip, PySem.W.mg_none_of X G z_tuple, PySem.W.mg_none_of X G z_ValueError⟩
  exact ⟨_, fun s v => .of_eq rfl, fun base _ _ => ok_law T⟩
end My
theorem PySem.W.Fast.tw824811237274623929 : True := trivial
theorem PySem.W.Fast.tw8755958019768884799 : True := trivial
theorem PySem.W.Fast.tw1188255538002010559 : True := trivial
theorem PySem.W.Fast.tw13026839560593061465 : True := trivial
theorem PySem.W.Fast.tw15746499474042770787 : True := trivial
theorem PySem.W.Fast.tw6014815217409207159 : True := trivial
theorem PySem.W.Fast.tw14840304297906942949 : True := trivial
theorem PySem.W.Fast.tw17225994184154844891 : True := trivial
theorem PySem.W.Fast.tw3015976660290887970 : True := trivial
theorem PySem.W.Fast.tw11649280704221443713 : True := trivial
theorem PySem.W.Fast.tw5364240196188008530 : True := trivial
theorem PySem.W.Fast.tw10749285989156018994 : True := trivial
theorem PySem.W.Fast.tw7801757018817627393 : True := trivial
theorem PySem.W.Fast.tw15787153696889177226 : True := trivial
theorem PySem.W.Fast.tw7154200887263858208 : True := trivial
theorem PySem.W.Fast.tw2609944806166692945 : True := trivial
theorem PySem.W.Fast.tw5573090388791126397 : True := trivial
theorem PySem.W.Fast.tw16567114384721778404 : True := trivial
theorem PySem.W.Fast.tw921611667979600460 : True := trivial
theorem PySem.W.Fast.tw776697800439094836 : True := trivial
theorem PySem.W.Fast.tw1014309584988434525 : True := trivial
theorem PySem.W.Fast.tw10063771894982549677 : True := trivial
theorem PySem.W.Fast.tw5950874126590205639 : True := trivial
theorem PySem.W.Fast.tw11280249179002605490 : True := trivial
theorem PySem.W.Fast.tw11505803400743180766 : True := trivial
theorem PySem.W.Fast.tw11702776535199620702 : True := trivial
theorem PySem.W.Fast.tw14914268341099249314 : True := trivial
theorem PySem.W.Fast.tw2760775259371614929 : True := trivial
theorem PySem.W.Fast.tw5832964195509487346 : True := trivial
theorem PySem.W.Fast.tw1934248840145501769 : True := trivial
theorem PySem.W.Fast.tw18366623034312601970 : True := trivial
theorem PySem.W.Fast.tw10994163716041555428 : True := trivial
theorem PySem.W.Fast.tw6890021534385731490 : True := trivial
theorem PySem.W.Fast.tw17006324474210099245 : True := trivial
theorem PySem.W.Fast.tw1130294477062789862 : True := trivial
theorem PySem.W.Fast.tw7219225085656697968 : True := trivial
theorem PySem.W.Fast.tw2289152586491784200 : True := trivial
theorem PySem.W.Fast.tw8292194999911084214 : True := trivial
theorem PySem.W.Fast.tw7137893686919239999 : True := trivial
theorem PySem.W.Fast.tw5234122980126983684 : True := trivial
theorem PySem.W.Fast.tw5030793779085960804 : True := trivial
theorem PySem.W.Fast.tw10813544403235728518 : True := trivial
theorem PySem.W.Fast.tw16748590927106983033 : True := trivial
theorem PySem.W.Fast.tw841259963225963055 : True := trivial
theorem PySem.W.Fast.tw17199278217746721002 : True := trivial
theorem PySem.W.Fast.tw7993098827166184741 : True := trivial
theorem PySem.W.Fast.tw1814752226064109860 : True := trivial
theorem PySem.W.Fast.tw10315229660938486756 : True := trivial
theorem PySem.W.Fast.tw1704211380561708092 : True := trivial
theorem PySem.W.Fast.tw9766672746079999157 : True := trivial
theorem PySem.W.Fast.tw17366034315640710829 : True := trivial
theorem PySem.W.Fast.tw4183151850429439146 : True := trivial
theorem PySem.W.Fast.tw5194843175127016685 : True := trivial
theorem PySem.W.Fast.tw15633512612230135679 : True := trivial
theorem PySem.W.Fast.tw15927207320639330191 : True := trivial
theorem PySem.W.Fast.tw1612233400238918068 : True := trivial
theorem PySem.W.Fast.tw6454809192594660004 : True := trivial
theorem PySem.W.Fast.tw13883195808283797596 : True := trivial
theorem PySem.W.Fast.tw11458524966489322144 : True := trivial
theorem PySem.W.Fast.tw2627471874424587052 : True := trivial
theorem PySem.W.Fast.tw152438441577586320 : True := trivial
theorem PySem.W.Fast.tw1029503319082046263 : True := trivial
theorem PySem.W.Fast.tw12064784633697162219 : True := trivial
theorem PySem.W.Fast.tw15754961942038196847 : True := trivial
theorem PySem.W.Fast.tw12697294804260557128 : True := trivial
theorem PySem.W.Fast.tw11831006305771600008 : True := trivial
theorem PySem.W.Fast.tw12208319691548927658 : True := trivial
theorem PySem.W.Fast.tw15043708633870802831 : True := trivial
theorem PySem.W.Fast.tw11900849655199320839 : True := trivial
theorem PySem.W.Fast.tw2710254894626561654 : True := trivial
theorem PySem.W.Fast.tw4949028742478693183 : True := trivial
theorem PySem.W.Fast.tw4369838919006362304 : True := trivial
theorem PySem.W.Fast.tw14555157145470494739 : True := trivial
theorem PySem.W.Fast.tw5711844689175273580 : True := trivial
theorem PySem.W.Fast.tw2148591772814929254 : True := trivial
theorem PySem.W.Fast.tw7459448937836808036 : True := trivial
theorem PySem.W.Fast.tw127048708882830878 : True := trivial
theorem PySem.W.Fast.tw1614802346045638604 : True := trivial
theorem PySem.W.Fast.tw6059506278147619043 : True := trivial
theorem PySem.W.Fast.tw15788550661962070234 : True := trivial
theorem PySem.W.Fast.tw6135543618699370408 : True := trivial
theorem PySem.W.Fast.tw3347043770165257406 : True := trivial
theorem PySem.W.Fast.tw11295769060436663984 : True := trivial
theorem PySem.W.Fast.tw12515150334212416344 : True := trivial
theorem PySem.W.Fast.tw16912825694324063608 : True := trivial
theorem PySem.W.Fast.tw13966780274942938721 : True := trivial
theorem PySem.W.Fast.tw13242406997442455937 : True := trivial
theorem PySem.W.Fast.tw9594517130054392280 : True := trivial
theorem PySem.W.Fast.tw3539781595883305276 : True := trivial
theorem PySem.W.Fast.tw938896778579717807 : True := trivial
theorem PySem.W.Fast.tw11480134623009101929 : True := trivial
theorem PySem.W.Fast.tw16272649677327615889 : True := trivial
theorem PySem.W.Fast.tw16803851598757250058 : True := trivial
theorem PySem.W.Fast.tw16260857249078648120 : True := trivial
theorem PySem.W.Fast.tw17322301258182221777 : True := trivial
theorem PySem.W.Fast.tw16522429343509238629 : True := trivial
theorem PySem.W.Fast.tw16286361879878692084 : True := trivial
theorem PySem.W.Fast.tw2323242473538137708 : True := trivial
theorem PySem.W.Fast.tw14592719299352364976 : True := trivial
theorem PySem.W.Fast.tw11113272331426207832 : True := trivial
theorem PySem.W.Fast.tw14099448328476704002 : True := trivial
theorem PySem.W.Fast.tw14098052846822541095 : True := trivial
theorem PySem.W.Fast.tw12444984471789749043 : True := trivial
theorem PySem.W.Fast.tw17011838478727687508 : True := trivial
theorem PySem.W.Fast.tw10834556372064115505 : True := trivial
theorem PySem.W.Fast.tw4857123035719653473 : True := trivial
theorem PySem.W.Fast.tw4197237631995487124 : True := trivial
theorem PySem.W.Fast.tw12096087049281129657 : True := trivial
theorem PySem.W.Fast.tw140689819284279277 : True := trivial
theorem PySem.W.Fast.tw4917224078519104428 : True := trivial
theorem PySem.W.Fast.tw3388940824621172671 : True := trivial
theorem PySem.W.Fast.tw15805333500175844221 : True := trivial
theorem PySem.W.Fast.tw10338002295323945699 : True := trivial
theorem PySem.W.Fast.tw9965958775273284678 : True := trivial
theorem PySem.W.Fast.tw15195594591262153498 : True := trivial
theorem PySem.W.Fast.tw11339662743509817634 : True := trivial
theorem PySem.W.Fast.tw16355137527411591412 : True := trivial
theorem PySem.W.Fast.tw12530699457318225523 : True := trivial
theorem PySem.W.Fast.tw11118059278321675726 : True := trivial
theorem PySem.W.Fast.tw17733141014365286410 : True := trivial
theorem PySem.W.Fast.tw1264851354161265336 : True := trivial
theorem PySem.W.Fast.tw10791046201866877213 : True := trivial
theorem PySem.W.Fast.tw16893016575801626080 : True := trivial
theorem PySem.W.Fast.tw2902412767340061259 : True := trivial
theorem PySem.W.Fast.tw3669477652498244361 : True := trivial
theorem PySem.W.Fast.tw12550949332516686621 : True := trivial
theorem PySem.W.Fast.tw10509434656256516463 : True := trivial
theorem PySem.W.Fast.tw17453968404086152475 : True := trivial
theorem PySem.W.Fast.tw11985094415145131988 : True := trivial
theorem PySem.W.Fast.tw4997163755412335475 : True := trivial
theorem PySem.W.Fast.tw6824039961911668948 : True := trivial
theorem PySem.W.Fast.tw12031170226121336837 : True := trivial
theorem PySem.W.Fast.tw15448628165375731147 : True := trivial
theorem PySem.W.Fast.tw18331317937830155582 : True := trivial
theorem PySem.W.Fast.tw9032646538936081842 : True := trivial
theorem PySem.W.Fast.tw17075335890858079686 : True := trivial
theorem PySem.W.Fast.tw17882475682589261449 : True := trivial
theorem PySem.W.Fast.tw7001343997340756063 : True := trivial
theorem PySem.W.Fast.tw3885817062924813642 : True := trivial
theorem PySem.W.Fast.tw9221449581778386209 : True := trivial
theorem PySem.W.Fast.tw7275225941102019970 : True := trivial
theorem PySem.W.Fast.tw15322141615500197861 : True := trivial
theorem PySem.W.Fast.tw17128902453787729478 : True := trivial
theorem PySem.W.Fast.tw9275965313405435047 : True := trivial
theorem PySem.W.Fast.tw750672694684962931 : True := trivial
theorem PySem.W.Fast.tw10810909574635592927 : True := trivial
theorem PySem.W.Fast.tw4143616249092593031 : True := trivial
theorem PySem.W.Fast.tw2541064913366087774 : True := trivial
theorem PySem.W.Fast.tw13921801911298884339 : True := trivial
theorem PySem.W.Fast.tw12019682620057196314 : True := trivial
theorem PySem.W.Fast.tw3936469302593200756 : True := trivial
theorem PySem.W.Fast.tw13759168801585670525 : True := trivial
theorem PySem.W.Fast.tw2998237642721574651 : True := trivial
theorem PySem.W.Fast.tw12138006410828144394 : True := trivial
theorem PySem.W.Fast.tw1093148928925725867 : True := trivial
theorem PySem.W.Fast.tw7635626123047718113 : True := trivial
theorem PySem.W.Fast.tw4093572912258944045 : True := trivial
theorem PySem.W.Fast.tw18274605980571988419 : True := trivial
theorem PySem.W.Fast.tw17147412143590465109 : True := trivial
theorem PySem.W.Fast.tw10461893099686471857 : True := trivial
theorem PySem.W.Fast.tw7607399710344426973 : True := trivial
theorem PySem.W.Fast.tw1459768701890916194 : True := trivial
theorem PySem.W.Fast.tw6061135102910060736 : True := trivial
theorem PySem.W.Fast.tw16277705783558859653 : True := trivial
theorem PySem.W.Fast.tw3290739480474989206 : True := trivial
theorem PySem.W.Fast.tw3166212830263210314 : True := trivial
theorem PySem.W.Fast.tw11087248358304783408 : True := trivial
theorem PySem.W.Fast.tw17670175752219588579 : True := trivial
theorem PySem.W.Fast.tw2214437639729409287 : True := trivial
theorem PySem.W.Fast.tw2640345856630445158 : True := trivial
theorem PySem.W.Fast.tw11559515288336021087 : True := trivial
theorem PySem.W.Fast.tw13285316563246520328 : True := trivial
theorem PySem.W.Fast.tw2361195374636349529 : True := trivial
theorem PySem.W.Fast.tw6425435636530151641 : True := trivial
theorem PySem.W.Fast.tw11873981951348107028 : True := trivial
theorem PySem.W.Fast.tw15802201839246635676 : True := trivial
theorem PySem.W.Fast.tw17341628623912084359 : True := trivial
theorem PySem.W.Fast.tw17358729330377128343 : True := trivial
theorem PySem.W.Fast.tw17638371454305139368 : True := trivial
theorem PySem.W.Fast.tw10568483036295118207 : True := trivial
theorem PySem.W.Fast.tw16923717130606104728 : True := trivial
theorem PySem.W.Fast.tw1757438906519344043 : True := trivial
theorem PySem.W.Fast.tw12212211973788117002 : True := trivial
theorem PySem.W.Fast.tw14960574103143745040 : True := trivial
theorem PySem.W.Fast.tw15970648161084790002 : True := trivial
theorem PySem.W.Fast.tw7415353452639866212 : True := trivial
theorem PySem.W.Fast.tw997068073583401981 : True := trivial
theorem PySem.W.Fast.tw17758045746008028291 : True := trivial
theorem PySem.W.Fast.tw11207044122129125171 : True := trivial
theorem PySem.W.Fast.tw10917925223078855779 : True := trivial
theorem PySem.W.Fast.tw10217016311025508832 : True := trivial
theorem PySem.W.Fast.tw14770486630213737005 : True := trivial
theorem PySem.W.Fast.tw3155244099202086829 : True := trivial
theorem PySem.W.Fast.tw6910389455056221741 : True := trivial
theorem PySem.W.Fast.tw8876311241247713655 : True := trivial
theorem PySem.W.Fast.tw5189186731956547747 : True := trivial
theorem PySem.W.Fast.tw11040771374556387550 : True := trivial
theorem PySem.W.Fast.tw6476260604161120375 : True := trivial
theorem PySem.W.Fast.tw5965659341011787256 : True := trivial
theorem PySem.W.Fast.tw13282884863655617993 : True := trivial
theorem PySem.W.Fast.tw6051802279125866392 : True := trivial
theorem PySem.W.Fast.tw1835545832006973229 : True := trivial
theorem PySem.W.Fast.tw7363552615260734095 : True := trivial
theorem PySem.W.Fast.tw1943735592187937838 : True := trivial
theorem PySem.W.Fast.tw2641515104672380425 : True := trivial
theorem PySem.W.Fast.tw3835351792276631094 : True := trivial
theorem PySem.W.Fast.tw1810019062825414035 : True := trivial
theorem PySem.W.Fast.tw13579010259035736280 : True := trivial
theorem PySem.W.Fast.tw16577737233976812292 : True := trivial
theorem PySem.W.Fast.tw15158824710733187306 : True := trivial
theorem PySem.W.Fast.tw4252601582380242966 : True := trivial
theorem PySem.W.Fast.tw6346784409809149299 : True := trivial
theorem PySem.W.Fast.tw13546834816473456775 : True := trivial
theorem PySem.W.Fast.tw12660253028188267558 : True := trivial
theorem PySem.W.Fast.tw8304950209938562573 : True := trivial
theorem PySem.W.Fast.tw8283806700001970316 : True := trivial
theorem PySem.W.Fast.tw15781917123873363156 : True := trivial
theorem PySem.W.Fast.tw13843874547669151186 : True := trivial
theorem PySem.W.Fast.tw10804176397737023263 : True := trivial
theorem PySem.W.Fast.tw8961520218816074361 : True := trivial
theorem PySem.W.Fast.tw14907871420835426369 : True := trivial
theorem PySem.W.Fast.tw413273136824352418 : True := trivial
theorem PySem.W.Fast.tw3613601875722678589 : True := trivial
theorem PySem.W.Fast.tw7134195167517693368 : True := trivial
theorem PySem.W.Fast.tw15246749944834093391 : True := trivial
theorem PySem.W.Fast.tw12308489238864299774 : True := trivial
theorem PySem.W.Fast.tw11962585049424827979 : True := trivial
theorem PySem.W.Fast.tw9620938265555261992 : True := trivial
theorem PySem.W.Fast.tw17861287044480351163 : True := trivial
theorem PySem.W.Fast.tw3979987072709191469 : True := trivial
theorem PySem.W.Fast.tw4883427071970181307 : True := trivial
theorem PySem.W.Fast.tw18315508824541696598 : True := trivial
theorem PySem.W.Fast.tw7580353647891846779 : True := trivial
theorem PySem.W.Fast.tw15576749920524895630 : True := trivial
theorem PySem.W.Fast.tw14276180676057642585 : True := trivial
theorem PySem.W.Fast.tw136137469864930713 : True := trivial
theorem PySem.W.Fast.tw8397078142709815614 : True := trivial
theorem PySem.W.Fast.tw2825021186898891763 : True := trivial
theorem PySem.W.Fast.tw4475117997357769356 : True := trivial
theorem PySem.W.Fast.tw1545502231883895320 : True := trivial
theorem PySem.W.Fast.tw147413024016198255 : True := trivial
theorem PySem.W.Fast.tw13204007653902711733 : True := trivial
theorem PySem.W.Fast.tw10797862897303680359 : True := trivial
theorem PySem.W.Fast.tw3795020377566034184 : True := trivial
theorem PySem.W.Fast.tw11545183158838708485 : True := trivial
theorem PySem.W.Fast.tw13445468703271256203 : True := trivial
theorem PySem.W.Fast.tw864712845610633982 : True := trivial
theorem PySem.W.Fast.tw9733239504786395707 : True := trivial
theorem PySem.W.Fast.tw9336872838669651258 : True := trivial
theorem PySem.W.Fast.tw1523600446092655167 : True := trivial
theorem PySem.W.Fast.tw859951689265357136 : True := trivial
theorem PySem.W.Fast.tw16300084734436306369 : True := trivial
theorem PySem.W.Fast.tw14175989544535406369 : True := trivial
theorem PySem.W.Fast.tw7066933406888214359 : True := trivial
theorem PySem.W.Fast.tw8338392864892435609 : True := trivial
theorem PySem.W.Fast.tw10962745802358546511 : True := trivial
theorem PySem.W.Fast.tw16470195166663813765 : True := trivial
theorem PySem.W.Fast.tw14186968714469265317 : True := trivial
theorem PySem.W.Fast.tw3454420014924578300 : True := trivial
theorem PySem.W.Fast.tw5963776744529774434 : True := trivial
theorem PySem.W.Fast.tw17573208210143566707 : True := trivial
theorem PySem.W.Fast.tw14201975390960827212 : True := trivial
theorem PySem.W.Fast.tw5768848766092904114 : True := trivial
theorem PySem.W.Fast.tw12101906155945764399 : True := trivial
theorem PySem.W.Fast.tw16578268437959739096 : True := trivial
theorem PySem.W.Fast.tw5676677387114325433 : True := trivial
theorem PySem.W.Fast.tw3861456201264228974 : True := trivial
theorem PySem.W.Fast.tw16290852672490310919 : True := trivial
theorem PySem.W.Fast.tw1567152932279902965 : True := trivial
theorem PySem.W.Fast.tw10147224889037411626 : True := trivial
theorem PySem.W.Fast.tw5277064699612917975 : True := trivial
theorem PySem.W.Fast.tw6831892498420276863 : True := trivial
theorem PySem.W.Fast.tw10283309426017495324 : True := trivial
theorem PySem.W.Fast.tw17620534596255121477 : True := trivial
theorem PySem.W.Fast.tw6063940640976335605 : True := trivial
theorem PySem.W.Fast.tw4077673221433944612 : True := trivial
theorem PySem.W.Fast.tw17051401789845330070 : True := trivial
theorem PySem.W.Fast.tw6840431969028478981 : True := trivial
theorem PySem.W.Fast.tw1572891802981208475 : True := trivial
theorem PySem.W.Fast.tw14371046535287360893 : True := trivial
theorem PySem.W.Fast.tw2585950687042378522 : True := trivial
theorem PySem.W.Fast.tw14951713446614342905 : True := trivial
theorem PySem.W.Fast.tw5969248300310973728 : True := trivial
theorem PySem.W.Fast.tw4502400410845030078 : True := trivial
theorem PySem.W.Fast.tw16444821624504665802 : True := trivial
theorem PySem.W.Fast.tw2724777223784833317 : True := trivial
theorem PySem.W.Fast.tw548310925581342675 : True := trivial
theorem PySem.W.Fast.tw13615393306456856092 : True := trivial
theorem PySem.W.Fast.tw15663870087867978988 : True := trivial
theorem PySem.W.Fast.tw13747244696741614698 : True := trivial
theorem PySem.W.Fast.tw15897306616512001201 : True := trivial
theorem PySem.W.Fast.tw5558061824187967558 : True := trivial
theorem PySem.W.Fast.tw9323422134858214962 : True := trivial
theorem PySem.W.Fast.tw10114118208573659187 : True := trivial
theorem PySem.W.Fast.tw8033709502794619774 : True := trivial
theorem PySem.W.Fast.tw17060126016296443642 : True := trivial
theorem PySem.W.Fast.tw13551594035347334889 : True := trivial
theorem PySem.W.Fast.tw13777729187834087882 : True := trivial
theorem PySem.W.Fast.tw16836678844392184115 : True := trivial
theorem PySem.W.Fast.tw230642188630726690 : True := trivial
theorem PySem.W.Fast.tw5255056102010428035 : True := trivial
theorem PySem.W.Fast.tw10221019445728854649 : True := trivial
theorem PySem.W.Fast.tw1045627755879885479 : True := trivial
theorem PySem.W.Fast.tw8040239970257225594 : True := trivial
theorem PySem.W.Fast.tw14409438133810417614 : True := trivial
theorem PySem.W.Fast.tw896471504953447136 : True := trivial
theorem PySem.W.Fast.tw3136426995431053586 : True := trivial
theorem PySem.W.Fast.tw16003192786693329569 : True := trivial
theorem PySem.W.Fast.tw3718074173490432233 : True := trivial
theorem PySem.W.Fast.tw8725361008091430081 : True := trivial
theorem PySem.W.Fast.tw5707091512334337924 : True := trivial
theorem PySem.W.Fast.tw11685012295512286526 : True := trivial
theorem PySem.W.Fast.tw1650162373383772598 : True := trivial
theorem PySem.W.Fast.tw7040150078221821079 : True := trivial
theorem PySem.W.Fast.tw4623745789709949735 : True := trivial
theorem PySem.W.Fast.tw12370919421754810829 : True := trivial
theorem PySem.W.Fast.tw7677525241252522515 : True := trivial
theorem PySem.W.Fast.tw14964605074366733236 : True := trivial
theorem PySem.W.Fast.tw13033295738917661421 : True := trivial
theorem PySem.W.Fast.tw7077244791054707759 : True := trivial
theorem PySem.W.Fast.tw304308929056905179 : True := trivial
theorem PySem.W.Fast.tw3218461304655392658 : True := trivial
theorem PySem.W.Fast.tw6859310045808419290 : True := trivial
theorem PySem.W.Fast.tw9776238127299653802 : True := trivial
theorem PySem.W.Fast.tw12640403056366240633 : True := trivial
theorem PySem.W.Fast.tw7320681746414152993 : True := trivial
theorem PySem.W.Fast.tw5116141613992242417 : True := trivial
theorem PySem.W.Fast.tw754084314909505842 : True := trivial
theorem PySem.W.Fast.tw10219859049342870913 : True := trivial
theorem PySem.W.Fast.tw7940589074220022909 : True := trivial
theorem PySem.W.Fast.tw5184211918237155107 : True := trivial
theorem PySem.W.Fast.tw10188341834367305856 : True := trivial
theorem PySem.W.Fast.tw9497605616867934060 : True := trivial
theorem PySem.W.Fast.tw4831182185194755509 : True := trivial
theorem PySem.W.Fast.tw15586564062871912796 : True := trivial
theorem PySem.W.Fast.tw4194226510472025982 : True := trivial
theorem PySem.W.Fast.tw8513823309190574943 : True := trivial
theorem PySem.W.Fast.tw16252074720621173115 : True := trivial
theorem PySem.W.Fast.tw5346769833069287879 : True := trivial
theorem PySem.W.Fast.tw9474872934651528271 : True := trivial
theorem PySem.W.Fast.tw17134711914648128427 : True := trivial
theorem PySem.W.Fast.tw1451931649857699154 : True := trivial
theorem PySem.W.Fast.tw6354602282723764670 : True := trivial
theorem PySem.W.Fast.tw4217347380152317739 : True := trivial
theorem PySem.W.Fast.tw10397764490275002001 : True := trivial
theorem PySem.W.Fast.tw2417823836107762911 : True := trivial
theorem PySem.W.Fast.tw3605505995835035160 : True := trivial
theorem PySem.W.Fast.tw16466581188814053675 : True := trivial
theorem PySem.W.Fast.tw14171263736333637582 : True := trivial
theorem PySem.W.Fast.tw8897330604164238583 : True := trivial
theorem PySem.W.Fast.tw15680226800599848000 : True := trivial
theorem PySem.W.Fast.tw7977006386388558814 : True := trivial
theorem PySem.W.Fast.tw5451808744202264344 : True := trivial
theorem PySem.W.Fast.tw16838958442000088396 : True := trivial
theorem PySem.W.Fast.tw3454943614800672613 : True := trivial
theorem PySem.W.Fast.tw14606008448808642250 : True := trivial
theorem PySem.W.Fast.tw14516889043958296023 : True := trivial
theorem PySem.W.Fast.tw5258921136961063600 : True := trivial
theorem PySem.W.Fast.tw12434573441463525266 : True := trivial
theorem PySem.W.Fast.tw17236921929535318564 : True := trivial
theorem PySem.W.Fast.tw10119965236294044043 : True := trivial
theorem PySem.W.Fast.tw16896409862011535822 : True := trivial
theorem PySem.W.Fast.tw6394587607103945828 : True := trivial
theorem PySem.W.Fast.tw11815519193387425702 : True := trivial
theorem PySem.W.Fast.tw12571633225398593349 : True := trivial
theorem PySem.W.Fast.tw10222781756921062403 : True := trivial
theorem PySem.W.Fast.tw3662084351619436416 : True := trivial
theorem PySem.W.Fast.tw9931284031307973434 : True := trivial
theorem PySem.W.Fast.tw12500010031866240980 : True := trivial
theorem PySem.W.Fast.tw10330409510510927688 : True := trivial
theorem PySem.W.Fast.tw16317284531603211015 : True := trivial
theorem PySem.W.Fast.tw7596958592846181545 : True := trivial
theorem PySem.W.Fast.tw1338959381264889508 : True := trivial
theorem PySem.W.Fast.tw15746339136719064773 : True := trivial
theorem PySem.W.Fast.tw1091226236677905422 : True := trivial
theorem PySem.W.Fast.tw13988846278593451878 : True := trivial
theorem PySem.W.Fast.tw831063684647616799 : True := trivial
theorem PySem.W.Fast.tw8631991205126005843 : True := trivial
theorem PySem.W.Fast.tw3858485292700283706 : True := trivial
theorem PySem.W.Fast.tw10082145270608727336 : True := trivial
theorem PySem.W.Fast.tw4693894269645519855 : True := trivial
theorem PySem.W.Fast.tw14208350728682069264 : True := trivial
theorem PySem.W.Fast.tw5778593684125469199 : True := trivial
theorem PySem.W.Fast.tw6432387379758343723 : True := trivial
theorem PySem.W.Fast.tw1856010679669668202 : True := trivial
theorem PySem.W.Fast.tw16962101009363009402 : True := trivial
theorem PySem.W.Fast.tw17343141526539142697 : True := trivial
theorem PySem.W.Fast.tw1703515366573812279 : True := trivial
theorem PySem.W.Fast.tw16968725145416505922 : True := trivial
theorem PySem.W.Fast.tw2691226272315104252 : True := trivial
theorem PySem.W.Fast.tw12148352882446018047 : True := trivial
theorem PySem.W.Fast.tw7189376786069147593 : True := trivial
theorem PySem.W.Fast.tw7703715163760959102 : True := trivial
theorem PySem.W.Fast.tw17739427386578822744 : True := trivial
theorem PySem.W.Fast.tw17765818231070354818 : True := trivial
theorem PySem.W.Fast.tw17161727496249143533 : True := trivial
theorem PySem.W.Fast.tw18193648709765245227 : True := trivial
theorem PySem.W.Fast.tw12618332387396612699 : True := trivial
theorem PySem.W.Fast.tw9125446244737233311 : True := trivial
theorem PySem.W.Fast.tw4564177803372272060 : True := trivial
theorem PySem.W.Fast.tw10539907323131947752 : True := trivial
theorem PySem.W.Fast.tw14962439789775275229 : True := trivial
theorem PySem.W.Fast.tw13966757246318577499 : True := trivial
theorem PySem.W.Fast.tw18195662985259468476 : True := trivial
theorem PySem.W.Fast.tw3833797660205538274 : True := trivial
theorem PySem.W.Fast.tw13059896352273446954 : True := trivial
theorem PySem.W.Fast.tw3915499933279306942 : True := trivial
theorem PySem.W.Fast.tw13018289539156586525 : True := trivial
theorem PySem.W.Fast.tw18099890931552741007 : True := trivial
theorem PySem.W.Fast.tw3329476472886372256 : True := trivial
theorem PySem.W.Fast.tw4785669802380570411 : True := trivial
theorem PySem.W.Fast.tw15898666991446946938 : True := trivial
theorem PySem.W.Fast.tw7102639485628828786 : True := trivial
theorem PySem.W.Fast.tw15322087967936919920 : True := trivial
theorem PySem.W.Fast.tw15784149654863399756 : True := trivial
theorem PySem.W.Fast.tw3364813258003155138 : True := trivial
theorem PySem.W.Fast.tw3665636739126701411 : True := trivial
theorem PySem.W.Fast.tw6212780191376834975 : True := trivial
theorem PySem.W.Fast.tw17060462303313019988 : True := trivial
theorem PySem.W.Fast.tw4633456716011526047 : True := trivial
theorem PySem.W.Fast.tw4213769949950283006 : True := trivial
theorem PySem.W.Fast.tw12738106447663869630 : True := trivial
theorem PySem.W.Fast.tw1444313029042534802 : True := trivial
theorem PySem.W.Fast.tw18248651892853678227 : True := trivial
theorem PySem.W.Fast.tw15766784667550422911 : True := trivial
theorem PySem.W.Fast.tw327436827564666673 : True := trivial
theorem PySem.W.Fast.tw15156524519161737228 : True := trivial
theorem PySem.W.Fast.tw4781433493670186597 : True := trivial
theorem PySem.W.Fast.tw4843117165603976259 : True := trivial
theorem PySem.W.Fast.tw9489586987056498491 : True := trivial
theorem PySem.W.Fast.tw1824470508789847642 : True := trivial
theorem PySem.W.Fast.tw12113378329479466197 : True := trivial
theorem PySem.W.Fast.tw6560511436412697646 : True := trivial
theorem PySem.W.Fast.tw832325895208004636 : True := trivial
theorem PySem.W.Fast.tw8873954701101874050 : True := trivial
theorem PySem.W.Fast.tw3720170946403302308 : True := trivial
theorem PySem.W.Fast.tw9714163487615079294 : True := trivial
theorem PySem.W.Fast.tw3862296790143705528 : True := trivial
theorem PySem.W.Fast.tw3134567174867742116 : True := trivial
theorem PySem.W.Fast.tw9862820726144581483 : True := trivial
theorem PySem.W.Fast.tw8210484765518643273 : True := trivial
theorem PySem.W.Fast.tw878198210432793300 : True := trivial
theorem PySem.W.Fast.tw12969655051373756458 : True := trivial
theorem PySem.W.Fast.tw14016459024408998953 : True := trivial
theorem PySem.W.Fast.tw3333897374226473744 : True := trivial
theorem PySem.W.Fast.tw8027856293121265267 : True := trivial
theorem PySem.W.Fast.tw1847265208582728041 : True := trivial
theorem PySem.W.Fast.tw14646137946612671445 : True := trivial
theorem PySem.W.Fast.tw17006942314924485418 : True := trivial
theorem PySem.W.Fast.tw2669666518120970486 : True := trivial
theorem PySem.W.Fast.tw5767000558700790755 : True := trivial
theorem PySem.W.Fast.tw7921821300305443101 : True := trivial
theorem PySem.W.Fast.tw12361367835762130992 : True := trivial
theorem PySem.W.Fast.tw7983584057077682124 : True := trivial
theorem PySem.W.Fast.tw3527592038889140905 : True := trivial
theorem PySem.W.Fast.tw16947729773002945167 : True := trivial
theorem PySem.W.Fast.tw15706136399426914041 : True := trivial
theorem PySem.W.Fast.tw8510247729809494784 : True := trivial
theorem PySem.W.Fast.tw11957745402836945121 : True := trivial
theorem PySem.W.Fast.tw15196405142501865892 : True := trivial
theorem PySem.W.Fast.tw2993270391917101304 : True := trivial
theorem PySem.W.Fast.tw15694855010983208584 : True := trivial
theorem PySem.W.Fast.tw17264325323395355391 : True := trivial
theorem PySem.W.Fast.tw4398709656289518618 : True := trivial
theorem PySem.W.Fast.tw9659199601164213326 : True := trivial
theorem PySem.W.Fast.tw8349801947584105339 : True := trivial
theorem PySem.W.Fast.tw16304006044013734801 : True := trivial
theorem PySem.W.Fast.tw11056941837397396964 : True := trivial
theorem PySem.W.Fast.tw10194354777901361675 : True := trivial
theorem PySem.W.Fast.tw7578577447982575943 : True := trivial
theorem PySem.W.Fast.tw5469788753326292490 : True := trivial
theorem PySem.W.Fast.tw13174357941189826955 : True := trivial
theorem PySem.W.Fast.tw18050536730366957637 : True := trivial
theorem PySem.W.Fast.tw106810027290947475 : True := trivial
theorem PySem.W.Fast.tw9535777512328924004 : True := trivial
theorem PySem.W.Fast.tw9389756916877076291 : True := trivial
theorem PySem.W.Fast.tw11237655357597287644 : True := trivial
theorem PySem.W.Fast.tw9528819971833349260 : True := trivial
theorem PySem.W.Fast.tw10545725118811402561 : True := trivial
theorem PySem.W.Fast.tw18104612767828739601 : True := trivial
theorem PySem.W.Fast.tw11400150869545188473 : True := trivial
theorem PySem.W.Fast.tw6885673366976472363 : True := trivial
theorem PySem.W.Fast.tw12706611345773604979 : True := trivial
theorem PySem.W.Fast.tw11079975978345000742 : True := trivial
theorem PySem.W.Fast.tw14056121148608572323 : True := trivial
theorem PySem.W.Fast.tw13561857042591335431 : True := trivial
theorem PySem.W.Fast.tw12737087022816464184 : True := trivial
theorem PySem.W.Fast.tw2359383334767209079 : True := trivial
theorem PySem.W.Fast.tw9535475567534110100 : True := trivial
theorem PySem.W.Fast.tw12612184459745863405 : True := trivial
theorem PySem.W.Fast.tw9401111126781565855 : True := trivial
theorem PySem.W.Fast.tw6333081487984835621 : True := trivial
theorem PySem.W.Fast.tw16038589989700118276 : True := trivial
theorem PySem.W.Fast.tw17505978647494387767 : True := trivial
theorem PySem.W.Fast.tw10512541566887989679 : True := trivial
theorem PySem.W.Fast.tw17677536410926313642 : True := trivial
theorem PySem.W.Fast.tw14708916875096109009 : True := trivial
theorem PySem.W.Fast.tw9103077418661794576 : True := trivial
theorem PySem.W.Fast.tw13299970334039089271 : True := trivial
theorem PySem.W.Fast.tw4093672760990850075 : True := trivial
theorem PySem.W.Fast.tw13820763942653537044 : True := trivial
theorem PySem.W.Fast.tw11874984832723846662 : True := trivial
theorem PySem.W.Fast.tw13119268654995326830 : True := trivial
theorem PySem.W.Fast.tw8002677837235868082 : True := trivial
theorem PySem.W.Fast.tw2087440788655126651 : True := trivial
theorem PySem.W.Fast.tw13796956686888771017 : True := trivial
theorem PySem.W.Fast.tw8298038500320118785 : True := trivial
theorem PySem.W.Fast.tw469582316013470154 : True := trivial
theorem PySem.W.Fast.tw10351076050767247012 : True := trivial
theorem PySem.W.Fast.tw8278571085691356587 : True := trivial
theorem PySem.W.Fast.tw9777254545214546085 : True := trivial
theorem PySem.W.Fast.tw3889750140839423089 : True := trivial
theorem PySem.W.Fast.tw16209460353841596072 : True := trivial
theorem PySem.W.Fast.tw6172723182967193119 : True := trivial
theorem PySem.W.Fast.tw13066607782173902980 : True := trivial
theorem PySem.W.Fast.tw465429630317254805 : True := trivial
theorem PySem.W.Fast.tw15547384697040153380 : True := trivial
theorem PySem.W.Fast.tw915743831535741597 : True := trivial
theorem PySem.W.Fast.tw18003052035825188379 : True := trivial
theorem PySem.W.Fast.tw202741245455050782 : True := trivial
theorem PySem.W.Fast.tw9566909910451033275 : True := trivial
theorem PySem.W.Fast.tw488732118673801642 : True := trivial
theorem PySem.W.Fast.tw13153412903761576265 : True := trivial
theorem PySem.W.Fast.tw10940596500222483640 : True := trivial
theorem PySem.W.Fast.tw1458280887295456703 : True := trivial
theorem PySem.W.Fast.tw16436814161566146205 : True := trivial
theorem PySem.W.Fast.tw14437305577962530811 : True := trivial
theorem PySem.W.Fast.tw15828689922230395099 : True := trivial
theorem PySem.W.Fast.tw18090209480586205696 : True := trivial
theorem PySem.W.Fast.tw3060547724697384176 : True := trivial
theorem PySem.W.Fast.tw7265607521911520425 : True := trivial
theorem PySem.W.Fast.tw2430392170263942249 : True := trivial
theorem PySem.W.Fast.tw1026870594898211362 : True := trivial
theorem PySem.W.Fast.tw11579715155769483966 : True := trivial
theorem PySem.W.Fast.tw13768786913765191161 : True := trivial
theorem PySem.W.Fast.tw6628720700509702744 : True := trivial
theorem PySem.W.Fast.tw13162597403080913738 : True := trivial
theorem PySem.W.Fast.tw7807156806636449053 : True := trivial
theorem PySem.W.Fast.tw13399295968753334335 : True := trivial
theorem PySem.W.Fast.tw186925930023924762 : True := trivial
theorem PySem.W.Fast.tw7111855618405501498 : True := trivial
theorem PySem.W.Fast.tw8212478621449570863 : True := trivial
theorem PySem.W.Fast.tw3049118417143817942 : True := trivial
theorem PySem.W.Fast.tw4289918119296260342 : True := trivial
theorem PySem.W.Fast.tw11035067272548674717 : True := trivial
theorem PySem.W.Fast.tw11877700485060359971 : True := trivial
theorem PySem.W.Fast.tw17415878275681203229 : True := trivial
theorem PySem.W.Fast.tw2451103664499166914 : True := trivial
theorem PySem.W.Fast.tw823410490729936835 : True := trivial
theorem PySem.W.Fast.tw11658993978909634397 : True := trivial
theorem PySem.W.Fast.tw4092141084388818218 : True := trivial
theorem PySem.W.Fast.tw11694285304569668978 : True := trivial
theorem PySem.W.Fast.tw9210401522853939529 : True := trivial
theorem PySem.W.Fast.tw13907346405750587331 : True := trivial
theorem PySem.W.Fast.tw17953351063262376540 : True := trivial
theorem PySem.W.Fast.tw12705445834053363994 : True := trivial
theorem PySem.W.Fast.tw7644316698463566745 : True := trivial
theorem PySem.W.Fast.tw1400548066156260852 : True := trivial
theorem PySem.W.Fast.tw3321549017399016593 : True := trivial
theorem PySem.W.Fast.tw9431069919872554905 : True := trivial
theorem PySem.W.Fast.tw11426251056275254575 : True := trivial
theorem PySem.W.Fast.tw2904551986926271247 : True := trivial
theorem PySem.W.Fast.tw6075882175834262913 : True := trivial
theorem PySem.W.Fast.tw7549811118952068385 : True := trivial
theorem PySem.W.Fast.tw4901250051625324235 : True := trivial
theorem PySem.W.Fast.tw2901752330253053714 : True := trivial
theorem PySem.W.Fast.tw9150364653324986265 : True := trivial
theorem PySem.W.Fast.tw2958272116893561269 : True := trivial
theorem PySem.W.Fast.tw12999663677620295157 : True := trivial
theorem PySem.W.Fast.tw7092530549542608681 : True := trivial
theorem PySem.W.Fast.tw8054077173472880698 : True := trivial
theorem PySem.W.Fast.tw9075616303970904781 : True := trivial
theorem PySem.W.Fast.tw4067058826591484622 : True := trivial
theorem PySem.W.Fast.tw9440895791782221922 : True := trivial
theorem PySem.W.Fast.tw6800186611422314042 : True := trivial
theorem PySem.W.Fast.tw10524731195742360810 : True := trivial
theorem PySem.W.Fast.tw8717613543494544426 : True := trivial
theorem PySem.W.Fast.tw1575520356915534124 : True := trivial
theorem PySem.W.Fast.tw1858924898973107256 : True := trivial
theorem PySem.W.Fast.tw13706068794107571830 : True := trivial
theorem PySem.W.Fast.tw7527883833412233141 : True := trivial
theorem PySem.W.Fast.tw10181930851834223143 : True := trivial
theorem PySem.W.Fast.tw4437931947744696444 : True := trivial
theorem PySem.W.Fast.tw4697081819376851332 : True := trivial
theorem PySem.W.Fast.tw6476407046092232327 : True := trivial
theorem PySem.W.Fast.tw17845914298771494035 : True := trivial
theorem PySem.W.Fast.tw12980819524455433298 : True := trivial
theorem PySem.W.Fast.tw14301776879926451392 : True := trivial
theorem PySem.W.Fast.tw2410993603583315797 : True := trivial
theorem PySem.W.Fast.tw12221113047127005734 : True := trivial
theorem PySem.W.Fast.tw2325078547794061247 : True := trivial
theorem PySem.W.Fast.tw12835761527060733698 : True := trivial
theorem PySem.W.Fast.tw16493561358846034426 : True := trivial
theorem PySem.W.Fast.tw760800018688325079 : True := trivial
theorem PySem.W.Fast.tw6840025336565898036 : True := trivial
theorem PySem.W.Fast.tw17855800514100659586 : True := trivial
theorem PySem.W.Fast.tw3373933914847995196 : True := trivial
theorem PySem.W.Fast.tw14195044414589400744 : True := trivial
theorem PySem.W.Fast.tw11045046826255851823 : True := trivial
theorem PySem.W.Fast.tw718635524636882253 : True := trivial
theorem PySem.W.Fast.tw5286505620762560832 : True := trivial
theorem PySem.W.Fast.tw11201380807752245733 : True := trivial
theorem PySem.W.Fast.tw9224507343583398942 : True := trivial
theorem PySem.W.Fast.tw1305530229161351330 : True := trivial
theorem PySem.W.Fast.tw10677987649989496804 : True := trivial
theorem PySem.W.Fast.tw5590282014882571079 : True := trivial
open PySem PySem.W PyProof.Rows
set_option maxRecDepth 100000 in
set_option maxHeartbeats 0 in
theorem PySem.Challenge.cw_rightname_k12_books_holds : PySem.Challenge.rw_rightname_k12_books.Holds := by
  w_on; o_law; k_head; (case hw => w_witness2)
  k_fill
  refine L2.walk_ofK (l := PySem.Challenge.rw_rightname_k12_books) (n := 63) (k := 9) (x := "_law_script") (CX := L2.CX0) (sp := My.spLaw) rfl (by decide) rfl ⟨rfl, by decide, by decide⟩ (fun w h Y => PySem.W.kIn_of Y) ?F ?S ?C
  case F =>
    intro w mg fa h KX G hmg
    refine' My.all_mk KX G hmg ?pa0 ?pl0 ?pc0 ?pk0 ?pa1 ?pl1 ?pc1 ?pk1 ?pa2 ?pl2 ?pc2 ?pk2 ?pa3 ?pl3 ?pc3 ?pk3 ?pa4 ?pl4 ?pc4 ?pk4 ?pa5 ?pl5 ?pc5 ?pk5 ?pa6 ?pl6 ?pc6 ?pk6 ?pa7 ?pl7 ?pc7 ?pk7 ?pa8 ?pl8 ?pc8 ?pk8 ?pa9 ?pl9 ?pc9 ?pk9 ?pa10 ?pl10 ?pc10 ?pk10 ?pa11 ?pl11 ?pc11 ?pk11 ?pa12 ?pl12 ?pc12 ?pk12 ?pa13 ?pl13 ?pc13 ?pk13 ?pa14 ?pl14 ?pc14 ?pk14 ?pa15 ?pl15 ?pc15 ?pk15 ?pa16 ?pl16 ?pc16 ?pk16 ?pa17 ?pl17 ?pc17 ?pk17 ?pa18 ?pl18 ?pc18 ?pk18 ?pa19 ?pl19 ?pc19 ?pk19 ?pa20 ?pl20 ?pc20 ?pk20 ?pa21 ?pl21 ?pc21 ?pk21 ?pa22 ?pl22 ?pc22 ?pk22 ?pa23 ?pl23 ?pc23 ?pk23 ?pa24 ?pl24 ?pc24 ?pk24 ?pa25 ?pl25 ?pc25 ?pk25 ?pa26 ?pl26 ?pc26 ?pk26 ?pa27 ?pl27 ?pc27 ?pk27 ?pa28 ?pl28 ?pc28 ?pk28 ?pa29 ?pl29 ?pc29 ?pk29 ?pa30 ?pl30 ?pc30 ?pk30 ?pa31 ?pl31 ?pc31 ?pk31 ?pa32 ?pl32 ?pc32 ?pk32 ?pa33 ?pl33 ?pc33 ?pk33 ?pa34 ?pl34 ?pc34 ?pk34 ?pa35 ?pl35 ?pc35 ?pk35 ?pa36 ?pl36 ?pc36 ?pk36 ?pcg_Entry ?ppg_Entry ?phd_Entry ?ppo_Entry ?psa_Entry ?pmk_Entry ?pin_Entry ?pfn_Entry ?pkc_Entry ?pkf_Entry ?plf_Entry ?pcf_Entry ?plt_Entry ?pdt_Entry ?pna_Entry_number ?pna_Entry_day ?pna_Entry_rank ?pna_Entry_word ?pna_Entry_under ?pna_Entry_sheet ?pna_Entry_base ?pna_Entry_described ?pcg_Results ?ppg_Results ?phd_Results ?ppo_Results ?psa_Results ?pkc_Results ?pmk_Results ?pin_Results ?pfn_Results ?pl_Results_init ?pk_Results_init ?pp_Results_init ?pna_Results_outs ?pna_Results_names ?pna_Results_rights ?pna_Results_holders ?pmf_Results_put ?pmi_Results_put ?pl_Results_put ?pk_Results_put ?pp_Results_put ?pmf_Results_name_of ?pmi_Results_name_of ?pl_Results_name_of ?pk_Results_name_of ?pp_Results_name_of ?pmf_Results_outcome_of ?pmi_Results_outcome_of ?pl_Results_outcome_of ?pk_Results_outcome_of ?pp_Results_outcome_of ?pmf_Results_root_of ?pmi_Results_root_of ?pl_Results_root_of ?pk_Results_root_of ?pp_Results_root_of ?pcg_MOST_LETTERS ?pcr_MOST_LETTERS ?pcg_LAST_DAY ?pcr_LAST_DAY ?pcg_LAST_NUMBER ?pcr_LAST_NUMBER ?pcg_RANKS ?pcl_RANKS ?pcc_RANKS ?pcd_RANKS ?pcv_RANKS ?pcg_ABOVE ?pcl_ABOVE ?pcv_ABOVE ?pcg_NoRank ?pcg_NoNumber ?pcg_NoDay ?pcg_NoWord ?pcg_NoBook ?pcg_NoEntry ?pcg_RightError ?pcg_NoText ?pcg_NoAct ?pcg_NoSheet ?pcg_NoSorting ?pcg_NoPath ?pcg_Late ?pcg_NoRow ?pxl_NoRank ?pxn_NoRank ?pxs_NoRank ?pxi_NoRank ?pxa_NoRank ?pxb_NoRank ?pxt_NoRank ?pxj_NoRank ?pqcs_NoRank ?pqga_NoRank ?pqgt_NoRank ?pqca_NoRank ?pqgg_NoRank ?pqtk_NoRank ?pqmo_NoRank ?pqsb_NoRank ?pi_NoRank_ValueError ?pi_NoRank_NoBook ?pi_NoRank_NoText ?pi_NoRank_NoAct ?pi_NoRank_NoDay ?pi_NoRank_NoWord ?pi_NoRank_NoRank ?pi_NoRank_NoSheet ?pi_NoRank_NoSorting ?pi_NoRank_NoPath ?pi_NoRank_Late ?pi_NoRank_NoRow ?pi_NoRank_NoEntry ?pi_NoRank_NoNumber ?pe_NoRank_RightError ?pxl_NoNumber ?pxn_NoNumber ?pxs_NoNumber ?pxi_NoNumber ?pxa_NoNumber ?pxb_NoNumber ?pxt_NoNumber ?pxj_NoNumber ?pqcs_NoNumber ?pqga_NoNumber ?pqgt_NoNumber ?pqca_NoNumber ?pqgg_NoNumber ?pqtk_NoNumber ?pqmo_NoNumber ?pqsb_NoNumber ?pi_NoNumber_ValueError ?pi_NoNumber_NoBook ?pi_NoNumber_NoText ?pi_NoNumber_NoAct ?pi_NoNumber_NoDay ?pi_NoNumber_NoWord ?pi_NoNumber_NoRank ?pi_NoNumber_NoSheet ?pi_NoNumber_NoSorting ?pi_NoNumber_NoPath ?pi_NoNumber_Late ?pi_NoNumber_NoRow ?pi_NoNumber_NoEntry ?pi_NoNumber_NoNumber ?pe_NoNumber_RightError ?pxl_NoDay ?pxn_NoDay ?pxs_NoDay ?pxi_NoDay ?pxa_NoDay ?pxb_NoDay ?pxt_NoDay ?pxj_NoDay ?pqcs_NoDay ?pqga_NoDay ?pqgt_NoDay ?pqca_NoDay ?pqgg_NoDay ?pqtk_NoDay ?pqmo_NoDay ?pqsb_NoDay ?pi_NoDay_ValueError ?pi_NoDay_NoBook ?pi_NoDay_NoText ?pi_NoDay_NoAct ?pi_NoDay_NoDay ?pi_NoDay_NoWord ?pi_NoDay_NoRank ?pi_NoDay_NoSheet ?pi_NoDay_NoSorting ?pi_NoDay_NoPath ?pi_NoDay_Late ?pi_NoDay_NoRow ?pi_NoDay_NoEntry ?pi_NoDay_NoNumber ?pe_NoDay_RightError ?pxl_NoWord ?pxn_NoWord ?pxs_NoWord ?pxi_NoWord ?pxa_NoWord ?pxb_NoWord ?pxt_NoWord ?pxj_NoWord ?pqcs_NoWord ?pqga_NoWord ?pqgt_NoWord ?pqca_NoWord ?pqgg_NoWord ?pqtk_NoWord ?pqmo_NoWord ?pqsb_NoWord ?pi_NoWord_ValueError ?pi_NoWord_NoBook ?pi_NoWord_NoText ?pi_NoWord_NoAct ?pi_NoWord_NoDay ?pi_NoWord_NoWord ?pi_NoWord_NoRank ?pi_NoWord_NoSheet ?pi_NoWord_NoSorting ?pi_NoWord_NoPath ?pi_NoWord_Late ?pi_NoWord_NoRow ?pi_NoWord_NoEntry ?pi_NoWord_NoNumber ?pe_NoWord_RightError ?pxl_NoBook ?pxn_NoBook ?pxs_NoBook ?pxi_NoBook ?pxa_NoBook ?pxb_NoBook ?pxt_NoBook ?pxj_NoBook ?pqcs_NoBook ?pqga_NoBook ?pqgt_NoBook ?pqca_NoBook ?pqgg_NoBook ?pqtk_NoBook ?pqmo_NoBook ?pqsb_NoBook ?pi_NoBook_ValueError ?pi_NoBook_NoBook ?pi_NoBook_NoText ?pi_NoBook_NoAct ?pi_NoBook_NoDay ?pi_NoBook_NoWord ?pi_NoBook_NoRank ?pi_NoBook_NoSheet ?pi_NoBook_NoSorting ?pi_NoBook_NoPath ?pi_NoBook_Late ?pi_NoBook_NoRow ?pi_NoBook_NoEntry ?pi_NoBook_NoNumber ?pe_NoBook_RightError ?pxl_NoEntry ?pxn_NoEntry ?pxs_NoEntry ?pxi_NoEntry ?pxa_NoEntry ?pxb_NoEntry ?pxt_NoEntry ?pxj_NoEntry ?pqcs_NoEntry ?pqga_NoEntry ?pqgt_NoEntry ?pqca_NoEntry ?pqgg_NoEntry ?pqtk_NoEntry ?pqmo_NoEntry ?pqsb_NoEntry ?pi_NoEntry_ValueError ?pi_NoEntry_NoBook ?pi_NoEntry_NoText ?pi_NoEntry_NoAct ?pi_NoEntry_NoDay ?pi_NoEntry_NoWord ?pi_NoEntry_NoRank ?pi_NoEntry_NoSheet ?pi_NoEntry_NoSorting ?pi_NoEntry_NoPath ?pi_NoEntry_Late ?pi_NoEntry_NoRow ?pi_NoEntry_NoEntry ?pi_NoEntry_NoNumber ?pe_NoEntry_RightError ?pwc_Entry ?pwg_Entry ?pwt_Entry ?pwm_Entry ?pws_Entry ?pwn_Entry_NoneType ?pwn_Entry_int ?pwn_Entry_str ?pwn_Entry_bool ?pwn_Entry_list ?pwn_Entry_tuple ?pwn_Entry_dict ?pz_len ?pz_isinstance ?pz_str ?pz_bool ?pz_all ?pz_range ?pz_int ?pz_list ?pz_min ?pz_max ?pz_dict ?pz_zip ?pz_tuple ?pz_ValueError
    (case pa0 => k_is)
    (case pl0 => k_is)
    (case pc0 => k_is)
    (case pk0 => k_is)
    (case pa1 => k_is)
    (case pl1 => k_is)
    (case pc1 => k_is)
    (case pk1 => k_is)
    (case pa2 => k_is)
    (case pl2 => k_is)
    (case pc2 => k_is)
    (case pk2 => k_is)
    (case pa3 => k_is)
    (case pl3 => k_is)
    (case pc3 => k_is)
    (case pk3 => k_is)
    (case pa4 => k_is)
    (case pl4 => k_is)
    (case pc4 => k_is)
    (case pk4 => k_is)
    (case pa5 => k_is)
    (case pl5 => k_is)
    (case pc5 => k_is)
    (case pk5 => k_is)
    (case pa6 => k_is)
    (case pl6 => k_is)
    (case pc6 => k_is)
    (case pk6 => k_is)
    (case pa7 => k_is)
    (case pl7 => k_is)
    (case pc7 => k_is)
    (case pk7 => k_is)
    (case pa8 => k_is)
    (case pl8 => k_is)
    (case pc8 => k_is)
    (case pk8 => k_is)
    (case pa9 => k_is)
    (case pl9 => k_is)
    (case pc9 => k_is)
    (case pk9 => k_is)
    (case pa10 => k_is)
    (case pl10 => k_is)
    (case pc10 => k_is)
    (case pk10 => k_is)
    (case pa11 => k_is)
    (case pl11 => k_is)
    (case pc11 => k_is)
    (case pk11 => k_is)
    (case pa12 => k_is)
    (case pl12 => k_is)
    (case pc12 => k_is)
    (case pk12 => k_is)
    (case pa13 => k_is)
    (case pl13 => k_is)
    (case pc13 => k_is)
    (case pk13 => k_is)
    (case pa14 => k_is)
    (case pl14 => k_is)
    (case pc14 => k_is)
    (case pk14 => k_is)
    (case pa15 => k_is)
    (case pl15 => k_is)
    (case pc15 => k_is)
    (case pk15 => k_is)
    (case pa16 => k_is)
    (case pl16 => k_is)
    (case pc16 => k_is)
    (case pk16 => k_is)
    (case pa17 => k_is)
    (case pl17 => k_is)
    (case pc17 => k_is)
    (case pk17 => k_is)
    (case pa18 => k_is)
    (case pl18 => k_is)
    (case pc18 => k_is)
    (case pk18 => k_is)
    (case pa19 => k_is)
    (case pl19 => k_is)
    (case pc19 => k_is)
    (case pk19 => k_is)
    (case pa20 => k_is)
    (case pl20 => k_is)
    (case pc20 => k_is)
    (case pk20 => k_is)
    (case pa21 => k_is)
    (case pl21 => k_is)
    (case pc21 => k_is)
    (case pk21 => k_is)
    (case pa22 => k_is)
    (case pl22 => k_is)
    (case pc22 => k_is)
    (case pk22 => k_is)
    (case pa23 => k_is)
    (case pl23 => k_is)
    (case pc23 => k_is)
    (case pk23 => k_is)
    (case pa24 => k_is)
    (case pl24 => k_is)
    (case pc24 => k_is)
    (case pk24 => k_is)
    (case pa25 => k_is)
    (case pl25 => k_is)
    (case pc25 => k_is)
    (case pk25 => k_is)
    (case pa26 => k_is)
    (case pl26 => k_is)
    (case pc26 => k_is)
    (case pk26 => k_is)
    (case pa27 => k_is)
    (case pl27 => k_is)
    (case pc27 => k_is)
    (case pk27 => k_is)
    (case pa28 => k_is)
    (case pl28 => k_is)
    (case pc28 => k_is)
    (case pk28 => k_is)
    (case pa29 => k_is)
    (case pl29 => k_is)
    (case pc29 => k_is)
    (case pk29 => k_is)
    (case pa30 => k_is)
    (case pl30 => k_is)
    (case pc30 => k_is)
    (case pk30 => k_is)
    (case pa31 => k_is)
    (case pl31 => k_is)
    (case pc31 => k_is)
    (case pk31 => k_is)
    (case pa32 => k_is)
    (case pl32 => k_is)
    (case pc32 => k_is)
    (case pk32 => k_is)
    (case pa33 => k_is)
    (case pl33 => k_is)
    (case pc33 => k_is)
    (case pk33 => k_is)
    (case pa34 => k_is)
    (case pl34 => k_is)
    (case pc34 => k_is)
    (case pk34 => k_is)
    (case pa35 => k_is)
    (case pl35 => k_is)
    (case pc35 => k_is)
    (case pk35 => k_is)
    (case pa36 => k_is)
    (case pl36 => k_is)
    (case pc36 => k_is)
    (case pk36 => k_is)
    (case pcg_Entry => k_is)
    (case ppg_Entry => k_is)
    (case phd_Entry => k_is)
    (case ppo_Entry => k_is)
    (case psa_Entry => k_is)
    (case pmk_Entry => k_is)
    (case pin_Entry => k_is)
    (case pfn_Entry => k_is)
    (case pkc_Entry => k_is)
    (case pkf_Entry => k_is)
    (case plf_Entry => k_is)
    (case pcf_Entry => k_is)
    (case plt_Entry => k_is)
    (case pdt_Entry => exact rfl)
    (case pna_Entry_number => k_is)
    (case pna_Entry_day => k_is)
    (case pna_Entry_rank => k_is)
    (case pna_Entry_word => k_is)
    (case pna_Entry_under => k_is)
    (case pna_Entry_sheet => k_is)
    (case pna_Entry_base => k_is)
    (case pna_Entry_described => k_is)
    (case pcg_Results => k_is)
    (case ppg_Results => k_is)
    (case phd_Results => k_is)
    (case ppo_Results => k_is)
    (case psa_Results => k_is)
    (case pkc_Results => k_is)
    (case pmk_Results => k_is)
    (case pin_Results => k_is)
    (case pfn_Results => k_is)
    (case pl_Results_init => k_is)
    (case pk_Results_init => k_is)
    (case pp_Results_init => k_is)
    (case pna_Results_outs => k_is)
    (case pna_Results_names => k_is)
    (case pna_Results_rights => k_is)
    (case pna_Results_holders => k_is)
    (case pmf_Results_put => k_is)
    (case pmi_Results_put => k_is)
    (case pl_Results_put => k_is)
    (case pk_Results_put => k_is)
    (case pp_Results_put => k_is)
    (case pmf_Results_name_of => k_is)
    (case pmi_Results_name_of => k_is)
    (case pl_Results_name_of => k_is)
    (case pk_Results_name_of => k_is)
    (case pp_Results_name_of => k_is)
    (case pmf_Results_outcome_of => k_is)
    (case pmi_Results_outcome_of => k_is)
    (case pl_Results_outcome_of => k_is)
    (case pk_Results_outcome_of => k_is)
    (case pp_Results_outcome_of => k_is)
    (case pmf_Results_root_of => k_is)
    (case pmi_Results_root_of => k_is)
    (case pl_Results_root_of => k_is)
    (case pk_Results_root_of => k_is)
    (case pp_Results_root_of => k_is)
    (case pcg_MOST_LETTERS => k_is)
    (case pcr_MOST_LETTERS => first | exact L2.rel_int | exact L2.rel_str | exact rfl)
    (case pcg_LAST_DAY => k_is)
    (case pcr_LAST_DAY => first | exact L2.rel_int | exact L2.rel_str | exact rfl)
    (case pcg_LAST_NUMBER => k_is)
    (case pcr_LAST_NUMBER => first | exact L2.rel_int | exact L2.rel_str | exact rfl)
    (case pcg_RANKS => k_is)
    (case pcl_RANKS => k_is)
    (case pcc_RANKS => exact rfl)
    (case pcd_RANKS => exact rfl)
    (case pcv_RANKS => exact (.cons ⟨_, rfl⟩ (.cons ⟨_, rfl⟩ (.cons ⟨_, rfl⟩ .nil))))
    (case pcg_ABOVE => k_is)
    (case pcl_ABOVE => k_is)
    (case pcv_ABOVE => exact (.cons ⟨rfl, ⟨_, rfl⟩, rfl⟩ (.cons ⟨rfl, ⟨_, rfl⟩, ⟨_, rfl⟩⟩ (.cons ⟨rfl, ⟨_, rfl⟩, ⟨_, rfl⟩⟩ .nil))))
    (case pcg_NoRank => k_is)
    (case pcg_NoNumber => k_is)
    (case pcg_NoDay => k_is)
    (case pcg_NoWord => k_is)
    (case pcg_NoBook => k_is)
    (case pcg_NoEntry => k_is)
    (case pcg_RightError => k_is)
    (case pcg_NoText => k_is)
    (case pcg_NoAct => k_is)
    (case pcg_NoSheet => k_is)
    (case pcg_NoSorting => k_is)
    (case pcg_NoPath => k_is)
    (case pcg_Late => k_is)
    (case pcg_NoRow => k_is)
    (case pxl_NoRank => k_is)
    (case pxn_NoRank => k_is)
    (case pxs_NoRank => kernel_rfl)
    (case pxi_NoRank => kernel_rfl)
    (case pxa_NoRank => k_is)
    (case pxb_NoRank => k_is)
    (case pxt_NoRank => kernel_rfl)
    (case pxj_NoRank => kernel_rfl)
    (case pqcs_NoRank => kernel_rfl)
    (case pqga_NoRank => k_is)
    (case pqgt_NoRank => k_is)
    (case pqca_NoRank => k_is)
    (case pqgg_NoRank => k_is)
    (case pqtk_NoRank => k_is)
    (case pqmo_NoRank => k_is)
    (case pqsb_NoRank => k_is)
    (case pi_NoRank_ValueError => kernel_rfl)
    (case pi_NoRank_NoBook => kernel_rfl)
    (case pi_NoRank_NoText => kernel_rfl)
    (case pi_NoRank_NoAct => kernel_rfl)
    (case pi_NoRank_NoDay => kernel_rfl)
    (case pi_NoRank_NoWord => kernel_rfl)
    (case pi_NoRank_NoRank => kernel_rfl)
    (case pi_NoRank_NoSheet => kernel_rfl)
    (case pi_NoRank_NoSorting => kernel_rfl)
    (case pi_NoRank_NoPath => kernel_rfl)
    (case pi_NoRank_Late => kernel_rfl)
    (case pi_NoRank_NoRow => kernel_rfl)
    (case pi_NoRank_NoEntry => kernel_rfl)
    (case pi_NoRank_NoNumber => kernel_rfl)
    (case pe_NoRank_RightError => kernel_rfl)
    (case pxl_NoNumber => k_is)
    (case pxn_NoNumber => k_is)
    (case pxs_NoNumber => kernel_rfl)
    (case pxi_NoNumber => kernel_rfl)
    (case pxa_NoNumber => k_is)
    (case pxb_NoNumber => k_is)
    (case pxt_NoNumber => kernel_rfl)
    (case pxj_NoNumber => kernel_rfl)
    (case pqcs_NoNumber => kernel_rfl)
    (case pqga_NoNumber => k_is)
    (case pqgt_NoNumber => k_is)
    (case pqca_NoNumber => k_is)
    (case pqgg_NoNumber => k_is)
    (case pqtk_NoNumber => k_is)
    (case pqmo_NoNumber => k_is)
    (case pqsb_NoNumber => k_is)
    (case pi_NoNumber_ValueError => kernel_rfl)
    (case pi_NoNumber_NoBook => kernel_rfl)
    (case pi_NoNumber_NoText => kernel_rfl)
    (case pi_NoNumber_NoAct => kernel_rfl)
    (case pi_NoNumber_NoDay => kernel_rfl)
    (case pi_NoNumber_NoWord => kernel_rfl)
    (case pi_NoNumber_NoRank => kernel_rfl)
    (case pi_NoNumber_NoSheet => kernel_rfl)
    (case pi_NoNumber_NoSorting => kernel_rfl)
    (case pi_NoNumber_NoPath => kernel_rfl)
    (case pi_NoNumber_Late => kernel_rfl)
    (case pi_NoNumber_NoRow => kernel_rfl)
    (case pi_NoNumber_NoEntry => kernel_rfl)
    (case pi_NoNumber_NoNumber => kernel_rfl)
    (case pe_NoNumber_RightError => kernel_rfl)
    (case pxl_NoDay => k_is)
    (case pxn_NoDay => k_is)
    (case pxs_NoDay => kernel_rfl)
    (case pxi_NoDay => kernel_rfl)
    (case pxa_NoDay => k_is)
    (case pxb_NoDay => k_is)
    (case pxt_NoDay => kernel_rfl)
    (case pxj_NoDay => kernel_rfl)
    (case pqcs_NoDay => kernel_rfl)
    (case pqga_NoDay => k_is)
    (case pqgt_NoDay => k_is)
    (case pqca_NoDay => k_is)
    (case pqgg_NoDay => k_is)
    (case pqtk_NoDay => k_is)
    (case pqmo_NoDay => k_is)
    (case pqsb_NoDay => k_is)
    (case pi_NoDay_ValueError => kernel_rfl)
    (case pi_NoDay_NoBook => kernel_rfl)
    (case pi_NoDay_NoText => kernel_rfl)
    (case pi_NoDay_NoAct => kernel_rfl)
    (case pi_NoDay_NoDay => kernel_rfl)
    (case pi_NoDay_NoWord => kernel_rfl)
    (case pi_NoDay_NoRank => kernel_rfl)
    (case pi_NoDay_NoSheet => kernel_rfl)
    (case pi_NoDay_NoSorting => kernel_rfl)
    (case pi_NoDay_NoPath => kernel_rfl)
    (case pi_NoDay_Late => kernel_rfl)
    (case pi_NoDay_NoRow => kernel_rfl)
    (case pi_NoDay_NoEntry => kernel_rfl)
    (case pi_NoDay_NoNumber => kernel_rfl)
    (case pe_NoDay_RightError => kernel_rfl)
    (case pxl_NoWord => k_is)
    (case pxn_NoWord => k_is)
    (case pxs_NoWord => kernel_rfl)
    (case pxi_NoWord => kernel_rfl)
    (case pxa_NoWord => k_is)
    (case pxb_NoWord => k_is)
    (case pxt_NoWord => kernel_rfl)
    (case pxj_NoWord => kernel_rfl)
    (case pqcs_NoWord => kernel_rfl)
    (case pqga_NoWord => k_is)
    (case pqgt_NoWord => k_is)
    (case pqca_NoWord => k_is)
    (case pqgg_NoWord => k_is)
    (case pqtk_NoWord => k_is)
    (case pqmo_NoWord => k_is)
    (case pqsb_NoWord => k_is)
    (case pi_NoWord_ValueError => kernel_rfl)
    (case pi_NoWord_NoBook => kernel_rfl)
    (case pi_NoWord_NoText => kernel_rfl)
    (case pi_NoWord_NoAct => kernel_rfl)
    (case pi_NoWord_NoDay => kernel_rfl)
    (case pi_NoWord_NoWord => kernel_rfl)
    (case pi_NoWord_NoRank => kernel_rfl)
    (case pi_NoWord_NoSheet => kernel_rfl)
    (case pi_NoWord_NoSorting => kernel_rfl)
    (case pi_NoWord_NoPath => kernel_rfl)
    (case pi_NoWord_Late => kernel_rfl)
    (case pi_NoWord_NoRow => kernel_rfl)
    (case pi_NoWord_NoEntry => kernel_rfl)
    (case pi_NoWord_NoNumber => kernel_rfl)
    (case pe_NoWord_RightError => kernel_rfl)
    (case pxl_NoBook => k_is)
    (case pxn_NoBook => k_is)
    (case pxs_NoBook => kernel_rfl)
    (case pxi_NoBook => kernel_rfl)
    (case pxa_NoBook => k_is)
    (case pxb_NoBook => k_is)
    (case pxt_NoBook => kernel_rfl)
    (case pxj_NoBook => kernel_rfl)
    (case pqcs_NoBook => kernel_rfl)
    (case pqga_NoBook => k_is)
    (case pqgt_NoBook => k_is)
    (case pqca_NoBook => k_is)
    (case pqgg_NoBook => k_is)
    (case pqtk_NoBook => k_is)
    (case pqmo_NoBook => k_is)
    (case pqsb_NoBook => k_is)
    (case pi_NoBook_ValueError => kernel_rfl)
    (case pi_NoBook_NoBook => kernel_rfl)
    (case pi_NoBook_NoText => kernel_rfl)
    (case pi_NoBook_NoAct => kernel_rfl)
    (case pi_NoBook_NoDay => kernel_rfl)
    (case pi_NoBook_NoWord => kernel_rfl)
    (case pi_NoBook_NoRank => kernel_rfl)
    (case pi_NoBook_NoSheet => kernel_rfl)
    (case pi_NoBook_NoSorting => kernel_rfl)
    (case pi_NoBook_NoPath => kernel_rfl)
    (case pi_NoBook_Late => kernel_rfl)
    (case pi_NoBook_NoRow => kernel_rfl)
    (case pi_NoBook_NoEntry => kernel_rfl)
    (case pi_NoBook_NoNumber => kernel_rfl)
    (case pe_NoBook_RightError => kernel_rfl)
    (case pxl_NoEntry => k_is)
    (case pxn_NoEntry => k_is)
    (case pxs_NoEntry => kernel_rfl)
    (case pxi_NoEntry => kernel_rfl)
    (case pxa_NoEntry => k_is)
    (case pxb_NoEntry => k_is)
    (case pxt_NoEntry => kernel_rfl)
    (case pxj_NoEntry => kernel_rfl)
    (case pqcs_NoEntry => kernel_rfl)
    (case pqga_NoEntry => k_is)
    (case pqgt_NoEntry => k_is)
    (case pqca_NoEntry => k_is)
    (case pqgg_NoEntry => k_is)
    (case pqtk_NoEntry => k_is)
    (case pqmo_NoEntry => k_is)
    (case pqsb_NoEntry => k_is)
    (case pi_NoEntry_ValueError => kernel_rfl)
    (case pi_NoEntry_NoBook => kernel_rfl)
    (case pi_NoEntry_NoText => kernel_rfl)
    (case pi_NoEntry_NoAct => kernel_rfl)
    (case pi_NoEntry_NoDay => kernel_rfl)
    (case pi_NoEntry_NoWord => kernel_rfl)
    (case pi_NoEntry_NoRank => kernel_rfl)
    (case pi_NoEntry_NoSheet => kernel_rfl)
    (case pi_NoEntry_NoSorting => kernel_rfl)
    (case pi_NoEntry_NoPath => kernel_rfl)
    (case pi_NoEntry_Late => kernel_rfl)
    (case pi_NoEntry_NoRow => kernel_rfl)
    (case pi_NoEntry_NoEntry => kernel_rfl)
    (case pi_NoEntry_NoNumber => kernel_rfl)
    (case pe_NoEntry_RightError => kernel_rfl)
    (case pwc_Entry => k_is)
    (case pwg_Entry => k_is)
    (case pwt_Entry => k_is)
    (case pwm_Entry => k_is)
    (case pws_Entry => kernel_rfl)
    (case pwn_Entry_NoneType => kernel_rfl)
    (case pwn_Entry_int => kernel_rfl)
    (case pwn_Entry_str => kernel_rfl)
    (case pwn_Entry_bool => kernel_rfl)
    (case pwn_Entry_list => kernel_rfl)
    (case pwn_Entry_tuple => kernel_rfl)
    (case pwn_Entry_dict => kernel_rfl)
    (case pz_len => k_is)
    (case pz_isinstance => k_is)
    (case pz_str => k_is)
    (case pz_bool => k_is)
    (case pz_all => k_is)
    (case pz_range => k_is)
    (case pz_int => k_is)
    (case pz_list => k_is)
    (case pz_min => k_is)
    (case pz_max => k_is)
    (case pz_dict => k_is)
    (case pz_zip => k_is)
    (case pz_tuple => k_is)
    (case pz_ValueError => k_is)
  case S => exact fun K H a ns hl hO hS => ⟨a, ns, rfl, hS, hl, fun _ => rfl⟩
  case C => exact fun _ _ _ _ z => z
#print axioms PySem.Challenge.cw_rightname_k12_books_holds
