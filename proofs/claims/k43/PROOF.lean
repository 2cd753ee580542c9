import PyProof.Rows.All
import Wide.All
import OpenK.AllK
import Wide.FinOn
import Lean
import PyProof.EqAt
import PyProof.EqKinds
import PyProof.TupleCall
import PySem.Challenge.RW_rightname_k43_no_sortings
set_option Elab.async false
set_option linter.all false
set_option maxRecDepth 100000
namespace L2
open PySem PySem.Spec PyProof.Rows
abbrev Key := Sum Int Str
def keyIs : Key → Value → Bool
  | .inl k, v => Value.isInt k v
  | .inr x, v => Value.isStrOf x v
def keyH (w : World) : Key → Int
  | .inl k => hashInt k
  | .inr x => hashStr w x
theorem keyIs_shape : ∀ {k : Key} {v : Value}, keyIs k v = true → (∃ i t, k = Sum.inl i ∧ v = Value.int i t) ∨ (∃ x t, k = Sum.inr x ∧ v = Value.str x t)
  | .inl i, v, h => by
    obtain ⟨t, e⟩ := Value.isInt_shape (k := i) (v := v) h
    exact .inl ⟨i, t, rfl, e⟩
  | .inr x, v, h => by
    obtain ⟨t, e⟩ := Value.isStrOf_shape (x := x) (v := v) h
    exact .inr ⟨x, t, rfl, e⟩
theorem keyIs_int (i : Int) (t : Tok) : keyIs (.inl i) (.int i t) = true := by simp [keyIs, Value.isInt]
theorem keyIs_str (x : Str) (t : Tok) : keyIs (.inr x) (.str x t) = true := by simp [keyIs, Value.isStrOf]
theorem key_ll (a b : Int) : decide ((Sum.inl a : Key) = Sum.inl b) = (a == b) := by
  by_cases e : a = b
  · subst e; simp
  · have h : ¬ (Sum.inl a : Key) = Sum.inl b := fun q => e (Sum.inl.inj q)
    rw [decide_eq_false h]
    exact (beq_eq_false_iff_ne.mpr e).symm
theorem key_rr (a b : Str) : decide ((Sum.inr a : Key) = Sum.inr b) = decide (a = b) := by
  by_cases e : a = b
  · subst e; simp
  · have h : ¬ (Sum.inr a : Key) = Sum.inr b := fun q => e (Sum.inr.inj q)
    rw [decide_eq_false h, decide_eq_false e]
theorem key_lr (a : Int) (b : Str) : decide ((Sum.inl a : Key) = Sum.inr b) = false := decide_eq_false (fun q => nomatch q)
theorem key_rl (a : Str) (b : Int) : decide ((Sum.inr a : Key) = Sum.inl b) = false := decide_eq_false (fun q => nomatch q)
def mixKind (prog : Program) (w : World) : PySem.KeyKind prog w Key where
  is := keyIs
  hash := keyH w
  inj := fun v a b ha hb => by
    rcases keyIs_shape ha with ⟨i, t, rfl, rfl⟩ | ⟨x, t, rfl, rfl⟩
    · rcases keyIs_shape hb with ⟨j, u, rfl, e⟩ | ⟨y, u, rfl, e⟩
      · injection e with e1 _; rw [e1]
      · exact nomatch e
    · rcases keyIs_shape hb with ⟨j, u, rfl, e⟩ | ⟨y, u, rfl, e⟩
      · exact nomatch e
      · injection e with e1 _; rw [e1]
  byValue := fun k v h => by
    rcases keyIs_shape h with ⟨i, t, rfl, rfl⟩ | ⟨x, t, rfl, rfl⟩ <;> rfl
  pyHash := fun hv h => by
    rcases keyIs_shape hv with ⟨i, t, rfl, rfl⟩ | ⟨x, t, rfl, rfl⟩
    · exact wpAny_pyHash_int h
    · exact wpAny_pyHash_str h
  eqBool := fun hu hv h => by
    rcases keyIs_shape hu with ⟨i, t, rfl, rfl⟩ | ⟨x, t, rfl, rfl⟩
    · rcases keyIs_shape hv with ⟨j, u, rfl, rfl⟩ | ⟨y, u, rfl, rfl⟩
      · rw [key_ll] at h; exact wpAny_eqBool_int h
      · rw [key_lr] at h; exact SeqAt.EqAt.int_str i t y u _ _ _ _ h
    · rcases keyIs_shape hv with ⟨j, u, rfl, rfl⟩ | ⟨y, u, rfl, rfl⟩
      · rw [key_rl] at h; exact SeqAt.EqAt.str_int x t j u _ _ _ _ h
      · rw [key_rr] at h; exact wpAny_eqBool_str h
  «strs» := fun k x t v h => by
    rcases keyIs_shape h with ⟨i, u, rfl, e⟩ | ⟨y, u, rfl, e⟩
    · exact nomatch e
    · injection e with e1 _
      subst e1
      cases v <;> rfl
theorem mixKind_int (prog : Program) (w : World) (i : Int) (t : Tok) : (mixKind prog w).is (.inl i) (.int i t) = true := keyIs_int i t
theorem mixKind_str (prog : Program) (w : World) (x : Str) (t : Tok) : (mixKind prog w).is (.inr x) (.str x t) = true := keyIs_str x t
end L2
namespace L2
open PySem PySem.Spec PyProof.Rows
inductive V where
  | non | bl (b : Bool) | int (i : Int) | str (x : Str) | byt (b : Array UInt8) | flt (b : UInt64) | ref (a : Addr) | ty (n : String)
  deriving DecidableEq
def RelV : V → Value → Prop
  | .non, u => u = Value.none
  | .bl b, u => u = Value.bool b
  | .int i, u => ∃ t, u = Value.int i t
  | .str x, u => ∃ t, u = Value.str x t
  | .byt b, u => ∃ t, u = Value.bytes b t
  | .flt b, u => ∃ t, u = Value.float b t
  | .ref a, u => u = Value.ref a
  | .ty n, u => u = Value.type n
abbrev Vals : List V → List Value → Prop := Paired RelV
theorem Vals.length {xs : List V} {us : List Value} (r : Vals xs us) : xs.length = us.length := Paired.length r
theorem Vals.get : ∀ {xs : List V} {us : List Value} {i : Nat} {x : V}, Vals xs us → xs[i]? = some x → ∃ u, us[i]? = some u ∧ RelV x u
  | _, _, _, _, .nil, e => by simp at e
  | _, _, 0, _, .cons r _, e => by simp at e; subst e; exact ⟨_, rfl, r⟩
  | _, _, i + 1, x, .cons _ t, e => by
    obtain ⟨u, h1, h2⟩ := Vals.get (i := i) (x := x) t (by simpa using e)
    exact ⟨u, by simpa using h1, h2⟩
theorem Vals.set {x : V} {u : Value} (r : RelV x u) : ∀ {xs : List V} {us : List Value} (i : Nat), Vals xs us → Vals (xs.set i x) (us.set i u)
  | _, _, _, .nil => .nil
  | _, _, 0, .cons _ t => .cons r t
  | _, _, i + 1, .cons q t => .cons q (Vals.set r i t)
theorem Vals.append : ∀ {xs ys : List V} {us ws : List Value}, Vals xs us → Vals ys ws → Vals (xs ++ ys) (us ++ ws)
  | _, _, _, _, .nil, s => s
  | _, _, _, _, .cons r t, s => .cons r (Vals.append t s)
theorem Vals.take : ∀ {xs : List V} {us : List Value} (n : Nat), Vals xs us → Vals (xs.take n) (us.take n)
  | _, _, 0, _ => .nil
  | _, _, _ + 1, .nil => .nil
  | _, _, n + 1, .cons r t => .cons r (Vals.take n t)
theorem Vals.drop : ∀ {xs : List V} {us : List Value} (n : Nat), Vals xs us → Vals (xs.drop n) (us.drop n)
  | _, _, 0, r => r
  | _, _, _ + 1, .nil => .nil
  | _, _, n + 1, .cons _ t => Vals.drop n t
def RelO : Option V → Option Value → Prop
  | some v, some u => RelV v u
  | none, none => True
  | _, _ => False
def KV {κ : Type} : List (κ × V) → List (κ × Value) → Prop := Paired fun (p : κ × V) (q : κ × Value) => p.1 = q.1 ∧ RelV p.2 q.2
def kV : Key → V
  | .inl i => .int i
  | .inr x => .str x
inductive HO where
    | lst (xs : List V)
    | tup (xs : List V)
    | dK (kvs : List (Key × V)) | dT (kvs : List (List Key × V))
    | set (S : Int → Bool) (n : Nat)
    | ins (C dx : Addr) (fs : List (Str × V))
    | own (x : Addr)
    | xd (fs : List (Str × V))
    | met (f x : Addr)
    | rng (lo hi : Int)
    | frz (o : Obj) (u : HO)
    | tbl (ps : Array Value)
    | ext (φ : Heap → Prop)
abbrev Hp := Addr → Option HO
def upd (H : Hp) (a : Addr) (o : HO) : Hp := fun b => if b = a then some o else H b
theorem upd_same {H : Hp} {a : Addr} {o : HO} : upd H a o a = some o := by unfold upd; rw [if_pos rfl]
theorem upd_ne {H : Hp} {a b : Addr} {o : HO} (h : b ≠ a) : upd H a o b = H b := by unfold upd; rw [if_neg h]
theorem ne_of {H : Hp} {a b : Addr} {o u : HO} (h : H a = some o) (h' : H b = some u) (d : o ≠ u) : a ≠ b := by
  intro e; subst e; rw [h] at h'; exact d (Option.some.inj h')
theorem ne_of_none {H : Hp} {a b : Addr} {o : HO} (h : H a = some o) (h' : H b = none) : a ≠ b := by
  intro e; subst e; rw [h] at h'; cases h'
section
variable (P : Program) (w : World)
def ObjOk (H : Hp) (h : Heap) (a : Addr) : HO → Prop
  | .lst xs => xs.length ≤ sizeLine ∧ ∃ (its : List Value) (n : Nat), Vals xs its ∧ h.get? a = some { cls := .type "list", data := .seq its.toArray n }
  | .tup xs => xs.length ≤ sizeLine ∧ ∃ its : List Value, Vals xs its ∧ IsTup h a its.toArray
  | .dK kvs => kvs.length ≤ sizeLine ∧ (a == sysModules) = false ∧ ∃ vs, KV kvs vs ∧ h.DictOf (mixKind P w) a vs
  | .dT kvs => kvs.length ≤ sizeLine ∧ (a == sysModules) = false ∧ ∃ xs : List (List Key × Addr × Value),
      Paired (fun (p : List Key × V) (q : List Key × Addr × Value) => p.1 = q.1 ∧ H q.2.1 = some (.tup (p.1.map kV)) ∧ RelV p.2 q.2.2) kvs xs ∧
      ∃ o es ep, h.get? a = some o ∧ o.ExactDict ∧ o.data = .dict es ep ∧ es.toList = xs.map (entryOfKey (tupleKind (mixKind P w))) ∧ (xs.map (·.1)).Nodup
  | .set S n => h.SetOf (intKind P w) a S n
  | .ins C dx fs => H dx = some (.own a) ∧ fs.length ≤ 1000 ∧ dx ≠ a ∧ h.get? a = some (PySem.W.instObj C dx) ∧
      ∃ mA, h.Ns1 dx mA ∧ (∀ f, RelO (fs.lookup f) (mA f)) ∧ PySem.Within mA (fs.map (·.1))
  | .own _ => ∃ o, h.get? a = some o
  | .xd fs => ∃ mA, h.Ns1 a mA ∧ ∀ f, RelO (fs.lookup f) (mA f)
  | .rng lo hi => ∃ t u v, h.get? a = some { cls := .type "range", data := .fields #[.int lo t, .int hi u, .int 1 v] }
  | .frz o u => h.get? a = some o ∧ ObjOk H h a u
  | .tbl ps => h.get? a = some { cls := .none, data := .fields ps }
  | .met f x => h.get? a = some (PySem.W.methodObj (.ref f) (.ref x))
  | .ext φ => φ h ∧ (∃ o, h.get? a = some o) ∧ ∀ h1 h2 : Heap, φ h1 → (∀ o, h1.get? a = some o → h2.get? a = some o) → φ h2
def HOk (H : Hp) (h : Heap) : Prop := ∀ a o, H a = some o → ObjOk P w H h a o
end
section
variable {P : Program} {w : World} {H H' : Hp} {h h' : Heap} {a : Addr} {o : HO}
theorem ObjOk.lt (x : ObjOk P w H h a o) : a < h.objs.size := by
  cases o with
  | lst xs => obtain ⟨_, _, _, _, e⟩ := x; exact Heap.lt_size e
  | tup xs => obtain ⟨_, _, _, p⟩ := x; exact p.lt
  | dK kvs => obtain ⟨_, _, _, _, o, _, _, e, _⟩ := x; exact Heap.lt_size e
  | dT kvs => obtain ⟨_, _, _, _, o, _, _, e, _⟩ := x; exact Heap.lt_size e
  | set S n => obtain ⟨o, _, _, _, e, _⟩ := x; exact Heap.lt_size e
  | ins C dx fs => obtain ⟨_, _, _, e, _⟩ := x; exact Heap.lt_size e
  | own y => obtain ⟨_, e⟩ := x; exact Heap.lt_size e
  | xd fs => obtain ⟨_, ⟨_, _, _, e, _⟩, _⟩ := x; exact Heap.lt_size e
  | rng lo hi => obtain ⟨_, _, _, e⟩ := x; exact Heap.lt_size e
  | frz ob u => obtain ⟨e, _⟩ := x; exact Heap.lt_size e
  | tbl ps => exact Heap.lt_size (show h.get? a = some _ from x)
  | met f y => exact Heap.lt_size (show h.get? a = some _ from x)
  | ext φ => obtain ⟨_, ⟨_, e⟩, _⟩ := x; exact Heap.lt_size e
theorem Paired.mapP {α β : Type} {F G : α → β → Prop} : ∀ {l₁ : List α} {l₂ : List β}, Paired F l₁ l₂ → (∀ a b, F a b → G a b) → Paired G l₁ l₂
  | _, _, .nil, _ => .nil
  | _, _, .cons r t, f => .cons (f _ _ r) (Paired.mapP t f)
theorem ObjOk.stay (x : ObjOk P w H h a o) (k : ∀ b u, (b = a ∨ H b = some (.own a)) → h.get? b = some u → h'.get? b = some u)
    (ho : ∀ b, H b = some (.own a) → H' b = some (.own a)) (ht : ∀ b xs, H b = some (.tup xs) → H' b = some (.tup xs)) : ObjOk P w H' h' a o := by
  induction o with
  | lst xs => obtain ⟨z, its, n, r, e⟩ := x; exact ⟨z, its, n, r, k _ _ (.inl rfl) e⟩
  | tup xs => obtain ⟨z, its, r, ob, e, c⟩ := x; exact ⟨z, its, r, ob, k _ _ (.inl rfl) e, c⟩
  | dK kvs => obtain ⟨z, y, vs, r, ob, es, ep, e, c⟩ := x; exact ⟨z, y, vs, r, ob, es, ep, k _ _ (.inl rfl) e, c⟩
  | dT kvs =>
    obtain ⟨z, y, xs, r, ob, es, ep, e, c⟩ := x
    exact ⟨z, y, xs, Paired.mapP r fun p q z => ⟨z.1, ht _ _ z.2.1, z.2.2⟩, ob, es, ep, k _ _ (.inl rfl) e, c⟩
  | set S n => obtain ⟨ob, es, ep, t, e, c⟩ := x; exact ⟨ob, es, ep, t, k _ _ (.inl rfl) e, c⟩
  | ins C dx fs =>
    obtain ⟨d, z, ne, e, mA, ⟨od, es, ep, e2, c⟩, r⟩ := x
    exact ⟨ho _ d, z, ne, k _ _ (.inl rfl) e, mA, ⟨od, es, ep, k _ _ (.inr d) e2, c⟩, r⟩
  | own y => obtain ⟨ob, e⟩ := x; exact ⟨ob, k _ _ (.inl rfl) e⟩
  | xd fs => obtain ⟨mA, ⟨od, es, ep, e, c⟩, r⟩ := x; exact ⟨mA, ⟨od, es, ep, k _ _ (.inl rfl) e, c⟩, r⟩
  | rng lo hi => obtain ⟨t, u, v, e⟩ := x; exact ⟨t, u, v, k _ _ (.inl rfl) e⟩
  | frz ob u ih => obtain ⟨e, q⟩ := x; exact ⟨k _ _ (.inl rfl) e, ih q⟩
  | tbl ps =>
    have e : h.get? a = some { cls := .none, data := .fields ps } := x
    show h'.get? a = some { cls := .none, data := .fields ps }
    exact k a _ (.inl rfl) e
  | met f y =>
    have e : h.get? a = some (PySem.W.methodObj (.ref f) (.ref y)) := x
    show h'.get? a = some (PySem.W.methodObj (.ref f) (.ref y))
    exact k a _ (.inl rfl) e
  | ext φ => obtain ⟨p, ⟨o, e⟩, st⟩ := x; exact ⟨st _ _ p fun o q => k _ _ (.inl rfl) q, ⟨o, k _ _ (.inl rfl) e⟩, st⟩
theorem HOk.lt (x : HOk P w H h) (e : H a = some o) : a < h.objs.size := (x a o e).lt
theorem HOk.fresh (x : HOk P w H h) (e : h.objs.size ≤ a) : H a = none := by
  cases q : H a with
  | none => rfl
  | some u => exact absurd (Nat.lt_of_lt_of_le (x.lt q) e) (Nat.lt_irrefl _)
theorem HOk.kept (x : HOk P w H h) (k : ∀ b u, h.get? b = some u → h'.get? b = some u) : HOk P w H h' := fun a o e =>
  (x a o e).stay (fun b u _ q => k b u q) (fun _ q => q) fun _ _ q => q
theorem HOk.laid (x : HOk P w H h) (k : ∀ b u, h.get? b = some u → h'.get? b = some u) (hp : h.objs.size ≤ a) (new : ObjOk P w (upd H a o) h' a o) : HOk P w (upd H a o) h' := fun b u e => by
  have hn := x.fresh hp
  by_cases hb : b = a
  · subst hb; rw [upd_same] at e; cases e; exact new
  · rw [upd_ne hb] at e
    exact (x b u e).stay (fun c v _ q => k c v q) (fun c q => by rw [upd_ne (ne_of_none q hn)]; exact q) fun c xs q => by rw [upd_ne (ne_of_none q hn)]; exact q
end
def Rd (H : Hp) (a : Addr) (u : HO) : Prop := H a = some u ∨ ∃ o, H a = some (.frz o u)
theorem Rd.of {H : Hp} {a : Addr} {u : HO} (h : H a = some u) : Rd H a u := .inl h
theorem Rd.ok {P : Program} {w : World} {H : Hp} {h : Heap} {a : Addr} {u : HO} (r : Rd H a u) (x : HOk P w H h) : ObjOk P w H h a u := by
  rcases r with r | ⟨o, r⟩
  · exact x a u r
  · obtain ⟨_, q⟩ := x a _ r
    exact q
def Mut : Option HO → Prop
  | some (.lst _) => True
  | some (.dK _) => True
  | some (.dT _) => True
  | some (.set _ _) => True
  | some (.ins _ _ _) => True
  | some (.ext _) => True
  | _ => False
section
variable {P : Program} {w : World} {H : Hp} {h h' : Heap} {x e : Addr} {o' : HO}
theorem HOk.write (ok : HOk P w H h) (mu : Mut (H x)) (he : e = x ∨ H e = some (.own x)) (k : ∀ b u, b ≠ e → h.get? b = some u → h'.get? b = some u) (heo : ∃ u, h'.get? e = some u)
    (new : ObjOk P w (upd H x o') h' x o') : HOk P w (upd H x o') h' := fun b u q => by
  have nown : ∀ c y, H c = some (.own y) → c ≠ x := fun c y r z => by subst z; rw [r] at mu; exact mu
  have ntup : ∀ c xs, H c = some (.tup xs) → c ≠ x := fun c xs r z => by subst z; rw [r] at mu; exact mu
  by_cases hb : b = x
  · subst hb; rw [upd_same] at q; cases q; exact new
  · rw [upd_ne hb] at q
    by_cases hbe : b = e
    · have q' : H b = some (.own x) := by
        rcases he with z | z
        · exact absurd (hbe.trans z) hb
        · rw [hbe]; exact z
      rw [q] at q'; cases q'
      obtain ⟨v, hv⟩ := heo
      exact ⟨v, by rw [hbe]; exact hv⟩
    · refine (ok b u q).stay (fun c v hc r => k c v ?_ r) (fun c r => by rw [upd_ne (nown c b r)]; exact r) fun c xs r => by rw [upd_ne (ntup c xs r)]; exact r
      rcases hc with rfl | hc
      · exact hbe
      · rintro rfl
        rcases he with z | z
        · exact nown c b hc z
        · rw [hc] at z; cases z; exact hb rfl
end
structure Un (fs ex : List Addr) (H H' : Hp) (h h' : Heap) : Prop where
  keep : ∀ b o, h.get? b = some o → H b = none → b ∉ fs → b ∉ ex → h'.get? b = some o
  slot : ∀ b o, h.get? b = some o → H b = none → b ∈ fs → b ∉ ex → ∃ sl, h'.get? b = some { o with slots := sl }
  free : ∀ b o, h.get? b = some o → H b = none → b ∉ ex → H' b = none
  there : ∀ b o, h.get? b = some o → b ∉ ex → ∃ o', h'.get? b = some o'
  tups : ∀ b xs, H b = some (.tup xs) → H' b = some (.tup xs)
  frzs : ∀ b o u, H b = some (.frz o u) → H' b = some (.frz o u)
  tbls : ∀ b ps, H b = some (.tbl ps) → ∃ more, H' b = some (.tbl (ps ++ more))
section
variable {fs fs' ex ex' : List Addr} {H H1 H2 : Hp} {h h1 h2 h' : Heap} {a x e : Addr} {o : HO}
theorem Un.any (u : Un fs ex H H1 h h1) {b : Addr} {ob : Obj} (q : h.get? b = some ob) (n : H b = none) (hx : b ∉ ex) : ∃ sl, h1.get? b = some { ob with slots := sl } := by
  by_cases hb : b ∈ fs
  · exact u.slot b ob q n hb hx
  · exact ⟨ob.slots, u.keep b ob q n hb hx⟩
theorem Un.trans (a : Un fs ex H H1 h h1) (b : Un fs ex H1 H2 h1 h2) : Un fs ex H H2 h h2 where
  keep := fun c ob q n hc hx => b.keep c ob (a.keep c ob q n hc hx) (a.free c ob q n hx) hc hx
  slot := fun c ob q n hc hx => by
    obtain ⟨sl, e1⟩ := a.slot c ob q n hc hx
    obtain ⟨sl', e2⟩ := b.slot c _ e1 (a.free c ob q n hx) hc hx
    exact ⟨sl', e2⟩
  free := fun c ob q n hx => by
    obtain ⟨o', e1⟩ := a.there c ob q hx
    exact b.free c o' e1 (a.free c ob q n hx) hx
  there := fun c ob q hx => by
    obtain ⟨o', e1⟩ := a.there c ob q hx
    exact b.there c o' e1 hx
  tups := fun c xs q => b.tups c xs (a.tups c xs q)
  frzs := fun c ob xs q => b.frzs c ob xs (a.frzs c ob xs q)
  tbls := fun c ps q => by
    obtain ⟨m1, e1⟩ := a.tbls c ps q
    obtain ⟨m2, e2⟩ := b.tbls c _ e1
    exact ⟨m1 ++ m2, by rw [e2, Array.append_assoc]⟩
theorem Un.kept (k : ∀ b u, h.get? b = some u → h'.get? b = some u) : Un fs ex H H h h' :=
  ⟨fun b ob q _ _ _ => k b ob q, fun b ob q _ _ _ => ⟨ob.slots, k b ob q⟩, fun _ _ _ n _ => n, fun b ob q _ => ⟨ob, k b ob q⟩, fun _ _ q => q, fun _ _ _ q => q, fun _ ps q => ⟨#[], by rw [q]; simp⟩⟩
theorem Un.refl : Un fs ex H H h h := Un.kept fun _ _ q => q
theorem Un.laid (k : ∀ b u, h.get? b = some u → h'.get? b = some u) (hp : h.objs.size ≤ a) (hn : H a = none) : Un fs ex H (upd H a o) h h' where
  keep := fun b u q _ _ _ => k b u q
  slot := fun b u q _ _ _ => ⟨u.slots, k b u q⟩
  free := fun b u q n _ => by rw [upd_ne (Nat.ne_of_lt (Nat.lt_of_lt_of_le (Heap.lt_size q) hp))]; exact n
  there := fun b u q _ => ⟨u, k b u q⟩
  tups := fun b xs q => by rw [upd_ne (ne_of_none q hn)]; exact q
  frzs := fun b u xs q => by rw [upd_ne (ne_of_none q hn)]; exact q
  tbls := fun b ps q => ⟨#[], by rw [upd_ne (ne_of_none q hn), q]; simp⟩
theorem Un.write (mu : Mut (H x)) (he : e = x ∨ H e = some (.own x)) (k : ∀ b u, b ≠ e → h.get? b = some u → h'.get? b = some u) (heo : ∃ u, h'.get? e = some u) : Un fs ex H (upd H x o) h h' := by
  have hx : ∀ b, H b = none → b ≠ x := fun b n z => by subst z; rw [n] at mu; exact mu
  have hb : ∀ b, H b = none → b ≠ e := fun b n z => by
    subst z
    rcases he with r | r
    · exact hx b n r
    · rw [n] at r; cases r
  have hm : ∀ b u, H b = some u → ¬ Mut (some u) → b ≠ x := fun b u q nm z => by subst z; rw [q] at mu; exact nm mu
  refine ⟨fun b u q n _ _ => k b u (hb b n) q, fun b u q n _ _ => ⟨u.slots, k b u (hb b n) q⟩, fun b u q n _ => by rw [upd_ne (hx b n)]; exact n, fun b u q _ => ?_,
    fun b xs q => by rw [upd_ne (hm b _ q fun z => z)]; exact q, fun b u xs q => by rw [upd_ne (hm b _ q fun z => z)]; exact q, fun b ps q => ⟨#[], by rw [upd_ne (hm b _ q fun z => z), q]; simp⟩⟩
  by_cases hbe : b = e
  · subst hbe; exact heo
  · exact ⟨u, k b u hbe q⟩
theorem Un.mono (u : Un fs ex H H1 h h1) (hs : ∀ b ∈ fs, b ∈ fs') (hx : ∀ b ∈ ex, b ∈ ex') : Un fs' ex' H H1 h h1 :=
  ⟨fun b ob q n hb he => u.keep b ob q n (fun z => hb (hs b z)) fun z => he (hx b z), fun _ _ q n _ he => u.any q n fun z => he (hx _ z), fun b ob q n he => u.free b ob q n fun z => he (hx b z), fun b ob q he => u.there b ob q fun z => he (hx b z), u.tups, u.frzs, u.tbls⟩
end
def trk (h : Heap) (H : Hp) : List Addr := (List.range h.objs.size).filter fun a => (H a).isSome
def hidT (h : Heap) (H : Hp) : Heap := PySem.W.hideAll h (trk h H)
theorem hidT_size (h : Heap) (H : Hp) : (hidT h H).objs.size = h.objs.size := PySem.W.hideAll_size _ _
theorem hidT_get {h : Heap} {H : Hp} {b : Addr} {o : Obj} (e : h.get? b = some o) (n : H b = none) : (hidT h H).get? b = some o :=
  PySem.W.hideAll_get _ e fun hm => by
    have q : (H b).isSome = true := (List.mem_filter.mp hm).2
    rw [n] at q; simp at q
theorem of_hidT {h : Heap} {H : Hp} {b : Addr} {o : Obj} (e : (hidT h H).get? b = some o) : h.get? b = some o ∧ H b = none := by
  have e' : h.get? b = some o := PySem.W.of_hideAll (trk h H) e
  refine ⟨e', ?_⟩
  cases q : H b with
  | none => rfl
  | some x =>
    have hm : b ∈ trk h H := List.mem_filter.mpr ⟨List.mem_range.mpr (Heap.lt_size e'), by simp [q]⟩
    have z : (hidT h H).get? b = none := PySem.W.hideAll_none (trk h H) hm
    rw [z] at e; cases e
def allNews (g h : Heap) (L : Addr) : List (Addr × Obj) := (List.range h.objs.size).filterMap fun a => if a = L ∨ (g.get? a).isSome = true then none else (h.get? a).map fun o => (a, o)
def rest (g h : Heap) (L d : Addr) : List (Addr × Obj) := (allNews g h L).filter fun p => decide (p.1 ≠ d)
end L2
namespace L2
open PySem PySem.Spec PyProof.Rows
structure Mod (K : PySem.W.Frag) (mg : Str → Option Value) (base : Heap) : Prop where
  kin : K.In base
  glob : base.Ns mainGlobals mg
  blt : ∃ mb, base.Ns builtinsNs mb ∧ ∀ x : Str, x ≠ "__name__" → mb x = bootBuiltins x
  nolimit : base.NoLimit
/- the context: a def's body (or a comprehension's block) running. base: fixed through the whole law; s₀, H₀: the entry; outer: the frames whose slots others may change (a def's callers); stack: all frames that run;
   ex: iterators that were made ahead of the entry and are walked here (a comprehension's); fn: the names whose cells were made at the entry (a def: all; a comprehension's block: its own); calm: not within an except suite; pn: pins that every state bears; xe: what is wanted of an exception that leaves the code -/
set_option genInjectivity false in
set_option genSizeOfSpec false in
set_option genSizeOf false in
structure Cx where
  prog : Program
  w : World
  K : PySem.W.Frag
  mg : Str → Option Value
  base : Heap
  A : Around
  N : List Str
  s₀ : Shared
  H₀ : Hp
  env : Env
  outer : List Env
  stack : List Env
  ex : List Addr
  fn : Str → Bool
  calm : Bool
  pn : List (Addr × Obj)
  xe : Value → Shared → Prop
def frs (l : List Env) : List Addr := l.filterMap (·.frame)
abbrev Cx.fs (X : Cx) : List Addr := frs X.outer
def Vis (sc : Scope) (x : Str) : Prop := sc.names.lookup x = some .local ∨ sc.names.lookup x = some .cell ∨ sc.names.lookup x = some .free
def Loc (sc : Scope) (x : Str) : Prop := sc.names.lookup x = some .local ∨ sc.names.lookup x = some .cell
def Look (env : Env) (h : Heap) (m : Str → Option Value) (x : Str) (u : Value) : Prop :=
  (env.kindOf x = some .local ∧ m x = some u) ∨ ((env.kindOf x = some .cell ∨ env.kindOf x = some .free) ∧ ∃ c, env.cells.lookup x = some c ∧ h.IsCell c (some u))
structure Cx.Ok (X : Cx) : Prop where
  mod : Mod X.K X.mg X.base
  kind : X.env.scope.kind = .function
  glob : X.env.globals = mainGlobals
  blt : X.env.builtins = builtinsNs
  above : X.s₀.heap.objs.size ≤ X.env.locals
  inj : ∀ x y c, X.env.cells.lookup x = some c → X.env.cells.lookup y = some c → x = y
  has : ∀ x, (X.env.kindOf x = some .cell ∨ X.env.kindOf x = some .free) → ∃ c, X.env.cells.lookup x = some c
  cab : ∀ x c, X.fn x = true → X.env.cells.lookup x = some c → X.s₀.heap.objs.size ≤ c
  hd : X.calm = true → X.A.handled = none
  frames : X.A.frames = some X.stack
  stk : X.stack = X.outer ∨ (X.stack = X.env :: X.outer ∧ X.env.frame = some X.env.locals)
  exf : ∀ b ∈ X.ex, b ≠ X.env.locals ∧ ∀ x c, X.env.cells.lookup x = some c → c ≠ b
  bs : ∀ b o, X.base.get? b = some o → X.s₀.heap.get? b = some o ∧ X.H₀ b = none
  bsz : X.base.objs.size ≤ X.s₀.heap.objs.size
  noex : ∀ b o, X.base.get? b = some o → b ∉ X.ex
  exfs : ∀ b ∈ X.ex, b ∉ X.fs
  funs : X.s₀.heap.FunFrames X.base X.outer
  frf : ∀ b ∈ X.fs, X.H₀ b = none
structure Inv (X : Cx) (pins : List (Addr × Obj)) (σ : List (Option V)) (H : Hp) (s : Shared) : Prop where
  ok : X.Ok
  os : s.os = X.s₀.os
  bare : AllBare s.gens
  base : Un X.fs X.ex X.H₀ H X.s₀.heap s.heap
  loc : ∃ m, s.heap.Ns X.env.locals m ∧ ∀ (i : Nat) (x : Str) (v : V), X.N[i]? = some x → σ[i]? = some (some v) → Vis X.env.scope x → ∃ u, RelV v u ∧ Look X.env s.heap m x u
  cell : ∀ x c, X.env.cells.lookup x = some c → ∃ v, s.heap.IsCell c v
  free : H X.env.locals = none
  freeC : ∀ x c, X.env.cells.lookup x = some c → H c = none
  pin : ∀ p ∈ X.pn ++ pins, s.heap.get? p.1 = some p.2 ∧ H p.1 = none ∧ p.1 ≠ X.env.locals ∧ p.1 ∉ X.fs ∧ ∀ v, p.2.data ≠ .cell v
  hok : HOk X.prog X.w H s.heap
  len : σ.length = X.N.length
section
variable {X : Cx} {pins : List (Addr × Obj)} {σ : List (Option V)} {H H' : Hp} {s : Shared} {h' : Heap}
theorem Cx.Ok.nofr (ok : X.Ok) {b : Addr} {o : Obj} (e : X.base.get? b = some o) : b ∉ X.fs := fun hb => by
  have := (ok.funs.mem hb).1
  rw [e] at this; cases this
theorem Inv.bs (I : Inv X pins σ H s) : ∀ b o, X.base.get? b = some o → s.heap.get? b = some o ∧ H b = none := fun b o e =>
  ⟨I.base.keep b o (I.ok.bs b o e).1 (I.ok.bs b o e).2 (I.ok.nofr e) (I.ok.noex b o e), I.base.free b o (I.ok.bs b o e).1 (I.ok.bs b o e).2 (I.ok.noex b o e)⟩
theorem Inv.bk (I : Inv X pins σ H s) : ∀ b o, X.base.get? b = some o → s.heap.get? b = some o := fun b o e => (I.bs b o e).1
theorem Inv.mod (I : Inv X pins σ H s) : Mod X.K X.mg X.base := I.ok.mod
theorem Inv.kIn (I : Inv X pins σ H s) : X.K.In s.heap := I.ok.mod.kin.keeps I.bk
theorem Inv.nolimit (I : Inv X pins σ H s) : s.heap.NoLimit := I.ok.mod.nolimit.keeps I.bk
theorem Inv.lt (I : Inv X pins σ H s) : X.env.locals < s.heap.objs.size := let ⟨_, hn, _⟩ := I.loc; hn.lt
theorem Inv.sz (I : Inv X pins σ H s) : X.s₀.heap.objs.size ≤ s.heap.objs.size := Nat.le_trans I.ok.above (Nat.le_of_lt I.lt)
theorem Inv.nofs (I : Inv X pins σ H s) {a : Addr} (h : s.heap.objs.size ≤ a) : a ∉ X.fs := fun hb => by
  obtain ⟨_, o, ho, _⟩ := I.ok.funs.mem hb
  exact absurd (Nat.lt_of_lt_of_le (Heap.lt_size ho) (Nat.le_trans I.sz h)) (Nat.lt_irrefl _)
theorem Inv.cne (I : Inv X pins σ H s) : ∀ x c, X.env.cells.lookup x = some c → c ≠ X.env.locals := fun x c e z => by
  obtain ⟨v, o, ho, hd⟩ := I.cell x c e
  obtain ⟨m, ⟨o', es, ep, ho', hd', _⟩, _⟩ := I.loc
  rw [z, ho'] at ho; cases ho; rw [hd'] at hd; cases hd
theorem Inv.funs (I : Inv X pins σ H s) : s.heap.FunFrames X.base X.outer := by
  have all : ∀ (l : List Env), (∀ b ∈ frs l, b ∈ X.fs) → X.s₀.heap.FunFrames X.base l → s.heap.FunFrames X.base l := by
    intro l
    induction l with
    | nil => intro _ _; trivial
    | cons env r ih =>
      intro hs hl
      obtain ⟨hk, ⟨L, o, hf, hn, ho, hd⟩, hr⟩ := hl
      have hL : L ∈ X.fs := hs L (by unfold frs; rw [List.filterMap_cons, hf]; exact List.mem_cons_self)
      obtain ⟨sl, e⟩ := I.base.slot L o ho (I.ok.frf L hL) hL fun z => I.ok.exfs L z hL
      exact ⟨hk, ⟨L, _, hf, hn, e, hd⟩, ih (fun b hb => hs b (by unfold frs; rw [List.filterMap_cons, hf]; exact List.mem_cons_of_mem _ hb)) hr⟩
  exact all X.outer (fun _ hb => hb) I.ok.funs
theorem Inv.stack (I : Inv X pins σ H s) : s.heap.FunFrames X.base X.stack := by
  rcases I.ok.stk with e | ⟨e, hf⟩
  · rw [e]; exact I.funs
  · rw [e]
    obtain ⟨m, hn, _⟩ := I.loc
    refine .cons (by rw [I.ok.kind]; decide) hf hn ?_ I.funs
    exact Heap.get?_none_of_le (Nat.le_trans I.ok.bsz I.ok.above)
theorem Inv.stkSub (I : Inv X pins σ H s) : ∀ b ∈ frs X.stack, b ∈ X.env.locals :: X.fs := fun b hb => by
  rcases I.ok.stk with e | ⟨e, hf⟩
  · rw [e] at hb; exact List.mem_cons_of_mem _ hb
  · rw [e] at hb
    unfold frs at hb
    rw [List.filterMap_cons, hf] at hb
    exact hb
theorem Inv.stkFree (I : Inv X pins σ H s) : ∀ b ∈ frs X.stack, H b = none := fun b hb => by
  rcases List.mem_cons.mp (I.stkSub b hb) with e | hb
  · rw [e]; exact I.free
  · obtain ⟨_, o, ho, _⟩ := I.ok.funs.mem hb
    exact I.base.free b o ho (I.ok.frf b hb) fun z => I.ok.exfs b z hb
theorem Inv.step {g' : Array GenState} {t' : Nat} {d' : Drawn} {ch : List Addr} (I : Inv X pins σ H s)
    (hch : ∀ b ∈ ch, (b ∈ X.ex ∨ X.s₀.heap.objs.size ≤ b) ∧ b ≠ X.env.locals ∧ (∀ x c, X.env.cells.lookup x = some c → c ≠ b) ∧ ∀ p ∈ X.pn ++ pins, p.1 ≠ b)
    (keep : ∀ b o, b ≠ X.env.locals → b ∉ X.fs → b ∉ ch → s.heap.get? b = some o → H b = none → h'.get? b = some o)
    (slot : ∀ b o, b ≠ X.env.locals → b ∈ X.fs → b ∉ ch → s.heap.get? b = some o → H b = none → ∃ sl, h'.get? b = some { o with slots := sl }) (free : ∀ b o, b ∉ ch → s.heap.get? b = some o → H b = none → H' b = none)
    (there : ∀ b o, b ∉ ch → s.heap.get? b = some o → ∃ o', h'.get? b = some o')
    (tups : ∀ b xs, H b = some (.tup xs) → H' b = some (.tup xs)) (frzs : ∀ b o u, H b = some (.frz o u) → H' b = some (.frz o u)) (tbls : ∀ b ps, H b = some (.tbl ps) → ∃ more, H' b = some (.tbl (ps ++ more)))
    (ns : ∀ m, s.heap.Ns X.env.locals m → h'.Ns X.env.locals m) (hok : HOk X.prog X.w H' h') (hg : AllBare g') :
    Inv X pins σ H' { s with heap := h', gens := g', drawn := d', toks := t' } := by
  have neL : ∀ b o, X.s₀.heap.get? b = some o → b ≠ X.env.locals := fun b o e => Nat.ne_of_lt (Nat.lt_of_lt_of_le (Heap.lt_size e) I.ok.above)
  have neC : ∀ b o, X.s₀.heap.get? b = some o → b ∉ X.ex → b ∉ ch := fun b o e hx hb => by
    rcases (hch b hb).1 with z | z
    · exact hx z
    · exact absurd (Nat.lt_of_lt_of_le (Heap.lt_size e) z) (Nat.lt_irrefl _)
  have cellK : ∀ x c, X.env.cells.lookup x = some c → ∀ v, s.heap.IsCell c v → h'.IsCell c v := fun x c e v ⟨o, ho, hd⟩ => by
    have nch : c ∉ ch := fun z => (hch c z).2.2.1 x c e rfl
    by_cases hc : c ∈ X.fs
    · obtain ⟨sl, q⟩ := slot c o (I.cne x c e) hc nch ho (I.freeC x c e)
      exact ⟨_, q, hd⟩
    · exact ⟨o, keep c o (I.cne x c e) hc nch ho (I.freeC x c e), hd⟩
  refine ⟨I.ok, I.os, hg, ⟨fun b o e n hb hx => ?_, fun b o e n hb hx => ?_, fun b o e n hx => ?_, fun b o e hx => ?_, fun b xs e => tups b xs (I.base.tups b xs e), fun b o xs e => frzs b o xs (I.base.frzs b o xs e), fun b ps e => ?_⟩, ?_, fun x c e => ?_, ?_, fun x c e => ?_, fun p hp => ?_, hok, I.len⟩
  · exact keep b o (neL b o e) hb (neC b o e hx) (I.base.keep b o e n hb hx) (I.base.free b o e n hx)
  · obtain ⟨sl, e1⟩ := I.base.slot b o e n hb hx
    obtain ⟨sl', e2⟩ := slot b _ (neL b o e) hb (neC b o e hx) e1 (I.base.free b o e n hx)
    exact ⟨sl', e2⟩
  · obtain ⟨o', e1⟩ := I.base.there b o e hx
    exact free b o' (neC b o e hx) e1 (I.base.free b o e n hx)
  · obtain ⟨o', e1⟩ := I.base.there b o e hx
    exact there b o' (neC b o e hx) e1
  · obtain ⟨m1, e1⟩ := I.base.tbls b ps e
    obtain ⟨m2, e2⟩ := tbls b _ e1
    exact ⟨m1 ++ m2, by rw [e2, Array.append_assoc]⟩
  · obtain ⟨m, hn, hl⟩ := I.loc
    refine ⟨m, ns m hn, fun i x v e1 e2 e3 => ?_⟩
    obtain ⟨u, r, l⟩ := hl i x v e1 e2 e3
    refine ⟨u, r, ?_⟩
    rcases l with l | ⟨k, c, e, z⟩
    · exact .inl l
    · exact .inr ⟨k, c, e, cellK x c e _ z⟩
  · obtain ⟨v, z⟩ := I.cell x c e
    exact ⟨v, cellK x c e v z⟩
  · obtain ⟨m, ⟨o, _, _, ho, _⟩, _⟩ := I.loc
    exact free _ o (fun z => (hch _ z).2.1 rfl) ho I.free
  · obtain ⟨v, o, ho, hd⟩ := I.cell x c e
    exact free c o (fun z => (hch c z).2.2.1 x c e rfl) ho (I.freeC x c e)
  · obtain ⟨e, n, ne, nf, d⟩ := I.pin p hp
    have nch : p.1 ∉ ch := fun z => (hch p.1 z).2.2.2 p hp rfl
    exact ⟨keep p.1 p.2 ne nf nch e n, free p.1 p.2 nch e n, ne, nf, d⟩
theorem Inv.un {t' : Nat} (I : Inv X pins σ H s) (u : Un X.fs [] H H' s.heap h') (hok : HOk X.prog X.w H' h') : Inv X pins σ H' { s with heap := h', toks := t' } := by
  obtain ⟨m, ⟨o, es, ep, ho, r⟩, _⟩ := id I.loc
  obtain ⟨sl, hL⟩ := u.any ho I.free (by simp)
  exact I.step (g' := s.gens) (d' := s.drawn) (ch := []) (fun _ z => nomatch z) (fun b o _ hb _ e n => u.keep b o e n hb (by simp)) (fun b o _ hb _ e n => u.slot b o e n hb (by simp)) (fun b o _ e n => u.free b o e n (by simp)) (fun b o _ e => u.there b o e (by simp)) u.tups u.frzs u.tbls (fun m' hm => by
    obtain ⟨o', es', ep', ho', r'⟩ := hm
    rw [ho] at ho'; cases ho'
    exact ⟨_, es', ep', hL, r'⟩) hok I.bare
theorem Inv.call {g' : Array GenState} {t' : Nat} {d' : Drawn} {ch : List Addr} (I : Inv X pins σ H s) (u : Un (frs X.stack) ch H H' s.heap h') (hok : HOk X.prog X.w H' h') (hg : AllBare g')
    (hch : ∀ b ∈ ch, (b ∈ X.ex ∨ X.s₀.heap.objs.size ≤ b) ∧ b ≠ X.env.locals ∧ (∀ x c, X.env.cells.lookup x = some c → c ≠ b) ∧ ∀ p ∈ X.pn ++ pins, p.1 ≠ b) :
    Inv X pins σ H' { s with heap := h', gens := g', drawn := d', toks := t' } := by
  obtain ⟨m, ⟨o, es, ep, ho, r⟩, _⟩ := id I.loc
  obtain ⟨sl, hL⟩ := u.any ho I.free fun z => (hch _ z).2.1 rfl
  exact I.step (ch := ch) hch (fun b o hL hb hc e n => u.keep b o e n (fun z => (List.mem_cons.mp (I.stkSub b z)).elim hL hb) hc) (fun b o _ _ hc e n => u.any e n hc) (fun b o hc e n => u.free b o e n hc) (fun b o hc e => u.there b o e hc) u.tups u.frzs u.tbls (fun m' hm => by
    obtain ⟨o', es', ep', ho', r'⟩ := hm
    rw [ho] at ho'; cases ho'
    exact ⟨_, es', ep', hL, r'⟩) hok hg
theorem Inv.turned {t' : Nat} {it : Addr} (I : Inv X pins σ H s) (k : ∀ b o, b ≠ it → s.heap.get? b = some o → h'.get? b = some o) (hn : H it = none) (hL : it ≠ X.env.locals)
    (h1 : it ∈ X.ex ∨ X.s₀.heap.objs.size ≤ it) (h2 : ∀ x c, X.env.cells.lookup x = some c → c ≠ it) (h3 : ∀ p ∈ X.pn ++ pins, p.1 ≠ it) : Inv X pins σ H { s with heap := h', toks := t' } := by
  have nit : ∀ b u, H b = some u → b ≠ it := fun b u e z => by rw [z, hn] at e; cases e
  refine I.step (g' := s.gens) (d' := s.drawn) (ch := [it]) (fun b hb => ?_) (fun b o _ _ hc e _ => k b o (fun z => hc (by simp [z])) e) (fun b o _ _ hc e _ => ⟨o.slots, k b o (fun z => hc (by simp [z])) e⟩) (fun _ _ _ _ n => n)
    (fun b o hc e => ⟨o, k b o (fun z => hc (by simp [z])) e⟩) (fun _ _ e => e) (fun _ _ _ e => e) (fun b ps e => ⟨#[], by rw [e]; simp⟩) (fun m hm => ?_) (fun b u e => ?_) I.bare
  · have e : b = it := by simpa using hb
    subst e
    exact ⟨h1, hL, h2, h3⟩
  · obtain ⟨o, es, ep, ho, r⟩ := hm
    exact ⟨o, es, ep, k _ o (Ne.symm hL) ho, r⟩
  · refine (I.hok b u e).stay (fun c v hc q => k c v ?_ q) (fun _ q => q) fun _ _ q => q
    rcases hc with z | z
    · rw [z]; exact nit b u e
    · exact nit c _ z
theorem Inv.tok (I : Inv X pins σ H s) (t : Nat) : Inv X pins σ H { s with toks := t } := I.un (h' := s.heap) (t' := t) Un.refl I.hok
theorem Inv.kept {t' : Nat} (I : Inv X pins σ H s) (k : ∀ b u, s.heap.get? b = some u → h'.get? b = some u) : Inv X pins σ H { s with heap := h', toks := t' } := I.un (Un.kept k) (I.hok.kept k)
theorem Inv.laid {a : Addr} {o : HO} {t' : Nat} (I : Inv X pins σ H s) (k : ∀ b u, s.heap.get? b = some u → h'.get? b = some u) (hp : s.heap.objs.size ≤ a) (new : ObjOk X.prog X.w (upd H a o) h' a o) :
    Inv X pins σ (upd H a o) { s with heap := h', toks := t' } := I.un (Un.laid k hp (I.hok.fresh hp)) (I.hok.laid k hp new)
theorem Inv.write {x e : Addr} {o : HO} {t' : Nat} (I : Inv X pins σ H s) (mu : Mut (H x)) (he : e = x ∨ H e = some (.own x)) (k : ∀ b u, b ≠ e → s.heap.get? b = some u → h'.get? b = some u) (heo : ∃ u, h'.get? e = some u)
    (new : ObjOk X.prog X.w (upd H x o) h' x o) : Inv X pins σ (upd H x o) { s with heap := h', toks := t' } := I.un (Un.write mu he k heo) (I.hok.write mu he k heo new)
theorem Inv.pins_of {pins' : List (Addr × Obj)} (I : Inv X pins σ H s) (h : ∀ p ∈ pins', s.heap.get? p.1 = some p.2 ∧ H p.1 = none ∧ p.1 ≠ X.env.locals ∧ p.1 ∉ X.fs ∧ ∀ v, p.2.data ≠ .cell v) : Inv X pins' σ H s :=
  ⟨I.ok, I.os, I.bare, I.base, I.loc, I.cell, I.free, I.freeC, fun p hp => (List.mem_append.mp hp).elim (fun z => I.pin p (List.mem_append_left _ z)) (h p), I.hok, I.len⟩
theorem nodup_ix {N : List Str} (hN : N.Nodup) {i j : Nat} {x : Str} (a : N[i]? = some x) (b : N[j]? = some x) : i = j := by
  obtain ⟨h1, e1⟩ := List.getElem?_eq_some_iff.mp a
  obtain ⟨h2, e2⟩ := List.getElem?_eq_some_iff.mp b
  exact (List.getElem_inj hN).mp (e1.trans e2.symm)
theorem store_ok2 {M : Model} {A : Around} {E : Value → Shared → Prop} {i : Nat} {x : Str} {v : V} {u : Value} {Q : Unit → Shared → Prop} (I : Inv X pins σ H s) (hN : X.N.Nodup) (hi : X.N[i]? = some x) (hx : Loc X.env.scope x) (r : RelV v u)
    (h : ∀ s', Inv X pins (σ.set i (some v)) H s' → (∃ a, Heap.SameBut a s.heap s'.heap ∧ (a = X.env.locals ∨ X.env.cells.lookup x = some a)) → Q () s') (hf : X.fn x = true ∨ X.env.scope.names.lookup x = some .local := by first | exact .inl rfl | exact .inr rfl | assumption) : wpAny M A (storeName X.env x u) Q E s := by
  obtain ⟨m, hn, hl⟩ := id I.loc
  have hcls : (X.env.scope.kind == .class || (X.env.scope.kind == .module && X.env.locals != X.env.globals)) = false := by rw [I.ok.kind]; rfl
  have hiσ : i < σ.length := by rw [I.len]; exact (List.getElem?_eq_some_iff.mp hi).1
  have cne := I.cne
  have tracked : ∀ {a : Addr} {h' : Heap}, (∃ o, s.heap.get? a = some o ∧ H a = none) → Heap.SameBut a s.heap h' → HOk X.prog X.w H h' := fun {a h'} ha hs b ob e => by
    obtain ⟨_, _, hfree⟩ := ha
    refine (I.hok b ob e).stay (fun c w' hc q => (hs.2 c ?_).trans q) (fun _ q => q) fun _ _ q => q
    rintro rfl
    rcases hc with rfl | hc
    · rw [hfree] at e; cases e
    · rw [hfree] at hc; cases hc
  rcases hx with hk | hk
  · refine wpAny_storeName_local hk hn (fun h' hn' hs => ?_) hcls
    obtain ⟨oL, _, _, hoL, _⟩ := id hn
    refine h _ ⟨I.ok, I.os, I.bare, ⟨fun b o e n hb hx => ?_, fun b o e n hb hx => ?_, I.base.free, fun b o e hx => ?_, I.base.tups, I.base.frzs, I.base.tbls⟩, ⟨_, hn', fun j y v' e1 e2 e3 => ?_⟩, fun y c e => ?_, I.free, I.freeC, fun p hp => ?_, tracked ⟨oL, hoL, I.free⟩ hs, by simpa using I.len⟩ ⟨_, hs, .inl rfl⟩
    · exact (hs.2 b (Nat.ne_of_lt (Nat.lt_of_lt_of_le (Heap.lt_size e) I.ok.above))).trans (I.base.keep b o e n hb hx)
    · obtain ⟨sl, e1⟩ := I.base.slot b o e n hb hx
      exact ⟨sl, (hs.2 b (Nat.ne_of_lt (Nat.lt_of_lt_of_le (Heap.lt_size e) I.ok.above))).trans e1⟩
    · obtain ⟨o', e1⟩ := I.base.there b o e hx
      exact ⟨o', (hs.2 b (Nat.ne_of_lt (Nat.lt_of_lt_of_le (Heap.lt_size e) I.ok.above))).trans e1⟩
    · by_cases hj : j = i
      · subst hj
        rw [hi] at e1; cases e1
        rw [List.getElem?_set_self hiσ] at e2
        cases e2
        exact ⟨u, r, .inl ⟨hk, by simp⟩⟩
      · rw [List.getElem?_set_ne (Ne.symm hj)] at e2
        obtain ⟨u', r', q⟩ := hl j y v' e1 e2 e3
        refine ⟨u', r', ?_⟩
        rcases q with ⟨k, e⟩ | ⟨k, c, e, z⟩
        · refine .inl ⟨k, ?_⟩
          have : y ≠ x := fun e => hj (nodup_ix hN e1 (e ▸ hi))
          simp [this, e]
        · exact .inr ⟨k, c, e, z.sameBut hs (cne y c e)⟩
    · obtain ⟨w', z⟩ := I.cell y c e
      exact ⟨w', z.sameBut hs (cne y c e)⟩
    · obtain ⟨e, n, ne, nf, d⟩ := I.pin p hp
      exact ⟨(hs.2 p.1 ne).trans e, n, ne, nf, d⟩
  · have hfn : X.fn x = true := by
      rcases hf with z | z
      · exact z
      · rw [z] at hk; cases hk
    obtain ⟨c, hc⟩ := I.ok.has x (.inl hk)
    obtain ⟨w', z⟩ := I.cell x c hc
    refine wpAny_storeName_cell I.ok.kind hk hc z (fun h' hc' hs => ?_)
    obtain ⟨oc, hoc, hocd⟩ := id z
    refine h { s with heap := h' } ⟨I.ok, I.os, I.bare, ⟨fun b o e n hb hx => ?_, fun b o e n hb hx => ?_, I.base.free, fun b o e hx => ?_, I.base.tups, I.base.frzs, I.base.tbls⟩, ⟨m, hn.sameBut hs (Ne.symm (cne x c hc)), fun j y v' e1 e2 e3 => ?_⟩, fun y c' e => ?_, I.free, I.freeC, fun p hp => ?_, tracked ⟨oc, hoc, I.freeC x c hc⟩ hs, by simpa using I.len⟩ ⟨c, hs, .inr hc⟩
    · exact (hs.2 b (Nat.ne_of_lt (Nat.lt_of_lt_of_le (Heap.lt_size e) (I.ok.cab x c hfn hc)))).trans (I.base.keep b o e n hb hx)
    · obtain ⟨sl, e1⟩ := I.base.slot b o e n hb hx
      exact ⟨sl, (hs.2 b (Nat.ne_of_lt (Nat.lt_of_lt_of_le (Heap.lt_size e) (I.ok.cab x c hfn hc)))).trans e1⟩
    · obtain ⟨o', e1⟩ := I.base.there b o e hx
      exact ⟨o', (hs.2 b (Nat.ne_of_lt (Nat.lt_of_lt_of_le (Heap.lt_size e) (I.ok.cab x c hfn hc)))).trans e1⟩
    · by_cases hj : j = i
      · subst hj
        rw [hi] at e1; cases e1
        rw [List.getElem?_set_self hiσ] at e2
        cases e2
        exact ⟨u, r, .inr ⟨.inl hk, c, hc, hc'⟩⟩
      · rw [List.getElem?_set_ne (Ne.symm hj)] at e2
        obtain ⟨u', r', q⟩ := hl j y v' e1 e2 e3
        refine ⟨u', r', ?_⟩
        rcases q with q | ⟨k, c', e, z'⟩
        · exact .inl q
        · refine .inr ⟨k, c', e, z'.sameBut hs ?_⟩
          rintro rfl
          exact hj (nodup_ix hN e1 (I.ok.inj _ _ _ e hc ▸ hi))
    · by_cases hcc : c' = c
      · subst hcc; exact ⟨_, hc'⟩
      · obtain ⟨w2, z2⟩ := I.cell y c' e
        exact ⟨w2, z2.sameBut hs hcc⟩
    · obtain ⟨e, n, ne, nf, d⟩ := I.pin p hp
      refine ⟨(hs.2 p.1 ?_).trans e, n, ne, nf, d⟩
      intro q
      rw [q, hoc] at e
      have q' : oc = p.2 := Option.some.inj e
      exact d w' (by rw [← q']; exact hocd)
theorem store_ok {M : Model} {A : Around} {E : Value → Shared → Prop} {i : Nat} {x : Str} {v : V} {u : Value} {Q : Unit → Shared → Prop} (I : Inv X pins σ H s) (hN : X.N.Nodup) (hi : X.N[i]? = some x) (hx : Loc X.env.scope x) (r : RelV v u)
    (h : ∀ s', Inv X pins (σ.set i (some v)) H s' → Q () s') (hf : X.fn x = true ∨ X.env.scope.names.lookup x = some .local := by first | exact .inl rfl | exact .inr rfl | assumption) : wpAny M A (storeName X.env x u) Q E s :=
  store_ok2 I hN hi hx r (fun s' I' _ => h s' I') hf
theorem Inv.call' {s' : Shared} {ch : List Addr} (I : Inv X pins σ H s) (ho : s'.os = s.os) (u : Un (frs X.stack) ch H H' s.heap s'.heap) (hok : HOk X.prog X.w H' s'.heap) (hg : AllBare s'.gens)
    (hch : ∀ b ∈ ch, (b ∈ X.ex ∨ X.s₀.heap.objs.size ≤ b) ∧ b ≠ X.env.locals ∧ (∀ x c, X.env.cells.lookup x = some c → c ≠ b) ∧ ∀ p ∈ X.pn ++ pins, p.1 ≠ b) : Inv X pins σ H' s' := by
  obtain ⟨h', g', d', t', o'⟩ := s'
  have e : o' = s.os := ho
  subst e
  exact I.call (g' := g') (t' := t') (d' := d') u hok hg hch
end
abbrev XK := Value → Option Addr → Hp → Prop
abbrev St := List (Option V)
abbrev VK := V → Hp → Prop
abbrev TE := St → Hp → VK → Prop
abbrev TT := St → Hp → (Bool → Hp → Prop) → Prop
abbrev TA := St → Hp → (List V → Hp → Prop) → Prop
/- what is wanted behind a statement -/
set_option genInjectivity false in
set_option genSizeOfSpec false in
set_option genSizeOf false in
structure Ends where
  nx : St → Hp → Prop
  rt : VK
  bk : St → Hp → Prop := fun _ _ => False
  ct : St → Hp → Prop := fun _ _ => False
abbrev TS := Ends → St → Hp → Prop
def EP (X : Cx) (pins : List (Addr × Obj)) (σ : St) (Q : VK) (u : Value) (s' : Shared) : Prop := ∃ v H', Inv X pins σ H' s' ∧ RelV v u ∧ Q v H'
def TP (X : Cx) (pins : List (Addr × Obj)) (σ : St) (Q : Bool → Hp → Prop) (b : Bool) (s' : Shared) : Prop := ∃ H', Inv X pins σ H' s' ∧ Q b H'
def AP (X : Cx) (pins : List (Addr × Obj)) (σ : St) (Q : List V → Hp → Prop) (us : List Value) (s' : Shared) : Prop := ∃ vs H', Inv X pins σ H' s' ∧ Vals vs us ∧ Q vs H'
def SP (X : Cx) (pins : List (Addr × Obj)) (D : Ends) (f : Flow) (s' : Shared) : Prop :=
  match f with
  | .next => ∃ σ' H', Inv X pins σ' H' s' ∧ D.nx σ' H'
  | .brk => ∃ σ' H', Inv X pins σ' H' s' ∧ D.bk σ' H'
  | .cont => ∃ σ' H', Inv X pins σ' H' s' ∧ D.ct σ' H'
  | .ret u => ∃ v σ' H', Inv X pins σ' H' s' ∧ RelV v u ∧ D.rt v H'
@[irreducible] def PE (X : Cx) (e : Expr) (t : TE) : Prop :=
  ∀ (pins : List (Addr × Obj)) (s : Shared) (σ : St) (H : Hp) (Q : VK), Inv X pins σ H s → t σ H Q → wpAny (model X.prog X.w) X.A (eval e X.env) (EP X pins σ Q) X.xe s
@[irreducible] def PT (X : Cx) (e : Expr) (t : TT) : Prop :=
  ∀ (pins : List (Addr × Obj)) (s : Shared) (σ : St) (H : Hp) (Q : Bool → Hp → Prop), Inv X pins σ H s → t σ H Q → wpAny (model X.prog X.w) X.A (isTrue e X.env (eval e X.env)) (TP X pins σ Q) X.xe s
@[irreducible] def PW (X : Cx) (e : Expr) (t : TT) : Prop :=
  ∀ (whole : Sem Value) (pins : List (Addr × Obj)) (s : Shared) (σ : St) (H : Hp) (Q : Bool → Hp → Prop), Inv X pins σ H s → t σ H Q → wpAny (model X.prog X.w) X.A (isTrue e X.env whole) (TP X pins σ Q) X.xe s
theorem PW.pt {X : Cx} {e : Expr} {t : TT} (h : PW X e t) : PT X e t := by
  first
  | exact (h _)
  | (unfold PT at *; unfold PW at *; exact (h _))
@[irreducible] def PA (X : Cx) (es : List Expr) (t : TA) : Prop :=
  ∀ (pos : Pos) (pins : List (Addr × Obj)) (s : Shared) (σ : St) (H : Hp) (Q : List V → Hp → Prop), Inv X pins σ H s → t σ H Q → wpAny (model X.prog X.w) X.A (spliced (backTo pos (starEach es X.env))) (AP X pins σ Q) X.xe s
@[irreducible] def PS (X : Cx) (st : Stmt) (t : TS) : Prop :=
  ∀ (pins : List (Addr × Obj)) (s : Shared) (σ : St) (H : Hp) (D : Ends), Inv X pins σ H s → t D σ H → wpAny (model X.prog X.w) X.A (exec st X.env) (SP X pins D) X.xe s
@[irreducible] def PSs (X : Cx) (st : List Stmt) (t : TS) : Prop :=
  ∀ (pins : List (Addr × Obj)) (s : Shared) (σ : St) (H : Hp) (D : Ends), Inv X pins σ H s → t D σ H → wpAny (model X.prog X.w) X.A (execs st X.env) (SP X pins D) X.xe s
theorem thn {α : Type} {t : Sem α} {Q Q' : α → Shared → Prop} {M : Model} {A : Around} {E : Value → Shared → Prop} {s : Shared} (h : wpAny M A t Q E s) (hQ : ∀ a s, Q a s → Q' a s) : wpAny M A t Q' E s := wpAny_mono h hQ fun _ _ x => x
end L2
namespace L2
open PySem PySem.Spec PyProof.Rows
section
variable {X : Cx}
def tVar (i : Nat) : TE := fun σ H Q => ∃ v, σ[i]? = some (some v) ∧ Q v H
def tC (v : V) : TE := fun _ H Q => Q v H
theorem pe_var {i : Nat} {x : Str} {pos : Pos} (hN : X.N[i]? = some x) (hv : Vis X.env.scope x) (hd : (x == ("__debug__" : Str)) = false := by decide) (hcd : (x == ("__classdict__" : Str)) = false := by decide) : PE X (.Name x pos) (tVar i) := by
  unfold PE at *
  exact by
    intro pins s σ H Q I h
    obtain ⟨v, e, h⟩ := h
    obtain ⟨m, hn, hl⟩ := I.loc
    obtain ⟨u, r, l⟩ := hl i x v hN e hv
    have fin : EP X pins σ Q u s := ⟨v, H, I, r, h⟩
    rcases l with ⟨hk, hm⟩ | ⟨hk, c, hc, hcell⟩
    · exact wpAny_Name (wpAny_loadName_local I.ok.kind hk hn hm fin) hd
    · rcases hk with hk | hk
      · exact wpAny_Name (wpAny_loadName_cell I.ok.kind hk hc hcell fin) hd
      · exact wpAny_Name (wpAny_loadName_free I.ok.kind hk hc hcell fin hcd) hd
theorem pe_int {i j pos} : PE X (.Constant (.int i) j pos) (tC (.int i)) := by
  first
  | exact (fun _ _ _ H _ I h => wpAny_Constant_int ⟨.int i, H, I.tok _, ⟨_, rfl⟩, h⟩)
  | (unfold PE at *; exact (fun _ _ _ H _ I h => wpAny_Constant_int ⟨.int i, H, I.tok _, ⟨_, rfl⟩, h⟩))
theorem pe_bl {b j pos} : PE X (.Constant (.bool b) j pos) (tC (.bl b)) := by
  first
  | exact (fun _ _ _ H _ I h => Constant_bool ⟨.bl b, H, I, rfl, h⟩)
  | (unfold PE at *; exact (fun _ _ _ H _ I h => Constant_bool ⟨.bl b, H, I, rfl, h⟩))
theorem pe_non {j pos} : PE X (.Constant .none j pos) (tC .non) := by
  first
  | exact (fun _ _ _ H _ I h => Constant_none ⟨.non, H, I, rfl, h⟩)
  | (unfold PE at *; exact (fun _ _ _ H _ I h => Constant_none ⟨.non, H, I, rfl, h⟩))
theorem pe_str {x j pos} : PE X (.Constant (.str x) j pos) (tC (.str x)) := by
  first
  | exact (fun _ _ _ H _ I h => Calls.Constant_str ⟨.str x, H, I.tok _, ⟨_, rfl⟩, h⟩)
  | (unfold PE at *; exact (fun _ _ _ H _ I h => Calls.Constant_str ⟨.str x, H, I.tok _, ⟨_, rfl⟩, h⟩))
def Gl (X : Cx) (x : Str) : Prop := X.env.kindOf x = some .globalImplicit
theorem ld_glob {E : Value → Shared → Prop} {pins : List (Addr × Obj)} {s : Shared} {σ : St} {H : Hp} {x : Str} {u : Value} {pos : Pos} {Q : Value → Shared → Prop} (I : Inv X pins σ H s) (hg : Gl X x) (hm : X.mg x = some u) (h : Q u s)
    (hd : (x == ("__debug__" : Str)) = false := by decide) : wpAny (model X.prog X.w) X.A (eval (.Name x pos) X.env) Q E s :=
  Calls.Name_function_global I.ok.kind hg (Calls.loadGlobal_global (by rw [I.ok.glob]; exact I.mod.glob.keeps I.bk) hm h) hd
theorem ld_blt {E : Value → Shared → Prop} {pins : List (Addr × Obj)} {s : Shared} {σ : St} {H : Hp} {x : Str} {u : Value} {pos : Pos} {Q : Value → Shared → Prop} (I : Inv X pins σ H s) (hg : Gl X x) (hm : X.mg x = none) (hv : bootBuiltins x = some u) (h : Q u s)
    (hn : x ≠ "__name__" := by decide) (hd : (x == ("__debug__" : Str)) = false := by decide) : wpAny (model X.prog X.w) X.A (eval (.Name x pos) X.env) Q E s := by
  obtain ⟨mb, h1, h2⟩ := I.mod.blt
  exact Calls.Name_function_global I.ok.kind hg (Calls.loadGlobal_builtin (by rw [I.ok.glob]; exact I.mod.glob.keeps I.bk) hm (by rw [I.ok.blt]; exact h1.keeps I.bk) ((h2 x hn).trans hv) h) hd
theorem pe_glob {x : Str} {v : V} {u : Value} {pos : Pos} (hg : Gl X x) (hm : X.mg x = some u) (r : RelV v u) (hd : (x == ("__debug__" : Str)) = false := by decide) : PE X (.Name x pos) (tC v) := by
  first
  | exact (fun _ _ _ H _ I h => ld_glob I hg hm ⟨v, H, I, r, h⟩ hd)
  | (unfold PE at *; exact (fun _ _ _ H _ I h => ld_glob I hg hm ⟨v, H, I, r, h⟩ hd))
theorem pe_bltn {x : Str} {v : V} {u : Value} {pos : Pos} (hg : Gl X x) (hm : X.mg x = none) (hv : bootBuiltins x = some u) (r : RelV v u) (hn : x ≠ "__name__" := by decide) (hd : (x == ("__debug__" : Str)) = false := by decide) : PE X (.Name x pos) (tC v) := by
  first
  | exact (fun _ _ _ H _ I h => ld_blt I hg hm hv ⟨v, H, I, r, h⟩ hn hd)
  | (unfold PE at *; exact (fun _ _ _ H _ I h => ld_blt I hg hm hv ⟨v, H, I, r, h⟩ hn hd))
variable {a b : Expr} {ta tb : TE} {pos : Pos}
@[irreducible] def PC (X : Cx) (op : CmpOp) (a b : Expr) (t : TE) : Prop :=
  ∀ (pins : List (Addr × Obj)) (s : Shared) (σ : St) (H : Hp) (Q : VK), Inv X pins σ H s → t σ H Q →
    wpAny (model X.prog X.w) X.A (eval a X.env) (fun v s₁ => wpAny (model X.prog X.w) X.A (eval b X.env) (fun u s₂ => wpAny (model X.prog X.w) X.A (compareOp op v u) (EP X pins σ Q) X.xe s₂) X.xe s₁) X.xe s
theorem nobehind (b : Expr) {op : CmpOp} (h : op ≠ .In) (h2 : op ≠ .NotIn) : behindInMarks op b = false := by
  have e1 : (op == CmpOp.In) = false := by cases op <;> first | rfl | exact absurd rfl h
  have e2 : (op == CmpOp.NotIn) = false := by cases op <;> first | rfl | exact absurd rfl h2
  cases b <;> simp [behindInMarks, e1, e2]
def tIsN (ta : TE) : TE := fun σ H Q => ta σ H fun x H1 => Q (.bl (decide (x = .non))) H1
theorem RelV.none_iff {x : V} {v : Value} (r : RelV x v) : (v == Value.none) = decide (x = .non) := by
  cases x with
  | non => cases r; rfl
  | bl _ => cases r; rfl
  | int _ => obtain ⟨t, rfl⟩ := r; rfl
  | str _ => obtain ⟨t, rfl⟩ := r; rfl
  | byt _ => obtain ⟨t, rfl⟩ := r; rfl
  | flt _ => obtain ⟨t, rfl⟩ := r; rfl
  | ref _ => cases r; rfl
  | ty _ => cases r; rfl
theorem pc_isN {j pos'} (ha : PE X a ta) : PC X .Is a (.Constant .none j pos') (tIsN ta) := by
  unfold PE at *; unfold PC at *
  exact by
    intro pins s σ H Q I h
    refine thn (ha pins s σ H _ I h) fun v s1 ⟨x, H1, I1, r1, q1⟩ => ?_
    exact Constant_none (is_none_gen ⟨.bl _, H1, I1, by rw [r1.none_iff]; rfl, q1⟩)
def tB (t : TE) : TT := fun σ H Q => t σ H fun x H1 => ∃ c, x = .bl c ∧ Q c H1
theorem pt_cmp {op : CmpOp} {t : TE} (h : PC X op a b t) (h1 : behindInMarks op b = false := by first | exact nobehind _ (by decide) (by decide) | rfl) : PT X (.Compare a [op] [b] pos) (tB t) := by
  unfold PT at *; unfold PC at *
  exact by
    intro pins s σ H Q I hw
    refine wpAny_isTrue_Compare1 (thn (h pins s σ H _ I hw) fun v s1 h1 => thn h1 fun u s2 h2 => thn h2 fun c s3 ⟨x, H1, I1, r1, q1⟩ => ?_) h1
    obtain ⟨d, rfl, q⟩ := q1
    cases r1
    exact wpAny_truthy_bool ⟨H1, I1, q⟩
theorem pt_val {e : Expr} {t : TE} (h : PE X e t) (he : ∀ whole, isTrue e X.env whole = (do let v ← whole; standAt e.pos; holding [v] (truthy v)) := by intro _; rfl) : PT X e (tB t) := by
  unfold PE at *; unfold PT at *
  exact by
    intro pins s σ H Q I hw
    refine isTrue_plain (thn (h pins s σ H _ I hw) fun v s1 ⟨x, H1, I1, r1, q1⟩ => ?_) (he _)
    obtain ⟨d, rfl, q⟩ := q1
    cases r1
    exact wpAny_truthy_bool ⟨H1, I1, q⟩
variable {tA tB' : TT} {rest : List Expr}
def tAnd (t u : TT) : TT := fun σ H Q => t σ H fun c H1 => if c = true then u σ H1 Q else Q false H1
def tOr (t u : TT) : TT := fun σ H Q => t σ H fun c H1 => if c = true then Q true H1 else u σ H1 Q
def tNot (t : TT) : TT := fun σ H Q => t σ H fun c H1 => Q (!c) H1
theorem pw_and1 (ha : PT X a tA) : PW X (.BoolOp .And [a] pos) tA := by
  unfold PT at *; unfold PW at *
  exact by
    intro wh pins s σ H Q I h
    refine isTrue_and (thn (ha pins s σ H Q I h) fun c s1 e => ?_)
    cases c with
    | true => exact isTrue_and_nil e
    | false => exact e
theorem pw_or1 (ha : PT X a tA) : PW X (.BoolOp .Or [a] pos) tA := by
  unfold PT at *; unfold PW at *
  exact by
    intro wh pins s σ H Q I h
    refine isTrue_or (thn (ha pins s σ H Q I h) fun c s1 e => ?_)
    cases c with
    | false => exact isTrue_or_nil e
    | true => exact e
theorem pw_and (ha : PT X a tA) (hb : PW X (.BoolOp .And (b :: rest) pos) tB') : PW X (.BoolOp .And (a :: b :: rest) pos) (tAnd tA tB') := by
  unfold PT at *; unfold PW at *
  exact by
    intro wh pins s σ H Q I h
    refine isTrue_and (thn (ha pins s σ H _ I h) fun c s1 ⟨H1, I1, q1⟩ => ?_)
    cases c with
    | true => exact hb wh pins s1 σ H1 Q I1 q1
    | false => exact ⟨H1, I1, q1⟩
theorem pw_or (ha : PT X a tA) (hb : PW X (.BoolOp .Or (b :: rest) pos) tB') : PW X (.BoolOp .Or (a :: b :: rest) pos) (tOr tA tB') := by
  unfold PT at *; unfold PW at *
  exact by
    intro wh pins s σ H Q I h
    refine isTrue_or (thn (ha pins s σ H _ I h) fun c s1 ⟨H1, I1, q1⟩ => ?_)
    cases c with
    | true => exact ⟨H1, I1, q1⟩
    | false => exact hb wh pins s1 σ H1 Q I1 q1
theorem pt_not (ha : PT X a tA) : PT X (.UnaryOp .Not a pos) (tNot tA) := by
  unfold PT at *
  exact by
    intro pins s σ H Q I h
    exact isTrue_not (ha pins s σ H (fun c H1 => Q (!c) H1) I h)
def tAndV (ta tb : TE) : TE := fun σ H Q => ta σ H fun x H1 => ∃ c, x = .bl c ∧ if c = true then tb σ H1 Q else Q (.bl false) H1
def tNotV (ta : TE) : TE := fun σ H Q => ta σ H fun x H1 => ∃ c, x = .bl c ∧ Q (.bl (!c)) H1
theorem pe_one {op} {t : TE} (h : PE X a t) : PE X (.BoolOp op [a] pos) t := by
  first
  | exact (fun pins s σ H Q I hw => BoolOp_one (h pins s σ H Q I hw))
  | (unfold PE at *; exact (fun pins s σ H Q I hw => BoolOp_one (h pins s σ H Q I hw)))
theorem pe_and (ha : PE X a ta) (hb : PE X (.BoolOp .And (b :: rest) pos) tb) : PE X (.BoolOp .And (a :: b :: rest) pos) (tAndV ta tb) := by
  unfold PE at *
  exact by
    intro pins s σ H Q I h
    refine BoolOp_and (thn (ha pins s σ H _ I h) fun v s1 ⟨x, H1, I1, r1, q1⟩ => ?_)
    obtain ⟨c, rfl, q1⟩ := q1
    cases r1
    refine wpAny_truthy_bool ?_
    cases c with
    | true => exact hb pins s1 σ H1 Q I1 q1
    | false => exact ⟨.bl false, H1, I1, rfl, q1⟩
theorem pe_not (ha : PE X a ta) : PE X (.UnaryOp .Not a pos) (tNotV ta) := by
  unfold PE at *
  exact by
    intro pins s σ H Q I h
    refine UnaryOp_ (thn (ha pins s σ H _ I h) fun v s1 ⟨x, H1, I1, r1, q1⟩ => ?_)
    obtain ⟨c, rfl, q1⟩ := q1
    cases r1
    exact not_of (wpAny_truthy_bool ⟨.bl (!c), H1, I1, rfl, q1⟩)
end
end L2
namespace L2
open PySem PySem.Spec PyProof.Rows
def SqL (K : PySem.W.Frag) (H : Hp) (a : Addr) (xs : List V) : Prop :=
  Rd H a (.lst xs) ∨
    ∃ (o : Obj) (its : Array Value) (n : Nat), K.lookup a = some o ∧ o.cls = .type "list" ∧ o.dict = none ∧ o.data = .seq its n ∧ its.size ≤ sizeLine ∧ Vals xs its.toList
def SqT (K : PySem.W.Frag) (H : Hp) (a : Addr) (xs : List V) : Prop :=
  Rd H a (.tup xs) ∨
    ∃ (o : Obj) (its : Array Value) (n : Nat), K.lookup a = some o ∧ o.cls = .type "tuple" ∧ o.data = .seq its n ∧ its.size ≤ sizeLine ∧ Vals xs its.toList
def absV : Value → Option V
  | .none => some .non
  | .bool b => some (.bl b)
  | .int i _ => some (.int i)
  | .str x _ => some (.str x)
  | .bytes b _ => some (.byt b)
  | .float b _ => some (.flt b)
  | .ref a => some (.ref a)
  | .type n => some (.ty n)
  | _ => none
theorem RelV.abs {x : V} {u : Value} (r : RelV x u) : absV u = some x := by
  cases x with
  | non => cases r; rfl
  | bl _ => cases r; rfl
  | int _ => obtain ⟨t, rfl⟩ := r; rfl
  | str _ => obtain ⟨t, rfl⟩ := r; rfl
  | byt _ => obtain ⟨t, rfl⟩ := r; rfl
  | flt _ => obtain ⟨t, rfl⟩ := r; rfl
  | ref _ => cases r; rfl
  | ty _ => cases r; rfl
theorem RelV.inj {x y : V} {u : Value} (r : RelV x u) (q : RelV y u) : x = y := Option.some.inj (r.abs.symm.trans q.abs)
theorem Vals.inj : ∀ {xs ys : List V} {us : List Value}, Vals xs us → Vals ys us → xs = ys
  | _, _, _, .nil, .nil => rfl
  | _, _, _, .cons r t, .cons r' t' => by rw [r.inj r', Vals.inj t t']
section
variable {X : Cx} {pins : List (Addr × Obj)} {σ : St} {H : Hp} {s : Shared} {a : Addr} {xs ys : List V}
theorem SqL.of {K : PySem.W.Frag} (h : H a = some (.lst xs)) : SqL K H a xs := .inl (.inl h)
theorem SqT.of {K : PySem.W.Frag} (h : H a = some (.tup xs)) : SqT K H a xs := .inl (.inl h)
theorem Inv.list (I : Inv X pins σ H s) (h : SqL X.K H a xs) : ∃ its : List Value, Vals xs its ∧ PlainL s.heap a its.toArray ∧ xs.length ≤ sizeLine := by
  rcases h with h | ⟨o, its, n, hk, hc, hd, hs, hz, r⟩
  · obtain ⟨z, its, n, r, e⟩ := h.ok I.hok
    exact ⟨its, r, ⟨_, n, e, rfl, rfl, rfl⟩, z⟩
  · refine ⟨its.toList, r, ⟨o, n, I.kIn a o hk, hc, hd, by simpa using hs⟩, ?_⟩
    have e := r.length
    simp only [Array.length_toList] at e
    omega
theorem Inv.tuple (I : Inv X pins σ H s) (h : SqT X.K H a xs) : ∃ its : List Value, Vals xs its ∧ IsTup s.heap a its.toArray ∧ xs.length ≤ sizeLine := by
  rcases h with h | ⟨o, its, n, hk, hc, hs, hz, r⟩
  · obtain ⟨z, its, r, p⟩ := h.ok I.hok
    exact ⟨its, r, p, z⟩
  · refine ⟨its.toList, r, ⟨o, I.kIn a o hk, hc, n, by simpa using hs⟩, ?_⟩
    have e := r.length
    simp only [Array.length_toList] at e
    omega
theorem Inv.list_inj (I : Inv X pins σ H s) (h : SqL X.K H a xs) (h' : SqL X.K H a ys) : xs = ys := by
  obtain ⟨its, r, ⟨o, n, e, _, _, d⟩, _⟩ := I.list h
  obtain ⟨its', r', ⟨o', n', e', _, _, d'⟩, _⟩ := I.list h'
  rw [e] at e'; cases e'
  rw [d] at d'
  injection d' with d1 _
  have : its = its' := by simpa using congrArg Array.toList d1
  subst this
  exact r.inj r'
theorem Inv.tuple_inj (I : Inv X pins σ H s) (h : SqT X.K H a xs) (h' : SqT X.K H a ys) : xs = ys := by
  obtain ⟨its, r, ⟨o, e, _, n, d⟩, _⟩ := I.tuple h
  obtain ⟨its', r', ⟨o', e', _, n', d'⟩, _⟩ := I.tuple h'
  rw [e] at e'; cases e'
  rw [d] at d'
  injection d' with d1 _
  have : its = its' := by simpa using congrArg Array.toList d1
  subst this
  exact r.inj r'
end
abbrev Cx.wish (X : Cx) (E : Value → Shared → Prop) : Cx := { X with xe := E }
abbrev Cx.nox (X : Cx) : Cx := X.wish fun _ _ => False
theorem Cx.Ok.wish {X : Cx} (ok : X.Ok) (E : Value → Shared → Prop) : (X.wish E).Ok :=
  ⟨ok.mod, ok.kind, ok.glob, ok.blt, ok.above, ok.inj, ok.has, ok.cab, ok.hd, ok.frames, ok.stk, ok.exf, ok.bs, ok.bsz, ok.noex, ok.exfs, ok.funs, ok.frf⟩
theorem Cx.Ok.unwish {X : Cx} {E : Value → Shared → Prop} (ok : (X.wish E).Ok) : X.Ok :=
  ⟨ok.mod, ok.kind, ok.glob, ok.blt, ok.above, ok.inj, ok.has, ok.cab, ok.hd, ok.frames, ok.stk, ok.exf, ok.bs, ok.bsz, ok.noex, ok.exfs, ok.funs, ok.frf⟩
section
variable {X : Cx} {pins : List (Addr × Obj)} {σ : St} {H : Hp} {s : Shared} {E : Value → Shared → Prop}
theorem Inv.wish (I : Inv X pins σ H s) (E : Value → Shared → Prop) : Inv (X.wish E) pins σ H s := ⟨I.ok.wish E, I.os, I.bare, I.base, I.loc, I.cell, I.free, I.freeC, I.pin, I.hok, I.len⟩
theorem Inv.unwish (I : Inv (X.wish E) pins σ H s) : Inv X pins σ H s := ⟨I.ok.unwish, I.os, I.bare, I.base, I.loc, I.cell, I.free, I.freeC, I.pin, I.hok, I.len⟩
theorem SP.unwish {D : Ends} {f : Flow} {s' : Shared} (h : SP (X.wish E) pins D f s') : SP X pins D f s' := by
  cases f with
  | next => obtain ⟨σ', H', I, q⟩ := h; exact ⟨σ', H', I.unwish, q⟩
  | brk => obtain ⟨σ', H', I, q⟩ := h; exact ⟨σ', H', I.unwish, q⟩
  | cont => obtain ⟨σ', H', I, q⟩ := h; exact ⟨σ', H', I.unwish, q⟩
  | ret u => obtain ⟨v, σ', H', I, r, q⟩ := h; exact ⟨v, σ', H', I.unwish, r, q⟩
theorem PE.nox {e : Expr} {t : TE} (h : PE X.nox e t) : PE X e t := by
  unfold PE at *
  exact (fun pins s σ H Q I hw =>
    wpAny_mono (h pins s σ H Q (I.wish _) hw) (fun _ _ ⟨v, H', I', r, q⟩ => ⟨v, H', I'.unwish, r, q⟩) fun _ _ z => False.elim z)
theorem PT.nox {e : Expr} {t : TT} (h : PT X.nox e t) : PT X e t := by
  unfold PT at *
  exact (fun pins s σ H Q I hw =>
    wpAny_mono (h pins s σ H Q (I.wish _) hw) (fun _ _ ⟨H', I', q⟩ => ⟨H', I'.unwish, q⟩) fun _ _ z => False.elim z)
theorem PSs.nox {st : List Stmt} {t : TS} (h : PSs X.nox st t) : PSs X st t := by
  unfold PSs at *
  exact (fun pins s σ H D I hw =>
    wpAny_mono (h pins s σ H D (I.wish _) hw) (fun _ _ q => q.unwish) fun _ _ z => False.elim z)
end
section
variable {X : Cx} {st : Stmt} {rest : List Stmt} {t u : TS} {e : Expr} {te : TE} {pos : Pos}
def tNext : TS := fun D σ H => D.nx σ H
def tSeq (t u : TS) : TS := fun D σ H => t { D with nx := u D } σ H
theorem pss_nil : PSs X [] tNext := by
  first
  | exact (fun _ _ σ H _ I h => wpAny_execs_nil ⟨σ, H, I, h⟩)
  | (unfold PSs at *; exact (fun _ _ σ H _ I h => wpAny_execs_nil ⟨σ, H, I, h⟩))
theorem pss_cons (h1 : PS X st t) (h2 : PSs X rest u) : PSs X (st :: rest) (tSeq t u) := by
  unfold PS at *; unfold PSs at *
  exact by
    intro pins s σ H D I h
    refine wpAny_execs_cons (thn (h1 pins s σ H { D with nx := u D } I h) fun f s1 q => ?_)
    cases f with
    | next =>
      obtain ⟨σ', H', I', q⟩ := q
      exact h2 pins s1 σ' H' D I' q
    | ret v => exact q
    | brk => exact q
    | cont => exact q
theorem pss_one (h1 : PS X st t) : PSs X [st] t := by
  unfold PS at *; unfold PSs at *
  exact by
    intro pins s σ H D I h
    refine wpAny_execs_cons (thn (h1 pins s σ H D I h) fun f s1 q => ?_)
    cases f with
    | next => exact wpAny_execs_nil q
    | ret v => exact q
    | brk => exact q
    | cont => exact q
theorem Inv.quiet {pins : List (Addr × Obj)} {σ : St} {H : Hp} {s : Shared} (I : Inv X pins σ H s) : interactive X.env = false := by simp [interactive, I.ok.kind]
def tDrop (te : TE) : TS := fun D σ H => te σ H fun _ H1 => D.nx σ H1
theorem ps_expr (he : PE X e te) (hs : swapsWith e none pos.line X.env = pure false := by rfl) : PS X (.Expr e pos) (tDrop te) := by
  unfold PE at *; unfold PS at *
  exact by
    intro pins s σ H D I h
    exact wpAny_Expr_any (thn (he pins s σ H _ I h) fun v s1 ⟨x, H1, I1, r1, q1⟩ => ⟨σ, H1, I1, q1⟩) I.quiet hs
def tRet (te : TE) : TS := fun D σ H => te σ H D.rt
theorem ps_ret (he : PE X e te) : PS X (.Return (some e) pos) (tRet te) := by
  unfold PE at *; unfold PS at *
  exact by
    intro pins s σ H D I h
    exact wpAny_Return_some (thn (he pins s σ H _ I h) fun v s1 ⟨x, H1, I1, r1, q1⟩ => ⟨x, σ, H1, I1, r1, q1⟩)
def tRetN : TS := fun D _ H => D.rt .non H
theorem ps_retN : PS X (.Return none pos) tRetN := by
  first
  | exact (fun _ _ σ H _ I h => wpAny_Return_none ⟨.non, σ, H, I, rfl, h⟩)
  | (unfold PS at *; exact (fun _ _ σ H _ I h => wpAny_Return_none ⟨.non, σ, H, I, rfl, h⟩))
def tIfS (c : TT) (t u : TS) : TS := fun D σ H => c σ H fun b H1 => if b = true then t D σ H1 else u D σ H1
theorem ps_if {c : Expr} {a b : List Stmt} {tc : TT} (hc : PT X c tc) (ha : PSs X a t) (hb : PSs X b u) : PS X (.If c a b pos) (tIfS tc t u) := by
  unfold PT at *; unfold PS at *; unfold PSs at *
  exact by
    intro pins s σ H D I h
    refine wpAny_If (thn (hc pins s σ H _ I h) fun d s1 ⟨H1, I1, q1⟩ => ?_)
    cases d with
    | true => exact ha pins s1 σ H1 D I1 q1
    | false => exact hb pins s1 σ H1 D I1 q1
def tNever : TS := fun _ _ _ => False
theorem ps_never : PS X st tNever := by
  first
  | exact (fun _ _ _ _ _ _ h => h.elim)
  | (unfold PS at *; exact (fun _ _ _ _ _ _ h => h.elim))
end
abbrev TG := V → St → Hp → (St → Hp → Prop) → Prop
@[irreducible] def PG (X : Cx) (target : Expr) (t : TG) : Prop :=
  ∀ (pins : List (Addr × Obj)) (s : Shared) (σ : St) (H : Hp) (v : V) (u : Value) (Q : St → Hp → Prop), Inv X pins σ H s → RelV v u → t v σ H Q →
    wpAny (model X.prog X.w) X.A (assign target X.env u) (fun _ s' => ∃ σ' H', Inv X pins σ' H' s' ∧ Q σ' H') X.xe s
abbrev TSet := V → V → V → Hp → (Hp → Prop) → Prop
@[irreducible] def PSet (X : Cx) (t : TSet) : Prop :=
  ∀ (pins : List (Addr × Obj)) (s : Shared) (σ : St) (H : Hp) (o i v : V) (ov iv u : Value) (Q : Hp → Prop), Inv X pins σ H s → RelV o ov → RelV i iv → RelV v u → t o i v H Q →
    wpAny (model X.prog X.w) X.A (setItem ov iv u) (fun _ s' => ∃ H', Inv X pins σ H' s' ∧ Q H') X.xe s
section
variable {X : Cx} {pos : Pos}
def gName (i : Nat) : TG := fun v σ H Q => Q (σ.set i (some v)) H
theorem pg_name {i : Nat} {x : Str} (hN : X.N.Nodup) (hi : X.N[i]? = some x) (hx : Loc X.env.scope x) (hf : X.fn x = true ∨ X.env.scope.names.lookup x = some .local := by first | exact .inl rfl | exact .inr rfl | assumption) : PG X (.Name x pos) (gName i) := by
  unfold PG at *
  exact by
    intro pins s σ H v u Q I r h
    exact wpAny_assign_Name (store_ok I hN hi hx r (fun s' I' => ⟨_, H, I', h⟩) hf)
def gSub (to ti : TE) (t : TSet) : TG := fun v σ H Q => to σ H fun o H1 => ti σ H1 fun i H2 => t o i v H2 fun H3 => Q σ H3
theorem pg_sub {o i : Expr} {to ti : TE} {t : TSet} (ho : PE X o to) (hi : PE X i ti) (hs : PSet X t)
    (ha : ∀ v, assign (.Subscript o i pos) X.env v = (do
      let ov ← holding [v] (eval o X.env)
      let iv ← holding [v, ov] (eval i X.env)
      standAt pos
      holding [v, ov, iv] (setItem ov iv v)
      release [v, ov, iv] []) := by intro _; rfl) : PG X (.Subscript o i pos) (gSub to ti t) := by
  unfold PE at *; unfold PG at *; unfold PSet at *
  exact by
    intro pins s σ H v u Q I r h
    rw [ha]
    refine wpAny_bind (wpAny_holding (thn (ho pins s σ H _ I h) fun ov s1 ⟨x, H1, I1, r1, q1⟩ => ?_))
    refine wpAny_bind (wpAny_holding (thn (hi pins s1 σ H1 _ I1 q1) fun iv s2 ⟨y, H2, I2, r2, q2⟩ => ?_))
    refine wpAny_bind (wpAny_standAt (wpAny_bind (wpAny_holding (thn (hs pins s2 σ H2 x y v ov iv u _ I2 r1 r2 r q2) fun _ s3 ⟨H3, I3, q3⟩ => ?_))))
    exact wpAny_release ⟨σ, H3, I3, q3⟩
def tAsg (te : TE) (g : TG) : TS := fun D σ H => te σ H fun x H1 => g x σ H1 D.nx
theorem ps_asg {tg e : Expr} {te : TE} {g : TG} (he : PE X e te) (hg : PG X tg g) (hs : swapsWithSole [tg] e pos.line X.env = pure false := by rfl) (hw : swappedStores [tg] e X.env = pure none := by rfl)
    (h1 : (assignEach [tg] X.env).map (·.2) = [assign tg X.env] := by rfl) : PS X (.Assign [tg] e pos) (tAsg te g) := by
  unfold PE at *; unfold PS at *; unfold PG at *
  exact by
    intro pins s σ H D I h
    refine wpAny_Assign_stores (thn (he pins s σ H _ I h) fun v s1 ⟨x, H1, I1, r1, q1⟩ => ?_) hs hw
    rw [h1]
    exact thn (hg pins s1 σ H1 x v _ I1 r1 q1) fun _ s2 q => q
theorem ps_set {i : Nat} {x : Str} {e : Expr} {te : TE} {pos' : Pos} (hN : X.N.Nodup) (hi : X.N[i]? = some x) (hx : Loc X.env.scope x) (he : PE X e te) (hs : swapsWith e (some (.Name x pos')) pos.line X.env = pure false := by rfl) (hf : X.fn x = true ∨ X.env.scope.names.lookup x = some .local := by first | exact .inl rfl | exact .inr rfl | assumption) :
    PS X (.Assign [.Name x pos'] e pos) (tAsg te (gName i)) := by
  unfold PE at *; unfold PS at *
  exact by
    intro pins s σ H D I h
    refine wpAny_Assign_Name (thn (he pins s σ H _ I h) fun v s1 ⟨y, H1, I1, r1, q1⟩ => ?_) hs
    exact store_ok I1 hN hi hx r1 (fun s2 I2 => ⟨_, H1, I2, q1⟩) hf
end
section
variable {X : Cx} {pos : Pos}
end
/- at turn i: it yields x (the heap may grow), or it stops -/
set_option genInjectivity false in
set_option genSizeOfSpec false in
set_option genSizeOf false in
structure It where
  go : Nat → Hp → Prop
  yld : Nat → Hp → V → Hp → Prop
  stop : Nat → Hp → Prop
def FpOk (X : Cx) (pins : List (Addr × Obj)) (H : Hp) (b : Addr) : Prop :=
  H b = none ∧ b ≠ X.env.locals ∧ b ∉ X.fs ∧ (b ∈ X.ex ∨ X.s₀.heap.objs.size ≤ b) ∧ (∀ x c, X.env.cells.lookup x = some c → c ≠ b) ∧ ∀ p ∈ X.pn ++ pins, p.1 ≠ b
theorem Inv.fpOk {X : Cx} {pins : List (Addr × Obj)} {σ : St} {H H' : Hp} {s : Shared} {b : Addr} (I : Inv X pins σ H s) (hb : s.heap.objs.size ≤ b) (hn : H' b = none) : FpOk X pins H' b := by
  refine ⟨hn, Nat.ne_of_gt (Nat.lt_of_lt_of_le I.lt hb), I.nofs hb, .inr (Nat.le_trans I.sz hb), fun x c e z => ?_, fun p hp z => ?_⟩
  · obtain ⟨v, q⟩ := I.cell x c e
    exact absurd (Nat.lt_of_lt_of_le q.lt (by rw [z]; exact hb)) (Nat.lt_irrefl _)
  · exact absurd (Nat.lt_of_lt_of_le (Heap.lt_size (I.pin p hp).1) (by rw [z]; exact hb)) (Nat.lt_irrefl _)
structure Turn (P : Program) (w : World) (K : PySem.W.Frag) (tg : Expr) (J : It) (fp : List Addr) (it : Addr) (tn : Nat → Heap → Prop) : Prop where
  mem : it ∈ fp
  obj : ∀ i h, tn i h → ∀ b ∈ fp, ∃ o, h.get? b = some o ∧ ∀ v, o.data ≠ .cell v
  keep : ∀ i h h', tn i h → (∀ b ∈ fp, ∀ o, h.get? b = some o → h'.get? b = some o) → tn i h'
  item : ∀ (X : Cx), X.prog = P → X.w = w → X.K = K → X.calm = true → ∀ (i : Nat) (pins : List (Addr × Obj)) (s : Shared) (σ : St) (H : Hp) (E : Value → Shared → Prop), Inv X pins σ H s → (∀ b ∈ fp, FpOk X pins H b) → tn i s.heap → J.go i H →
    wpAny (model P w) X.A (pyNext (.ref it)) (fun r s1 => ∃ u, r = some u ∧
      wpAny (model P w) X.A (letOwnedTupleGo tg (.ref it) u) (fun _ s2 => ∃ x H', Inv X pins σ H' s2 ∧ RelV x u ∧ J.yld i H x H' ∧ tn (i + 1) s2.heap ∧ ∀ b ∈ fp, H' b = none) E s1) E s
  done : ∀ (X : Cx), X.prog = P → X.w = w → X.K = K → X.calm = true → ∀ (i : Nat) (pins : List (Addr × Obj)) (s : Shared) (σ : St) (H : Hp) (E : Value → Shared → Prop), Inv X pins σ H s → (∀ b ∈ fp, FpOk X pins H b) → tn i s.heap → J.stop i H →
    wpAny (model P w) X.A (pyNext (.ref it)) (fun r s1 => r = none ∧ Inv X pins σ H s1) E s
  self : ∀ (A : Around) (i : Nat) (s : Shared) (Q : Value → Shared → Prop) (E : Value → Shared → Prop), tn i s.heap → Q (.ref it) s → wpAny (model P w) A (pyIter (.ref it)) Q E s
abbrev TI := St → Hp → (It → Hp → Prop) → Prop
def PIE (X : Cx) (pins : List (Addr × Obj)) (σ : St) (tg : Expr) (R : It → Hp → Prop) (itv : Value) (s2 : Shared) : Prop :=
  ∃ (it : Addr) (fp : List Addr) (tn : Nat → Heap → Prop) (J : It) (H' : Hp), itv = .ref it ∧ Inv X pins σ H' s2 ∧ Turn X.prog X.w X.K tg J fp it tn ∧ tn 0 s2.heap ∧ (∀ b ∈ fp, FpOk X pins H' b) ∧ R J H'
@[irreducible] def PI (X : Cx) (tg iter : Expr) (wi : TI) : Prop :=
  ∀ (pins : List (Addr × Obj)) (s : Shared) (σ : St) (H : Hp) (R : It → Hp → Prop), Inv X pins σ H s → wi σ H R →
    wpAny (model X.prog X.w) X.A (eval iter X.env) (fun v s1 => wpAny (model X.prog X.w) X.A (pyIter v) (PIE X pins σ tg R) X.xe s1) X.xe s
theorem go_of {M : Model} {A : Around} {E : Value → Shared → Prop} {s : Shared} {tg : Expr} {it : Addr} {u : Value} {o : Obj} {n : String} {vs : Array Value} {Q : Unit → Shared → Prop} (ho : s.heap.get? it = some o) (hc : o.cls = .type n) (hd : o.data = .fields vs)
    (hn : ["enumerate", "zip", "dict_itemiterator", "dict_reverseitemiterator", "odict_iterator", "itertools.zip_longest", "itertools.pairwise"].contains n = false) (hQ : Q () s) : wpAny M A (letOwnedTupleGo tg (.ref it) u) Q E s := by
  unfold letOwnedTupleGo
  cases tg <;> first
    | exact wpAny_pure hQ
    | (cases u <;> first
        | exact wpAny_pure hQ
        | (refine wpAny_bind (wpAny_load ho ?_)
           rw [hc, hd]
           show wpAny M A (if (["enumerate", "zip", "dict_itemiterator", "dict_reverseitemiterator", "odict_iterator", "itertools.zip_longest", "itertools.pairwise"].contains n && vs[0]? == some (rawInt _)) = true then _ else _) Q E s
           rw [if_neg (by intro h; rw [hn, Bool.false_and] at h; cases h)]
           exact wpAny_pure hQ))
def Itl (K : PySem.W.Frag) (a : Addr) : It :=
  ⟨fun i H => ∃ xs x, SqL K H a xs ∧ xs[i]? = some x, fun i H x H' => H' = H ∧ ∀ xs, SqL K H a xs → xs[i]? = some x, fun i H => ∃ xs, SqL K H a xs ∧ xs.length ≤ i⟩
def Itr (lo : Int) (n : Nat) : It := ⟨fun i _ => i < n, fun i H x H' => H' = H ∧ x = .int (lo + i), fun i _ => n ≤ i⟩
theorem turn_list {P : Program} {w : World} {K : PySem.W.Frag} {tg : Expr} (a it : Addr) : Turn P w K tg (Itl K a) [it] it (fun i h => h.IsListIter it a i) where
  mem := by simp
  obj := fun i h st b hb => by
    have e : b = it := by simpa using hb
    subst e
    obtain ⟨o, e, c, d⟩ := st
    exact ⟨o, e, fun v z => by rw [d] at z; cases z⟩
  keep := fun i h h' st k => st.at fun o e => k it (by simp) o e
  item := by
    intro X hP hw hK hc i pins s σ H E I hf st hg
    subst hP hw hK
    obtain ⟨xs, x, hq, hx⟩ := hg
    obtain ⟨its, rv, p, hz⟩ := I.list hq
    obtain ⟨u, hu, ru⟩ := rv.get hx
    obtain ⟨f0, f1, f2, f3, f4, f5⟩ := hf it (by simp)
    refine wpAny_pyNext_list_item st p.isList (x := u) (by simpa using hu) fun h' st' sb => ?_
    have I1 : Inv X pins σ H { s with heap := h' } := I.turned (t' := s.toks) (fun b o hb e => (sb.2 b hb).trans e) f0 f1 f3 f4 f5
    obtain ⟨o, e, c, d⟩ := id st'
    exact ⟨u, rfl, go_of (s := { s with heap := h' }) e c d (by decide) ⟨x, H, I1, ru, ⟨rfl, fun ys hy => by rw [I.list_inj hy hq]; exact hx⟩, st', fun b hb => (hf b hb).1⟩⟩
  done := by
    intro X hP hw hK hc i pins s σ H E I hf st hg
    subst hP hw hK
    obtain ⟨xs, hq, hx⟩ := hg
    obtain ⟨its, rv, p, hz⟩ := I.list hq
    obtain ⟨f0, f1, f2, f3, f4, f5⟩ := hf it (by simp)
    have hl := rv.length
    exact wpAny_pyNext_list_end (I.ok.hd hc) st p.isList (by simp; omega) fun h' eb => ⟨rfl, I.turned (t' := s.toks) (fun b o hb e => eb b o hb e) f0 f1 f3 f4 f5⟩
  self := fun _ _ _ _ _ st h => wpAny_pyIter_listiter st h
theorem turn_range {P : Program} {w : World} {K : PySem.W.Frag} {tg : Expr} (it : Addr) (lo : Int) (n : Nat) : Turn P w K tg (Itr lo n) [it] it (fun i h => IsRangeIter h it (lo + (i : Nat) * 1) ((n : Int) - (i : Nat)) 1) where
  mem := by simp
  obj := fun i h st b hb => by
    have e : b = it := by simpa using hb
    subst e
    exact ⟨_, st, fun v z => by
      have z' : Data.fields _ = Data.cell v := z
      cases z'⟩
  keep := fun i h h' st k => k it (by simp) _ st
  item := by
    intro X hP hw hK hc i pins s σ H E I hf st hg
    subst hP hw hK
    obtain ⟨f0, f1, f2, f3, f4, f5⟩ := hf it (by simp)
    have W := Walks.range (prog := X.prog) (w := X.w) (I.ok.hd hc) it lo 1 n
    refine W.item i s _ _ hg st fun v h' tk hv st' kk => ?_
    obtain ⟨t, rfl⟩ := hv
    have I1 : Inv X pins σ H { s with heap := h', toks := tk } := I.turned (fun b o hb e => kk b o (by simpa using hb) e) f0 f1 f3 f4 f5
    refine ⟨_, rfl, go_of (s := { s with heap := h', toks := tk }) (n := "range_iterator") st' rfl rfl (by decide) ⟨.int (lo + i), H, I1, ⟨t, ?_⟩, ⟨rfl, rfl⟩, st', fun b hb => (hf b hb).1⟩⟩
    rw [Int.mul_one]
  done := by
    intro X hP hw hK hc i pins s σ H E I hf st hg
    subst hP hw hK
    obtain ⟨f0, f1, f2, f3, f4, f5⟩ := hf it (by simp)
    exact wpAny_pyNext_range_end (I.ok.hd hc) st (by have : n ≤ i := hg; omega) fun h' eb => ⟨rfl, I.turned (t' := s.toks) (fun b o hb e => eb b o hb e) f0 f1 f3 f4 f5⟩
  self := fun _ _ _ _ _ st h => wpAny_pyIter_rangeiter st h
end L2
namespace L2
open PySem PySem.Spec PyProof.Rows
section
variable {X : Cx} {tg : Expr}
def iList (K : PySem.W.Frag) (tl : TE) : TI := fun σ H R => tl σ H fun x H1 => ∃ a, x = .ref a ∧ (∃ xs, SqL K H1 a xs) ∧ R (Itl K a) H1
theorem pi_list {l : Expr} {tl : TE} (hl : PE X l tl) : PI X tg l (iList X.K tl) := by
  unfold PE at *; unfold PI at *
  exact by
    intro pins s σ H R I h
    refine thn (hl pins s σ H _ I h) fun v s1 ⟨x, H1, I1, r1, q1⟩ => ?_
    obtain ⟨a, e, ⟨xs, hq⟩, q⟩ := q1
    subst e
    cases r1
    obtain ⟨its, rv, p, hz⟩ := I1.list hq
    refine wpAny_pyIter_list p.isList ?_
    refine ⟨s1.heap.objs.size, [s1.heap.objs.size], _, _, H1, rfl, I1.kept (t' := s1.toks) fun b o e => Heap.get?_push_of_some _ e, turn_list a _, ⟨_, Heap.get?_push_size _ rfl, rfl, rfl⟩, fun b hb => ?_, q⟩
    have e : b = s1.heap.objs.size := by simpa using hb
    subst e
    exact I1.fpOk (Nat.le_refl _) (I1.hok.fresh (Nat.le_refl _))
theorem range_it {pins : List (Addr × Obj)} {σ : St} {H : Hp} {s : Shared} {R : It → Hp → Prop} {E : Value → Shared → Prop} {lo hi : Int} {t u v : Tok} {tk : Nat} (I : Inv X pins σ H s) (h1 : -(2 ^ 62) ≤ lo) (h2 : lo < 2 ^ 62) (h3 : -(2 ^ 62) ≤ hi) (h4 : hi < 2 ^ 62)
    (q : R (Itr lo (hi - lo).toNat) H) : wpAny (model X.prog X.w) X.A (pyIter (.ref s.heap.objs.size)) (PIE X pins σ tg R) E { s with heap := s.heap.push { cls := .type "range", data := .fields #[.int lo t, .int hi u, .int 1 v] }, toks := tk } := by
  refine wpAny_pyIter_range (IsRange.new ..) (small_one h1 h2 h3 h4) ?_
  have I1 : Inv X pins σ H { s with heap := s.heap.push { cls := .type "range", data := .fields #[.int lo t, .int hi u, .int 1 v] }, toks := tk } := I.kept fun b o e => Heap.get?_push_of_some _ e
  refine ⟨(s.heap.push { cls := .type "range", data := .fields #[.int lo t, .int hi u, .int 1 v] }).objs.size, [(s.heap.push { cls := .type "range", data := .fields #[.int lo t, .int hi u, .int 1 v] }).objs.size], _, _, H, rfl,
    I1.kept (t' := tk) fun b o e => Heap.get?_push_of_some _ e, turn_range _ lo (hi - lo).toNat, ?_, fun b hb => ?_, q⟩
  · have e1 : lo + ((0 : Nat) : Int) * 1 = lo := by simp
    have e2 : (((hi - lo).toNat : Nat) : Int) - ((0 : Nat) : Int) = Builtin.Range.rangeSize lo hi 1 := by rw [rangeSize_one]; split <;> omega
    show IsRangeIter _ _ (lo + ((0 : Nat) : Int) * 1) ((((hi - lo).toNat : Nat) : Int) - ((0 : Nat) : Int)) 1
    rw [e1, e2]
    exact Heap.get?_push_size _ rfl
  · have e : b = (s.heap.push { cls := .type "range", data := .fields #[.int lo t, .int hi u, .int 1 v] }).objs.size := by simpa using hb
    subst e
    exact I1.fpOk (Nat.le_refl _) (I1.hok.fresh (Nat.le_refl _))
def iRng1 (ta : TA) : TI := fun σ H R => ta σ H fun vs H1 => ∃ j : Int, vs = [.int j] ∧ -(2 ^ 62) ≤ j ∧ j < 2 ^ 62 ∧ R (Itr 0 j.toNat) H1
def iRng2 (ta : TA) : TI := fun σ H R => ta σ H fun vs H1 => ∃ i j : Int, vs = [.int i, .int j] ∧ (-(2 ^ 62) ≤ i ∧ i < 2 ^ 62 ∧ -(2 ^ 62) ≤ j ∧ j < 2 ^ 62) ∧ R (Itr i (j - i).toNat) H1
theorem pi_range1 {a : Expr} {ta : TA} {p pos : Pos} (hg : Gl X "range") (hm : X.mg "range" = none) (ha : PA X [a] ta) (hs : starEach [a] X.env = [(false, eval a X.env)] := by rfl) : PI X tg (.Call (.Name "range" p) [a] [] pos) (iRng1 ta) := by
  unfold PA at *; unfold PI at *
  exact by
    intro pins s σ H R I h
    refine Call_ (ld_blt I hg hm boot_range (PyProof.Rows.callWith_type1 (thn (ha pos pins s σ H _ I h) fun us s1 ⟨vs, H1, I1, r1, q1⟩ => ?_) hs rfl))
    obtain ⟨j, e, q1, q2, q⟩ := q1
    subst e
    cases r1 with
    | cons r rr =>
      cases rr
      obtain ⟨t, rfl⟩ := r
      exact call_range_1 (range_it I1 (by omega) (by omega) q1 q2 (by simpa using q))
theorem pi_range2 {a b : Expr} {ta : TA} {p pos : Pos} (hg : Gl X "range") (hm : X.mg "range" = none) (ha : PA X [a, b] ta) (hs : starEach [a, b] X.env = [(false, eval a X.env), (false, eval b X.env)] := by rfl) (hs2 : starEach [b] X.env = [(false, eval b X.env)] := by rfl) :
    PI X tg (.Call (.Name "range" p) [a, b] [] pos) (iRng2 ta) := by
  unfold PA at *; unfold PI at *
  exact by
    intro pins s σ H R I h
    refine Call_ (ld_blt I hg hm boot_range (PyProof.Rows.callWith_type1 (thn (ha pos pins s σ H _ I h) fun us s1 ⟨vs, H1, I1, r1, q1⟩ => ?_) (by rw [hs, hs2]) (by rw [hs2]; rfl)))
    obtain ⟨i, j, e, ⟨q1, q2, q3, q4⟩, q⟩ := q1
    subst e
    cases r1 with
    | cons r rr =>
      cases rr with
      | cons r' rr =>
        cases rr
        obtain ⟨t, rfl⟩ := r
        obtain ⟨t', rfl⟩ := r'
        exact call_range_2 (range_it I1 q1 q2 q3 q4 q)
def tFor (wi : TI) (g : TG) (tb : TS) : TS := fun D σ H => wi σ H fun J H1 => ∃ W : Nat → Nat → St → Hp → Prop, (∃ m, W 0 m σ H1) ∧ ∀ i m σ H, W i m σ H →
  (J.stop i H ∧ D.nx σ H) ∨ (J.go i H ∧ ∃ N : St → Hp → Prop, (∀ σ' H', N σ' H' → ∃ m', m' < m ∧ W (i + 1) m' σ' H') ∧ ∀ x H', J.yld i H x H' → g x σ H' fun σ2 H2 => tb { D with nx := N, ct := N, bk := D.nx } σ2 H2)
def pinsAt (fp : List Addr) (h : Heap) : List (Addr × Obj) := fp.filterMap fun b => (h.get? b).map fun o => (b, o)
theorem mem_pinsAt {fp : List Addr} {h : Heap} {b : Addr} {o : Obj} (hb : b ∈ fp) (e : h.get? b = some o) : (b, o) ∈ pinsAt fp h := List.mem_filterMap.mpr ⟨b, hb, by rw [e]; rfl⟩
theorem of_pinsAt {fp : List Addr} {h : Heap} {p : Addr × Obj} (hp : p ∈ pinsAt fp h) : p.1 ∈ fp ∧ h.get? p.1 = some p.2 := by
  obtain ⟨b, hb, e⟩ := List.mem_filterMap.mp hp
  cases q : h.get? b with
  | none => rw [q] at e; cases e
  | some o =>
    rw [q] at e
    have e' : (b, o) = p := Option.some.inj e
    subst e'
    exact ⟨hb, q⟩
theorem Inv.pinned {pins : List (Addr × Obj)} {σ : St} {H : Hp} {s : Shared} {fp : List Addr} (I : Inv X pins σ H s) (hf : ∀ b ∈ fp, FpOk X pins H b) (ho : ∀ b ∈ fp, ∃ o, s.heap.get? b = some o ∧ ∀ v, o.data ≠ .cell v) : Inv X (pins ++ pinsAt fp s.heap) σ H s :=
  I.pins_of fun p hp => (List.mem_append.mp hp).elim (fun z => I.pin p (List.mem_append_right _ z)) fun z => by
    obtain ⟨hb, e⟩ := of_pinsAt z
    obtain ⟨f0, f1, f2, _⟩ := hf p.1 hb
    obtain ⟨o, e', d⟩ := ho p.1 hb
    rw [e] at e'; cases e'
    exact ⟨e, f0, f1, f2, d⟩
theorem Inv.unpinned {pins pl : List (Addr × Obj)} {σ : St} {H : Hp} {s : Shared} (I : Inv X (pins ++ pl) σ H s) : Inv X pins σ H s := I.pins_of fun p hp => I.pin p (List.mem_append_right _ (List.mem_append_left _ hp))
theorem ps_for {iter : Expr} {body : List Stmt} {wi : TI} {g : TG} {tb : TS} {pos : Pos} (hp : PassesOwn (model X.prog X.w) X.A X.env X.xe) (hc : X.calm = true) (hi : PI X tg iter wi) (hg : PG X tg g) (hb : PSs X body tb)
    (hs : ∀ x, foldedSetIterable iter X.env x = pure x := by intro _; rfl) : PS X (.For tg iter body [] pos) (tFor wi g tb) := by
  unfold PS at *; unfold PSs at *; unfold PG at *; unfold PI at *
  exact by
    intro pins s σ H D I h
    refine wpAny_For (thn (hi pins s σ H _ I h) fun v s1 h1 => thn h1 fun itv s2 h2 => ?_) hs
    obtain ⟨it, fp, tn, J, H2, e, I2, T, st2, f2, W, ⟨m0, w0⟩, turn⟩ := h2
    subst e
    -- what stays true of the iterator's objects through the loop
    have stat : ∀ {H' : Hp}, (∀ b ∈ fp, H' b = none) → ∀ b ∈ fp, FpOk X pins H' b := fun hn b hb => ⟨hn b hb, (f2 b hb).2⟩
    refine codeAny_forLoop_any (fun n s' => ∃ i σ' H', Inv X pins σ' H' s' ∧ tn i s'.heap ∧ (∀ b ∈ fp, H' b = none) ∧ W i n σ' H') ?_ m0 ⟨0, σ, H2, I2, st2, fun b hb => (f2 b hb).1, w0⟩
    rintro n s3 ⟨i, σ3, H3, I3, st3, fr3, w3⟩
    rcases turn i n σ3 H3 w3 with ⟨stop, qn⟩ | ⟨go, N, hN, step⟩
    · refine wpAny_passesOwn hp (thn (T.done X rfl rfl rfl hc i pins s3 σ3 H3 X.xe I3 (stat fr3) st3 stop) fun r s4 ⟨hr, I4⟩ => ?_)
      subst hr
      exact wpAny_execs_nil ⟨σ3, H3, I4, qn⟩
    · refine wpAny_passesOwn hp (thn (T.item X rfl rfl rfl hc i pins s3 σ3 H3 X.xe I3 (stat fr3) st3 go) fun r s4 ⟨u, hr, h4⟩ => ?_)
      subst hr
      refine wpAny_passesOwn hp (thn h4 fun _ s5 ⟨x, H5, I5, r5, y5, st5, fr5⟩ => ?_)
      have I5' := I5.pinned (stat fr5) (T.obj _ _ st5)
      refine wpAny_passesOwn hp (thn (hg _ s5 σ3 H5 x u _ I5' r5 (step x H5 y5)) fun _ s6 ⟨σ6, H6, I6, q6⟩ => ?_)
      refine wpAny_passesOwn hp (thn (hb _ s6 σ6 H6 _ I6 q6) fun f s7 q7 => ?_)
      have again : ∀ {σ7 : St} {H7 : Hp}, Inv X (pins ++ pinsAt fp s5.heap) σ7 H7 s7 → N σ7 H7 → ∃ m, m < n ∧ ∃ i σ' H', Inv X pins σ' H' s7 ∧ tn i s7.heap ∧ (∀ b ∈ fp, H' b = none) ∧ W i m σ' H' := fun {σ7 H7} I7 n7 => by
        obtain ⟨m', hm, w7⟩ := hN σ7 H7 n7
        refine ⟨m', hm, i + 1, σ7, H7, I7.unpinned, T.keep _ _ _ st5 fun b hb o e => (I7.pin (b, o) (List.mem_append_right _ (List.mem_append_right _ (mem_pinsAt hb e)))).1, fun b hb => ?_, w7⟩
        obtain ⟨o, e, d⟩ := T.obj _ _ st5 b hb
        exact (I7.pin (b, o) (List.mem_append_right _ (List.mem_append_right _ (mem_pinsAt hb e)))).2.1
      cases f with
      | next => obtain ⟨σ7, H7, I7, n7⟩ := q7; exact again I7 n7
      | cont => obtain ⟨σ7, H7, I7, n7⟩ := q7; exact again I7 n7
      | brk => obtain ⟨σ7, H7, I7, q7⟩ := q7; exact ⟨σ7, H7, I7.unpinned, q7⟩
      | ret v => obtain ⟨x7, σ7, H7, I7, r7, q7⟩ := q7; exact ⟨x7, σ7, H7, I7.unpinned, r7, q7⟩
end
theorem for_list {K : PySem.W.Frag} {a : Addr} {xs : List V} {g : TG} {tb : TS} {D : Ends} {σ : St} {H : Hp} (Pv : Nat → St → Hp → Prop) (h0 : Pv 0 σ H) (hl : ∀ i σ H, i ≤ xs.length → Pv i σ H → SqL K H a xs)
    (hs : ∀ i x σ H, xs[i]? = some x → Pv i σ H → g x σ H fun σ2 H2 => tb { D with nx := Pv (i + 1), ct := Pv (i + 1), bk := D.nx } σ2 H2) (hd : ∀ σ H, Pv xs.length σ H → D.nx σ H) :
    ∃ W : Nat → Nat → St → Hp → Prop, (∃ m, W 0 m σ H) ∧ ∀ i m σ H, W i m σ H →
      ((Itl K a).stop i H ∧ D.nx σ H) ∨ ((Itl K a).go i H ∧ ∃ N : St → Hp → Prop, (∀ σ' H', N σ' H' → ∃ m', m' < m ∧ W (i + 1) m' σ' H') ∧ ∀ x H', (Itl K a).yld i H x H' → g x σ H' fun σ2 H2 => tb { D with nx := N, ct := N, bk := D.nx } σ2 H2) := by
  refine ⟨fun i m σ H => m = xs.length - i ∧ i ≤ xs.length ∧ Pv i σ H, ⟨xs.length, by simp, Nat.zero_le _, h0⟩, ?_⟩
  rintro i m σ H ⟨rfl, hi, p⟩
  have q := hl i σ H hi p
  by_cases hlt : i < xs.length
  · refine .inr ⟨⟨xs, xs[i], q, by simp [hlt]⟩, Pv (i + 1), fun σ' H' p' => ⟨xs.length - (i + 1), by omega, rfl, hlt, p'⟩, fun x H' y => ?_⟩
    obtain ⟨e, y⟩ := y
    subst e
    exact hs i x σ _ (y xs q) p
  · have e : i = xs.length := by omega
    subst e
    exact .inl ⟨⟨xs, q, Nat.le_refl _⟩, hd σ H p⟩
theorem for_range {lo : Int} {n : Nat} {g : TG} {tb : TS} {D : Ends} {σ : St} {H : Hp} (Pv : Nat → St → Hp → Prop) (h0 : Pv 0 σ H)
    (hs : ∀ i σ H, i < n → Pv i σ H → g (.int (lo + i)) σ H fun σ2 H2 => tb { D with nx := Pv (i + 1), ct := Pv (i + 1), bk := D.nx } σ2 H2) (hd : ∀ σ H, Pv n σ H → D.nx σ H) :
    ∃ W : Nat → Nat → St → Hp → Prop, (∃ m, W 0 m σ H) ∧ ∀ i m σ H, W i m σ H →
      ((Itr lo n).stop i H ∧ D.nx σ H) ∨ ((Itr lo n).go i H ∧ ∃ N : St → Hp → Prop, (∀ σ' H', N σ' H' → ∃ m', m' < m ∧ W (i + 1) m' σ' H') ∧ ∀ x H', (Itr lo n).yld i H x H' → g x σ H' fun σ2 H2 => tb { D with nx := N, ct := N, bk := D.nx } σ2 H2) := by
  refine ⟨fun i m σ H => m = n - i ∧ i ≤ n ∧ Pv i σ H, ⟨n, by simp, Nat.zero_le _, h0⟩, ?_⟩
  rintro i m σ H ⟨rfl, hi, p⟩
  by_cases hlt : i < n
  · refine .inr ⟨hlt, Pv (i + 1), fun σ' H' p' => ⟨n - (i + 1), by omega, rfl, hlt, p'⟩, fun x H' y => ?_⟩
    obtain ⟨e, y⟩ := y
    subst e y
    exact hs i σ _ hlt p
  · have e : i = n := by omega
    subst e
    exact .inl ⟨Nat.le_refl _, hd σ H p⟩
end L2
namespace L2
open PySem PySem.Spec PyProof.Rows
abbrev R2 := V → V → Hp → VK → Prop
@[irreducible] def OpR (X : Cx) (f : Value → Value → Sem Value) (r : R2) : Prop :=
  ∀ (pins : List (Addr × Obj)) (s : Shared) (σ : St) (H : Hp) (x y : V) (v u : Value) (Q : VK), Inv X pins σ H s → RelV x v → RelV y u → r x y H Q →
    wpAny (model X.prog X.w) X.A (f v u) (EP X pins σ Q) X.xe s
@[irreducible] def UnR (X : Cx) (f : Value → Sem Value) (r : V → Hp → VK → Prop) : Prop :=
  ∀ (pins : List (Addr × Obj)) (s : Shared) (σ : St) (H : Hp) (x : V) (v : Value) (Q : VK), Inv X pins σ H s → RelV x v → r x H Q →
    wpAny (model X.prog X.w) X.A (f v) (EP X pins σ Q) X.xe s
@[irreducible] def CallR (X : Cx) (f : Value) (r : List V → Hp → VK → Prop) : Prop :=
  ∀ (pins : List (Addr × Obj)) (s : Shared) (σ : St) (H : Hp) (xs : List V) (us : List Value) (Q : VK), Inv X pins σ H s → Vals xs us → r xs H Q →
    wpAny (model X.prog X.w) X.A (call f us) (EP X pins σ Q) X.xe s
@[irreducible] def TruR (X : Cx) (r : V → Hp → (Bool → Hp → Prop) → Prop) : Prop :=
  ∀ (pins : List (Addr × Obj)) (s : Shared) (σ : St) (H : Hp) (x : V) (v : Value) (Q : Bool → Hp → Prop), Inv X pins σ H s → RelV x v → r x H Q →
    wpAny (model X.prog X.w) X.A (truthy v) (TP X pins σ Q) X.xe s
def tOp (r : R2) (ta tb : TE) : TE := fun σ H Q => ta σ H fun x H1 => tb σ H1 fun y H2 => r x y H2 Q
def tUn (r : V → Hp → VK → Prop) (ta : TE) : TE := fun σ H Q => ta σ H fun x H1 => r x H1 Q
def rI (C : Int → Int → Prop) (g : Int → Int → V) : R2 := fun x y H Q => ∃ i j, x = .int i ∧ y = .int j ∧ C i j ∧ Q (g i j) H
def rI0 (g : Int → Int → V) : R2 := fun x y H Q => ∃ i j, x = .int i ∧ y = .int j ∧ Q (g i j) H
def rU (g : Int → V) : V → Hp → VK → Prop := fun x H Q => ∃ i, x = .int i ∧ Q (g i) H
section
variable {X : Cx} {a b c : Expr} {ta tb tc : TE} {pos : Pos}
theorem binT (ha : PE X a ta) (hb : PE X b tb) {pins : List (Addr × Obj)} {s : Shared} {σ : St} {H : Hp} {R : V → V → Hp → Prop} (I : Inv X pins σ H s)
    (h : ta σ H fun x H1 => tb σ H1 fun y H2 => R x y H2) {Q : Value → Shared → Prop} {f : Value → Value → Sem Value}
    (hf : ∀ v u s2 x y H2, Inv X pins σ H2 s2 → RelV x v → RelV y u → R x y H2 → wpAny (model X.prog X.w) X.A (f v u) Q X.xe s2) :
    wpAny (model X.prog X.w) X.A (eval a X.env) (fun v s₁ => wpAny (model X.prog X.w) X.A (eval b X.env) (fun u s₂ => wpAny (model X.prog X.w) X.A (f v u) Q X.xe s₂) X.xe s₁) X.xe s := by
  unfold PE at *
  exact by
    refine thn (ha pins s σ H _ I h) fun v s1 ⟨x, H1, I1, r1, q1⟩ => ?_
    refine thn (hb pins s1 σ H1 _ I1 q1) fun u s2 ⟨y, H2, I2, r2, q2⟩ => ?_
    exact hf v u s2 x y H2 I2 r1 r2 q2
theorem pe_op {op : Operator} {r : R2} (ho : OpR X (binaryOp op) r) (ha : PE X a ta) (hb : PE X b tb) : PE X (.BinOp a op b pos) (tOp r ta tb) := by
  unfold PE; unfold OpR at ho
  exact by
    intro pins s σ H Q I h
    exact wpAny_BinOp (binT ha hb I h fun v u s2 x y H2 I2 rx ry q => ho pins s2 σ H2 x y v u Q I2 rx ry q)
theorem pe_un {op : UnaryOp} {r : V → Hp → VK → Prop} (ho : UnR X (unaryOp op) r) (ha : PE X a ta) : PE X (.UnaryOp op a pos) (tUn r ta) := by
  unfold PE at *; unfold UnR at *
  exact by
    intro pins s σ H Q I h
    exact UnaryOp_ (thn (ha pins s σ H _ I h) fun v s1 ⟨x, H1, I1, r1, q1⟩ => ho pins s1 σ H1 x v Q I1 r1 q1)
theorem opI {f : Value → Value → Sem Value} {C : Int → Int → Prop} {g : Int → Int → Int}
    (rule : ∀ (i j : Int) (t u : Tok) (s : Shared) (Q : Value → Shared → Prop) (E : Value → Shared → Prop), C i j → Q (.int (g i j) s.toks) { s with toks := s.toks + 1 } → wpAny (model X.prog X.w) X.A (f (.int i t) (.int j u)) Q E s) :
    OpR X f (rI C fun i j => .int (g i j)) := by
  unfold OpR at *
  exact by
    intro pins s σ H x y v u Q I rx ry h
    obtain ⟨i, j, rfl, rfl, hc, q⟩ := h
    obtain ⟨t, rfl⟩ := rx
    obtain ⟨t', rfl⟩ := ry
    exact rule i j t t' s _ _ hc ⟨.int (g i j), H, I.tok _, ⟨_, rfl⟩, q⟩
theorem opI0 {f : Value → Value → Sem Value} {g : Int → Int → Int}
    (rule : ∀ (i j : Int) (t u : Tok) (s : Shared) (Q : Value → Shared → Prop) (E : Value → Shared → Prop), Q (.int (g i j) s.toks) { s with toks := s.toks + 1 } → wpAny (model X.prog X.w) X.A (f (.int i t) (.int j u)) Q E s) :
    OpR X f (rI0 fun i j => .int (g i j)) := by
  unfold OpR at *
  exact by
    intro pins s σ H x y v u Q I rx ry h
    obtain ⟨i, j, rfl, rfl, q⟩ := h
    obtain ⟨t, rfl⟩ := rx
    obtain ⟨t', rfl⟩ := ry
    exact rule i j t t' s _ _ ⟨.int (g i j), H, I.tok _, ⟨_, rfl⟩, q⟩
theorem opB0 {f : Value → Value → Sem Value} {g : Int → Int → Bool}
    (rule : ∀ (i j : Int) (t u : Tok) (s : Shared) (Q : Value → Shared → Prop) (E : Value → Shared → Prop), Q (.bool (g i j)) s → wpAny (model X.prog X.w) X.A (f (.int i t) (.int j u)) Q E s) :
    OpR X f (rI0 fun i j => .bl (g i j)) := by
  unfold OpR at *
  exact by
    intro pins s σ H x y v u Q I rx ry h
    obtain ⟨i, j, rfl, rfl, q⟩ := h
    obtain ⟨t, rfl⟩ := rx
    obtain ⟨t', rfl⟩ := ry
    exact rule i j t t' s _ _ ⟨.bl (g i j), H, I, rfl, q⟩
def CDiv (i j : Int) : Prop := 0 < j ∧ j < 1073741824
def CPow (i j : Int) : Prop := 0 ≤ j ∧ j ≤ 1000000 ∧ i.natAbs < 2 ^ 64
def CMul (i j : Int) : Prop := (-(2 ^ 64) < i ∧ i < 2 ^ 64) ∨ (-(2 ^ 64) < j ∧ j < 2 ^ 64)
theorem CMul.ok {i j : Int} (h : CMul i j) : IntMulOk i j := by
  rcases h with ⟨h1, h2⟩ | ⟨h1, h2⟩
  · exact .of_left (intBits_le_64 h1 h2)
  · exact .of_right (intBits_le_64 h1 h2)
theorem op_add : OpR X (binaryOp .Add) (rI0 fun i j => .int (i + j)) := by
  first
  | exact (opI0 fun _ _ _ _ _ _ _ q => add_int q)
  | (unfold OpR at *; exact (opI0 fun _ _ _ _ _ _ _ q => add_int q))
theorem op_mul : OpR X (binaryOp .Mult) (rI CMul fun i j => .int (i * j)) := by
  first
  | exact (opI fun _ _ _ _ _ _ _ hc q => mul_int q hc.ok)
  | (unfold OpR at *; exact (opI fun _ _ _ _ _ _ _ hc q => mul_int q hc.ok))
theorem op_fdiv : OpR X (binaryOp .FloorDiv) (rI CDiv fun i j => .int (i / j)) := opI fun i j _ _ _ _ _ hc q => by
  have h1 : (0 : Int) < j := hc.1
  have h2 : j < 1073741824 := hc.2
  exact floordiv_int (by omega) (by rw [Int.fdiv_eq_ediv_of_nonneg i (by omega)]; exact q) (.inl (PyProof.noPylong_small (by omega)))
theorem op_mod : OpR X (binaryOp .Mod) (rI (fun _ j => 0 < j) fun i j => .int (i % j)) := opI fun i j _ _ _ _ _ hc q => by
  have h1 : (0 : Int) < j := hc
  exact mod_int' (by omega) (by rw [Int.fmod_eq_emod_of_nonneg i (by omega)]; exact q)
theorem op_pow : OpR X (binaryOp .Pow) (rI CPow fun i j => .int (i ^ j.toNat)) := by
  first
  | exact (opI fun _ _ _ _ _ _ _ hc q => pow_int_small hc.1 hc.2.1 hc.2.2 q)
  | (unfold OpR at *; exact (opI fun _ _ _ _ _ _ _ hc q => pow_int_small hc.1 hc.2.1 hc.2.2 q))
theorem unI {f : Value → Sem Value} {g : Int → Int}
    (rule : ∀ (i : Int) (t : Tok) (s : Shared) (Q : Value → Shared → Prop) (E : Value → Shared → Prop), Q (.int (g i) s.toks) { s with toks := s.toks + 1 } → wpAny (model X.prog X.w) X.A (f (.int i t)) Q E s) :
    UnR X f (rU fun i => .int (g i)) := by
  unfold UnR at *
  exact by
    intro pins s σ H x v Q I rx h
    obtain ⟨i, rfl, q⟩ := h
    obtain ⟨t, rfl⟩ := rx
    exact rule i t s _ _ ⟨.int (g i), H, I.tok _, ⟨_, rfl⟩, q⟩
theorem un_neg : UnR X (unaryOp .USub) (rU fun i => .int (-i)) := by
  first
  | exact (unI fun _ _ _ _ _ q => neg_int q)
  | (unfold UnR at *; exact (unI fun _ _ _ _ _ q => neg_int q))
end
def scal : V → V → Bool
  | .non, .non => true | .non, .int _ => true | .int _, .non => true | .non, .bl _ => true | .bl _, .non => true | .non, .str _ => true | .str _, .non => true
  | .int _, .int _ => true | .bl _, .bl _ => true | .str _, .str _ => true | .byt _, .byt _ => true
  | .int _, .str _ => true | .str _, .int _ => true | .bl _, .str _ => true | .str _, .bl _ => true
  | _, _ => false
def rEq : R2 := fun x y H Q => scal x y = true ∧ Q (.bl (decide (x = y))) H
def rNe : R2 := fun x y H Q => scal x y = true ∧ Q (.bl (!decide (x = y))) H
theorem dec_int {i j : Int} : decide (V.int i = V.int j) = (i == j) := by
  rw [Bool.eq_iff_iff]
  simp
theorem dec_bl {i j : Bool} : decide (V.bl i = V.bl j) = (i == j) := by
  rw [Bool.eq_iff_iff]
  simp
theorem dec_str {i j : Str} : decide (V.str i = V.str j) = (i == j) := by
  rw [Bool.eq_iff_iff]
  simp
theorem dec_byt {i j : Array UInt8} : decide (V.byt i = V.byt j) = (i.toList == j.toList) := by
  rw [Bool.eq_iff_iff]
  cases i
  cases j
  simp
section
variable {X : Cx} {a b c : Expr} {ta tb tc : TE} {pos : Pos}
theorem fin_bl {pins : List (Addr × Obj)} {σ : St} {H : Hp} {s : Shared} {Q : VK} {k k' : Bool} (I : Inv X pins σ H s) (q : Q (.bl k) H) (e : k = k') : EP X pins σ Q (.bool k') s := by
  subst e
  exact ⟨.bl k, H, I, rfl, q⟩
theorem op_eq : OpR X (compareOp .Eq) rEq := by
  unfold OpR at *
  exact by
    intro pins s σ H x y v u Q I rx ry h
    obtain ⟨hs, q⟩ := h
    cases x with
    | non =>
      cases rx
      cases y with
      | non => cases ry; exact PySem.EqNone.eq_none_none (fin_bl I q (by simp))
      | bl j => cases ry; exact PySem.EqNone.eq_none_bool (fin_bl I q (by simp))
      | int j => obtain ⟨t', rfl⟩ := ry; exact PySem.EqNone.eq_none_int (fin_bl I q (by simp))
      | str j => obtain ⟨t', rfl⟩ := ry; exact PySem.EqNone.eq_none_str (fin_bl I q (by simp))
      | _ => exact absurd (show false = true from hs) Bool.false_ne_true
    | bl i =>
      cases rx
      cases y with
      | non => cases ry; exact PySem.EqNone.eq_bool_none (fin_bl I q (by simp))
      | bl j => cases ry; exact eq_bool (fin_bl I q dec_bl)
      | str j => obtain ⟨t', rfl⟩ := ry; exact PySem.EqMixed.eq_bool_str (fin_bl I q (by simp))
      | _ => exact absurd (show false = true from hs) Bool.false_ne_true
    | int i =>
      obtain ⟨t, rfl⟩ := rx
      cases y with
      | non => cases ry; exact PySem.EqNone.eq_int_none (fin_bl I q (by simp))
      | int j => obtain ⟨t', rfl⟩ := ry; exact eq_int (fin_bl I q dec_int)
      | str j => obtain ⟨t', rfl⟩ := ry; exact PySem.EqMixed.eq_int_str (fin_bl I q (by simp))
      | _ => exact absurd (show false = true from hs) Bool.false_ne_true
    | str i =>
      obtain ⟨t, rfl⟩ := rx
      cases y with
      | non => cases ry; exact PySem.EqNone.eq_str_none (fin_bl I q (by simp))
      | bl j => cases ry; exact PySem.EqMixed.eq_str_bool (fin_bl I q (by simp))
      | int j => obtain ⟨t', rfl⟩ := ry; exact PySem.EqMixed.eq_str_int (fin_bl I q (by simp))
      | str j => obtain ⟨t', rfl⟩ := ry; exact eq_str (fin_bl I q dec_str)
      | _ => exact absurd (show false = true from hs) Bool.false_ne_true
    | byt i =>
      obtain ⟨t, rfl⟩ := rx
      cases y with
      | byt j => obtain ⟨t', rfl⟩ := ry; exact PySem.W.eq_bytes (fin_bl I q dec_byt)
      | _ => exact absurd (show false = true from hs) Bool.false_ne_true
    | _ => cases y <;> exact absurd (show false = true from hs) Bool.false_ne_true
theorem op_ne : OpR X (compareOp .NotEq) rNe := by
  unfold OpR at *
  exact by
    intro pins s σ H x y v u Q I rx ry h
    obtain ⟨hs, q⟩ := h
    cases x with
    | non =>
      cases rx
      cases y with
      | non => cases ry; exact PySem.EqNone.ne_none_none (fin_bl I q (by simp))
      | bl j => cases ry; exact PySem.EqNone.ne_none_bool (fin_bl I q (by simp))
      | int j => obtain ⟨t', rfl⟩ := ry; exact PySem.EqNone.ne_none_int (fin_bl I q (by simp))
      | str j => obtain ⟨t', rfl⟩ := ry; exact PySem.EqNone.ne_none_str (fin_bl I q (by simp))
      | _ => exact absurd (show false = true from hs) Bool.false_ne_true
    | bl i =>
      cases rx
      cases y with
      | non => cases ry; exact PySem.EqNone.ne_bool_none (fin_bl I q (by simp))
      | bl j => cases ry; exact ne_bool (fin_bl I q (congrArg not dec_bl))
      | str j => obtain ⟨t', rfl⟩ := ry; exact PySem.EqMixed.ne_bool_str (fin_bl I q (by simp))
      | _ => exact absurd (show false = true from hs) Bool.false_ne_true
    | int i =>
      obtain ⟨t, rfl⟩ := rx
      cases y with
      | non => cases ry; exact PySem.EqNone.ne_int_none (fin_bl I q (by simp))
      | int j => obtain ⟨t', rfl⟩ := ry; exact ne_int (fin_bl I q (congrArg not dec_int))
      | str j => obtain ⟨t', rfl⟩ := ry; exact PySem.EqMixed.ne_int_str (fin_bl I q (by simp))
      | _ => exact absurd (show false = true from hs) Bool.false_ne_true
    | str i =>
      obtain ⟨t, rfl⟩ := rx
      cases y with
      | non => cases ry; exact PySem.EqNone.ne_str_none (fin_bl I q (by simp))
      | bl j => cases ry; exact PySem.EqMixed.ne_str_bool (fin_bl I q (by simp))
      | int j => obtain ⟨t', rfl⟩ := ry; exact PySem.EqMixed.ne_str_int (fin_bl I q (by simp))
      | str j => obtain ⟨t', rfl⟩ := ry; exact ne_str (fin_bl I q (congrArg not dec_str))
      | _ => exact absurd (show false = true from hs) Bool.false_ne_true
    | byt i =>
      obtain ⟨t, rfl⟩ := rx
      cases y with
      | byt j => obtain ⟨t', rfl⟩ := ry; exact PySem.W.ne_bytes (fin_bl I q (congrArg not dec_byt))
      | _ => exact absurd (show false = true from hs) Bool.false_ne_true
    | _ => cases y <;> exact absurd (show false = true from hs) Bool.false_ne_true
theorem op_le : OpR X (compareOp .LtE) (rI0 fun i j => .bl (decide (i ≤ j))) := by
  first
  | exact (opB0 fun _ _ _ _ _ _ _ q => le_int q)
  | (unfold OpR at *; exact (opB0 fun _ _ _ _ _ _ _ q => le_int q))
theorem op_gt : OpR X (compareOp .Gt) (rI0 fun i j => .bl (decide (j < i))) := by
  first
  | exact (opB0 fun _ _ _ _ _ _ _ q => gt_int q)
  | (unfold OpR at *; exact (opB0 fun _ _ _ _ _ _ _ q => gt_int q))
theorem OpR.or {f : Value → Value → Sem Value} {r r' : R2} (h : OpR X f r) (h' : OpR X f r') : OpR X f (fun x y H Q => r x y H Q ∨ r' x y H Q) := by
  unfold OpR at *
  exact by
    intro pins s σ H x y v u Q I rx ry q
    rcases q with q | q
    · exact h pins s σ H x y v u Q I rx ry q
    · exact h' pins s σ H x y v u Q I rx ry q
theorem nomark (b : Expr) {op : CmpOp} (h : op ≠ .In := by decide) (h2 : op ≠ .NotIn := by decide) : behindInMarks op b = false := by
  have e1 : (op == CmpOp.In) = false := by cases op <;> first | rfl | exact absurd rfl h
  have e2 : (op == CmpOp.NotIn) = false := by cases op <;> first | rfl | exact absurd rfl h2
  cases b <;> simp [behindInMarks, e1, e2]
theorem pe_cmpR {op : CmpOp} {r : R2} (ho : OpR X (compareOp op) r) (ha : PE X a ta) (hb : PE X b tb) (hm : behindInMarks op b = false) : PE X (.Compare a [op] [b] pos) (tOp r ta tb) := by
  unfold PE; unfold OpR at ho
  exact by
    intro pins s σ H Q I h
    exact wpAny_Compare1 (binT ha hb I h fun v u s2 x y H2 I2 rx ry q => ho pins s2 σ H2 x y v u Q I2 rx ry q) hm
def tTest (t : TE) : TT := fun σ H Q => t σ H fun x H' => ∃ k, x = .bl k ∧ Q k H'
theorem pt_cmpR {op : CmpOp} {r : R2} (ho : OpR X (compareOp op) r) (ha : PE X a ta) (hb : PE X b tb) (hm : behindInMarks op b = false) : PT X (.Compare a [op] [b] pos) (tTest (tOp r ta tb)) := by
  unfold PE at *; unfold PT at *; unfold OpR at *
  exact by
    intro pins s σ H Q I h
    refine wpAny_isTrue_Compare1 (thn (ha pins s σ H _ I h) fun v s1 ⟨x, H1, I1, r1, q1⟩ => thn (hb pins s1 σ H1 _ I1 q1) fun u s2 ⟨y, H2, I2, r2, q2⟩ =>
      thn (ho pins s2 σ H2 x y v u _ I2 r1 r2 q2) fun c s3 ⟨z, H3, I3, r3, k, e, q3⟩ => ?_) hm
    subst e
    cases r3
    exact wpAny_truthy_bool ⟨H3, I3, q3⟩
def tChain (r r' : R2) (ta tb tc : TE) : TE := fun σ H Q => ta σ H fun x H1 => tb σ H1 fun y H2 => r x y H2 fun z H3 => ∃ k, z = .bl k ∧
  (if k = true then tc σ H3 fun w' H4 => r' y w' H4 Q else Q (.bl false) H3)
theorem pe_chain {op op' : CmpOp} {r r' : R2} (ho : OpR X (compareOp op) r) (ho' : OpR X (compareOp op') r') (ha : PE X a ta) (hb : PE X b tb) (hc : PE X c tc)
    (hm : lastMarks [op, op'] [b, c] = false := by with_unfolding_all rfl) : PE X (.Compare a [op, op'] [b, c] pos) (tChain r r' ta tb tc) := by
  unfold PE at *; unfold OpR at *
  exact by
    intro pins s σ H Q I h
    refine Compare_chain (thn (ha pins s σ H _ I h) fun v s1 ⟨x, H1, I1, r1, q1⟩ => chain_link (thn (hb pins s1 σ H1 _ I1 q1) fun u s2 ⟨y, H2, I2, r2, q2⟩ =>
      thn (ho pins s2 σ H2 x y v u _ I2 r1 r2 q2) fun d s3 ⟨z, H3, I3, r3, k, e, q3⟩ => ?_)) hm
    subst e
    cases r3
    refine wpAny_truthy_bool ?_
    cases k with
    | false => exact ite_ff ⟨.bl false, H3, I3, rfl, q3⟩
    | true => exact ite_tt (chain_last (thn (hc pins s3 σ H3 _ I3 q3) fun w' s4 ⟨z', H4, I4, r4, q4⟩ => ho' pins s4 σ H4 y z' u w' Q I4 r2 r4 q4))
def TruV (K : PySem.W.Frag) (x : V) (H : Hp) (k : Bool) : Prop :=
  match x with
  | .non => k = false
  | .bl b => k = b
  | .int i => k = (i != 0)
  | .str y => y.length ≤ sizeLine ∧ k = ((y.length : Int) != 0)
  | .byt y => y.size ≤ sizeLine ∧ k = ((y.size : Int) != 0)
  | .ref p => (∃ xs, SqL K H p xs ∧ k = !xs.isEmpty) ∨ (∃ xs, SqT K H p xs ∧ k = !xs.isEmpty) ∨ ∃ kvs, H p = some (.dK kvs) ∧ k = !kvs.isEmpty
  | _ => False
theorem isEmpty_kv {κ : Type} {kvs : List (κ × V)} {vs : List (κ × Value)} (r : KV kvs vs) : (!vs.isEmpty) = !kvs.isEmpty := by
  cases r <;> rfl
theorem isEmpty_of {xs : List V} {its : List Value} (r : Vals xs its) : (!its.toArray.isEmpty) = !xs.isEmpty := by
  cases r <;> simp
theorem line63 : (sizeLine : Nat) < 2 ^ 63 := by rw [sizeLine_eq]; decide
theorem tru_ok : TruR X (fun x H Q => ∃ k, TruV X.K x H k ∧ Q k H) := by
  unfold TruR at *
  exact by
    intro pins s σ H x v Q I rx h
    obtain ⟨k, e, q⟩ := h
    have hl := line63
    have hs : sizeLine = 16777216 := sizeLine_eq
    cases x with
    | non =>
      cases rx
      have e' : k = false := e
      subst e'
      exact truthy_none ⟨H, I, q⟩
    | bl b =>
      cases rx
      have e' : k = b := e
      subst e'
      exact wpAny_truthy_bool ⟨H, I, q⟩
    | int i =>
      obtain ⟨t, rfl⟩ := rx
      have e' : k = (i != 0) := e
      subst e'
      exact PySem.P.truthy_int ⟨H, I, q⟩
    | str y =>
      obtain ⟨t, rfl⟩ := rx
      obtain ⟨hy, e'⟩ : y.length ≤ sizeLine ∧ k = ((y.length : Int) != 0) := e
      subst e'
      exact PySem.P.truthy_str (by omega) ⟨H, I.tok _, q⟩
    | byt y =>
      obtain ⟨t, rfl⟩ := rx
      obtain ⟨hy, e'⟩ : y.size ≤ sizeLine ∧ k = ((y.size : Int) != 0) := e
      subst e'
      exact PySem.W.truthy_bytes (by omega) ⟨H, I.tok _, q⟩
    | ref p =>
      cases rx
      have e' : (∃ xs, SqL X.K H p xs ∧ k = !xs.isEmpty) ∨ (∃ xs, SqT X.K H p xs ∧ k = !xs.isEmpty) ∨ ∃ kvs, H p = some (.dK kvs) ∧ k = !kvs.isEmpty := e
      rcases e' with ⟨xs, hx, e'⟩ | ⟨xs, hx, e'⟩ | ⟨kvs, hx, e'⟩
      · subst e'
        obtain ⟨its, r, pl, hz⟩ := I.list hx
        have hlen := r.length
        exact wpAny_truthy_list pl.isList (by simp only [List.size_toArray]; omega) ⟨H, I.tok _, by rw [isEmpty_of r]; exact q⟩
      · subst e'
        obtain ⟨its, r, pl, hz⟩ := I.tuple hx
        have hlen := r.length
        exact truthy_tuple pl (by simp only [List.size_toArray]; omega) ⟨H, I.tok _, by rw [isEmpty_of r]; exact q⟩
      · subst e'
        obtain ⟨hz, hS, vs, r, m⟩ : kvs.length ≤ sizeLine ∧ (p == sysModules) = false ∧ ∃ vs, KV kvs vs ∧ s.heap.DictOf (mixKind X.prog X.w) p vs := I.hok p _ hx
        have hlen : kvs.length = vs.length := Paired.length r
        exact wpAny_truthy_dict hS m (by omega) ⟨H, I.tok _, by rw [isEmpty_kv r]; exact q⟩
    | _ => exact (show False from e).elim
theorem pt_truth (ha : PE X a ta) (he : ∀ whole, isTrue a X.env whole = (do let v ← whole; standAt a.pos; holding [v] (truthy v))) :
    PT X a (fun σ H Q => ta σ H fun x H' => ∃ k, TruV X.K x H' k ∧ Q k H') := by
  unfold PE at *; unfold PT at *; have tru_ok := tru_ok (X := X); unfold TruR at tru_ok
  exact by
    intro pins s σ H Q I h
    exact isTrue_plain (thn (ha pins s σ H _ I h) fun v s1 ⟨x, H1, I1, r1, q1⟩ => tru_ok pins s1 σ H1 x v Q I1 r1 q1) (he _)
theorem vals1 {x : V} {us : List Value} (r : Vals [x] us) : ∃ u, us = [u] ∧ RelV x u := by
  cases r with
  | cons r1 r2 => cases r2; exact ⟨_, rfl, r1⟩
theorem vals2 {x y : V} {us : List Value} (r : Vals [x, y] us) : ∃ u w', us = [u, w'] ∧ RelV x u ∧ RelV y w' := by
  cases r with
  | cons r1 r2 =>
    cases r2 with
    | cons r3 r4 => cases r4; exact ⟨_, _, rfl, r1, r3⟩
theorem call_min2 (hc : X.calm = true) : CallR X (.builtin "min") (fun xs H Q => ∃ i j, xs = [.int i, .int j] ∧ Q (.int (if j < i then j else i)) H) := by
  unfold CallR at *
  exact by
    intro pins s σ H xs us Q I r h
    obtain ⟨i, j, rfl, q⟩ := h
    obtain ⟨u, w', rfl, ⟨t, rfl⟩, ⟨t', rfl⟩⟩ := vals2 r
    refine min_two_ints (I.ok.hd hc) fun h' tk k => ⟨_, H, I.kept k, ?_, q⟩
    by_cases hj : j < i
    · rw [if_pos hj, if_pos hj]; exact ⟨_, rfl⟩
    · rw [if_neg hj, if_neg hj]; exact ⟨_, rfl⟩
end
end L2
namespace L2
open PySem PySem.Spec PyProof.Rows
structure ObjM (h : Heap) (x dx C : Addr) (mA : Str → Option Value) : Prop where
  obj : h.get? x = some (PySem.W.instObj C dx)
  ns : h.Ns1 dx mA
  ne : dx ≠ x
theorem lookIn_ns {h : Heap} {dx : Addr} {mA : Str → Option Value} (n : h.Ns1 dx mA) : ∃ od, h.get? dx = some od ∧ ∀ name, PySem.W.lookIn name od = some (mA name) := by
  obtain ⟨o, es, ep, ho, hd, hk, _, hm⟩ := n
  refine ⟨o, ho, fun name => ?_⟩
  have e := hm name
  unfold nsFind findBy at e
  rw [← Array.find?_toList] at e
  unfold PySem.W.lookIn
  rw [hd]
  dsimp only
  split
  · rename_i y q
    rw [q] at e
    exact congrArg some e
  · rename_i q
    rw [q] at e
    have a : es.toList.any (·.refKey) = false := by
      rw [List.any_eq_false]
      intro y hy
      obtain ⟨z, t, hkey⟩ := hk y (Array.mem_toList_iff.mp hy)
      simp [DictEntry.refKey, hkey]
    have a' : ¬ es.toList.any (·.refKey) = true := by rw [a]; exact Bool.false_ne_true
    rw [if_neg a']
    exact congrArg some e
theorem ObjM.look {h : Heap} {x dx C : Addr} {mA : Str → Option Value} (I : ObjM h x dx C mA) : ∃ od, PySem.W.InstAt h x (PySem.W.instObj C dx) C (some od) ∧ ∀ name, PySem.W.lookIn name od = some (mA name) :=
  let ⟨od, ho, hl⟩ := lookIn_ns I.ns
  ⟨od, ⟨I.obj, rfl, rfl, ho⟩, hl⟩
section
variable {prog : Program} {w : World} {A : Around} {E : Value → Shared → Prop} {s : Shared} {K : PySem.W.Frag} {x dx C f : Addr} {mA : Str → Option Value} {name : Str} {v : Value}
end
theorem RelO.some_of {v : V} {o : Option Value} (r : RelO (some v) o) : ∃ u, o = some u ∧ RelV v u := by
  cases o with
  | none => exact (show False from r).elim
  | some u => exact ⟨u, rfl, r⟩
section
variable {P : Program} {w : World} {H H' : Hp} {h h' : Heap} {a C dx : Addr} {fs fs' : List (Str × V)}
theorem ins_get (hok : HOk P w H h) (e : H a = some (.ins C dx fs)) : ∃ mA, ObjM h a dx C mA ∧ (∀ f, RelO (fs.lookup f) (mA f)) ∧ PySem.Within mA (fs.map (·.1)) ∧ fs.length ≤ 1000 ∧ H dx = some (.own a) := by
  obtain ⟨d, z, ne, ob, mA, n, r, q⟩ := (show ObjOk P w H h a (.ins C dx fs) from hok a _ e)
  exact ⟨mA, ⟨ob, n, ne⟩, r, q, z, d⟩
end
structure Cls (K : PySem.W.Frag) (C : Addr) : Prop where
  pg : PySem.W.plainGet K C Str.empty = true
  hd : PySem.W.hasDictIn K C = true
  po : PySem.W.plainOver K C = true
  sa : PySem.W.findIn K (.ref C) "__setattr__" = some (some (.builtin "object.__setattr__"))
theorem Cls.get {K : PySem.W.Frag} {C : Addr} (c : Cls K C) (f : Str) : PySem.W.plainGet K C f = true := c.pg
def NoAttr (K : PySem.W.Frag) (C : Addr) (f : Str) : Prop := PySem.W.findIn K (.ref C) f = some none
section
variable {X : Cx} {pins : List (Addr × Obj)} {σ : St} {H : Hp} {s : Shared} {a C dx : Addr} {fs : List (Str × V)} {f : Str} {v : V} {A : Around} {E : Value → Shared → Prop}
end
section
variable {X : Cx} {o e value : Expr} {f : Str} {pos pos' tpos : Pos} {ta tv : TE}
end
section
variable {X : Cx} {pins : List (Addr × Obj)} {σ : St} {H : Hp} {s : Shared} {A : Around} {E : Value → Shared → Prop} {Q : Value → Shared → Prop} {c : Value} {b : Bool}
inductive TyOf (K : PySem.W.Frag) (H : Hp) : V → Value → Prop where
  | non : TyOf K H .non (.type "NoneType")
  | bl (x : Bool) : TyOf K H (.bl x) (.type "bool")
  | int (i : Int) : TyOf K H (.int i) (.type "int")
  | str (x : Str) : TyOf K H (.str x) (.type "str")
  | flt (x : UInt64) : TyOf K H (.flt x) (.type "float")
  | lst {a : Addr} {xs : List V} (e : H a = some (.lst xs)) : TyOf K H (.ref a) (.type "list")
  | frz {a : Addr} {o : Obj} {xs : List V} (e : H a = some (.frz o (.lst xs))) : TyOf K H (.ref a) (.type "list")
  | tup {a : Addr} {xs : List V} (e : H a = some (.tup xs)) : TyOf K H (.ref a) (.type "tuple")
  | dK {a : Addr} {kvs : List (Key × V)} (e : H a = some (.dK kvs)) : TyOf K H (.ref a) (.type "dict")
  | dT {a : Addr} {kvs : List (List Key × V)} (e : H a = some (.dT kvs)) : TyOf K H (.ref a) (.type "dict")
  | ins {a C dx : Addr} {fs : List (Str × V)} (e : H a = some (.ins C dx fs)) (cl : Cls K C) (ha : PySem.W.findIn K (.ref C) "__class__" = some (some (.builtin "object.__class__")))
      (hn : PySem.W.specialIn K (.builtin "object.__class__") "__get__" = some (some (.builtin "getset_descriptor.__get__"))) (htk : PySem.W.takesIn K (.builtin "object.__class__") = some true)
      (hm : PySem.W.mroIn K C (.type "object") = some true) : TyOf K H (.ref a) (.ref C)
theorem isinst_ok {x : V} {u t : Value} (I : Inv X pins σ H s) (rx : RelV x u) (ty : TyOf X.K H x t) (e : PySem.W.kitOne X.K t c = some b) (h : ∀ tk, Q (.bool b) { s with toks := tk }) :
    wpAny (model X.prog X.w) A (call (.builtin "isinstance") [u, c]) Q E s := by
  cases ty with
  | non => cases (show u = Value.none from rx); exact PySem.W.kia_one PySem.W.kitx_none I.kIn True.intro e (fun z => nomatch z) h
  | bl y => cases (show u = Value.bool y from rx); exact PySem.W.kia_one PySem.W.kitx_bool I.kIn True.intro e (fun z => nomatch z) h
  | int i => obtain ⟨t, q⟩ := (show ∃ t, u = Value.int i t from rx); cases q; exact PySem.W.kia_one PySem.W.kitx_int I.kIn True.intro e (fun z => nomatch z) h
  | str y => obtain ⟨t, q⟩ := (show ∃ t, u = Value.str y t from rx); cases q; exact PySem.W.kia_one PySem.W.kitx_str I.kIn True.intro e (fun z => nomatch z) h
  | flt y => obtain ⟨t, q⟩ := (show ∃ t, u = Value.float y t from rx); cases q; exact PySem.W.kia_one PySem.W.kitx_float I.kIn True.intro e (fun z => nomatch z) h
  | @lst a xs ea =>
    cases (show u = Value.ref a from rx)
    obtain ⟨_, _, n, _, h1⟩ := (show ObjOk X.prog X.w H s.heap a (.lst xs) from I.hok a _ ea)
    exact PySem.W.kia_one PySem.W.kitx_list I.kIn ⟨_, h1, rfl⟩ e (fun z => nomatch z) h
  | @frz a ob xs ea =>
    cases (show u = Value.ref a from rx)
    obtain ⟨_, _, _, n, _, h1⟩ := (show ObjOk X.prog X.w H s.heap a (.frz ob (.lst xs)) from I.hok a _ ea)
    exact PySem.W.kia_one PySem.W.kitx_list I.kIn ⟨_, h1, rfl⟩ e (fun z => nomatch z) h
  | @tup a xs ea =>
    cases (show u = Value.ref a from rx)
    obtain ⟨_, _, _, p⟩ := (show ObjOk X.prog X.w H s.heap a (.tup xs) from I.hok a _ ea)
    obtain ⟨o, h1, h2, _⟩ := p
    exact PySem.W.kia_one PySem.W.kitx_tuple I.kIn ⟨o, h1, h2⟩ e (fun z => nomatch z) h
  | @dK a kvs ea =>
    cases (show u = Value.ref a from rx)
    obtain ⟨_, _, vs, _, p⟩ := (show ObjOk X.prog X.w H s.heap a (.dK kvs) from I.hok a _ ea)
    obtain ⟨o, es, ep, h1, h2, _⟩ := p
    exact PySem.W.kia_one PySem.W.kitx_dict I.kIn ⟨o, h1, h2.1⟩ e (fun z => nomatch z) h
  | @dT a kvs ea =>
    cases (show u = Value.ref a from rx)
    obtain ⟨_, _, xs, _, o, es, ep, h1, h2, _⟩ := (show ObjOk X.prog X.w H s.heap a (.dT kvs) from I.hok a _ ea)
    exact PySem.W.kia_one PySem.W.kitx_dict I.kIn ⟨o, h1, h2.1⟩ e (fun z => nomatch z) h
  | @ins a C dx fs ea cl ha hn htk hm =>
    cases (show u = Value.ref a from rx)
    obtain ⟨mA, O, _⟩ := ins_get I.hok ea
    obtain ⟨od, J, _⟩ := O.look
    exact PySem.W.kia_one (PySem.W.kitx_own (cl.get _) cl.hd ha hn htk hm) I.kIn J e (fun z => nomatch z) h
end
end L2
namespace L2
open PySem PySem.Spec PyProof.Rows
structure Room (k : Nat) (A : Around) : Prop where
  hd : A.handled = none
  dp : A.depth + 3 * k + 5 < recursionLimit
  un : A.units + 16 * k + 200 < cLine
theorem Room.mono {j k : Nat} {A : Around} (r : Room k A) (h : j ≤ k) : Room j A := ⟨r.hd, by have := r.dp; omega, by have := r.un; omega⟩
theorem Room.deeper {k : Nat} {A : Around} (r : Room (k + 1) A) (env : Env) : Room k (A.deeper env) :=
  ⟨r.hd, by have := r.dp; show A.depth + 1 + 3 * k + 5 < _; omega, by have := r.un; show A.units + 3 + 16 * k + 200 < _; omega⟩
theorem Room.in1 {k : Nat} {A : Around} (r : Room (k + 1) A) : Room k A.in1 :=
  ⟨r.hd, by have := r.dp; show A.depth + 3 * k + 5 < _; omega, by have := r.un; show A.units + 1 + 16 * k + 200 < _; omega⟩
theorem Room.depth {k : Nat} {A : Around} (r : Room k A) : A.depth < recursionLimit := by have := r.dp; omega
theorem Room.units {k : Nat} {A : Around} (r : Room k A) : A.units + 64 < cLine := by have := r.un; omega
def tNil : TA := fun _ H Q => Q [] H
def tCons (ta : TE) (tr : TA) : TA := fun σ H Q => ta σ H fun x H1 => tr σ H1 fun xs H2 => Q (x :: xs) H2
section
variable {X : Cx} {e : Expr} {es : List Expr} {te : TE} {t : TA} {pos : Pos}
theorem pa_nil : PA X [] tNil := by
  first
  | exact (fun _ _ _ _ H Q I h => Calls.spliced_nil ⟨[], H, I, .nil, h⟩)
  | (unfold PA at *; exact (fun _ _ _ _ H Q I h => Calls.spliced_nil ⟨[], H, I, .nil, h⟩))
theorem pa_cons (ha : PE X e te) (hr : PA X es t) (hs : starEach (e :: es) X.env = (false, eval e X.env) :: starEach es X.env := by rfl) : PA X (e :: es) (tCons te t) := by
  unfold PE at *; unfold PA at *
  exact by
    intro pos pins s σ H Q I h
    rw [hs]
    show wpAny _ _ (spliced ((false, eval e X.env) :: backTo pos (starEach es X.env))) _ _ s
    refine Calls.spliced_cons (thn (ha pins s σ H _ I h) fun u s1 ⟨x, H1, I1, r1, q1⟩ => ?_)
    exact thn (hr pos pins s1 σ H1 _ I1 q1) fun us s2 ⟨xs, H2, I2, r2, q2⟩ => ⟨x :: xs, H2, I2, .cons r1 r2, q2⟩
def tTup (t : TA) : TE := fun σ H Q => t σ H fun xs H1 => xs.length ≤ sizeLine ∧ ∀ p, H1 p = none → Q (.ref p) (upd H1 p (.tup xs))
def tLst (t : TA) : TE := fun σ H Q => t σ H fun xs H1 => xs.length ≤ sizeLine ∧ ∀ p, H1 p = none → Q (.ref p) (upd H1 p (.lst xs))
theorem pe_tup {x1} (h : PA X es t) : PE X (.Tuple es x1 pos) (tTup t) := by
  unfold PE at *; unfold PA at *
  exact by
    intro pins s σ H Q I hq
    refine wpAny_Tuple_spliced (thn (h pos pins s σ H _ I hq) fun us s1 ⟨xs, H1, I1, r, z, q⟩ => ⟨by rw [← r.length]; exact z, ?_⟩)
    have hf : H1 s1.heap.objs.size = none := I1.hok.fresh (Nat.le_refl _)
    refine ⟨.ref s1.heap.objs.size, upd H1 s1.heap.objs.size (.tup xs), I1.laid (t' := s1.toks) (fun b u e => Heap.get?_push_of_some _ e) (Nat.le_refl _) ?_, rfl, q _ hf⟩
    exact ⟨z, us, r, ⟨_, Heap.get?_push_size _ rfl, rfl, _, rfl⟩⟩
theorem pe_lst (h : PA X es t) : PE X (.List es pos) (tLst t) := by
  unfold PE at *; unfold PA at *
  exact by
    intro pins s σ H Q I hq
    refine wpAny_List_spliced (thn (h pos pins s σ H _ I hq) fun us s1 ⟨xs, H1, I1, r, z, q⟩ => ⟨by rw [← r.length]; exact z, ?_⟩)
    have hf : H1 s1.heap.objs.size = none := I1.hok.fresh (Nat.le_refl _)
    refine ⟨.ref s1.heap.objs.size, upd H1 s1.heap.objs.size (.lst xs), I1.laid (t' := s1.toks) (fun b u e => Heap.get?_push_of_some _ e) (Nat.le_refl _) ?_, rfl, q _ hf⟩
    exact ⟨z, us, 0, r, Heap.get?_push_size _ rfl⟩
end
abbrev Sp := List V → Hp → VK → XK → Prop
abbrev CXT := List Env → Hp → Shared → XK → Value → Shared → Prop
structure Env0 (P : Program) (w : World) (K : PySem.W.Frag) (mg : Str → Option Value) (base : Heap) (A : Around) (outer : List Env) (s : Shared) (H : Hp) : Prop where
  frames : A.frames = some outer
  mod : Mod K mg base
  bs : ∀ b o, base.get? b = some o → s.heap.get? b = some o ∧ H b = none
  bsz : base.objs.size ≤ s.heap.objs.size
  funs : s.heap.FunFrames base outer
  frf : ∀ b ∈ frs outer, H b = none
  hok : HOk P w H s.heap
  bare : AllBare s.gens
def CE (outer : List Env) (P : Program) (w : World) (H : Hp) (s : Shared) (Q : VK) (u : Value) (s' : Shared) : Prop :=
  ∃ v H', s'.os = s.os ∧ AllBare s'.gens ∧ Un (frs outer) [] H H' s.heap s'.heap ∧ HOk P w H' s'.heap ∧ RelV v u ∧ Q v H'
def CR (CX : CXT) (outer : List Env) (P : Program) (w : World) (H : Hp) (s : Shared) (Q : VK) (E : XK) (r : Result) (s' : Shared) : Prop :=
  match r with
  | .ok (.ret u) => CE outer P w H s Q u s'
  | .ok _ => False
  | .error e => CX outer H s E e s'
structure FnOk (P : Program) (w : World) (K : PySem.W.Frag) (mg : Str → Option Value) (base : Heap) (CX : CXT) (k : Nat) (f : Addr) (fd : FuncData) (ps : List Str) (sp : Sp) : Prop where
  len : ∀ vs H Q E, sp vs H Q E → vs.length = ps.length
  run : ∀ (A : Around) (outer : List Env) (s : Shared) (H : Hp) (args : Args) (us : List Value) (vs : List V) (Q : VK) (E : XK), Room k A → Env0 P w K mg base A outer s H → BindsTo s fd args (ps.zip us) → Vals vs us → sp vs H Q E →
    codeAny (model P w) A (.call (.ref f) args) (CR CX outer P w H s Q E) s
theorem FnOk.mono {P : Program} {w : World} {K : PySem.W.Frag} {mg : Str → Option Value} {base : Heap} {CX : CXT} {j k : Nat} {f : Addr} {fd : FuncData} {ps : List Str} {sp : Sp} (F : FnOk P w K mg base CX j f fd ps sp) (h : j ≤ k) :
    FnOk P w K mg base CX k f fd ps sp := ⟨F.len, fun A outer s H args us vs Q E hr => F.run A outer s H args us vs Q E (hr.mono h)⟩
theorem FnOk.imp {P : Program} {w : World} {K : PySem.W.Frag} {mg : Str → Option Value} {base : Heap} {CX : CXT} {k : Nat} {f : Addr} {fd : FuncData} {ps : List Str} {sp sp' : Sp} (F : FnOk P w K mg base CX k f fd ps sp)
    (h : ∀ vs H Q E, sp' vs H Q E → sp vs H Q E) : FnOk P w K mg base CX k f fd ps sp' :=
  ⟨fun vs H Q E q => F.len vs H Q E (h _ _ _ _ q), fun A outer s H args us vs Q E hr he hb hv hs => F.run A outer s H args us vs Q E hr he hb hv (h _ _ _ _ hs)⟩
theorem Env0.in1 {P : Program} {w : World} {K : PySem.W.Frag} {mg : Str → Option Value} {base : Heap} {A : Around} {outer : List Env} {s : Shared} {H : Hp} (e : Env0 P w K mg base A outer s H) :
    Env0 P w K mg base A.in1 outer s H := ⟨e.frames, e.mod, e.bs, e.bsz, e.funs, e.frf, e.hok, e.bare⟩
section
variable {X : Cx} {pins : List (Addr × Obj)} {σ : St} {H : Hp} {s s' : Shared}
theorem Inv.env0 (I : Inv X pins σ H s) : Env0 X.prog X.w X.K X.mg X.base X.A X.stack s H :=
  ⟨I.ok.frames, I.ok.mod, I.bs, Nat.le_trans I.ok.bsz I.sz, I.stack, I.stkFree, I.hok, I.bare⟩
theorem Inv.after {Q : VK} {u : Value} (I : Inv X pins σ H s) (h : CE X.stack X.prog X.w H s Q u s') : EP X pins σ Q u s' := by
  obtain ⟨v, H', os, bare, un, hok, r, q⟩ := h
  obtain ⟨hh, g, d, t, os'⟩ := s'
  obtain rfl : os' = s.os := os
  exact ⟨v, H', I.call (h' := hh) (g' := g) (d' := d) (t' := t) (ch := []) un hok bare (fun b z => absurd z (by simp)), r, q⟩
end
def tCall (sp : Sp) (dvs : List V) (E : XK) (t : TA) : TE := fun σ H Q => t σ H fun vs H1 => sp (vs ++ dvs) H1 Q E
def Binds (K : PySem.W.Frag) (fd : FuncData) (ps : List Str) (ds : List Value) : Prop :=
  ∀ (s : Shared) (us : List Value), K.In s.heap → (us ++ ds).length = ps.length → BindsTo s fd ⟨us, []⟩ (ps.zip (us ++ ds))
theorem Binds.all {K : PySem.W.Frag} {fd : FuncData} {ps : List Str} (h : ∀ us : List Value, us.length = ps.length → bindArgs fd ⟨us, []⟩ = pure (ps.zip us)) : Binds K fd ps [] := fun s us _ hl => by
  rw [List.append_nil] at hl ⊢
  exact .of_eq (h us hl)
def Passes (CX : CXT) (X : Cx) (E : XK) : Prop := ∀ (pins : List (Addr × Obj)) (σ : St) (H : Hp) (s : Shared) (e : Value) (s' : Shared), Inv X pins σ H s → CX X.stack H s E e s' → X.xe e s'
section
variable {X : Cx} {CX : CXT} {k : Nat} {f C : Addr} {fd : FuncData} {ps : List Str} {sp : Sp} {dvs : List V} {ds : List Value} {E : XK} {x m : Str} {p pos apos : Pos} {e o : Expr} {es : List Expr} {ta : TE} {t : TA}
theorem run_fn {pins : List (Addr × Obj)} {σ : St} {H : Hp} {s : Shared} {Q : VK} {us : List Value} {vs : List V} (F : FnOk X.prog X.w X.K X.mg X.base CX k f fd ps sp) (hr : Room k X.A) (hb : Binds X.K fd ps ds) (hd : Vals dvs ds) (hx : Passes CX X E)
    (I : Inv X pins σ H s) (r : Vals vs us) (h : sp (vs ++ dvs) H Q E) : wpAny (model X.prog X.w) X.A (call (.ref f) us) (EP X pins σ Q) X.xe s := by
  have r2 : Vals (vs ++ dvs) (us ++ ds) := r.append hd
  have hl : (us ++ ds).length = ps.length := by rw [← r2.length]; exact F.len _ _ _ _ h
  refine wpAny_call (codeAny_mono (F.run X.A X.stack s H ⟨us, []⟩ (us ++ ds) (vs ++ dvs) Q E hr I.env0 (hb s us I.kIn hl) r2 h) fun r s' hq => ?_)
  cases r with
  | error e => exact hx pins σ H s e s' I hq
  | ok fl =>
    cases fl with
    | ret u => exact I.after hq
    | next => exact False.elim hq
    | brk => exact False.elim hq
    | cont => exact False.elim hq
theorem pe_call (F : FnOk X.prog X.w X.K X.mg X.base CX k f fd ps sp) (hr : Room k X.A) (hg : Gl X x) (hm : X.mg x = some (.ref f)) (hk : PySem.W.keepIn X.K (.ref f) = true) (hb : Binds X.K fd ps ds) (hd : Vals dvs ds) (hx : Passes CX X E)
    (ha : PA X (e :: es) t) (hdb : (x == ("__debug__" : Str)) = false := by decide) (he : starEach (e :: es) X.env = (false, eval e X.env) :: starEach es X.env := by rfl) (hpl : (backTo pos (starEach es X.env)).any (·.1) = false := by rfl) :
    PE X (.Call (.Name x p) (e :: es) [] pos) (tCall sp dvs E t) := by
  unfold PE at *; unfold PA at *
  exact by
    intro pins s σ H Q I h
    refine wpAny_Call_Name_kw (ld_glob I hg hm ?_ hdb)
    refine PySem.W.callWith_K (h₀ := X.base) I.ok.mod.kin hk (thn (ha pos pins s σ H _ I h) fun us s1 ⟨vs, H1, I1, r, q⟩ => ⟨I1.kIn, ?_⟩) he hpl
    exact run_fn F hr hb hd hx I1 r q
end
section
variable {X : Cx} {CX : CXT} {k : Nat} {f C : Addr} {fd : FuncData} {ps ks : List Str} {sp : Sp} {E : XK} {x m : Str} {p pos apos kpos : Pos} {e o : Expr} {es : List Expr} {kws : List Keyword} {te ta : TE} {t tk : TA} {nm : Option Str}
variable {g : List Value → List Value → List Value} {gV : List V → List V → List V}
end
structure FnScope (N P : List Str) (sc : Scope) : Prop where
  kind : sc.kind = .function
  co : sc.isCoroutine = false
  gen : sc.isGenerator = false
  nd : N.Nodup
  pre : N.take P.length = P
  par : ∀ x ∈ P, sc.names.lookup x = some .local ∨ sc.names.lookup x = some .cell
  nofree : ∀ y ∈ sc.names, y.2 ≠ .free
theorem bindL_out {kindOf : Str → Option NameKind} {x : Str} : ∀ {binds : List (Str × Value)} {m : Str → Option Value}, (∀ v, (x, v) ∉ binds) → bindL kindOf binds m x = m x
  | [], _, _ => rfl
  | (n, v) :: r, m, h => by
    unfold bindL
    rw [bindL_out fun w hw => h w (List.mem_cons_of_mem _ hw)]
    split
    · have : x ≠ n := by rintro rfl; exact h v List.mem_cons_self
      simp [this]
    · rfl
theorem bindC_out {kindOf : Str → Option NameKind} {x : Str} : ∀ {binds : List (Str × Value)} {m : Str → Option Value}, (∀ v, (x, v) ∉ binds) → bindC kindOf binds m x = m x
  | [], _, _ => rfl
  | (n, v) :: r, m, h => by
    unfold bindC
    rw [bindC_out fun w hw => h w (List.mem_cons_of_mem _ hw)]
    split
    · rfl
    · have : x ≠ n := by rintro rfl; exact h v List.mem_cons_self
      simp [this]
theorem bindL_get {kindOf : Str → Option NameKind} {x : Str} {v : Value} : ∀ {P : List Str} {vs : List Value} {i : Nat} {m : Str → Option Value}, P.Nodup → P[i]? = some x → vs[i]? = some v → kindOf x = some .local →
    bindL kindOf (P.zip vs) m x = some v
  | [], _, _, _, _, h, _, _ => by simp at h
  | _ :: _, [], _, _, _, _, h, _ => by simp at h
  | p :: P, w :: vs, 0, m, nd, h1, h2, hk => by
    simp at h1 h2; subst h1; subst h2
    show bindL kindOf ((p, w) :: P.zip vs) m p = _
    unfold bindL
    rw [bindL_out fun v hv => (List.nodup_cons.mp nd).1 (List.of_mem_zip hv).1, if_pos hk]
    simp
  | p :: P, w :: vs, i + 1, m, nd, h1, h2, hk => by
    show bindL kindOf ((p, w) :: P.zip vs) m x = _
    unfold bindL
    exact bindL_get (i := i) (List.nodup_cons.mp nd).2 (by simpa using h1) (by simpa using h2) hk
theorem bindC_get {kindOf : Str → Option NameKind} {x : Str} {v : Value} : ∀ {P : List Str} {vs : List Value} {i : Nat} {m : Str → Option Value}, P.Nodup → P[i]? = some x → vs[i]? = some v → kindOf x ≠ some .local →
    bindC kindOf (P.zip vs) m x = some v
  | [], _, _, _, _, h, _, _ => by simp at h
  | _ :: _, [], _, _, _, _, h, _ => by simp at h
  | p :: P, w :: vs, 0, m, nd, h1, h2, hk => by
    simp at h1 h2; subst h1; subst h2
    show bindC kindOf ((p, w) :: P.zip vs) m p = _
    unfold bindC
    rw [bindC_out fun v hv => (List.nodup_cons.mp nd).1 (List.of_mem_zip hv).1, if_neg hk]
    simp
  | p :: P, w :: vs, i + 1, m, nd, h1, h2, hk => by
    show bindC kindOf ((p, w) :: P.zip vs) m x = _
    unfold bindC
    exact bindC_get (i := i) (List.nodup_cons.mp nd).2 (by simpa using h1) (by simpa using h2) hk
def start (N : List Str) (vs : List V) : St := vs.map some ++ List.replicate (N.length - vs.length) none
def cxOf (CX : CXT) (P : Program) (w : World) (K : PySem.W.Frag) (mg : Str → Option Value) (base : Heap) (N : List Str) (qual : Str) (scope : Scope) (f : Addr) (cd : Value) (A : Around) (outer : List Env) (s : Shared) (H : Hp) (E : XK) : Cx where
  prog := P
  w := w
  K := K
  mg := mg
  base := base
  A := A.deeper (envOfC qual scope s.heap.objs.size f cd)
  N := N
  s₀ := s
  H₀ := H
  env := envOfC qual scope s.heap.objs.size f cd
  outer := outer
  stack := envOfC qual scope s.heap.objs.size f cd :: outer
  ex := []
  calm := true
  fn := fun _ => true
  pn := []
  xe := fun e s' => wpAny (model P w) (A.deeper (envOfC qual scope s.heap.objs.size f cd)) (leaving (envOfC qual scope s.heap.objs.size f cd) e) (fun _ s'' => CX outer H s E e s'') (fun e' s'' => CX outer H s E e' s'') s'
theorem cell_has {sc : Scope} {n : Nat} {x : Str} (h : sc.names.lookup x = some .cell) : ∃ c, (cellsFrom n sc.names []).lookup x = some c := by
  have q := PySem.W.cellsFrom_some sc.names n [] (.inl h)
  exact Option.isSome_iff_exists.mp q
theorem inv_start {CX : CXT} {P : Program} {w : World} {K : PySem.W.Frag} {mg : Str → Option Value} {base : Heap} {N ps : List Str} {qual : Str} {scope : Scope} {f : Addr} {cd : Value} {A : Around} {outer : List Env} {s s1 : Shared} {H : Hp} {E : XK} {us : List Value} {vs : List V}
    (S : FnScope N ps scope) (hd : A.handled = none) (e0 : Env0 P w K mg base A outer s H) (hl : vs.length = ps.length) (r : Vals vs us)
    (x : InCallC s s.heap.objs.size (bindL (envOfC qual scope s.heap.objs.size f cd).kindOf (ps.zip us) fun _ => none) (cellsFrom (s.heap.objs.size + 1) scope.names []) (bindC (envOfC qual scope s.heap.objs.size f cd).kindOf (ps.zip us) fun _ => none) s1) :
    Inv (cxOf CX P w K mg base N qual scope f cd A outer s H E) [] (start N vs) H s1 := by
  have hpl : ps.length ≤ N.length := by have := congrArg List.length S.pre; rw [List.length_take] at this; omega
  obtain ⟨h1, tk, rfl, hk⟩ := x.done
  have noA : ∀ b : Addr, b ∉ (cxOf CX P w K mg base N qual scope f cd A outer s H E).ex := fun b z => absurd (show b ∈ ([] : List Addr) from z) (by simp)
  refine ⟨⟨e0.mod, S.kind, rfl, rfl, Nat.le_refl _, fun y z c h1 h2 => ?_, fun y hy => ?_, fun y c _ h => ?_, fun _ => hd, Around.frames_deeper e0.frames, .inr ⟨rfl, rfl⟩, fun b z => absurd z (noA b), e0.bs, e0.bsz, fun b _ _ => noA b, fun b z => absurd z (noA b), e0.funs, e0.frf⟩,
    rfl, e0.bare, Un.kept hk, ⟨_, x.toInCall.ns, fun i y v h1 h2 h3 => ?_⟩, fun y c h => ⟨_, x.cell y c h⟩, e0.hok.fresh (Nat.le_refl _), fun y c h => ?_, fun p hp => absurd (show p ∈ ([] : List (Addr × Obj)) from hp) (by simp), e0.hok.kept hk, ?_⟩
  · exact name_of_addr x.apart (PySem.mem_of_lookup h1) (PySem.mem_of_lookup h2)
  · have hy : scope.names.lookup y = some .cell ∨ scope.names.lookup y = some .free := hy
    rcases hy with hy | hy
    · exact cell_has hy
    · exact absurd rfl (S.nofree _ (PySem.mem_of_lookup hy))
  · exact Nat.le_of_lt (x.above y c (PySem.mem_of_lookup h))
  · have hi : i < vs.length := by
      unfold start at h2
      by_cases hi : i < vs.length
      · exact hi
      · rw [List.getElem?_append_right (by simpa using hi)] at h2
        rw [List.getElem?_replicate] at h2
        split at h2 <;> cases h2
    have ha : vs[i]? = some v := by
      unfold start at h2
      rw [List.getElem?_append_left (by simpa using hi), List.getElem?_map] at h2
      cases e : vs[i]? with
      | none => rw [e] at h2; cases h2
      | some a => rw [e] at h2; cases h2; rfl
    obtain ⟨u, hu, rv⟩ := r.get ha
    have hp : ps[i]? = some y := by
      rw [← S.pre, List.getElem?_take_of_lt (by omega)]; exact h1
    have ndP : ps.Nodup := by rw [← S.pre]; exact S.nd.sublist (List.take_sublist _ _)
    refine ⟨u, rv, ?_⟩
    rcases S.par y (List.mem_of_getElem? hp) with k | k
    · exact .inl ⟨k, bindL_get ndP hp hu k⟩
    · obtain ⟨c, e⟩ := cell_has (n := s.heap.objs.size + 1) k
      refine .inr ⟨.inl k, c, e, ?_⟩
      have q := x.cell y c e
      rw [bindC_get ndP hp hu (by show scope.names.lookup y ≠ _; rw [k]; decide)] at q
      exact q
  · exact e0.hok.fresh (Nat.le_of_lt (x.above y c (PySem.mem_of_lookup h)))
  · unfold start
    show _ = N.length
    rw [List.length_append, List.length_map, List.length_replicate]
    omega
theorem fn_of {CX : CXT} {P : Program} {w : World} {K : PySem.W.Frag} {mg : Str → Option Value} {base : Heap} {k : Nat} {f : Addr} {name qual : Str} {params : Arguments} {body : List Stmt} {scope : Scope} {dV kV doc pm cdv ct oc : Value} {an od : Option Addr}
    {osl : Array (Option Value)} {N ps : List Str} {sp : Sp} (lk : K.lookup f = some ⟨oc, od, .func (PySem.W.fnOf name qual params body scope dV kV doc pm an cdv ct), osl⟩) (hcd : PySem.W.codeIn K cdv qual = true) (S : FnScope N ps scope)
    (len : ∀ vs H Q E, sp vs H Q E → vs.length = ps.length)
    (hbody : ∀ (A : Around) (outer : List Env) (s : Shared) (H : Hp) (vs : List V) (Q : VK) (E : XK), Room k (A.deeper (envOfC qual scope s.heap.objs.size f cdv)) → sp vs H Q E →
      ∃ t, PSs (cxOf CX P w K mg base N qual scope f cdv A outer s H E) body t ∧ t { nx := fun _ H' => Q .non H', rt := Q } (start N vs) H) :
    FnOk P w K mg base CX (k + 1) f (PySem.W.fnOf name qual params body scope dV kV doc pm an cdv ct) ps sp := by
  unfold PSs at *
  exact by
    refine ⟨len, fun A outer s H args us vs Q E hr e0 hb r hsp => ?_⟩
    have hl := len _ _ _ _ hsp
    have KX : K.In s.heap := e0.mod.kin.keeps fun b o e => (e0.bs b o e).1
    have lim : s.heap.NoLimit := e0.mod.nolimit.keeps fun b o e => (e0.bs b o e).1
    have hkind : ∀ y ∈ ps.zip us, scope.names.lookup y.1 = some .local ∨ (scope.names.lookup y.1 = some .cell ∧ ((cellsFrom (s.heap.objs.size + 1) scope.names []).lookup y.1).isSome = true) := fun ⟨n, v⟩ hy => by
      rcases S.par n (List.of_mem_zip hy).1 with q | q
      · exact .inl q
      · exact .inr ⟨q, PySem.W.cellsFrom_some _ _ _ (.inl q)⟩
    refine codeAny_call_function hr.depth (KX _ _ lk) rfl S.co S.gen rfl (PySem.W.codeRec_of KX hcd) (hb _ _ _ _ ?_)
    refine wpAny_newFunctionEnv_cells S.kind hkind fun env he s1 x => ?_
    subst he
    refine ⟨lim.keeps x.toInCall.keep, codeAny_func ?_⟩
    obtain ⟨t, ht, hq⟩ := hbody A outer s H vs Q E (hr.deeper _) hsp
    have I : Inv (cxOf CX P w K mg base N qual scope f cdv A outer s H E) [] (start N vs) H s1 := inv_start S hr.hd e0 hl r x
    refine wpAny_mono (ht [] s1 (start N vs) H _ I hq) (fun fl s' hs => ?_) fun e s' hs => hs
    have fin : ∀ {σ' : St} {H' : Hp} {v : V} {u : Value}, Inv (cxOf CX P w K mg base N qual scope f cdv A outer s H E) [] σ' H' s' → RelV v u → Q v H' → CE outer P w H s Q u s' :=
      fun {σ' H' v u} J rv q => ⟨v, H', J.os, J.bare, J.base, J.hok, rv, q⟩
    cases fl with
    | ret u =>
      obtain ⟨v, σ', H', J, rv, q⟩ := hs
      exact fin J rv q
    | next =>
      obtain ⟨σ', H', J, q⟩ := hs
      exact fin (v := V.non) (u := Value.none) J rfl q
    | brk =>
      obtain ⟨_, _, _, q⟩ := hs
      exact False.elim q
    | cont =>
      obtain ⟨_, _, _, q⟩ := hs
      exact False.elim q
end L2
namespace L2
open PySem PySem.Spec PyProof.Rows
section
variable {X : Cx} {x : Str} {p pos : Pos} {e : Expr} {es : List Expr} {t : TA} {id T : String} {r : List V → Hp → VK → Prop}
def tCB (r : List V → Hp → VK → Prop) (t : TA) : TE := fun σ H Q => t σ H fun vs H1 => r vs H1 Q
theorem pe_callB (hc : CallR X (.builtin id) r) (hg : Gl X x) (hm : X.mg x = none) (hv : bootBuiltins x = some (.builtin id)) (ha : PA X (e :: es) t) (hn : x ≠ "__name__" := by decide) (hdb : (x == ("__debug__" : Str)) = false := by decide)
    (he : starEach (e :: es) X.env = (false, eval e X.env) :: starEach es X.env := by rfl) (hpl : (backTo pos (starEach es X.env)).any (·.1) = false := by rfl) : PE X (.Call (.Name x p) (e :: es) [] pos) (tCB r t) := by
  unfold PE at *; unfold PA at *; unfold CallR at *
  exact by
    intro pins s σ H Q I h
    refine wpAny_Call_Name_kw (ld_blt I hg hm hv ?_ hn hdb)
    exact PyProof.Rows.callWith_builtin1 (thn (ha pos pins s σ H _ I h) fun us s1 ⟨vs, H1, I1, r1, q1⟩ => hc pins s1 σ H1 vs us Q I1 r1 q1) he hpl
theorem pe_callTy (hc : CallR X (.type T) r) (hg : Gl X x) (hm : X.mg x = none) (hv : bootBuiltins x = some (.type T)) (ha : PA X (e :: es) t) (hn : x ≠ "__name__" := by decide) (hdb : (x == ("__debug__" : Str)) = false := by decide)
    (he : starEach (e :: es) X.env = (false, eval e X.env) :: starEach es X.env := by rfl) (hpl : (backTo pos (starEach es X.env)).any (·.1) = false := by rfl) : PE X (.Call (.Name x p) (e :: es) [] pos) (tCB r t) := by
  unfold PE at *; unfold PA at *; unfold CallR at *
  exact by
    intro pins s σ H Q I h
    refine wpAny_Call_Name_kw (ld_blt I hg hm hv ?_ hn hdb)
    exact PyProof.Rows.callWith_type1 (thn (ha pos pins s σ H _ I h) fun us s1 ⟨vs, H1, I1, r1, q1⟩ => hc pins s1 σ H1 vs us Q I1 r1 q1) he hpl
end
end L2
namespace HT
open PySem PyProof.Rows
section
open PySem.SeqAt
open PySem.AutoSeq1 (wpAny_loadPart')
open PySem.MeetsSeq PySem.MeetsSeq2 PySem.MeetsSeq3
end
section
variable {prog : Program} {w : World} {A : Around} {E : Value → Shared → Prop} {s : Shared}
end
end HT
namespace L2
open PySem PySem.Spec PyProof.Rows
abbrev TO := St → Hp → (Option Int → Hp → Prop) → Prop
section
variable {X : Cx} {e : Expr} {te : TE} {lo hi : Option Expr} {tl th : TO} {pos p2 : Pos}
@[irreducible] def SlR (X : Cx) (r : V → Option Int → Option Int → Hp → VK → Prop) : Prop :=
  ∀ (pins : List (Addr × Obj)) (s : Shared) (σ : St) (H : Hp) (x : V) (v vl vu : Value) (lo hi : Option Int) (sl : Addr) (Q : VK), Inv X pins σ H s → RelV x v → s.heap.IsSliceOf sl vl vu .none → IsPart vl lo → IsPart vu hi → r x lo hi H Q →
    ∃ T id, typeLookup (.type T) "__getitem__" = pure (some (.builtin id)) ∧ s.TypeIs v T ∧ wpAny (model X.prog X.w) X.A (getItem v (.ref sl)) (EP X pins σ Q) X.xe s
theorem SlR.or {r r' : V → Option Int → Option Int → Hp → VK → Prop} (h : SlR X r) (h' : SlR X r') : SlR X (fun x lo hi H Q => r x lo hi H Q ∨ r' x lo hi H Q) := by
  unfold SlR at *
  exact by
    intro pins s σ H x v vl vu lo hi sl Q I rx hs pl pu q
    rcases q with q | q
    · exact h pins s σ H x v vl vu lo hi sl Q I rx hs pl pu q
    · exact h' pins s σ H x v vl vu lo hi sl Q I rx hs pl pu q
end
end L2
namespace L2
open PySem PySem.Spec PyProof.Rows
def ixN (n : Nat) (i : Int) : Option Nat := if 0 ≤ i then (if i < n then some i.toNat else none) else if -(n : Int) ≤ i then some (i + n).toNat else none
def atI {α : Type} (xs : List α) (i : Int) : Option α := (ixN xs.length i).bind fun j => xs[j]?
theorem ixN_seq {n : Nat} {i : Int} {j : Nat} (h : ixN n i = some j) : seqIndex? i n = some j ∧ j < n ∧ -(n : Int) ≤ i ∧ i < n := by
  unfold ixN at h
  by_cases h0 : 0 ≤ i
  · rw [if_pos h0] at h
    by_cases h1 : i < n
    · rw [if_pos h1] at h
      have e : i.toNat = j := Option.some.inj h
      exact ⟨by rw [seqIndex_of h0 h1, e], by omega, by omega, h1⟩
    · rw [if_neg h1] at h; cases h
  · rw [if_neg h0] at h
    by_cases h1 : -(n : Int) ≤ i
    · rw [if_pos h1] at h
      have e : (i + n).toNat = j := Option.some.inj h
      exact ⟨by rw [seqIndex_neg (by omega) h1, e], by omega, h1, by omega⟩
    · rw [if_neg h1] at h; cases h
theorem atI_get {α : Type} {xs : List α} {i : Int} {v : α} (h : atI xs i = some v) : ∃ j, seqIndex? i xs.length = some j ∧ xs[j]? = some v ∧ j < xs.length ∧ -(xs.length : Int) ≤ i ∧ i < xs.length := by
  unfold atI at h
  cases e : ixN xs.length i with
  | none => rw [e] at h; cases h
  | some j =>
    rw [e] at h
    obtain ⟨h1, h2, h3, h4⟩ := ixN_seq e
    exact ⟨j, h1, h, h2, h3, h4⟩
theorem atI_nat {α : Type} {xs : List α} {j : Nat} {v : α} (h : xs[j]? = some v) : atI xs (j : Int) = some v := by
  have hj : j < xs.length := (List.getElem?_eq_some_iff.mp h).1
  have e : ixN xs.length (j : Int) = some j := by
    unfold ixN
    rw [if_pos (by omega), if_pos (by omega)]; simp
  unfold atI; rw [e]; exact h
theorem atI_last {α : Type} (xs : List α) (v : α) : atI (xs ++ [v]) (-1) = some v := by
  have hl : (xs ++ [v]).length = xs.length + 1 := by simp
  have e : ixN (xs ++ [v]).length (-1) = some xs.length := by
    unfold ixN
    rw [hl, if_neg (by decide), if_pos (by omega)]
    congr 1
    omega
  unfold atI
  rw [e]
  show (xs ++ [v])[xs.length]? = some v
  simp
def PlainIx (b : Expr) : Prop := ∀ o i, subscripted b false o i = operate [o, i] (getItem o i)
@[irreducible] def IxR (X : Cx) (r : R2) : Prop :=
  ∀ (value slice : Expr) (pins : List (Addr × Obj)) (s : Shared) (σ : St) (H : Hp) (x y : V) (v u : Value) (Q : VK), Inv X pins σ H s → RelV x v → RelV y u → r x y H Q →
    subscripted slice false v u = operate [v, u] (getItem v u) → wpAny (model X.prog X.w) X.A (subscriptTail value slice v u) (EP X pins σ Q) X.xe s
@[irreducible] def MtR (X : Cx) (id : String) (r : V → List V → Hp → VK → Prop) : Prop :=
  ∀ (pins : List (Addr × Obj)) (s : Shared) (σ : St) (H : Hp) (x : V) (xs : List V) (v : Value) (us : List Value) (Q : VK), Inv X pins σ H s → RelV x v → Vals xs us → r x xs H Q →
    wpAny (model X.prog X.w) X.A (call (.builtin id) (v :: us)) (EP X pins σ Q) X.xe s
section
variable {X : Cx} {a b : Expr} {ta tb : TE} {pos : Pos}
theorem IxR.or {r r' : R2} (h : IxR X r) (h' : IxR X r') : IxR X (fun x y H Q => r x y H Q ∨ r' x y H Q) := by
  unfold IxR at *
  exact by
    intro value slice pins s σ H x y v u Q I rx ry q hs
    rcases q with q | q
    · exact h value slice pins s σ H x y v u Q I rx ry q hs
    · exact h' value slice pins s σ H x y v u Q I rx ry q hs
theorem MtR.or {id : String} {r r' : V → List V → Hp → VK → Prop} (h : MtR X id r) (h' : MtR X id r') : MtR X id (fun x xs H Q => r x xs H Q ∨ r' x xs H Q) := by
  unfold MtR at *
  exact by
    intro pins s σ H x xs v us Q I rx rs q
    rcases q with q | q
    · exact h pins s σ H x xs v us Q I rx rs q
    · exact h' pins s σ H x xs v us Q I rx rs q
theorem pe_ix {r : R2} (hr : IxR X r) (ha : PE X a ta) (hb : PE X b tb) (hs : PlainIx b) : PE X (.Subscript a b pos) (tOp r ta tb) := by
  unfold PE; unfold IxR at hr
  exact by
    intro pins s σ H Q I h
    exact Subscript_ (binT ha hb I h fun v u s2 x y H2 I2 rx ry q => hr a b pins s2 σ H2 x y v u Q I2 rx ry q (hs _ _))
def rIxL (K : PySem.W.Frag) : R2 := fun x y H Q => ∃ p xs i v, x = .ref p ∧ y = .int i ∧ SqL K H p xs ∧ atI xs i = some v ∧ Q v H
theorem ix_list : IxR X (rIxL X.K) := by
  unfold IxR at *
  exact by
    intro value slice pins s σ H x y v u Q I rx ry h hs
    obtain ⟨p, xs, i, z, rfl, rfl, hq, he, q⟩ := h
    cases rx
    obtain ⟨t, rfl⟩ := ry
    obtain ⟨its, r, pl, hz⟩ := I.list hq
    obtain ⟨j, h1, h2, h3, h4, h5⟩ := atI_get he
    obtain ⟨w, ew, rw'⟩ := r.get h2
    have hl := r.length
    have hn := line63
    have fin : EP X pins σ Q w s := ⟨z, H, I, rw', q⟩
    by_cases h0 : 0 ≤ i
    · have hj : i.toNat = j := by
        rw [seqIndex_of h0 h5] at h1
        exact Option.some.inj h1
      exact item_listR pl.isList h0 (by omega) (by rw [hj]; simpa using ew) fin hs
    · have hj : (i + (its.toArray.size : Int)).toNat = j := by
        rw [seqIndex_neg (by omega) h4] at h1
        rw [List.size_toArray, ← hl]
        exact Option.some.inj h1
      exact subscriptTail_builtinR (x := w) pl.isList.typeIs slot_list_getitem.lookup
        (wpAny_getItem_list_neg (Q := fun r s' => r = w ∧ EP X pins σ Q r s') pl.isList (by omega) (by rw [List.size_toArray] <;> omega) (by omega) (by rw [hj]; simpa using ew) ⟨rfl, fin⟩) hs
theorem mapSeq_set (its : List Value) (n j : Nat) (u : Value) : Obj.mapSeq (·.setIfInBounds j u) { cls := .type "list", data := .seq its.toArray n } = { cls := .type "list", data := .seq (its.set j u).toArray n } := by
  simp [Obj.mapSeq]
theorem Inv.lst {pins : List (Addr × Obj)} {σ : St} {H : Hp} {s : Shared} {p : Addr} {xs : List V} (I : Inv X pins σ H s) (h : H p = some (.lst xs)) :
    ∃ (its : List Value) (n : Nat), Vals xs its ∧ s.heap.get? p = some { cls := .type "list", data := .seq its.toArray n } ∧ xs.length ≤ sizeLine := by
  obtain ⟨z, its, n, r, e⟩ := I.hok p _ h
  exact ⟨its, n, r, e, z⟩
theorem Inv.lstUpd {pins : List (Addr × Obj)} {σ : St} {H : Hp} {s : Shared} {p : Addr} {xs ys : List V} {its its' : List Value} {n n' : Nat} {f : Obj → Obj} (I : Inv X pins σ H s) (h : H p = some (.lst xs))
    (ho : s.heap.get? p = some { cls := .type "list", data := .seq its.toArray n }) (hf : f { cls := .type "list", data := .seq its.toArray n } = { cls := .type "list", data := .seq its'.toArray n' }) (r : Vals ys its') (hz : ys.length ≤ sizeLine) (t : Nat) :
    Inv X pins σ (upd H p (.lst ys)) { s with heap := s.heap.update p f, toks := t } := by
  have e : (s.heap.update p f).get? p = some { cls := .type "list", data := .seq its'.toArray n' } := by
    rw [Heap.get?_update_self f ho (by rw [hf] <;> rfl), hf]
  refine I.write (x := p) (e := p) (by rw [h]; trivial) (.inl rfl) (fun b u hb q => (Heap.get?_update_other _ _ (Ne.symm hb)).trans q) ⟨_, e⟩ ?_
  exact ⟨hz, its', n', r, e⟩
def rSetL : V → V → V → Hp → (Hp → Prop) → Prop := fun o i v H Q => ∃ p xs k j, o = .ref p ∧ i = .int k ∧ H p = some (.lst xs) ∧ ixN xs.length k = some j ∧ Q (upd H p (.lst (xs.set j v)))
theorem set_list : PSet X rSetL := by
  unfold PSet at *
  exact by
    intro pins s σ H o i v ov iv u Q I ro ri rv h
    obtain ⟨p, xs, k, j, rfl, rfl, hp, hj, q⟩ := h
    cases ro
    obtain ⟨t, rfl⟩ := ri
    obtain ⟨its, n, r, ho, hz⟩ := I.lst hp
    obtain ⟨h1, h2, h3, h4⟩ := ixN_seq hj
    have hl := r.length
    have hn := line63
    have I' : Inv X pins σ (upd H p (.lst (xs.set j v))) { s with heap := s.heap.update p (Obj.mapSeq (·.setIfInBounds j u)) } :=
      I.lstUpd hp ho (mapSeq_set its n j u) (r.set rv j) (by rw [List.length_set]; exact hz) s.toks
    by_cases h0 : 0 ≤ k
    · have hk : k.toNat = j := by
        rw [seqIndex_of h0 h4] at h1
        exact Option.some.inj h1
      exact PySem.W.ki_setAt ho h0 (by omega) (by rw [List.size_toArray, ← hl]; exact h4) (by rw [hk]; exact ⟨_, I', q⟩)
    · have hk : (k + (its.toArray.size : Int)).toNat = j := by
        rw [seqIndex_neg (by omega) h3] at h1
        rw [List.size_toArray, ← hl]
        exact Option.some.inj h1
      exact PySem.W.ki_setBack ho (by omega) (by rw [List.size_toArray, ← hl]; exact h3) (by omega) (by rw [hk]; exact ⟨_, I', q⟩)
def flatV : V → Bool
  | .non => true
  | .bl _ => true
  | .int _ => true
  | .str _ => true
  | _ => false
def eqV : V → V → Bool
  | .non, .non => true
  | .bl a, .bl b => a == b
  | .bl a, .int b => (if a then 1 else 0) == b
  | .int a, .bl b => a == (if b then 1 else 0)
  | .int a, .int b => a == b
  | .str a, .str b => a == b
  | _, _ => false
theorem eqAt_V {A : Around} {s : Shared} {y x : V} {u v : Value} (ry : RelV y u) (rx : RelV x v) (fy : flatV y = true) (fx : flatV x = true) : SeqAt.EqAt A s u v (eqV y x) := by
  cases y with
  | non =>
    cases ry
    cases x with
    | non => cases rx; exact SeqAt.EqAt.same _
    | bl b => cases rx; exact SeqAt.EqAt.none_bool b
    | int b => obtain ⟨t, rfl⟩ := rx; exact SeqAt.EqAt.none_int b t
    | str b => obtain ⟨t, rfl⟩ := rx; exact SeqAt.EqAt.none_str b t
    | _ => exact absurd (show false = true from fx) Bool.false_ne_true
  | bl a =>
    cases ry
    cases x with
    | non => cases rx; exact SeqAt.EqAt.bool_none a
    | bl b => cases rx; exact SeqAt.EqAt.bool_bool a b
    | int b => obtain ⟨t, rfl⟩ := rx; exact SeqAt.EqAt.bool_int a b t
    | str b => obtain ⟨t, rfl⟩ := rx; exact SeqAt.EqAt.bool_str a b t
    | _ => exact absurd (show false = true from fx) Bool.false_ne_true
  | int a =>
    obtain ⟨t', rfl⟩ := ry
    cases x with
    | non => cases rx; exact SeqAt.EqAt.int_none a t'
    | bl b => cases rx; exact SeqAt.EqAt.int_bool a t' b
    | int b => obtain ⟨t, rfl⟩ := rx; exact SeqAt.EqAt.int_int a t' b t
    | str b => obtain ⟨t, rfl⟩ := rx; exact SeqAt.EqAt.int_str a t' b t
    | _ => exact absurd (show false = true from fx) Bool.false_ne_true
  | str a =>
    obtain ⟨t', rfl⟩ := ry
    cases x with
    | non => cases rx; exact SeqAt.EqAt.str_none a t'
    | bl b => cases rx; exact SeqAt.EqAt.str_bool a t' b
    | int b => obtain ⟨t, rfl⟩ := rx; exact SeqAt.EqAt.str_int a t' b t
    | str b => obtain ⟨t, rfl⟩ := rx; exact SeqAt.EqAt.str_str a t' b t
    | _ => exact absurd (show false = true from fx) Bool.false_ne_true
  | _ => exact absurd (show false = true from fy) Bool.false_ne_true
theorem call_len_seq : CallR X (.builtin "len") (fun xs H Q => ∃ p ys, xs = [.ref p] ∧ (SqL X.K H p ys ∨ SqT X.K H p ys) ∧ Q (.int ys.length) H) := by
  unfold CallR at *
  exact by
    intro pins s σ H xs us Q I r h
    obtain ⟨p, ys, rfl, hq, q⟩ := h
    obtain ⟨u, rfl, rx⟩ := vals1 r
    cases rx
    have hn := line63
    rcases hq with hq | hq
    · obtain ⟨its, r', pl, hz⟩ := I.list hq
      have hlen := r'.length
      exact Calls.call_len_list pl.isList (by simp only [List.size_toArray] <;> omega) ⟨.int ys.length, H, I.tok _, ⟨s.toks + 1, by rw [List.size_toArray, hlen]⟩, q⟩
    · obtain ⟨its, r', pl, hz⟩ := I.tuple hq
      have hlen := r'.length
      exact len_tuple pl (by simp only [List.size_toArray] <;> omega) ⟨.int ys.length, H, I.tok _, ⟨s.toks + 1, by rw [List.size_toArray, hlen]⟩, q⟩
theorem CallR.or {f : Value} {r r' : List V → Hp → VK → Prop} (h : CallR X f r) (h' : CallR X f r') : CallR X f (fun xs H Q => r xs H Q ∨ r' xs H Q) := by
  unfold CallR at *
  exact by
    intro pins s σ H xs us Q I rs q
    rcases q with q | q
    · exact h pins s σ H xs us Q I rs q
    · exact h' pins s σ H xs us Q I rs q
theorem call_list_of : CallR X (.type "list") (fun xs H Q => ∃ p ys, xs = [.ref p] ∧ (SqL X.K H p ys ∨ SqT X.K H p ys) ∧ ∀ l, H l = none → Q (.ref l) (upd H l (.lst ys))) := by
  unfold CallR at *
  exact by
    intro pins s σ H xs us Q I r h
    obtain ⟨p, ys, rfl, hq, q⟩ := h
    obtain ⟨u, rfl, rx⟩ := vals1 r
    cases rx
    have fin : ∀ (its : List Value), Vals ys its → ys.length ≤ sizeLine → ∀ (h' : Heap) (c' : Nat), (∀ b o', s.heap.get? b = some o' → h'.get? b = some o') →
        h'.get? s.heap.objs.size = some { cls := .type "list", dict := none, data := .seq its.toArray c', slots := #[] } → EP X pins σ Q (.ref s.heap.objs.size) { s with heap := h' } := fun its r' hz h' c' kp e =>
      ⟨.ref s.heap.objs.size, _, I.laid (t' := s.toks) kp (Nat.le_refl _) (show ObjOk X.prog X.w _ h' _ (.lst ys) from ⟨hz, its, c', r', e⟩), rfl, q _ (I.hok.fresh (Nat.le_refl _))⟩
    rcases hq with hq | hq
    · obtain ⟨its, r', pl, hz⟩ := I.list hq
      have hlen := r'.length
      obtain ⟨o, ho, hc, n, hd⟩ := pl.isList
      exact call_list_seq p (.inl rfl) ho hc hd (fun h' c' kp e => fin its r' hz h' c' kp e) (by simp only [List.size_toArray] <;> omega)
    · obtain ⟨its, r', pl, hz⟩ := I.tuple hq
      have hlen := r'.length
      obtain ⟨o, ho, hc, n, hd⟩ := pl
      exact call_list_seq p (.inr rfl) ho hc hd (fun h' c' kp e => fin its r' hz h' c' kp e) (by simp only [List.size_toArray] <;> omega)
theorem call_tuple_of : CallR X (.type "tuple") (fun xs H Q => ∃ p ys, xs = [.ref p] ∧ ((SqL X.K H p ys ∧ ∀ l, H l = none → Q (.ref l) (upd H l (.tup ys))) ∨ (SqT X.K H p ys ∧ Q (.ref p) H))) := by
  unfold CallR at *
  exact by
    intro pins s σ H xs us Q I r h
    obtain ⟨p, ys, rfl, h⟩ := h
    obtain ⟨u, rfl, rx⟩ := vals1 r
    cases rx
    rcases h with ⟨hq, q⟩ | ⟨hq, q⟩
    · obtain ⟨its, r', pl, hz⟩ := I.list hq
      have hlen := r'.length
      refine call_tuple_list pl.isList (fun h' kp => ?_) (by simp only [List.size_toArray] <;> omega)
      have I1 : Inv X pins σ H { s with heap := h' } := I.kept (t' := s.toks) kp
      have I2 : Inv X pins σ (upd H h'.objs.size (.tup ys)) { s with heap := h'.push { cls := .type "tuple", data := .seq its.toArray } } :=
        I1.laid (t' := s.toks) (fun b o e => Heap.get?_push_of_some _ e) (Nat.le_refl _) (show ObjOk X.prog X.w _ _ _ (.tup ys) from ⟨hz, its, r', IsTup.new _ _⟩)
      exact ⟨.ref h'.objs.size, _, I2, rfl, q _ (I1.hok.fresh (Nat.le_refl _))⟩
    · obtain ⟨its, r', pl, hz⟩ := I.tuple hq
      exact call_tuple_same pl ⟨.ref p, H, I, rfl, q⟩
def tyV (K : PySem.W.Frag) (T : String) (x : V) (H : Hp) : Prop := match x with
  | .str _ => T = "str"
  | .int _ => T = "int"
  | .ref p => (T = "list" ∧ ∃ xs, SqL K H p xs) ∨ (T = "tuple" ∧ ∃ o, K.lookup p = some o ∧ o.cls = .type "tuple" ∧ o.dict = none) ∨
      (T = "dict" ∧ ((∃ kvs, H p = some (.dK kvs)) ∨ ∃ kvs, H p = some (.dT kvs))) ∨ (T = "set" ∧ ∃ S n, H p = some (.set S n))
  | _ => False
theorem tyV_is {pins : List (Addr × Obj)} {σ : St} {H : Hp} {s : Shared} {T : String} {x : V} {v : Value} (I : Inv X pins σ H s) (r : RelV x v) (ty : tyV X.K T x H) :
    s.TypeIs v T ∧ ∀ a, v = .ref a → ∃ ob, s.heap.get? a = some ob ∧ ob.dict = none := by
  cases x with
  | str z =>
    obtain ⟨t, rfl⟩ := r
    cases (show T = "str" from ty)
    exact ⟨typeIs_str s z t, fun _ e => nomatch e⟩
  | int i =>
    obtain ⟨t, rfl⟩ := r
    cases (show T = "int" from ty)
    exact ⟨typeIs_int s i t, fun _ e => nomatch e⟩
  | ref p =>
    cases r
    rcases ty with ⟨rfl, xs, hq⟩ | ⟨rfl, o, hk, hc, hd⟩ | ⟨rfl, hk⟩ | ⟨rfl, S, n, hk⟩
    · obtain ⟨its, _, pl, _⟩ := I.list hq
      refine ⟨pl.isList.typeIs, fun a e => ?_⟩
      cases e
      obtain ⟨o, n, e, c, hd, _⟩ := pl
      exact ⟨o, e, hd⟩
    · refine ⟨⟨o, I.kIn p o hk, hc⟩, fun a e => ?_⟩
      cases e
      exact ⟨o, I.kIn _ o hk, hd⟩
    · have z : ∃ o, s.heap.get? p = some o ∧ o.ExactDict := by
        rcases hk with ⟨kvs, hk⟩ | ⟨kvs, hk⟩
        · obtain ⟨_, _, _, _, o, _, _, e, ex, _⟩ := I.hok p _ hk
          exact ⟨o, e, ex⟩
        · obtain ⟨_, _, _, _, o, _, _, e, ex, _⟩ := I.hok p _ hk
          exact ⟨o, e, ex⟩
      obtain ⟨o, e, ex⟩ := z
      refine ⟨⟨o, e, ex.1⟩, fun a e2 => ?_⟩
      cases e2
      exact ⟨o, e, ex.2.1⟩
    · obtain ⟨o, _, _, _, e, ex, _⟩ := I.hok p _ hk
      refine ⟨⟨o, e, ex.1⟩, fun a e2 => ?_⟩
      cases e2
      exact ⟨o, e, ex.2.1⟩
  | _ => exact False.elim ty
def tBM0 (K : PySem.W.Frag) (T : String) (r : V → List V → Hp → VK → Prop) (to : TE) : TE := fun σ H Q => to σ H fun x H1 => tyV K T x H1 ∧ r x [] H1 Q
def tBM (K : PySem.W.Frag) (T : String) (r : V → List V → Hp → VK → Prop) (to : TE) (t : TA) : TE := fun σ H Q => to σ H fun x H1 => tyV K T x H1 ∧ t σ H1 fun xs H2 => r x xs H2 Q
variable {o e : Expr} {es : List Expr} {to : TE} {t : TA} {name : Str} {apos cpos : Pos} {T id : String} {r : V → List V → Hp → VK → Prop}
theorem pe_bm0 (pa : PlainAttrs T) (slot : Slot T name id) (hty : typeOf (.builtin id) = pure (.type "method_descriptor")) (hm : MtR X id r) (ho : PE X o to)
    (hbase : attributeBase o name X.env (eval o X.env) = eval o X.env := by rfl) (hline : (apos.endLine == cpos.line) = true := by rfl) : PE X (.Call (.Attribute o name apos) [] [] cpos) (tBM0 X.K T r to) := by
  unfold PE at *; unfold MtR at *
  exact by
    intro pins s σ H Q I h
    refine wpAny_Call_method0_late hbase hline (thn (ho pins s σ H _ I h) fun v s1 ⟨x, H1, I1, r1, ty, q1⟩ => ?_)
    obtain ⟨h1, h2⟩ := tyV_is I1 r1 ty
    exact ⟨T, id, pa, slot, hty, h1, h2, Calls.callWith_builtin rfl (PySem.evalArgs_none (hm pins s1 σ H1 x [] v [] Q I1 r1 .nil q1))⟩
theorem pe_bm (pa : PlainAttrs T) (slot : Slot T name id) (hty : typeOf (.builtin id) = pure (.type "method_descriptor")) (hm : MtR X id r) (ho : PE X o to) (ha : PA X (e :: es) t)
    (hbase : attributeBase o name X.env (eval o X.env) = eval o X.env := by rfl)
    (hfew : ((backTo cpos (starEach (e :: es) X.env)).all (fun x => !x.1) && (backToKw cpos (keywordEach [] X.env)).all (fun x => x.1.isSome)
      && decide ((e :: es).length + ([] : List Keyword).length + (if ([] : List Keyword).isEmpty then 0 else 1) < 30)) = true := by rfl)
    (hline : (apos.endLine == cpos.line) = true := by rfl) (hs : starEach (e :: es) X.env = (false, eval e X.env) :: starEach es X.env := by rfl) (hplain : (backTo cpos (starEach es X.env)).any (·.1) = false := by rfl) :
    PE X (.Call (.Attribute o name apos) (e :: es) [] cpos) (tBM X.K T r to t) := by
  unfold PE at *; unfold PA at *; unfold MtR at *
  exact by
    intro pins s σ H Q I h
    refine wpAny_Call_method_late hbase hfew hline rfl (thn (ho pins s σ H _ I h) fun v s1 ⟨x, H1, I1, r1, ty, q1⟩ => ?_)
    obtain ⟨h1, h2⟩ := tyV_is I1 r1 ty
    refine ⟨T, id, pa, slot, hty, h1, h2, ?_⟩
    have hA := ha cpos pins s1 σ H1 _ I1 q1
    rw [hs] at hA ⊢
    refine Calls.callWith_builtin (by show (false || (backTo cpos (starEach es X.env)).any (·.1)) = false; rw [hplain] <;> rfl) (Calls.evalArgs_plain ?_)
    exact thn hA fun us s2 ⟨vs, H2, I2, r2, q2⟩ => hm pins s2 σ H2 x vs v us Q I2 r1 r2 q2
/- xs.append(e), list.index on a module's tuple .. are MtR facts of 06m -/
end
end L2
namespace L2
open PySem PySem.Spec PyProof.Rows
@[irreducible] def MtM (X : Cx) (id : String) (r : V → List V → Hp → VK → Prop) : Prop :=
  ∀ (pins : List (Addr × Obj)) (s : Shared) (σ : St) (H : Hp) (x : V) (xs : List V) (v : Value) (us : List Value) (Q : VK), Inv X pins σ H s → RelV x v → Vals xs us → r x xs H Q →
    wpAny (model X.prog X.w) X.A (call (.builtin id) (v :: us)) (EP X pins σ Q) X.xe s
theorem Vals.one : ∀ {x : V} {us : List Value}, Vals [x] us → ∃ u, us = [u] ∧ RelV x u
  | _, _, .cons r .nil => ⟨_, rfl, r⟩
theorem Vals.two : ∀ {x y : V} {us : List Value}, Vals [x, y] us → ∃ u v, us = [u, v] ∧ RelV x u ∧ RelV y v
  | _, _, _, .cons r (.cons q .nil) => ⟨_, _, rfl, r, q⟩
theorem Vals.zero : ∀ {us : List Value}, Vals [] us → us = []
  | _, .nil => rfl
theorem Vals.reverse {xs : List V} {us : List Value} (h : Vals xs us) : Vals xs.reverse us.reverse := by
  induction h with
  | nil => exact .nil
  | cons r t ih => rw [List.reverse_cons, List.reverse_cons]; exact Vals.append ih (.cons r .nil)
theorem Vals.rep {xs : List V} {us : List Value} (h : Vals xs us) : ∀ k : Nat, Vals (List.replicate k xs).flatten (List.replicate k us).flatten
  | 0 => .nil
  | k + 1 => by
    rw [List.replicate_succ, List.replicate_succ, List.flatten_cons, List.flatten_cons]
    exact Vals.append h (Vals.rep h k)
theorem foldl_rep (its : List Value) : ∀ (k : Nat) (acc : List Value),
    List.foldl (fun x1 x2 => x1 ++ x2) acc.toArray (List.replicate k its.toArray) = (acc ++ (List.replicate k its).flatten).toArray
  | 0, acc => by simp
  | k + 1, acc => by
    have e : acc.toArray ++ its.toArray = (acc ++ its).toArray := by simp
    have e2 : (acc ++ its) ++ (List.replicate k its).flatten = acc ++ (List.replicate (k + 1) its).flatten := by
      rw [List.replicate_succ, List.flatten_cons, List.append_assoc]
    rw [← e2, ← foldl_rep its k (acc ++ its), ← e, List.replicate_succ, List.foldl_cons]
section
variable {X : Cx} {pins : List (Addr × Obj)} {σ : St} {H : Hp} {s : Shared} {l b : Addr} {xs ys zs : List V}
theorem Inv.lset {its its' : List Value} {n : Nat} {f : Array Value → Array Value} {t' : Nat} (I : Inv X pins σ H s) (hH : H l = some (.lst xs))
    (e : s.heap.get? l = some { cls := .type "list", data := .seq its.toArray n }) (hf : f its.toArray = its'.toArray) (hv : Vals ys its') (hz : ys.length ≤ sizeLine) :
    Inv X pins σ (upd H l (.lst ys)) { s with heap := s.heap.update l (Obj.mapSeq f), toks := t' } := by
  have q := PySem.IsL.update e f
  rw [hf] at q
  refine I.write (x := l) (e := l) (by rw [hH]; exact trivial) (.inl rfl) (fun b' u hb hu => (Heap.get?_update_other s.heap (Obj.mapSeq f) (Ne.symm hb)).trans hu) ⟨_, q⟩ ?_
  exact ⟨hz, its', _, hv, q⟩
theorem Inv.lnew {its : List Value} {t' : Nat} (I : Inv X pins σ H s) (hv : Vals ys its) (hz : ys.length ≤ sizeLine) :
    Inv X pins σ (upd H s.heap.objs.size (.lst ys)) { s with heap := s.heap.push { cls := .type "list", data := .seq its.toArray }, toks := t' } :=
  I.laid (fun _ _ q => Heap.get?_push_of_some _ q) (Nat.le_refl _) ⟨hz, its, 0, hv, Heap.get?_push_size _ rfl⟩
theorem Inv.fresh (I : Inv X pins σ H s) : H s.heap.objs.size = none := I.hok.fresh (Nat.le_refl _)
theorem Inv.lstM (I : Inv X pins σ H s) (hH : H l = some (.lst xs)) : xs.length ≤ sizeLine ∧ ∃ (its : List Value) (n : Nat), Vals xs its ∧ xs.length = its.length ∧ s.heap.get? l = some { cls := .type "list", data := .seq its.toArray n } := by
  obtain ⟨z, its, n, r, e⟩ := I.hok l _ hH
  exact ⟨z, its, n, r, r.length, e⟩
theorem notLongL {n : Nat} (h : n ≤ sizeLine) : Builtin.List.listTooLong n = false := by
  unfold Builtin.List.listTooLong
  exact decide_eq_false (by omega)
end
section
variable {X : Cx}
def rAppend : V → List V → Hp → VK → Prop := fun x vs H Q => ∃ l xs y, x = .ref l ∧ vs = [y] ∧ H l = some (.lst xs) ∧ xs.length < sizeLine ∧ Q .non (upd H l (.lst (xs ++ [y])))
theorem mt_append : MtM X "list.append" rAppend := by
  unfold MtM at *
  exact by
    intro pins s σ H x vs v us Q I rx rv h
    obtain ⟨l, xs, y, rfl, rfl, hH, hz, q⟩ := h
    cases rx
    obtain ⟨u, rfl, ru⟩ := rv.one
    obtain ⟨z, its, n, r, hl, e⟩ := I.lstM hH
    refine call_meets F.slot_list_append ⟨_, e, rfl⟩ F.entry_list_append (F.args_list_append_2 _ _) (PySem.list_append l its.toArray n u (by rw [List.size_toArray]; omega)) ⟨e, ?_⟩
    refine ⟨.non, _, I.lset (its' := its ++ [u]) hH e (by simp) (r.append (.cons ru .nil)) ?_, rfl, q⟩
    rw [List.length_append, List.length_singleton]
    omega
def rReverse : V → List V → Hp → VK → Prop := fun x vs H Q => ∃ l xs, x = .ref l ∧ vs = [] ∧ H l = some (.lst xs) ∧ Q .non (upd H l (.lst xs.reverse))
theorem mt_reverse : MtM X "list.reverse" rReverse := by
  unfold MtM at *
  exact by
    intro pins s σ H x vs v us Q I rx rv h
    obtain ⟨l, xs, rfl, rfl, hH, q⟩ := h
    cases rx
    have hus := rv.zero
    subst hus
    obtain ⟨z, its, n, r, hl, e⟩ := I.lstM hH
    refine call_meets F.slot_list_reverse ⟨_, e, rfl⟩ F.entry_list_reverse (F.args_list_reverse_1 _) (AutoSeq1.list_reverse_list_0 l its.toArray n (by rw [List.size_toArray]; omega)) ⟨e, ?_⟩
    refine ⟨.non, _, I.lset (its' := its.reverse) hH e (by simp) r.reverse ?_, rfl, q⟩
    rw [List.length_reverse]
    omega
def rCat : R2 := fun x y H Q => ∃ l b xs zs, x = .ref l ∧ y = .ref b ∧ H l = some (.lst xs) ∧ H b = some (.lst zs) ∧ xs.length + zs.length ≤ sizeLine ∧ ∀ p, H p = none → Q (.ref p) (upd H p (.lst (xs ++ zs)))
theorem op_cat : OpR X (binaryOp .Add) rCat := by
  unfold OpR at *
  exact by
    intro pins s σ H x y v u Q I rx ry h
    obtain ⟨l, b, xs, zs, rfl, rfl, hH, hB, hz, q⟩ := h
    cases rx
    cases ry
    obtain ⟨z, its, n, r, hl, e⟩ := I.lstM hH
    obtain ⟨z2, its2, n2, r2, hl2, e2⟩ := I.lstM hB
    refine PySem.P.add_list e e2 ?_ (by rw [List.size_toArray, List.size_toArray]; omega)
    have ea : its.toArray ++ its2.toArray = (its ++ its2).toArray := by simp
    rw [ea]
    exact ⟨.ref _, _, I.lnew (t' := s.toks) (r.append r2) (by rw [List.length_append]; omega), rfl, q _ I.fresh⟩
def rRep : R2 := fun x y H Q => ∃ l k xs, x = .ref l ∧ y = .int k ∧ H l = some (.lst xs) ∧ -(2 ^ 63) ≤ k ∧ k < 2 ^ 63 ∧ xs.length * k.toNat ≤ sizeLine ∧
  ∀ p, H p = none → Q (.ref p) (upd H p (.lst (List.replicate k.toNat xs).flatten))
theorem len_rep {α : Type} (xs : List α) (k : Nat) : (List.replicate k xs).flatten.length = k * xs.length := by
  induction k with
  | zero => simp
  | succ k ih => rw [List.replicate_succ, List.flatten_cons, List.length_append, ih, Nat.succ_mul, Nat.add_comm]
theorem op_rep : OpR X (binaryOp .Mult) rRep := by
  unfold OpR at *
  exact by
    intro pins s σ H x y v u Q I rx ry h
    obtain ⟨l, k, xs, rfl, rfl, hH, h1, h2, hz, q⟩ := h
    cases rx
    obtain ⟨t, rfl⟩ := ry
    obtain ⟨z, its, n, r, hl, e⟩ := I.lstM hH
    have hlen : its.toArray.size * k.toNat ≤ sizeLine := by rw [List.size_toArray, ← hl]; exact hz
    have hcap : ¬ its.toArray.size * k.toNat > (2 ^ 63 - 1) / 8 := by
      have : (sizeLine : Nat) ≤ (2 ^ 63 - 1) / 8 := by decide
      omega
    have hfit : ¬ (!Builtin.List.listFitsIndex k) = true := by
      rw [fitsIndex_both h1 h2]
      exact Bool.false_ne_true
    have hlong : ¬ Builtin.List.listTooLong (its.toArray.size * k.toNat) = true := by
      rw [notLongL hlen]
      exact Bool.false_ne_true
    have hnew : List.foldl (fun x1 x2 => x1 ++ x2) #[] (List.replicate (if its.toArray.isEmpty = true then 0 else k.toNat) its.toArray) = (List.replicate k.toNat its).flatten.toArray := by
      have f0 : ∀ m : Nat, List.foldl (fun x1 x2 => x1 ++ x2) #[] (List.replicate m its.toArray) = (List.replicate m its).flatten.toArray := fun m => by
        have := foldl_rep its m []
        rw [List.nil_append] at this
        exact this
      rw [f0]
      cases its with
      | nil => simp
      | cons a r' => rw [if_neg (by simp)]
    refine wpAny_binaryOp_repeat_ref (T := "list") (U := "int") (by decide) ⟨_, e, rfl⟩ (fun s' => typeIs_int s' k t) noFill_list_mul F.fills_int_mul F.slot_int_rmul repeat_list F.slot_int_index.lookup
      (call_meets F.slot_int_rmul (typeIs_int s k t) F.entry_int_rmul (F.args_int_rmul_2 _ _) (int___rmul___int_list k t l its.toArray n)
        ⟨e, rfl, ⟨_, e, rfl⟩, call_meets F.slot_list_mul ⟨_, e, rfl⟩ F.entry_list_mul (F.args_list_mul_2 _ _) (AutoListH.list___mul___list_int_3 l its.toArray n k t hfit hcap hlong) ⟨e, ?_⟩⟩)
    rw [hnew]
    exact ⟨.ref _, _, I.lnew (t' := s.toks) (r.rep k.toNat) (by rw [len_rep, Nat.mul_comm]; exact hz), rfl, q _ I.fresh⟩
end
section
variable {prog : Program} {w : World} {A : Around} {E : Value → Shared → Prop} {s : Shared}
set_option maxRecDepth 100000 in
end
section
variable {X : Cx}
end
end L2
namespace L2
open PySem PySem.Spec PyProof.Rows
section
variable {κ : Type} [DecidableEq κ]
def valV (kvs : List (κ × V)) (k : κ) : Option V := (kvs.find? fun kv => decide (kv.1 = k)).map (·.2)
def putK (kvs : List (κ × V)) (k : κ) (v : V) : List (κ × V) :=
  if (kvs.any fun kv => decide (kv.1 = k)) = true then kvs.map (fun kv => if kv.1 = k then (kv.1, v) else kv) else kvs ++ [(k, v)]
def dropK (kvs : List (κ × V)) (k : κ) : List (κ × V) := kvs.filter fun kv => decide (kv.1 ≠ k)
theorem valV_pos {p : κ × V} {r : List (κ × V)} {k : κ} (e : p.1 = k) : valV (p :: r) k = some p.2 := by simp [valV, List.find?_cons, e]
theorem valV_neg {p : κ × V} {r : List (κ × V)} {k : κ} (e : ¬ p.1 = k) : valV (p :: r) k = valV r k := by simp [valV, List.find?_cons, e]
theorem valV_any (k : κ) : ∀ kvs : List (κ × V), (kvs.any fun kv => decide (kv.1 = k)) = (valV kvs k).isSome
  | [] => rfl
  | p :: r => by
    rw [List.any_cons]
    by_cases e : p.1 = k
    · simp only [valV_pos e, decide_eq_true e, Bool.true_or, Option.isSome_some]
    · rw [valV_neg e, decide_eq_false e, Bool.false_or]; exact valV_any k r
theorem valV_map (k j : κ) (y : V) : ∀ kvs : List (κ × V), valV (kvs.map fun kv => if kv.1 = k then (kv.1, y) else kv) j = (valV kvs j).map fun x => if j = k then y else x
  | [] => rfl
  | p :: r => by
    have ih := valV_map k j y r
    rw [List.map_cons]
    by_cases h : p.1 = k
    · rw [if_pos h]
      by_cases e : p.1 = j
      · rw [valV_pos (p := (p.1, y)) e, valV_pos e, Option.map_some, if_pos (e.symm.trans h)]
      · rw [valV_neg (p := (p.1, y)) e, valV_neg e, ih]
    · rw [if_neg h]
      by_cases e : p.1 = j
      · rw [valV_pos (p := p) e, valV_pos e, Option.map_some, if_neg (fun z => h (e.trans z))]
      · rw [valV_neg (p := p) e, valV_neg e, ih]
theorem valV_snoc (k j : κ) (y : V) : ∀ kvs : List (κ × V), valV kvs k = none → valV (kvs ++ [(k, y)]) j = if j = k then some y else valV kvs j
  | [], _ => by
    by_cases e : k = j
    · rw [if_pos e.symm]; exact valV_pos (p := (k, y)) e
    · rw [if_neg (fun z => e z.symm)]; exact valV_neg (p := (k, y)) e
  | p :: r, hn => by
    rw [List.cons_append]
    have hk : ¬ p.1 = k := fun z => by rw [valV_pos z] at hn; cases hn
    rw [valV_neg hk] at hn
    have ih := valV_snoc k j y r hn
    by_cases e : p.1 = j
    · rw [valV_pos e, valV_pos e, if_neg (fun z => hk (e.trans z))]
    · rw [valV_neg e, valV_neg e, ih]
theorem valV_put (kvs : List (κ × V)) (k j : κ) (y : V) : valV (putK kvs k y) j = if j = k then some y else valV kvs j := by
  unfold putK
  by_cases a : (kvs.any fun kv => decide (kv.1 = k)) = true
  · rw [if_pos a, valV_map]
    rw [valV_any] at a
    by_cases e : j = k
    · obtain ⟨x, hx⟩ := Option.isSome_iff_exists.mp a
      rw [if_pos e, e, hx, Option.map_some, if_pos rfl]
    · rw [if_neg e]
      cases valV kvs j with
      | none => rfl
      | some x => rw [Option.map_some, if_neg e]
  · rw [if_neg a]
    refine valV_snoc k j y kvs ?_
    rw [valV_any] at a
    cases q : valV kvs k with
    | none => rfl
    | some x => rw [q] at a; exact (a rfl).elim
theorem length_putK (kvs : List (κ × V)) (k : κ) (v : V) : (putK kvs k v).length ≤ kvs.length + 1 := by
  unfold putK
  split
  · rw [List.length_map]; omega
  · rw [List.length_append, List.length_cons, List.length_nil]; omega
theorem RelO.isSome_eq {o : Option V} {u : Option Value} (r : RelO o u) : o.isSome = u.isSome := by
  cases o with
  | none => cases u with
    | none => rfl
    | some _ => exact (show False from r).elim
  | some _ => cases u with
    | none => exact (show False from r).elim
    | some _ => rfl
theorem RelO.getD {o : Option V} {u : Option Value} {d : V} {d' : Value} (r : RelO o u) (rd : RelV d d') : RelV (o.getD d) (u.getD d') := by
  cases o with
  | none => cases u with
    | none => exact rd
    | some _ => exact (show False from r).elim
  | some _ => cases u with
    | none => exact (show False from r).elim
    | some _ => exact r
theorem KV.val {kvs : List (κ × V)} {vs : List (κ × Value)} (r : KV kvs vs) (k : κ) : RelO (valV kvs k) (valueAt vs k) := by
  unfold KV at r
  induction r with
  | nil => exact True.intro
  | @cons p q ps qs h t ih =>
    obtain ⟨h1, h2⟩ := h
    by_cases e : p.1 = k
    · have e' : q.1 = k := h1.symm.trans e
      have b : valueAt (q :: qs) k = some q.2 := by simp [valueAt, List.find?_cons, e']
      rw [valV_pos e, b]; exact h2
    · have e' : ¬ q.1 = k := fun z => e (h1.trans z)
      have b : valueAt (q :: qs) k = valueAt qs k := by simp [valueAt, List.find?_cons, e']
      rw [valV_neg e, b]; exact ih
theorem KV.any {kvs : List (κ × V)} {vs : List (κ × Value)} (r : KV kvs vs) (k : κ) : (kvs.any fun kv => decide (kv.1 = k)) = vs.any fun kv => decide (kv.1 = k) := by
  unfold KV at r
  induction r with
  | nil => rfl
  | cons h t ih => rw [List.any_cons, List.any_cons, ih, h.1]
theorem KV.repl {kvs : List (κ × V)} {vs : List (κ × Value)} (r : KV kvs vs) (k : κ) {y : V} {u : Value} (ry : RelV y u) :
    KV (kvs.map fun kv => if kv.1 = k then (kv.1, y) else kv) (vs.map fun kv => if kv.1 = k then (kv.1, u) else kv) := by
  unfold KV at r ⊢
  induction r with
  | nil => exact .nil
  | @cons p q ps qs h t ih =>
    rw [List.map_cons, List.map_cons]
    refine .cons ?_ ih
    obtain ⟨h1, h2⟩ := h
    by_cases e : p.1 = k
    · rw [if_pos e, if_pos (h1.symm.trans e)]; exact ⟨h1, ry⟩
    · rw [if_neg e, if_neg (fun z => e (h1.trans z))]; exact ⟨h1, h2⟩
theorem KV.put {kvs : List (κ × V)} {vs : List (κ × Value)} (r : KV kvs vs) (k : κ) {y : V} {u : Value} (ry : RelV y u) : KV (putK kvs k y) (stored vs k u) := by
  unfold putK stored
  rw [r.any k]
  by_cases e : (vs.any fun kv => decide (kv.1 = k)) = true
  · rw [if_pos e, if_pos e]; exact r.repl k ry
  · rw [if_neg e, if_neg e]; exact Paired.snoc r ⟨rfl, ry⟩
theorem KV.drop {kvs : List (κ × V)} {vs : List (κ × Value)} (r : KV kvs vs) (k : κ) : KV (dropK kvs k) (without vs k) := by
  unfold KV at r ⊢
  unfold dropK without
  induction r with
  | nil => exact .nil
  | @cons p q ps qs h t ih =>
    obtain ⟨h1, h2⟩ := h
    rw [List.filter_cons, List.filter_cons]
    by_cases e : p.1 = k
    · have a : ¬ decide (p.1 ≠ k) = true := by simp [e]
      have b : ¬ decide (q.1 ≠ k) = true := by simp [h1.symm.trans e]
      rw [if_neg a, if_neg b]; exact ih
    · have e' : ¬ q.1 = k := fun z => e (h1.trans z)
      have a : decide (p.1 ≠ k) = true := by simp [e]
      have b : decide (q.1 ≠ k) = true := by simp [e']
      rw [if_pos a, if_pos b]; exact .cons ⟨h1, h2⟩ ih
theorem KV.length {kvs : List (κ × V)} {vs : List (κ × Value)} (r : KV kvs vs) : kvs.length = vs.length := Paired.length r
end
theorem kV_is {P : Program} {w : World} {k : Key} {u : Value} (r : RelV (kV k) u) : (mixKind P w).is k u = true := by
  cases k with
  | inl i => obtain ⟨t, e⟩ := (show ∃ t, u = Value.int i t from r); subst e; exact mixKind_int P w i t
  | inr x => obtain ⟨t, e⟩ := (show ∃ t, u = Value.str x t from r); subst e; exact mixKind_str P w x t
theorem items_are {P : Program} {w : World} : ∀ {ks : List Key} {us : List Value}, Vals (ks.map kV) us → ItemsAre (mixKind P w) ks us
  | [], _, r => by rw [List.map_nil] at r; cases r; exact .nil
  | k :: ks, _, r => by
    rw [List.map_cons] at r
    cases r with
    | cons h t => exact .cons (kV_is h) (items_are t)
abbrev KT (H : Hp) : List (List Key × V) → List (List Key × Addr × Value) → Prop := Paired fun p q => p.1 = q.1 ∧ H q.2.1 = some (.tup (p.1.map kV)) ∧ RelV p.2 q.2.2
theorem KT.val {H : Hp} {kvs : List (List Key × V)} {xs : List (List Key × Addr × Value)} (r : KT H kvs xs) (k : List Key) : RelO (valV kvs k) ((atKey xs k).map (·.2)) := by
  induction r with
  | nil => exact True.intro
  | @cons p q ps qs h t ih =>
    obtain ⟨h1, _, h2⟩ := h
    by_cases e : p.1 = k
    · have e' : q.1 = k := h1.symm.trans e
      have b : atKey (q :: qs) k = some q.2 := by simp [atKey, List.find?_cons, e']
      rw [valV_pos e, b]; exact h2
    · have e' : ¬ q.1 = k := fun z => e (h1.trans z)
      have b : atKey (q :: qs) k = atKey qs k := by simp [atKey, List.find?_cons, e']
      rw [valV_neg e, b]; exact ih
theorem KT.repl {H : Hp} {kvs : List (List Key × V)} {xs : List (List Key × Addr × Value)} (r : KT H kvs xs) (k : List Key) {y : V} {u : Value} (ry : RelV y u) :
    KT H (kvs.map fun kv => if kv.1 = k then (kv.1, y) else kv) (xs.map (putAt k u)) := by
  induction r with
  | nil => exact .nil
  | @cons p q ps qs h t ih =>
    rw [List.map_cons, List.map_cons]
    refine .cons ?_ ih
    obtain ⟨h1, h2, h3⟩ := h
    unfold putAt
    by_cases e : p.1 = k
    · rw [if_pos e, if_pos (h1.symm.trans e)]; exact ⟨h1, h2, ry⟩
    · rw [if_neg e, if_neg (fun z => e (h1.trans z))]; exact ⟨h1, h2, h3⟩
theorem KT.put {H : Hp} {kvs : List (List Key × V)} {xs : List (List Key × Addr × Value)} (r : KT H kvs xs) (k : List Key) {b : Addr} {y : V} {u : Value} (hb : H b = some (.tup (k.map kV))) (ry : RelV y u) :
    KT H (putK kvs k y) (storedH xs k b u) := by
  have e : (kvs.any fun kv => decide (kv.1 = k)) = (atKey xs k).isSome := by
    rw [valV_any, (r.val k).isSome_eq, Option.isSome_map]
  unfold putK storedH
  rw [e]
  by_cases q : (atKey xs k).isSome = true
  · rw [if_pos q, if_pos q]; exact r.repl k ry
  · rw [if_neg q, if_neg q]; exact Paired.snoc r ⟨rfl, hb, ry⟩
theorem KT.keeps {H H' : Hp} {kvs : List (List Key × V)} {xs : List (List Key × Addr × Value)} (r : KT H kvs xs) (ht : ∀ b ys, H b = some (.tup ys) → H' b = some (.tup ys)) : KT H' kvs xs :=
  Paired.mapP r fun _ _ z => ⟨z.1, ht _ _ z.2.1, z.2.2⟩
section
variable {P : Program} {w : World} {H : Hp} {h : Heap} {a : Addr}
theorem rd_of {u : HO} (ok : HOk P w H h) (e : Rd H a u) : ObjOk P w H h a u := e.ok ok
theorem dk_rd {kvs : List (Key × V)} (ok : HOk P w H h) (e : Rd H a (.dK kvs)) : kvs.length ≤ sizeLine ∧ (a == sysModules) = false ∧ ∃ vs, KV kvs vs ∧ h.DictOf (mixKind P w) a vs :=
  show ObjOk P w H h a (.dK kvs) from rd_of ok e
theorem dk_of {kvs : List (Key × V)} (ok : HOk P w H h) (e : H a = some (.dK kvs)) : kvs.length ≤ sizeLine ∧ (a == sysModules) = false ∧ ∃ vs, KV kvs vs ∧ h.DictOf (mixKind P w) a vs := dk_rd ok (.inl e)
theorem key_of {ks : List Key} (ok : HOk P w H h) (e : H a = some (.tup (ks.map kV))) : (tupleKind (mixKind P w)).is h ks a := by
  obtain ⟨_, its, r, o, h1, h2, n, h3⟩ := (show ObjOk P w H h a (.tup (ks.map kV)) from ok a _ e)
  exact ⟨o, its.toArray, n, h1, h2, h3, by simpa using items_are r⟩
theorem dt_rd {kvs : List (List Key × V)} (ok : HOk P w H h) (e : Rd H a (.dT kvs)) : kvs.length ≤ sizeLine ∧ (a == sysModules) = false ∧
    ∃ xs, KT H kvs xs ∧ h.DictOfH (tupleKind (mixKind P w)) a xs := by
  obtain ⟨z, y, xs, r, o, es, ep, h1, h2, h3, h4, h5⟩ := (show ObjOk P w H h a (.dT kvs) from rd_of ok e)
  refine ⟨z, y, xs, r, o, es, ep, h1, h2, h3, h4, fun x hx => ?_, h5⟩
  have all : ∀ {l : List (List Key × V)} {m : List (List Key × Addr × Value)}, KT H l m → ∀ x ∈ m, (tupleKind (mixKind P w)).is h x.1 x.2.1 := by
    intro l m q
    induction q with
    | nil => intro x hx; exact nomatch hx
    | @cons p q ps qs hq t ih =>
      intro x hx
      rcases List.mem_cons.mp hx with e | hx
      · subst e
        exact key_of ok (by rw [← hq.1]; exact hq.2.1)
      · exact ih x hx
  exact all r x hx
theorem dt_of {kvs : List (List Key × V)} (ok : HOk P w H h) (e : H a = some (.dT kvs)) : kvs.length ≤ sizeLine ∧ (a == sysModules) = false ∧
    ∃ xs, KT H kvs xs ∧ h.DictOfH (tupleKind (mixKind P w)) a xs := dt_rd ok (.inl e)
end
def DGet (H : Hp) (a : Addr) (y : V) (r : Option V) : Prop :=
  (∃ kvs k, Rd H a (.dK kvs) ∧ y = kV k ∧ r = valV kvs k) ∨ ∃ kvs k b, Rd H a (.dT kvs) ∧ y = .ref b ∧ H b = some (.tup (k.map kV)) ∧ r = valV kvs k
def DPut (H : Hp) (a : Addr) (y v : V) (H' : Hp) : Prop :=
  (∃ kvs k, H a = some (.dK kvs) ∧ y = kV k ∧ kvs.length < sizeLine ∧ H' = upd H a (.dK (putK kvs k v))) ∨
  ∃ kvs k b, H a = some (.dT kvs) ∧ y = .ref b ∧ H b = some (.tup (k.map kV)) ∧ kvs.length < sizeLine ∧ H' = upd H a (.dT (putK kvs k v))
theorem DGet.k {H : Hp} {a : Addr} {kvs : List (Key × V)} {k : Key} (e : H a = some (.dK kvs)) : DGet H a (kV k) (valV kvs k) := .inl ⟨kvs, k, .inl e, rfl, rfl⟩
theorem DPut.k {H : Hp} {a : Addr} {kvs : List (Key × V)} {k : Key} {v : V} (e : H a = some (.dK kvs)) (hl : kvs.length < sizeLine) : DPut H a (kV k) v (upd H a (.dK (putK kvs k v))) := .inl ⟨kvs, k, e, rfl, hl, rfl⟩
section
variable {X : Cx} {pins : List (Addr × Obj)} {σ : St} {H : Hp} {s : Shared} {a : Addr} {y v : V} {u r : Value} {o : Option V} {A : Around} {E : Value → Shared → Prop}
theorem Inv.big (I : Inv X pins σ H s) : sysModules < s.heap.objs.size := by
  have h : mainGlobals < s.heap.objs.size := (I.mod.glob.keeps I.bk).lt
  exact Nat.lt_trans (by decide) h
theorem d_in {Q : Value → Shared → Prop} (hu : A.units + 1 < cLine) (I : Inv X pins σ H s) (g : DGet H a y o) (ry : RelV y u) (h : ∀ s', Inv X pins σ H s' → Q (.bool o.isSome) s') :
    wpAny (model X.prog X.w) A (compareOp .In u (.ref a)) Q E s := by
  rcases g with ⟨kvs, k, e, ey, l⟩ | ⟨kvs, k, b, e, ey, eb, l⟩
  · subst ey
    obtain ⟨z, hd, vs, rel, dd⟩ := dk_rd I.hok e
    refine wpAny_in_of (kV_is ry) hd dd.mapOf ?_
    rw [← (rel.val k).isSome_eq, ← l]
    exact h _ (I.tok _)
  · subst ey
    cases (show u = Value.ref b from ry)
    obtain ⟨z, hd, xs, rel, dd⟩ := dt_rd I.hok e
    refine wpAny_in_heap (tupleKind_room_in1 hu) (key_of I.hok eb) hd dd ?_
    have q := (rel.val k).isSome_eq
    rw [Option.isSome_map] at q
    rw [← q, ← l]
    exact h _ (I.tok _)
theorem d_write {h' : Heap} {t' : Nat} {ob : HO} (I : Inv X pins σ H s) (mu : Mut (H a)) (hs : Heap.SameBut a s.heap h') (he : ∃ q, h'.get? a = some q) (new : ObjOk X.prog X.w (upd H a ob) h' a ob) :
    Inv X pins σ (upd H a ob) { s with heap := h', toks := t' } :=
  I.write (x := a) (e := a) mu (.inl rfl) (fun b q hb z => (hs.2 b hb).trans z) he new
theorem dk_new {P : Program} {w : World} {H' : Hp} {h' : Heap} {kvs : List (Key × V)} {vs : List (Key × Value)} (z : kvs.length ≤ sizeLine) (hd : (a == sysModules) = false) (rel : KV kvs vs) (dd : h'.DictOf (mixKind P w) a vs) :
    ObjOk P w H' h' a (.dK kvs) := ⟨z, hd, vs, rel, dd⟩
theorem d_setItem {H' : Hp} {Q : Unit → Shared → Prop} (hu : A.units + 1 < cLine) (I : Inv X pins σ H s) (g : DPut H a y v H') (ry : RelV y u) (rv : RelV v r) (h : ∀ s', Inv X pins σ H' s' → Q () s') :
    wpAny (model X.prog X.w) A (setItem (.ref a) u r) Q E s := by
  rcases g with ⟨kvs, k, e, ey, l, eH⟩ | ⟨kvs, k, b, e, ey, eb, l, eH⟩
  · subst ey eH
    obtain ⟨z, hd, vs, rel, dd⟩ := dk_of I.hok e
    have hz : vs.length ≤ sizeLine := by rw [← rel.length]; exact z
    have hl : (putK kvs k v).length ≤ sizeLine := by have := length_putK kvs k v; omega
    refine wpAny_setItem_pairs (hsz := hz) (kV_is ry) dd fun h' dd' hs => h _ ?_
    have he : ∃ q, h'.get? a = some q := let ⟨q, _, _, hq, _⟩ := dd'; ⟨q, hq⟩
    exact d_write I (by rw [e]; exact True.intro) hs he (dk_new hl hd (rel.put k rv) dd')
  · subst ey eH
    cases (show u = Value.ref b from ry)
    obtain ⟨z, hd, xs, rel, dd⟩ := dt_of I.hok e
    have hz : xs.length ≤ sizeLine := by rw [← Paired.length rel]; exact z
    have hl : (putK kvs k v).length ≤ sizeLine := by have := length_putK kvs k v; omega
    refine wpAny_setItem_heap (hsz := hz) (tupleKind_room_in1 hu) (key_of I.hok eb) dd fun h' dd' hs => h _ ?_
    obtain ⟨q, es, ep, hq, h2, h3, h4, _, h5⟩ := dd'
    refine d_write I (by rw [e]; exact True.intro) hs ⟨q, hq⟩ ⟨hl, hd, _, (rel.put k eb rv).keeps fun c ys ec => ?_, q, es, ep, hq, h2, h3, h4, h5⟩
    rw [upd_ne (ne_of ec e (fun z => nomatch z))]
    exact ec
end
section
variable {X : Cx} {pins : List (Addr × Obj)} {σ : St} {H : Hp} {s : Shared} {a : Addr} {kvs : List (Key × V)} {k : Key} {u : Value} {A : Around} {E : Value → Shared → Prop}
end
def tDIn (ty td : TE) : TE := fun σ H Q => ty σ H fun y H1 => td σ H1 fun x H2 => ∃ a o, x = .ref a ∧ DGet H2 a y o ∧ Q (.bl o.isSome) H2
def sDPut (td ty tv : TE) : TS := fun D σ H => tv σ H fun v H1 => td σ H1 fun x H2 => ty σ H2 fun y H3 => ∃ a H4, x = .ref a ∧ DPut H3 a y v H4 ∧ D.nx σ H4
section
variable {X : Cx} {o i e value : Expr} {pos pos' tpos : Pos} {td ty tv : TE}
theorem pc_din (hu : X.A.units + 1 < cLine) (hi : PE X i ty) (ho : PE X o td) : PC X .In i o (tDIn ty td) := by
  unfold PE at *; unfold PC at *
  exact by
    intro pins s σ H Q I h
    refine thn (hi pins s σ H _ I h) fun iv s1 ⟨y, H1, I1, ry, q1⟩ => thn (ho pins s1 σ H1 _ I1 q1) fun u s2 ⟨x, H2, I2, rx, a, ov, ex, g, q2⟩ => ?_
    subst ex
    obtain rfl : u = Value.ref a := rx
    exact d_in hu I2 g ry fun s3 I3 => ⟨.bl ov.isSome, H2, I3, rfl, q2⟩
theorem ps_dput (hu : X.A.units + 1 < cLine) (ho : PE X o td) (hi : PE X i ty) (hv : PE X value tv) (hs : swapsWith value (some (.Subscript o i pos')) pos.line X.env = pure false) :
    PS X (.Assign [.Subscript o i pos'] value pos) (sDPut td ty tv) := by
  unfold PE at *; unfold PS at *
  exact by
    intro pins s σ H D I h
    refine wpAny_Assign_Subscript (thn (hv pins s σ H _ I h) fun r s1 ⟨v, H1, I1, rv, q1⟩ => thn (ho pins s1 σ H1 _ I1 q1) fun u s2 ⟨x, H2, I2, rx, q2⟩ => thn (hi pins s2 σ H2 _ I2 q2) fun iv s3 ⟨y, H3, I3, ry, a, H4, ex, g, q3⟩ => ?_) hs
    subst ex
    obtain rfl : u = Value.ref a := rx
    exact d_setItem hu I3 g ry rv fun s4 I4 => ⟨σ, H4, I4, q3⟩
end
theorem dk_empty {P : Program} {w : World} {H : Hp} (h : Heap) (hb : sysModules < h.objs.size) : ObjOk P w H (h.push { cls := .type "dict", data := .dict #[] }) h.objs.size (.dK []) :=
  ⟨Nat.zero_le _, beq_eq_false_iff_ne.mpr (Ne.symm (Nat.ne_of_lt hb)), [], .nil, Heap.DictOf.new h⟩
def tDNewK : TE := fun _ H Q => ∀ p, H p = none → Q (.ref p) (upd H p (.dK []))
section
variable {X : Cx} {pos : Pos}
theorem pe_dnewK : PE X (.Dict [] [] pos) tDNewK := by
  unfold PE at *
  exact (fun pins s σ H Q I h =>
    wpAny_Dict_empty ⟨.ref s.heap.objs.size, _, I.laid (a := s.heap.objs.size) (o := .dK []) (t' := s.toks) (fun _ _ q => Heap.get?_push_of_some _ q) (Nat.le_refl _) (dk_empty s.heap I.big), rfl, h _ (I.hok.fresh (Nat.le_refl _))⟩)
end
section
variable {X : Cx} {pins : List (Addr × Obj)} {σ : St} {H : Hp} {s : Shared} {a : Addr} {y d : V} {u r : Value} {o : Option V} {A : Around} {E : Value → Shared → Prop}
end
section
variable {X : Cx} {o e f : Expr} {apos cpos : Pos} {td ty tx : TE}
end
section
variable {X : Cx} {pins : List (Addr × Obj)} {σ : St} {H : Hp} {s : Shared} {a : Addr} {kvs : List (Key × V)} {A : Around} {E : Value → Shared → Prop}
end
section
variable {X : Cx} {pins : List (Addr × Obj)} {σ : St} {H : Hp} {s : Shared} {a : Addr} {y : V} {u : Value} {A : Around} {E : Value → Shared → Prop}
end
end L2
namespace Att
open PySem PySem.W PySem.Calls PyProof.Rows
theorem ints_of_wellAll {P : Params} {h : Heap} : ∀ (ns : List Int) (vs : List Value), WellAll P h vs (ns.map WData.int) → IntsAre vs ns := by
  intro ns
  induction ns with
  | nil =>
    intro vs w
    rw [List.map_nil] at w
    cases w
    exact .nil
  | cons n ns ih =>
    intro vs w
    rw [List.map_cons] at w
    cases w with
    | cons a b =>
      cases a
      exact .cons _ _ (ih _ b)
theorem script_of {l : OpenLaw} {n : Nat} (hn : l.most = some n) {P : Params} {h : Heap} {args : List WData} {vals : List Value}
    (hpre : l.row.toRowW.claim.pre args = true) (hwl : WellAll P h vals args) :
    ∃ a vs ns, vals = [Value.ref a] ∧ args = [WData.list (ns.map WData.int)] ∧ h.get? a = some { cls := .type "list", data := .seq vs.toArray } ∧ IntsAre vs ns ∧ ns.length ≤ n := by
  have hsh : WShape.hasAll [] args [.list .int] = true := (pre_splitW hpre).1
  have hc : l.pre.holds [] { args := args } = true := (pre_splitW hpre).2
  obtain ⟨d, r, rfl, h1, h2⟩ := hasAllW_cons hsh
  obtain rfl := hasAllW_nil h2
  obtain ⟨xs, rfl, h3⟩ := hasW_list h1
  obtain ⟨ns, rfl⟩ := items_int h3
  have hlen : ns.length ≤ n := by
    unfold OpenLaw.pre at hc
    have h4 : (WTm.not (.lt (.lit (.int (n : Int))) (.len (.arg 0)))).holds [] { args := [.list (ns.map .int)] } = true := by
      have h4 := (holds_andW hc).1
      rw [hn] at h4
      exact h4
    have h5 := condW_of h4 (w_not (w_lt w_lit (w_len_list (w_arg rfl))))
    rw [List.length_map] at h5
    refine Nat.le_of_not_lt fun q => ?_
    have q' : (n : Int) < ((ns.length : Nat) : Int) := by omega
    first
      | (rw [decide_eq_true q'] at h5; exact absurd h5 (by decide))
      | (simp at h5; omega)
  cases hwl with
  | cons w1 w2 =>
    cases w2
    cases w1 with
    | list ho hall => exact ⟨_, _, ns, rfl, rfl, ho, ints_of_wellAll ns _ hall, hlen⟩
theorem post_true (l : OpenLaw) (args : List WData) : l.row.toRowW.claim.post args (.bool true) args = true :=
  postW_of (r := l.row.toRowW) (X := (true == true))
    (show WShape.has [] (.bool true) .bool = true by first | rfl | decide | simp [WShape.has, WShape.arms, WShape.armsAll])
    (show (WTm.eq .res (.lit (.bool true))).value [] { args := args, res := some (.bool true), after := args } = some (.bool (true == true)) from w_eq_bool (w_res rfl) w_lit) rfl
theorem attach_call {l : OpenLaw} {n : Nat} {q : Program} {loose : List Str} {XP : (Str → Option Value) → Heap → Prop} {YP : World → Heap → Prop} {d : DefRec}
    (hn : l.most = some n) (hdf : d.params.defaults = [])
    (call : ∀ (w : World) (s₀ s₁ : Shared) (mg mb : Str → Option Value) (fa : Addr) (o : Obj) (pm cd doc : Value) (a : Addr) (vs : List Value) (ns : List Int),
      Ground q loose [] XP w s₀ mg mb s₁.heap → YP w s₁.heap →
      s₁.heap.get? fa = some o → o.data = .func (docDef d.name d.params d.body d.scope pm cd doc) → s₁.heap.CodeRec cd d.name → mg d.name = some (.ref fa) →
      s₁.heap.get? a = some { cls := .type "list", data := .seq vs.toArray } → IntsAre vs ns → ns.length ≤ n → s₁.gens = #[] →
      codeAny (model l.prog w) callerA (.call (.ref fa) ⟨[.ref a], []⟩) (fun r s' => r = .ok (.ret (.bool true)) ∧ OldK s₁.heap s'.heap ∧ s'.os = s₁.os ∧ AllBare s'.gens) s₁) :
    WalkO q loose XP YP l.row.toRowW d [] (fun f vs => PySem.call f vs) := by
  intro w s₀ s₁ mg mb G Y fa o pm cd doc dV kV ho hd hcd hD hmg hg args vals as hpre hlay hrd hwl hlo
  obtain rfl : dV = .none := Dflts.none hD hdf
  obtain rfl : kV = .none := Dflts.noKw hD
  obtain ⟨a, vs, ns, rfl, rfl, hobj, hints, hlen⟩ := script_of hn hpre hwl
  refine enter_call (codeAny_mono (call w s₀ s₁ mg mb fa o pm cd doc a vs ns G Y ho (fd_plain hd) hcd hmg hobj hints hlen hg) fun r s' hq => ?_)
  obtain ⟨rfl, h2, h3, h4⟩ := hq
  exact ⟨.inl ⟨.bool true, .bool true, [], rfl, fun _ => rfl, .bool true, post_true l _, fun _ => ⟨List.Pairwise.nil, fun _ hm => (nomatch hm)⟩⟩, h2, h3, h4⟩
section
variable {prog : Program} {w : World} {A : Around} {E : Value → Shared → Prop} {s : Shared} {K : Frag}
def ledger (h : Heap) (L d : Addr) : List (Addr × Obj) := (List.range h.objs.size).filterMap fun a => if a = L ∨ a = d then none else (h.get? a).map fun o => (a, o)
end
end Att
namespace L2
open PySem PySem.Spec PyProof.Rows
theorem vals_ints : ∀ {vs : List Value} {ns : List Int}, IntsAre vs ns → Vals (ns.map V.int) vs
  | _, _, .nil => .nil
  | _, _, .cons n t h => .cons ⟨t, rfl⟩ (vals_ints h)
def Only (H : Hp) : Prop := ∀ b, H b = none ∨ ∃ o xs, H b = some (.frz o (.lst xs))
theorem law_call {P : Program} {w : World} {K : PySem.W.Frag} {mg mb : Str → Option Value} {CX : CXT} {k : Nat} {fa a : Addr} {fd : FuncData} {x : Str} {sp : Sp} {s₁ : Shared} {vs : List Value} {ns : List Int}
    (KX : K.In s₁.heap) (hns : s₁.heap.Ns mainGlobals mg) (hb : s₁.heap.Ns builtinsNs mb) (hbb : ∀ x : Str, x ≠ "__name__" → mb x = bootBuiltins x) (hlim : s₁.heap.NoLimit) (hg : s₁.gens = #[])
    (ha : s₁.heap.get? a = some { cls := .type "list", data := .seq vs.toArray }) (hi : IntsAre vs ns) (hl : ns.length ≤ sizeLine) (hr : Room k callerA)
    (F : ∀ base : Heap, K.In base → base.Ns mainGlobals mg → FnOk P w K mg base CX k fa fd [x] sp) (hbind : ∀ (s : Shared) (u : Value), BindsTo s fd ⟨[u], []⟩ [(x, u)])
    (hsp : ∀ H : Hp, Only H → SqL K H a (ns.map V.int) → sp [.ref a] H (fun v _ => v = .bl true) fun _ _ _ => False)
    (hCX : ∀ H e s', CX [] H s₁ (fun _ _ _ => False) e s' → False) :
    codeAny (model P w) callerA (.call (.ref fa) ⟨[.ref a], []⟩) (fun r s' => r = .ok (.ret (.bool true)) ∧ OldK s₁.heap s'.heap ∧ s'.os = s₁.os ∧ AllBare s'.gens) s₁ := by
  have rv := vals_ints hi
  have lenV := hi.length
  -- from an abstract heap in which nothing but the script may be tracked
  have core : ∀ H : Hp, Only H → SqL K H a (ns.map V.int) → HOk P w H s₁.heap → (∀ b, H b ≠ none → b = a) → (H a ≠ none → K.lookup a = none) →
      codeAny (model P w) callerA (.call (.ref fa) ⟨[.ref a], []⟩) (fun r s' => r = .ok (.ret (.bool true)) ∧ OldK s₁.heap s'.heap ∧ s'.os = s₁.os ∧ AllBare s'.gens) s₁ := by
    intro H hO hS hok hA hK
    have base_of : ∀ {b : Addr} {o : Obj}, s₁.heap.get? b = some o → H b = none → (hidT s₁.heap H).get? b = some o := fun e n => hidT_get e n
    have noA : ∀ {b : Addr} {o : Obj} {es : Array DictEntry} {ep : Nat}, s₁.heap.get? b = some o → o.data = .dict es ep → H b = none := fun {b o es ep} e d => by
      cases q : H b with
      | none => rfl
      | some u =>
        have e' : b = a := hA b (by rw [q]; simp)
        subst e'
        rw [ha] at e; cases e
        have d' : Data.seq vs.toArray _ = Data.dict es ep := d
        cases d'
    have nsK : ∀ {b : Addr} {m : Str → Option Value}, s₁.heap.Ns b m → (hidT s₁.heap H).Ns b m := fun {b m} ⟨o, es, ep, e, d, r⟩ => ⟨o, es, ep, base_of e (noA e d), d, r⟩
    have hKb : K.In (hidT s₁.heap H) := fun b o e => base_of (KX b o e) (by
      cases q : H b with
      | none => rfl
      | some u =>
        have e' : b = a := hA b (by rw [q]; simp)
        subst e'
        rw [hK (by rw [q]; simp)] at e; cases e)
    have hM : Mod K mg (hidT s₁.heap H) := ⟨hKb, nsK hns, ⟨mb, nsK hb, hbb⟩, let ⟨mc, h1, h2⟩ := hlim; ⟨mc, nsK h1, h2⟩⟩
    have e0 : Env0 P w K mg (hidT s₁.heap H) callerA [] s₁ H := ⟨rfl, hM, fun b o e => of_hidT e, Nat.le_of_eq (hidT_size _ _), trivial, fun b hb => absurd (show b ∈ ([] : List Addr) from hb) (by simp), hok, .of_eq hg⟩
    refine codeAny_mono ((F _ hKb (nsK hns)).run callerA [] s₁ H ⟨[.ref a], []⟩ [.ref a] [.ref a] _ _ hr e0 (hbind s₁ (.ref a)) (.cons rfl .nil) (hsp H hO hS)) fun r s' h => ?_
    cases r with
    | error e => exact (hCX H e s' h).elim
    | ok fl =>
      cases fl with
      | next => exact False.elim h
      | brk => exact False.elim h
      | cont => exact False.elim h
      | ret u =>
        obtain ⟨v, H', os, bare, un, hok', r', q⟩ := h
        have q' : v = .bl true := q
        subst q'
        obtain rfl : u = Value.bool true := r'
        refine ⟨rfl, OldK.of_keep fun b o e => ?_, os, bare⟩
        cases q : H b with
        | none => exact un.keep b o e q (by intro z; exact absurd (show b ∈ ([] : List Addr) from z) (by simp)) (by simp)
        | some u =>
          rcases hO b with z | ⟨ob, xs, z⟩
          · rw [q] at z; cases z
          · have z2 := un.frzs b ob _ z
            obtain ⟨e1, _⟩ := hok b _ z
            obtain ⟨e2, _⟩ := hok' b _ z2
            rw [e] at e1; cases e1
            exact e2
  cases hk : K.lookup a with
  | some o =>
    -- the script is one of the module's own objects
    have e := KX a o hk
    rw [ha] at e
    cases e
    refine core (fun _ => none) (fun _ => .inl rfl) (.inr ⟨_, vs.toArray, _, hk, rfl, rfl, rfl, by rw [List.size_toArray, lenV]; exact hl, by simpa using rv⟩) (fun b u z => by have z' : (none : Option HO) = some u := z; cases z') (fun b z => absurd rfl z) fun z => absurd rfl z
  | none =>
    refine core (fun b => if b = a then some (.frz { cls := .type "list", data := .seq vs.toArray } (.lst (ns.map V.int))) else none) (fun b => ?_) (.inl (.inr ⟨{ cls := .type "list", data := .seq vs.toArray }, if_pos rfl⟩)) (fun b u z => ?_) (fun b z => ?_) fun _ => hk
    · by_cases hb : b = a
      · exact .inr ⟨_, _, if_pos hb⟩
      · exact .inl (if_neg hb)
    · by_cases hb : b = a
      · have z' := (if_pos hb).symm.trans z
        cases z'
        subst hb
        exact ⟨ha, by rw [List.length_map]; exact hl, vs, _, rv, ha⟩
      · have z' := (if_neg hb).symm.trans z
        cases z'
    · by_cases hb : b = a
      · exact hb
      · exact absurd (if_neg hb) z
end L2
namespace L2
open PySem PySem.Spec PyProof.Rows
theorem walk_of {l : PySem.W.OpenLaw} {n k : Nat} {q : Program} {loose : List Str} {XP : (Str → Option Value) → Heap → Prop} {YP : World → Heap → Prop} {d : DefRec} {K : Params → PySem.W.Frag} {CX : World → CXT} {sp : World → Sp} {x : Str}
    (hn : l.most = some n) (hn2 : n ≤ sizeLine) (hdf : d.params.defaults = []) (hr : Room k callerA)
    (hY : ∀ (w : World) (h : Heap), YP w h → (K w.params).In h)
    (F : ∀ (w : World) (mg : Str → Option Value) (fa : Addr) (h : Heap), (K w.params).In h → h.Ns mainGlobals mg → mg d.name = some (.ref fa) →
      ∃ fd : FuncData, (∀ (s : Shared) (u : Value), BindsTo s fd ⟨[u], []⟩ [(x, u)]) ∧
        ∀ base : Heap, (K w.params).In base → base.Ns mainGlobals mg → FnOk l.prog w (K w.params) mg base (CX w) k fa fd [x] (sp w))
    (hsp : ∀ (w : World) (H : Hp) (a : Addr) (ns : List Int), ns.length ≤ n → Only H → SqL (K w.params) H a (ns.map V.int) → sp w [.ref a] H (fun v _ => v = .bl true) fun _ _ _ => False)
    (hCX : ∀ (w : World) (H : Hp) (s : Shared) (e : Value) (s' : Shared), CX w [] H s (fun _ _ _ => False) e s' → False) :
    PySem.W.WalkO q loose XP YP l.row.toRowW d [] (fun f vs => PySem.call f vs) := by
  refine Att.attach_call hn hdf fun w s₀ s₁ mg mb fa o pm cd doc a vs ns G Y ho hd hcd hmg hobj hints hlen hg => ?_
  have KX := hY w _ Y
  obtain ⟨fd, hb, hF⟩ := F w mg fa _ KX G.T.g hmg
  exact law_call KX G.T.g G.T.b G.T.builtins G.T.nolimit hg hobj hints (Nat.le_trans hlen hn2) hr hF hb (fun H hO hS => hsp w H a ns hlen hO hS) fun H e s' => hCX w H s₁ e s'
theorem walk_ofK {l : PySem.W.OpenLaw} {n k : Nat} {q : Program} {loose : List Str} {XP : (Str → Option Value) → Heap → Prop} {YP : World → Heap → Prop} {d : DefRec} {K : Params → PySem.W.Frag} {CX : CXT} {sp : PySem.W.Frag → Sp} {x : Str}
    (hn : l.most = some n) (hn2 : n ≤ sizeLine) (hdf : d.params.defaults = []) (hr : Room k callerA)
    (hY : ∀ (w : World) (h : Heap), YP w h → (K w.params).In h)
    (F : ∀ (w : World) (mg : Str → Option Value) (fa : Addr) (h : Heap), (K w.params).In h → h.Ns mainGlobals mg → mg d.name = some (.ref fa) →
      ∃ fd : FuncData, (∀ (s : Shared) (u : Value), BindsTo s fd ⟨[u], []⟩ [(x, u)]) ∧
        ∀ base : Heap, (K w.params).In base → base.Ns mainGlobals mg → FnOk l.prog w (K w.params) mg base CX k fa fd [x] (sp (K w.params)))
    (hsp : ∀ (K : PySem.W.Frag) (H : Hp) (a : Addr) (ns : List Int), ns.length ≤ n → Only H → SqL K H a (ns.map V.int) → sp K [.ref a] H (fun v _ => v = .bl true) fun _ _ _ => False)
    (hCX : ∀ (H : Hp) (s : Shared) (e : Value) (s' : Shared), CX [] H s (fun _ _ _ => False) e s' → False) :
    PySem.W.WalkO q loose XP YP l.row.toRowW d [] (fun f vs => PySem.call f vs) :=
  walk_of (K := K) (CX := fun _ => CX) (sp := fun w => sp (K w.params)) hn hn2 hdf hr hY F (fun w H a ns h1 h2 h3 => hsp (K w.params) H a ns h1 h2 h3) fun _ H s e s' => hCX H s e s'
end L2
/- THE LAST THEOREM (shape; LID, My.* are yours):
   My.Adr: a structure of the addresses that your layer names (classes, functions); My.Txt K t: a structure (Prop) of the equations over K;
   My.txt_mk : {K} {implicit addresses ..} (e1 : nsIn K mainGlobals "law" = some (some (.ref f))) (e2 : K.lookup f = some ⟨oc, od, .func (fnOf "law" "law" params body scope dV kV doc pm an cdv ct), sl⟩) (e3 : codeIn K cdv "law" = true) .. : ∃ t, My.Txt K t
set_option maxRecDepth 100000 in
set_option maxHeartbeats 0 in
(the tactic k_is has no namespace: write k_is) -/
namespace L2
open PySem PySem.Spec PyProof.Rows
def defArgs (s : Stmt) : Arguments := match s with
  | .FunctionDef _ a _ _ _ _ _ _ _ _ => a
  | _ => { posonlyargs := [], args := [], vararg := none, kwonlyargs := [], kw_defaults := [], kwarg := none, defaults := [] }
def defBody (s : Stmt) : List Stmt := match s with
  | .FunctionDef _ _ b _ _ _ _ _ _ _ => b
  | _ => []
def defScope (s : Stmt) : Scope := match s with
  | .FunctionDef _ _ _ _ _ _ sc _ _ _ => sc
  | _ => { kind := .function, names := [], isGenerator := false, isCoroutine := false }
abbrev CX0 : CXT := fun _ _ _ _ _ _ => False
abbrev E0 : XK := fun _ _ _ => False
theorem pass0 {X : Cx} : Passes CX0 X E0 := fun _ _ _ _ _ _ _ h => h.elim
structure Fun (K : PySem.W.Frag) (x qual : Str) (st : Stmt) (f : Addr) (fd : FuncData) : Prop where
  ex : ∃ (oc : Value) (od : Option Addr) (kV doc pm : Value) (an : Option Addr) (cdv ct : Value) (osl : Array (Option Value)),
    fd = PySem.W.fnOf x qual (defArgs st) (defBody st) (defScope st) .none kV doc pm an cdv ct ∧ K.lookup f = some ⟨oc, od, .func fd, osl⟩ ∧ PySem.W.codeIn K cdv qual = true
  kp : PySem.W.keepIn K (.ref f) = true
section
variable {P : Program} {w : World} {K : PySem.W.Frag} {mg : Str → Option Value} {base : Heap}
theorem Fun.ok {x qual : Str} {st : Stmt} {f : Addr} {fd : FuncData} {N ps : List Str} {k : Nat} {sp : Sp} (F : Fun K x qual st f fd) (S : FnScope N ps (defScope st)) (len : ∀ vs H Q E, sp vs H Q E → vs.length = ps.length)
    (hbody : ∀ (cdv : Value) (A : Around) (outer : List Env) (s : Shared) (H : Hp) (vs : List V) (Q : VK) (E : XK), Room k (A.deeper (envOfC qual (defScope st) s.heap.objs.size f cdv)) → sp vs H Q E →
      ∃ t, PSs (cxOf CX0 P w K mg base N qual (defScope st) f cdv A outer s H E).nox (defBody st) t ∧ t { nx := fun _ H' => Q .non H', rt := Q } (start N vs) H) : FnOk P w K mg base CX0 (k + 1) f fd ps sp := by
  obtain ⟨oc, od, kV, doc, pm, an, cdv, ct, osl, rfl, lk, hcd⟩ := F.ex
  refine fn_of lk hcd S len fun A outer s H vs Q E hr hsp => ?_
  obtain ⟨t, h, q⟩ := hbody cdv A outer s H vs Q E hr hsp
  exact ⟨t, h.nox, q⟩
theorem Fun.binds {x qual : Str} {st : Stmt} {f : Addr} {fd : FuncData} {ps : List Str} (F : Fun K x qual st f fd)
    (h : ∀ (kV doc pm : Value) (an : Option Addr) (cdv ct : Value) (us : List Value), us.length = ps.length → bindArgs (PySem.W.fnOf x qual (defArgs st) (defBody st) (defScope st) .none kV doc pm an cdv ct) ⟨us, []⟩ = pure (ps.zip us)) : Binds K fd ps [] := by
  obtain ⟨oc, od, kV, doc, pm, an, cdv, ct, osl, rfl, lk, hcd⟩ := F.ex
  exact .all (h kV doc pm an cdv ct)
theorem fun_mk {x qual : Str} {st : Stmt} {f : Addr} {oc : Value} {od an : Option Addr} {osl : Array (Option Value)} {kV doc pm cdv ct : Value} (l : K.lookup f = some ⟨oc, od, .func (PySem.W.fnOf x qual (defArgs st) (defBody st) (defScope st) .none kV doc pm an cdv ct), osl⟩)
    (c : PySem.W.codeIn K cdv qual = true) (k : PySem.W.keepIn K (.ref f) = true) : Fun K x qual st f (PySem.W.fnOf x qual (defArgs st) (defBody st) (defScope st) .none kV doc pm an cdv ct) := ⟨⟨oc, od, kV, doc, pm, an, cdv, ct, osl, rfl, l, c⟩, k⟩
end
theorem hu_of {A : Around} {k : Nat} (hr : Room k A) : A.units + 1 < cLine := Nat.lt_of_le_of_lt (Nat.add_le_add_left (by decide : 1 ≤ 64) _) hr.units
section
variable {X : Cx}
theorem pv (i : Nat) {x : Str} {pos : Pos} (hN : X.N[i]? = some x := by rfl) (hv : Vis X.env.scope x := by first | exact Or.inl rfl | exact Or.inr (Or.inl rfl) | exact Or.inr (Or.inr rfl)) (hd : (x == ("__debug__" : Str)) = false := by decide)
    (hcd : (x == ("__classdict__" : Str)) = false := by decide) : PE X (.Name x pos) (tVar i) := by
  first
  | exact (pe_var hN hv hd hcd)
  | (unfold PE at *; exact (pe_var hN hv hd hcd))
end
theorem iteF {A B : Prop} (h : B) : if false = true then A else B := by
  rw [if_neg Bool.false_ne_true]
  exact h
theorem iteT {A B : Prop} (h : A) : if true = true then A else B := by
  rw [if_pos rfl]
  exact h
theorem ite2 {c A B : Prop} [Decidable c] (h1 : c → A) (h2 : ¬ c → B) : if c then A else B := by
  by_cases h : c
  · rw [if_pos h]
    exact h1 h
  · rw [if_neg h]
    exact h2 h
def Same (H H' : Hp) : Prop := ∀ b o, H b = some o → H' b = some o
theorem Same.refl (H : Hp) : Same H H := fun _ _ h => h
theorem Same.trans {H H1 H2 : Hp} (a : Same H H1) (b : Same H1 H2) : Same H H2 := fun c o h => b c o (a c o h)
theorem Same.free {H H' : Hp} (e : Same H H') {l : Addr} (h : H' l = Option.none) : H l = Option.none := by
  cases q : H l with
  | none => rfl
  | some o =>
    rw [e l o q] at h
    cases h
theorem Same.seq {K : PySem.W.Frag} {H H' : Hp} {a : Addr} {xs : List V} (e : Same H H') (h : SqL K H a xs) : SqL K H' a xs := by
  rcases h with (h | ⟨o, h⟩) | h
  · exact .inl (.inl (e _ _ h))
  · exact .inl (.inr ⟨o, e _ _ h⟩)
  · exact .inr h
section
variable {κ : Type} [DecidableEq κ]
end
end L2
set_option maxHeartbeats 4000000
namespace L2
open PySem PySem.Spec PyProof.Rows
section
variable {X : Cx} {a b c : Expr} {ta tb tc : TE} {pos : Pos}
inductive ClsV : V → Value → Prop where
  | ty (n : String) : ClsV (.ty n) (.type n)
  | own (C : Addr) : ClsV (.ref C) (.ref C)
def rIsi (K : PySem.W.Frag) : List V → Hp → VK → Prop := fun xs H Q => ∃ x c cv t b, xs = [x, c] ∧ ClsV c cv ∧ TyOf K H x t ∧ PySem.W.kitOne K t cv = some b ∧ Q (.bl b) H
theorem call_isi : CallR X (.builtin "isinstance") (rIsi X.K) := by
  unfold CallR at *
  exact by
    intro pins s σ H xs us Q I rv h
    obtain ⟨x, c, cv, t, b, rfl, hc, ty, e, q⟩ := h
    obtain ⟨u, cu, rfl, ru, rc⟩ := rv.two
    have ec : cu = cv := by cases hc <;> exact rc
    subst ec
    exact isinst_ok I ru ty e fun tk => ⟨.bl b, H, I.tok tk, rfl, q⟩
end
end L2
namespace L2
open PySem PySem.Spec PyProof.Rows
/- what a block's context hangs on: the closure's cells, the state and abstract heap ahead of the block, the iterator's records -/
set_option genInjectivity false in
set_option genSizeOfSpec false in
set_option genSizeOf false in
structure Bk where
  cl : List (Str × Addr)
  s2 : Shared
  H2 : Hp
  fp : List Addr
def cxComp (X : Cx) (scope : Scope) (N' : List Str) (B : Bk) : Cx :=
  { X with N := N', s₀ := B.s2, H₀ := B.H2, env := compEnvC scope B.cl B.s2.heap.objs.size X.env, outer := X.stack, stack := X.stack, ex := B.fp, fn := fun _ => false, pn := [], xe := fun _ _ => False }
def capS (js : List (Option Nat)) (σ : St) : St := js.map fun o => o.bind fun j => (σ[j]?).join
structure Cap (X : Cx) (scope : Scope) (N' : List Str) (js : List (Option Nat)) : Prop where
  len : js.length = N'.length
  ok : ∀ (i j : Nat) (x : Str), js[i]? = some (some j) → N'[i]? = some x → X.N[j]? = some x ∧ scope.names.lookup x = some .free ∧ (X.env.kindOf x = some .cell ∨ X.env.kindOf x = some .free)
theorem closure_go {env : Env} : ∀ (names : List (Str × NameKind)) (cs : List (Str × Addr)), (∀ x ∈ names, x.2 = .free → ∃ c, env.cells.lookup x.1 = some c) → (∀ x c, cs.lookup x = some c → env.cells.lookup x = some c) →
    ∃ cl, (forIn names cs (fun (x : Str × NameKind) (r : List (Str × Addr)) => match x with
      | (name, kind) => if (kind == NameKind.free) = true then (do let y ← cellOf env name; pure (ForInStep.yield ((name, y) :: r))) else pure (ForInStep.yield r)) : Sem (List (Str × Addr))) = pure cl ∧
      (∀ x c, cl.lookup x = some c → env.cells.lookup x = some c) ∧ (∀ x c, cs.lookup x = some c → ∃ c', cl.lookup x = some c') ∧ ∀ x, (x, NameKind.free) ∈ names → ∃ c, cl.lookup x = some c := by
  intro names
  induction names with
  | nil => intro cs _ h2; exact ⟨cs, rfl, h2, fun x c e => ⟨c, e⟩, fun x hx => absurd hx (by simp)⟩
  | cons y r ih =>
    intro cs h1 h2
    obtain ⟨n, k⟩ := y
    have h1r : ∀ x ∈ r, x.2 = .free → ∃ c, env.cells.lookup x.1 = some c := fun x hx => h1 x (List.mem_cons_of_mem _ hx)
    by_cases hk : k = .free
    · subst hk
      obtain ⟨c, hc⟩ := h1 (n, .free) List.mem_cons_self rfl
      have h2' : ∀ x d, List.lookup x ((n, c) :: cs) = some d → env.cells.lookup x = some d := fun x d e => by
        by_cases hx : x = n
        · subst hx
          simp only [List.lookup_cons, beq_self_eq_true] at e
          rw [hc]; exact e
        · have hb : (x == n) = false := by simpa using hx
          simp only [List.lookup_cons, hb] at e
          exact h2 x d e
      obtain ⟨cl, e1, e2, e3, e4⟩ := ih ((n, c) :: cs) h1r h2'
      refine ⟨cl, ?_, e2, fun x d e => ?_, fun x hx => ?_⟩
      · rw [List.forIn_cons]
        have q : cellOf env n = pure c := by unfold cellOf; rw [hc]
        show ((if (NameKind.free == NameKind.free) = true then (do let y ← cellOf env n; pure (ForInStep.yield ((n, y) :: cs))) else pure (ForInStep.yield cs)) >>= _) = _
        rw [if_pos (by decide), q]
        exact e1
      · by_cases hx : x = n
        · exact e3 x c (by subst hx; simp [List.lookup_cons])
        · exact e3 x d (by have hb : (x == n) = false := by simpa using hx
                           simp only [List.lookup_cons, hb]; exact e)
      · rcases List.mem_cons.mp hx with z | z
        · injection z with z1 _
          exact e3 x c (by subst z1; simp [List.lookup_cons])
        · exact e4 x z
    · obtain ⟨cl, e1, e2, e3, e4⟩ := ih cs h1r h2
      refine ⟨cl, ?_, e2, e3, fun x hx => ?_⟩
      · rw [List.forIn_cons]
        have hb : (k == NameKind.free) = false := by simpa using hk
        show ((if (k == NameKind.free) = true then _ else pure (ForInStep.yield cs)) >>= _) = _
        rw [if_neg (by rw [hb]; decide)]
        exact e1
      · rcases List.mem_cons.mp hx with z | z
        · injection z with _ z2
          exact absurd z2.symm hk
        · exact e4 x z
theorem closure_of {scope : Scope} {env : Env} (h : ∀ x ∈ scope.names, x.2 = .free → ∃ c, env.cells.lookup x.1 = some c) :
    ∃ cl, closureFor scope env = pure cl ∧ (∀ x c, cl.lookup x = some c → env.cells.lookup x = some c) ∧ ∀ x, (x, NameKind.free) ∈ scope.names → ∃ c, cl.lookup x = some c := by
  obtain ⟨cl, e1, e2, _, e4⟩ := closure_go (env := env) scope.names [] h (fun x c e => by simp at e)
  refine ⟨cl, ?_, e2, e4⟩
  have q : closureFor scope env = (forIn scope.names [] (fun (x : Str × NameKind) (r : List (Str × Addr)) => match x with
      | (name, kind) => if (kind == NameKind.free) = true then (do let y ← cellOf env name; pure (ForInStep.yield ((name, y) :: r))) else pure (ForInStep.yield r)) : Sem (List (Str × Addr))) >>= fun r => pure r := rfl
  rw [q, e1]
  rfl
theorem relabel_free {env : Env} : ∀ {names : List (Str × NameKind)} {x : Str}, names.lookup x = some .free →
    (names.map fun (n, k) => if (k == NameKind.free && env.scope.kind == .function && env.kindOf n == some .cell) then (n, NameKind.cell) else (n, k)).lookup x = some .cell ∨
    (names.map fun (n, k) => if (k == NameKind.free && env.scope.kind == .function && env.kindOf n == some .cell) then (n, NameKind.cell) else (n, k)).lookup x = some .free
  | [], _, h => by simp at h
  | (n, k) :: r, x, h => by
    have ih := @relabel_free env r x
    simp only [List.map_cons]
    cases hx : x == n with
    | true =>
      simp only [List.lookup_cons, hx] at h
      cases h
      by_cases hc : (NameKind.free == NameKind.free && env.scope.kind == .function && env.kindOf n == some .cell) = true
      · rw [if_pos hc]; left; simp only [List.lookup_cons, hx]
      · rw [if_neg hc]; right; simp only [List.lookup_cons, hx]
    | false =>
      simp only [List.lookup_cons, hx] at h
      by_cases hc : (k == NameKind.free && env.scope.kind == .function && env.kindOf n == some .cell) = true
      · rw [if_pos hc]; simp only [List.lookup_cons, hx]; exact ih h
      · rw [if_neg hc]; simp only [List.lookup_cons, hx]; exact ih h
theorem relabel_inv {env : Env} : ∀ {names : List (Str × NameKind)} {x : Str},
    ((names.map fun (n, k) => if (k == NameKind.free && env.scope.kind == .function && env.kindOf n == some .cell) then (n, NameKind.cell) else (n, k)).lookup x = some .cell ∨
    (names.map fun (n, k) => if (k == NameKind.free && env.scope.kind == .function && env.kindOf n == some .cell) then (n, NameKind.cell) else (n, k)).lookup x = some .free) →
    names.lookup x = some .cell ∨ names.lookup x = some .free
  | [], _, h => by simp at h
  | (n, k) :: r, x, h => by
    have ih := @relabel_inv env r x
    simp only [List.map_cons] at h
    cases hx : x == n with
    | true =>
      simp only [List.lookup_cons, hx]
      by_cases hc : (k == NameKind.free && env.scope.kind == .function && env.kindOf n == some .cell) = true
      · right
        have : k = .free := by
          simp only [Bool.and_eq_true] at hc
          simpa using hc.1.1
        rw [this]
      · rw [if_neg hc] at h
        simp only [List.lookup_cons, hx] at h
        exact h
    | false =>
      simp only [List.lookup_cons, hx]
      apply ih
      by_cases hc : (k == NameKind.free && env.scope.kind == .function && env.kindOf n == some .cell) = true
      · rw [if_pos hc] at h; simp only [List.lookup_cons, hx] at h; exact h
      · rw [if_neg hc] at h; simp only [List.lookup_cons, hx] at h; exact h
theorem comp_start {X : Cx} {pins : List (Addr × Obj)} {σ : St} {H2 : Hp} {s2 : Shared} {scope : Scope} {cl : List (Str × Addr)} {N' : List Str} {js : List (Option Nat)} {fp : List Addr} {h' : Heap} {t' : Nat} {m0 : Str → Option Value}
    (I : Inv X pins σ H2 s2) (hk : scope.kind = .function) (hcell : ∀ y ∈ scope.names, y.2 ≠ .cell)
    (hf : ∀ b ∈ fp, FpOk X pins H2 b) (ho : ∀ b ∈ fp, ∃ o, s2.heap.get? b = some o)
    (c1 : ∀ x c, cl.lookup x = some c → X.env.cells.lookup x = some c) (c2 : ∀ x, (x, NameKind.free) ∈ scope.names → ∃ c, cl.lookup x = some c)
    (cap : Cap X scope N' js) (ns : h'.Ns s2.heap.objs.size m0) (sb : ∀ b o, s2.heap.get? b = some o → h'.get? b = some o) :
    Inv (cxComp X scope N' ⟨cl, s2, H2, fp⟩) [] (capS js σ) H2 { s2 with heap := h', toks := t' } := by
  have isc : ∀ c v, s2.heap.IsCell c v → h'.IsCell c v := fun c v ⟨o, e, d⟩ => ⟨o, sb _ _ e, d⟩
  refine ⟨⟨I.ok.mod, hk, I.ok.glob, I.ok.blt, Nat.le_refl _, fun x y c h1 h2 => I.ok.inj x y c (c1 x c h1) (c1 y c h2), fun x hx => ?_, fun x c h => absurd h (by simp [cxComp]), I.ok.hd, I.ok.frames, .inl rfl, fun b hb => ⟨?_, fun x c e => ?_⟩, I.bs, Nat.le_trans I.ok.bsz I.sz,
    fun b o e hb => ?_, fun b hb hs => ?_, I.stack, I.stkFree⟩, rfl, I.bare, Un.kept sb, ⟨m0, ns, fun i x v e1 e2 e3 => ?_⟩, fun x c e => ?_, I.hok.fresh (Nat.le_refl _), fun x c e => I.freeC x c (c1 x c e), fun p hp => absurd hp (by simp [cxComp]), I.hok.kept sb, ?_⟩
  · have hx' := relabel_inv (env := X.env) (names := scope.names) (x := x) hx
    rcases hx' with z | z
    · exact absurd rfl (hcell _ (PySem.mem_of_lookup z))
    · exact c2 x (PySem.mem_of_lookup z)
  · obtain ⟨o, e⟩ := ho b hb
    exact Nat.ne_of_lt (Heap.lt_size e)
  · exact (hf b hb).2.2.2.2.1 x c (c1 x c e)
  · rcases (hf b hb).2.2.2.1 with z | z
    · exact I.ok.noex b o e z
    · exact absurd (Nat.lt_of_lt_of_le (Heap.lt_size e) (Nat.le_trans I.ok.bsz z)) (Nat.lt_irrefl _)
  · rcases List.mem_cons.mp (I.stkSub b hs) with z | z
    · exact (hf b hb).2.1 z
    · exact (hf b hb).2.2.1 z
  · have e2' : ((js.map fun o => o.bind fun j => (σ[j]?).join) : St)[i]? = some (some v) := e2
    rw [List.getElem?_map] at e2'
    cases q : js[i]? with
    | none => rw [q] at e2'; cases e2'
    | some o =>
      rw [q] at e2'
      cases o with
      | none => simp at e2'
      | some j =>
        have q2 : (σ[j]?).join = some v := by simpa using e2'
        have q3 : σ[j]? = some (some v) := by
          cases z : σ[j]? with
          | none => rw [z] at q2; cases q2
          | some w => rw [z] at q2; exact congrArg some q2
        obtain ⟨n1, n2, n3⟩ := cap.ok i j x q e1
        obtain ⟨m, hm, hl⟩ := I.loc
        obtain ⟨u, r, l⟩ := hl j x v n1 q3 (.inr n3)
        refine ⟨u, r, .inr ⟨relabel_free (env := X.env) n2, ?_⟩⟩
        obtain ⟨c, hc⟩ := c2 x (PySem.mem_of_lookup n2)
        refine ⟨c, hc, ?_⟩
        rcases l with ⟨l, _⟩ | ⟨_, c', e', z'⟩
        · rcases n3 with n3 | n3 <;> (rw [n3] at l; cases l)
        · have := c1 x c hc
          rw [e'] at this; cases this
          exact isc _ _ z'
  · obtain ⟨v, z⟩ := I.cell x c (c1 x c e)
    exact ⟨v, isc _ _ z⟩
  · show (js.map _).length = N'.length
    rw [List.length_map]; exact cap.len
@[irreducible] def PIfs (X : Cx) (ifs : List Expr) (t : TT) : Prop :=
  ∀ (pins : List (Addr × Obj)) (s : Shared) (σ : St) (H : Hp) (Q : Bool → Hp → Prop), Inv X pins σ H s → t σ H Q →
    wpAny (model X.prog X.w) X.A (forIn ifs true fun c r => if r = true then do let ok ← isTrue c X.env (eval c X.env); pure (ForInStep.yield ok) else pure (ForInStep.yield r)) (TP X pins σ Q) X.xe s
def tAll : TT := fun _ H Q => Q true H
theorem pifs_nil {X : Cx} : PIfs X [] tAll := by
  first
  | exact (fun _ _ _ H _ I h => wpAny_tests_nil ⟨H, I, h⟩)
  | (unfold PIfs at *; exact (fun _ _ _ H _ I h => wpAny_tests_nil ⟨H, I, h⟩))
section
variable {prog : Program} {w : World} {A : Around} {R : Result → Shared → Prop} {s : Shared}
theorem compLoop_go {elt target iter : Expr} {ifs : List Expr} {scope : Scope} {pos : Pos} {it acc : Value} {env : Env} (I : Nat → Shared → Prop)
    (turn : ∀ n s, I n s → wpAny (model prog w) A (pyNext it) (fun r s₁ => match r with
      | none => R (.ok .next) s₁
      | some v => wpAny (model prog w) A (letOwnedTupleGo target it v) (fun _ s₁ => wpAny (model prog w) A (assign target env v) (fun _ s₂ =>
          wpAny (model prog w) A (forIn ifs true fun c r => if r = true then do let ok ← isTrue c env (eval c env); pure (ForInStep.yield ok) else pure (ForInStep.yield r)) (fun ok s₃ =>
            if ok = true then wpAny (model prog w) A (eval elt env) (fun x s₄ =>
              wpAny (model prog w) A (call (.builtin "list.append") [acc, x]) (fun _ s₅ => ∃ m, m < n ∧ I m s₅) (fun _ _ => False) s₄) (fun _ _ => False) s₃
            else ∃ m, m < n ∧ I m s₃) (fun _ _ => False) s₂) (fun _ _ => False) s₁) (fun _ _ => False) s₁) (fun _ _ => False) s)
    (n : Nat) (h : I n s) :
    codeAny (model prog w) A (.compLoop (.ListComp elt [⟨target, iter, ifs, 0⟩] scope pos) 0 it acc env) R s := by
  refine codeAny_loop rfl I (fun n s hI => ?_) n h
  show wpAny _ A ((compTurn (.ListComp elt [⟨target, iter, ifs, 0⟩] scope pos) 0 it acc env).onRaise (fun x => do noteFrame x env; theTreesLotGoes x)) _ _ s
  refine wpAny_noted ?_
  rw [compTurn_list]
  refine wpAny_bind (wpAny_standAt (wpAny_bind (wpAny_mono (turn n s hI) (fun r s₁ h₁ => ?_) fun _ _ h' => h'.elim)))
  cases r with
  | none => exact wpAny_pure h₁
  | some v =>
    refine wpAny_bind (wpAny_mono h₁ (fun _ s₁ h₁ => ?_) fun _ _ h' => h'.elim)
    refine wpAny_bind (wpAny_mono h₁ (fun _ s₂ h₂ => wpAny_bind (wpAny_mono h₂ (fun ok s₃ h₃ => ?_) fun _ _ h' => h'.elim)) fun _ _ h' => h'.elim)
    cases ok with
    | false => exact wpAny_pure ⟨rfl, h₃⟩
    | true =>
      exact wpAny_bind (wpAny_bind (wpAny_mono h₃ (fun x s₄ h₄ => wpAny_bind (wpAny_mono h₄ (fun _ s₅ h₅ => wpAny_pure (wpAny_pure ⟨rfl, h₅⟩)) fun _ _ h' => h'.elim)) fun _ _ h' => h'.elim))
end
def tLoop (J : It) (l : Addr) (g : TG) (tc : TT) (te : TE) (σ : St) (H : Hp) (Q : VK) : Prop :=
  ∃ W : Nat → Nat → St → List V → Hp → Prop, (∃ m, W 0 m σ [] H) ∧ ∀ i m σ acc H, W i m σ acc H → H l = some (.lst acc) ∧ ((J.stop i H ∧ Q (.ref l) H) ∨
    (J.go i H ∧ acc.length < sizeLine ∧ ∀ x H', J.yld i H x H' → g x σ H' fun σ2 H2 => tc σ2 H2 fun b H3 => if b = true then
      te σ2 H3 fun v H4 => H4 l = some (.lst acc) ∧ ∃ m', m' < m ∧ W (i + 1) m' σ2 (acc ++ [v]) (upd H4 l (.lst (acc ++ [v])))
      else ∃ m', m' < m ∧ W (i + 1) m' σ2 acc H3))
def tComp (js : List (Option Nat)) (wi : TI) (g : Bk → TG) (tc : Bk → TT) (te : Bk → TE) : TE := fun σ H Q => wi σ H fun J H1 => ∀ l B, H1 l = none → tLoop J l (g B) (tc B) (te B) (capS js σ) (upd H1 l (.lst [])) Q
section
variable {X : Cx} {elt tg iter : Expr} {ifs : List Expr} {scope : Scope} {pos : Pos} {N' : List Str} {js : List (Option Nat)} {wi : TI} {g : Bk → TG} {tc : Bk → TT} {te : Bk → TE}
theorem comp_block {pins : List (Addr × Obj)} {σ : St} {H1 : Hp} {s1 : Shared} {it : Addr} {fp : List Addr} {tn : Nat → Heap → Prop} {J : It} {cl : List (Str × Addr)} {Q : VK} {RR : Value → Addr → Result → Shared → Prop}
    (hc : X.calm = true) (hk : scope.kind = .function) (hcell : ∀ y ∈ scope.names, y.2 ≠ .cell) (cap : Cap X scope N' js)
    (blk : ∀ B, PG (cxComp X scope N' B) tg (g B) ∧ PIfs (cxComp X scope N' B) ifs (tc B) ∧ PE (cxComp X scope N' B) elt (te B))
    (c1 : ∀ x c, cl.lookup x = some c → X.env.cells.lookup x = some c) (c2 : ∀ x, (x, NameKind.free) ∈ scope.names → ∃ c, cl.lookup x = some c)
    (I : Inv X pins σ H1 s1) (T : Turn X.prog X.w X.K tg J fp it tn) (st : tn 0 s1.heap) (hf : ∀ b ∈ fp, FpOk X pins H1 b)
    (h : ∀ l B, H1 l = none → tLoop J l (g B) (tc B) (te B) (capS js σ) (upd H1 l (.lst [])) Q)
    (hRR : ∀ l C H' s' (m' : Str → Option Value), Inv X pins σ H' s' → Q (.ref l) H' → s'.heap.Ns C m' → H' C = none → C ≠ X.env.locals → (∀ x c, X.env.cells.lookup x = some c → c ≠ C) → C ∉ X.fs → X.s₀.heap.objs.size ≤ C → (∀ p ∈ X.pn ++ pins, p.1 ≠ C) →
      RR (.ref l) C (.ok .next) s') :
    wpAny (model X.prog X.w) X.A (newList []) (fun acc s₃ => wpAny (model X.prog X.w) X.A (newFunctionEnv scope X.env.globals cl [] X.env.qual none .none (some X.env)) (fun cenv s₄ =>
      codeAny (model X.prog X.w) X.A (.compStart (.ListComp elt [⟨tg, iter, ifs, 0⟩] scope pos) 0 (.ref it) acc { cenv with scope := relabel scope X.env }) (RR acc cenv.locals) s₄) X.xe s₃) X.xe s1 := by
  unfold PE at *; unfold PG at *; unfold PIfs at *
  exact by
    refine wpAny_newObj_type ?_
    have I2 : Inv X pins σ (upd H1 s1.heap.objs.size (.lst [])) { s1 with heap := s1.heap.push { cls := .type "list", data := .seq ([] : List Value).toArray } } := I.lnew (t' := s1.toks) .nil (Nat.zero_le _)
    have hl : H1 s1.heap.objs.size = none := I.fresh
    generalize es2 : ({ s1 with heap := s1.heap.push { cls := .type "list", data := .seq ([] : List Value).toArray } } : Shared) = s2 at I2 ⊢
    generalize el : s1.heap.objs.size = l at *
    have ne_fp : ∀ b ∈ fp, b ≠ l := fun b hb => by
      obtain ⟨o, e, _⟩ := T.obj _ _ st b hb
      rw [← el]
      exact Nat.ne_of_lt (Heap.lt_size e)
    have hf2 : ∀ b ∈ fp, FpOk X pins (upd H1 l (.lst [])) b := fun b hb => ⟨by rw [upd_ne (ne_fp b hb)]; exact (hf b hb).1, (hf b hb).2⟩
    have kp : ∀ b o, s1.heap.get? b = some o → s2.heap.get? b = some o := fun b o e => by rw [← es2]; exact Heap.get?_push_of_some _ e
    have st2 : tn 0 s2.heap := T.keep _ _ _ st fun b _ o e => kp b o e
    refine wpAny_newFunctionEnv hcell (by intro y hy; simp at hy) (fun h' ns sb => ?_) hk
    have kp2 : ∀ b o, s2.heap.get? b = some o → h'.get? b = some o := fun b o e => (sb.2 b (Nat.ne_of_lt (Heap.lt_size e))).trans (Heap.get?_push_of_some _ e)
    have st3 : tn 0 h' := T.keep _ _ _ st2 fun b _ o e => kp2 b o e
    have I3 := comp_start (t' := s2.toks + ([] : List (Str × Value)).length) (m0 := fun x => ([] : List (Str × Value)).reverse.lookup x) I2 hk hcell hf2 (fun b hb => by obtain ⟨o, e, _⟩ := T.obj _ _ st2 b hb; exact ⟨o, e⟩) c1 c2 cap ns kp2
    obtain ⟨pg, pif, pel⟩ := blk ⟨cl, s2, upd H1 l (.lst []), fp⟩
    obtain ⟨W, ⟨m0, w0⟩, turn⟩ := h l ⟨cl, s2, upd H1 l (.lst []), fp⟩ hl
    have fpY : ∀ {H' : Hp}, (∀ b ∈ fp, H' b = none) → ∀ b ∈ fp, FpOk (cxComp X scope N' ⟨cl, s2, upd H1 l (.lst []), fp⟩) [] H' b := fun {H'} hn b hb =>
      ⟨hn b hb, (I3.ok.exf b hb).1, I3.ok.exfs b hb, .inl hb, (I3.ok.exf b hb).2, fun p hp => absurd hp (by simp [cxComp])⟩
    have loop : codeAny (model X.prog X.w) X.A (.compLoop (.ListComp elt [⟨tg, iter, ifs, 0⟩] scope pos) 0 (.ref it) (.ref l) (compEnvC scope cl s2.heap.objs.size X.env)) (RR (.ref l) s2.heap.objs.size) { s2 with heap := h', toks := s2.toks + ([] : List (Str × Value)).length } := by
      refine compLoop_go (fun n s' => ∃ i σ' acc H', Inv (cxComp X scope N' ⟨cl, s2, upd H1 l (.lst []), fp⟩) [] σ' H' s' ∧ tn i s'.heap ∧ (∀ b ∈ fp, H' b = none) ∧ W i n σ' acc H') ?_ m0 ⟨0, _, _, _, I3, st3, fun b hb => (hf2 b hb).1, w0⟩
      rintro n s3 ⟨i, σ3, acc, H3, J3, t3, f3, w3⟩
      obtain ⟨hacc, alt⟩ := turn i n σ3 acc H3 w3
      rcases alt with ⟨stop, q⟩ | ⟨go, hz, step⟩
      · refine thn (T.done (cxComp X scope N' ⟨cl, s2, upd H1 l (.lst []), fp⟩) rfl rfl rfl hc i [] s3 σ3 H3 (fun _ _ => False) J3 (fpY f3) t3 stop) fun r s4 ⟨hr, J4⟩ => ?_
        subst hr
        have IX : Inv X pins σ H3 s4 := I2.call' (ch := fp) J4.os J4.base J4.hok J4.bare fun b hb => ⟨(hf2 b hb).2.2.2.1, (hf2 b hb).2.1, (hf2 b hb).2.2.2.2.1, (hf2 b hb).2.2.2.2.2⟩
        obtain ⟨m', hn', _⟩ := J4.loc
        refine hRR l s2.heap.objs.size H3 s4 m' IX q hn' J4.free (Nat.ne_of_gt I2.lt) (fun x c e => ?_) (I2.nofs (Nat.le_refl _)) I2.sz fun p hp => Nat.ne_of_lt (Heap.lt_size (I2.pin p hp).1)
        obtain ⟨v, z⟩ := I2.cell x c e
        exact Nat.ne_of_lt z.lt
      · refine thn (T.item (cxComp X scope N' ⟨cl, s2, upd H1 l (.lst []), fp⟩) rfl rfl rfl hc i [] s3 σ3 H3 (fun _ _ => False) J3 (fpY f3) t3 go) fun r s4 ⟨u, hr, h4⟩ => ?_
        subst hr
        refine thn h4 fun _ s5 ⟨x, H5, J5, r5, y5, t5, f5⟩ => ?_
        have J5' := J5.pinned (fpY f5) (T.obj _ _ t5)
        refine thn (pg _ s5 σ3 H5 x u _ J5' r5 (step x H5 y5)) fun _ s6 ⟨σ6, H6, J6, q6⟩ => ?_
        refine thn (pif _ s6 σ6 H6 _ J6 q6) fun ok s7 ⟨H7, J7, q7⟩ => ?_
        have again : ∀ {σ8 : St} {H8 : Hp} {s8 : Shared} {acc8 : List V}, Inv (cxComp X scope N' ⟨cl, s2, upd H1 l (.lst []), fp⟩) ([] ++ pinsAt fp s5.heap) σ8 H8 s8 → (∃ m', m' < n ∧ W (i + 1) m' σ8 acc8 H8) →
            ∃ m, m < n ∧ ∃ i σ' acc H', Inv (cxComp X scope N' ⟨cl, s2, upd H1 l (.lst []), fp⟩) [] σ' H' s8 ∧ tn i s8.heap ∧ (∀ b ∈ fp, H' b = none) ∧ W i m σ' acc H' := fun {σ8 H8 s8 acc8} J8 hw => by
          obtain ⟨m', hm, w8⟩ := hw
          refine ⟨m', hm, i + 1, σ8, acc8, H8, J8.unpinned, T.keep _ _ _ t5 fun b hb o e => (J8.pin (b, o) (List.mem_append_right _ (List.mem_append_right _ (mem_pinsAt hb e)))).1, fun b hb => ?_, w8⟩
          obtain ⟨o, e, d⟩ := T.obj _ _ t5 b hb
          exact (J8.pin (b, o) (List.mem_append_right _ (List.mem_append_right _ (mem_pinsAt hb e)))).2.1
        cases ok with
        | false => exact again J7 q7
        | true =>
          refine thn (pel _ s7 σ6 H7 _ J7 q7) fun xv s8 ⟨v, H8, J8, r8, hl8, m', hm, w8⟩ => ?_
          have mtq := mt_append (X := cxComp X scope N' ⟨cl, s2, upd H1 l (.lst []), fp⟩)
          unfold MtM at mtq
          refine thn (mtq _ s8 σ6 H8 (.ref l) [v] (.ref l) [xv] (fun _ H9 => H9 = upd H8 l (.lst (acc ++ [v]))) J8 rfl (.cons r8 .nil) ⟨l, acc, v, rfl, rfl, hl8, hz, rfl⟩) fun _ s9 ⟨v9, H9, J9, _, e9⟩ => ?_
          subst e9
          exact again J9 ⟨m', hm, w8⟩
    exact codeAny_compStart_list loop (T.self X.A 0 _ _ _ st3 loop)
theorem pe_comp (hc : X.calm = true) (hk : scope.kind = .function) (hcell : ∀ y ∈ scope.names, y.2 ≠ .cell) (hnames : ∀ y ∈ scope.names, y.2 = .local → scope.names.lookup y.1 = some .local)
    (hfree : ∀ y ∈ scope.names, y.2 = .free → (X.env.kindOf y.1 = some .cell ∨ X.env.kindOf y.1 = some .free)) (cap : Cap X scope N' js) (hi : PI X tg iter wi)
    (blk : ∀ B, PG (cxComp X scope N' B) tg (g B) ∧ PIfs (cxComp X scope N' B) ifs (tc B) ∧ PE (cxComp X scope N' B) elt (te B))
    (hs : ∀ x, foldedSetIterable iter X.env x = pure x := by intro _; rfl) : PE X (.ListComp elt [⟨tg, iter, ifs, 0⟩] scope pos) (tComp js wi g tc te) := by
  unfold PE; unfold PI at hi
  exact by
    intro pins s σ H Q I h
    obtain ⟨cl, hcl, c1, c2⟩ := closure_of (scope := scope) (env := X.env) fun x hx hxf => I.ok.has x.1 (hfree x hx hxf)
    rw [eval_ListComp]
    refine wpAny_comprehension_free (use := none) rfl hs hcl hk hnames (thn (hi pins s σ H _ I h) fun v s1 h1 => thn h1 fun itv s2 h2 => ?_)
    obtain ⟨it, fp, tn, J, H2, e, I2, T, st2, f2, hloop⟩ := h2
    subst e
    refine comp_block (RR := fun acc C => compPost (model X.prog X.w) X.A X.xe none (EP X pins σ Q) acc C) hc hk hcell cap blk c1 c2 I2 T st2 f2 hloop ?_
    intro l C H' s' m' I' q ns fC hL hcl' hfs hs0 hpin
    exact ⟨m', ns, fun h'' sb => ⟨.ref l, H', I'.turned (t' := s'.toks) (fun b o hb e => (sb.2 b hb).trans e) fC hL (.inr hs0) hcl' hpin, rfl, q⟩⟩
end
end L2
namespace L2
open PySem PySem.Spec PyProof.Rows
theorem ObjOk.there {P : Program} {w : World} {H : Hp} {h : Heap} {a : Addr} {o : HO} (x : ObjOk P w H h a o) : ∃ ob, h.get? a = some ob := by
  cases o with
  | lst xs => obtain ⟨_, _, _, _, e⟩ := x; exact ⟨_, e⟩
  | tup xs => obtain ⟨_, _, _, ob, e, _⟩ := x; exact ⟨_, e⟩
  | dK kvs => obtain ⟨_, _, _, _, o, _, _, e, _⟩ := x; exact ⟨_, e⟩
  | dT kvs => obtain ⟨_, _, _, _, o, _, _, e, _⟩ := x; exact ⟨_, e⟩
  | set S n => obtain ⟨o, _, _, _, e, _⟩ := x; exact ⟨_, e⟩
  | ins C dx fs => obtain ⟨_, _, _, e, _⟩ := x; exact ⟨_, e⟩
  | own y => obtain ⟨_, e⟩ := x; exact ⟨_, e⟩
  | xd fs => obtain ⟨_, ⟨_, _, _, e, _⟩, _⟩ := x; exact ⟨_, e⟩
  | rng lo hi => obtain ⟨_, _, _, e⟩ := x; exact ⟨_, e⟩
  | frz ob u => obtain ⟨e, _⟩ := x; exact ⟨_, e⟩
  | tbl ps => exact ⟨_, (show h.get? a = some _ from x)⟩
  | met f y => exact ⟨_, (show h.get? a = some _ from x)⟩
  | ext φ => obtain ⟨_, ⟨_, e⟩, _⟩ := x; exact ⟨_, e⟩
theorem HOk.track {P : Program} {w : World} {H : Hp} {h h' : Heap} (x : HOk P w H h) (k : ∀ b u o, H b = some u → h.get? b = some o → h'.get? b = some o) : HOk P w H h' := fun a o e =>
  (x a o e).stay (fun b u hb q => by
    rcases hb with z | z
    · subst z; exact k _ _ _ e q
    · exact k _ _ _ z q) (fun _ q => q) fun _ _ q => q
theorem dict_mapF (o : Obj) (f : Array Value → Array Value) : (Obj.mapFields f o).dict = o.dict := by
  obtain ⟨c, d, dt, sl⟩ := o
  cases dt <;> rfl
def ExAt (h : Heap) (e : Addr) (C : Value) (dd : Option Addr) (t1 : Value) : Prop := ∃ oe vs, h.get? e = some oe ∧ oe.cls = C ∧ oe.dict = dd ∧ oe.data = .fields vs ∧ vs[1]? = some t1
def TrAt (h : Heap) (T : Addr) (fl : Value) : Prop := ∃ oT ts, h.get? T = some oT ∧ oT.data = .fields ts ∧ ts[3]? = some fl
structure Moved (fs : List Addr) (e : Addr) (T0 : Option Addr) (h h' : Heap) : Prop where
  keep : ∀ b o, b ≠ e → some b ≠ T0 → b ∉ fs → h.get? b = some o → h'.get? b = some o
  slot : ∀ b o, b ∈ fs → h.get? b = some o → ∃ sl, h'.get? b = some { o with slots := sl }
  there : ∀ b o, h.get? b = some o → ∃ o', h'.get? b = some o'
section
variable {M : Model} {A : Around} {E : Value → Shared → Prop} {s : Shared}
theorem up_self {h : Heap} {a : Addr} {o : Obj} {vs : Array Value} {f : Array Value → Array Value} (e : h.get? a = some o) (hd : o.data = .fields vs) : (h.update a (Obj.mapFields f)).get? a = some (Obj.mapFields f o) :=
  Heap.get?_update_self _ e (Obj.isFreed_of_fields (Obj.data_mapFields hd _))
theorem note_new {base : Heap} {env : Env} {outer : List Env} {L e : Addr} {C : Value} {dd : Option Addr} {t1 head : Value} {hadNext : Bool} {Q : Unit → Shared → Prop}
    (hfr : A.frames = some (env :: outer)) (hl : s.heap.FunFrames base (env :: outer)) (hf : env.frame = some L) (X : ExAt s.heap e C dd t1)
    (h : ∀ h' T, ExAt h' e C dd (.ref T) → TrAt h' T (rawInt L) → s.heap.objs.size ≤ T → T ≠ e → Moved (frs (env :: outer)) e none s.heap h' → Q () { s with heap := h' }) :
    wpAny M A (do let a ← frameOf env; let pl ← entryPlaceOf L hadNext; let b ← EntryCells.newEntry head a .none (rawInt L) .none pl; setField (.ref e) 1 b) Q E s := by
  obtain ⟨oe, vs, he, hC, hdd, hd, h1⟩ := X
  have ne : e ∉ frs (env :: outer) := fun hm => by
    obtain ⟨_, o, ho, hnf⟩ := hl.mem hm
    rw [he] at ho; cases ho
    exact hnf vs hd
  refine wpAny_bind (wpAny_frameOf_fun hfr hl hf fun g so => ?_)
  refine wpAny_bind (wpAny_entryPlaceOf fun pl hpl => ?_)
  unfold EntryCells.newEntry newFields
  refine wpAny_bind (wpAny_newObj_type ?_ (hpl.sizeOk5 _ _ _ _ _))
  have hg : g.get? e = some oe := (so.2.1 e ne).trans he
  have hsz := (Array.getElem?_eq_some_iff.mp h1).1
  refine wpAny_setField (Heap.get?_push_of_some _ hg) hd hsz ?_
  have nT : g.objs.size ≠ e := Nat.ne_of_gt (Heap.lt_size hg)
  refine h _ g.objs.size ⟨_, _, up_self (Heap.get?_push_of_some _ hg) hd, (Obj.cls_mapFields _ _).trans hC, (dict_mapF _ _).trans hdd, Obj.data_mapFields hd _, by simp [hsz]⟩
    ⟨_, _, (Heap.get?_update_other _ _ (Ne.symm nT)).trans (Heap.get?_push_size g rfl), rfl, ?_⟩ (Nat.le_of_eq so.1.symm) nT ⟨fun b o h1 _ h3 q => ?_, fun b o hb q => ?_, fun b o q => ?_⟩
  · rcases hpl with rfl | ⟨_, _, _, _, _, _, _, rfl⟩ <;> simp
  · rw [Heap.get?_update_other _ _ (Ne.symm h1)]
    exact Heap.get?_push_of_some _ ((so.2.1 b h3).trans q)
  · obtain ⟨sl, z⟩ := so.2.2 b o q
    refine ⟨sl, ?_⟩
    rw [Heap.get?_update_other _ _ (fun k => ne (by rw [k]; exact hb))]
    exact Heap.get?_push_of_some _ z
  · by_cases k : b = e
    · rw [k]; exact ⟨_, up_self (Heap.get?_push_of_some _ hg) hd⟩
    · obtain ⟨sl, z⟩ := so.2.2 b o q
      exact ⟨_, by rw [Heap.get?_update_other _ _ (Ne.symm k)]; exact Heap.get?_push_of_some _ z⟩
theorem note_fly {base : Heap} {env : Env} {outer : List Env} {L e : Addr} {C : Value} {dd : Option Addr} {T0 : Option Addr} {Q : Unit → Shared → Prop}
    (hfr : A.frames = some (env :: outer)) (hl : s.heap.FunFrames base (env :: outer)) (hf : env.frame = some L) (X : ExAt s.heap e C dd (T0.elim .none Value.ref)) (hT : ∀ T, T0 = some T → TrAt s.heap T .none ∧ T ≠ e)
    (h : ∀ h' T, ExAt h' e C dd (.ref T) → TrAt h' T (rawInt L) → s.heap.objs.size ≤ T → T ≠ e → Moved (frs (env :: outer)) e T0 s.heap h' → Q () { s with heap := h' }) :
    wpAny M A (noteFrame (.ref e) env) Q E s := by
  obtain ⟨oe, vs, he, hC, hdd, hd, h1⟩ := id X
  unfold noteFrame
  simp only [hf]
  refine wpAny_bind (wpAny_field he hd h1 ?_)
  cases T0 with
  | none =>
    rw [if_neg (by decide)]
    exact note_new hfr hl hf X h
  | some T =>
    obtain ⟨⟨oT, ts, hT, hdT, h3⟩, hne⟩ := hT T rfl
    show wpAny M A (if (Value.ref T != Value.none) = true then _ else _) Q E s
    rw [if_pos (by simp)]
    refine wpAny_bind (wpAny_field hT hdT h3 ?_)
    rw [if_neg (by simp [rawInt])]
    refine wpAny_bind (wpAny_setField hT hdT (Array.getElem?_eq_some_iff.mp h3).1 ?_)
    have oth : ∀ b, b ≠ T → (s.heap.update T (Obj.mapFields (·.setIfInBounds 3 Value.none))).get? b = s.heap.get? b := fun b hb => Heap.get?_update_other _ _ (Ne.symm hb)
    have nfr : ∀ b o, b ∈ frs (env :: outer) → s.heap.get? b = some o → b ≠ T := fun b o hb q z => by
      obtain ⟨_, o', ho', hnf⟩ := hl.mem hb
      rw [z, hT] at ho'; cases ho'
      exact hnf _ hdT
    have hl2 : (s.heap.update T (Obj.mapFields (·.setIfInBounds 3 Value.none))).FunFrames base (env :: outer) := hl.of_keeps fun b o hb hnf => ⟨o, (oth b fun z => by rw [z, hT] at hb; cases hb; exact hnf _ hdT).trans hb, rfl⟩
    refine note_new (s := { s with heap := s.heap.update T (Obj.mapFields (·.setIfInBounds 3 Value.none)) }) hfr hl2 hf ⟨oe, vs, (oth e (Ne.symm hne)).trans he, hC, hdd, hd, h1⟩ fun h' T2 x1 x2 x3 x4 mv => ?_
    have goneT : s.heap.objs.size ≤ T2 := Nat.le_trans (Nat.le_of_eq (Heap.size_after_update ..).symm) x3
    refine h h' T2 x1 x2 goneT x4 ⟨fun b o k1 k2 k3 q => mv.keep b o k1 (by simp) k3 ((oth b fun z => k2 (by rw [z])).trans q), fun b o hb q => mv.slot b o hb ((oth b (nfr b o hb q)).trans q), fun b o q => ?_⟩
    by_cases k : b = T
    · exact mv.there b _ (by rw [k]; exact up_self hT hdT)
    · exact mv.there b o ((oth b k).trans q)
theorem rest_fly {e T : Addr} {C : Value} {dd : Option Addr} {fl : Value} {Q : Unit → Shared → Prop} (X : ExAt s.heap e C dd (.ref T)) (hT : TrAt s.heap T fl) (hne : T ≠ e)
    (h : ∀ h', ExAt h' e C dd (.ref T) → TrAt h' T .none → (∀ b o, b ≠ T → s.heap.get? b = some o → h'.get? b = some o) → (∀ b o, s.heap.get? b = some o → ∃ o', h'.get? b = some o') → Q () { s with heap := h' }) :
    wpAny M A (setFlight (.ref e) none) Q E s := by
  obtain ⟨oe, vs, he, hC, hdd, hd, h1⟩ := X
  obtain ⟨oT, ts, hT, hdT, h3⟩ := hT
  have hsz := (Array.getElem?_eq_some_iff.mp h3).1
  unfold setFlight
  refine wpAny_bind (wpAny_field he hd h1 ?_)
  rw [if_pos (by simp)]
  have oth : ∀ b, b ≠ T → (s.heap.update T (Obj.mapFields (·.setIfInBounds 3 ((none : Option Addr).elim Value.none fun f => rawInt f)))).get? b = s.heap.get? b := fun b hb => Heap.get?_update_other _ _ (Ne.symm hb)
  refine wpAny_setField hT hdT hsz (h _ ⟨oe, vs, (oth e (Ne.symm hne)).trans he, hC, hdd, hd, h1⟩ ⟨_, _, up_self hT hdT, Obj.data_mapFields hdT _, by simp [hsz]⟩ (fun b o k q => (oth b k).trans q) fun b o q => ?_)
  by_cases k : b = T
  · rw [k]; exact ⟨_, up_self hT hdT⟩
  · exact ⟨o, (oth b k).trans q⟩
end
def CXx (P : Program) (w : World) : CXT := fun outer H s E u s' => ∃ (e : Addr) (C : Value) (dd : Option Addr) (T : Addr) (H' : Hp), u = .ref e ∧ s'.os = s.os ∧ AllBare s'.gens ∧ Un (frs outer) [] H H' s.heap s'.heap ∧ HOk P w H' s'.heap ∧
  ExAt s'.heap e C dd (.ref T) ∧ TrAt s'.heap T .none ∧ T ≠ e ∧ H' e = none ∧ H' T = none ∧ s.heap.get? e = none ∧ s.heap.get? T = none ∧ E C dd H'
def PassesS (CX : CXT) (X : Cx) (Ez : St → XK) : Prop := ∀ (pins : List (Addr × Obj)) (σ : St) (H : Hp) (s : Shared) (e : Value) (s' : Shared), Inv X pins σ H s → CX X.stack H s (Ez σ) e s' → X.xe e s'
theorem un_moved {l l' : List Env} {H H' : Hp} {h g h' : Heap} {e : Addr} {T0 : Option Addr} (u : Un (frs l') [] H H' h g) (mv : Moved (frs l) e T0 g h') (hsub : ∀ b ∈ frs l', b ∈ frs l) (hnew : ∀ b o, h.get? b = some o → b ∈ frs l → b ∈ frs l')
    (he : h.get? e = none) (hT : ∀ T, T0 = some T → h.get? T = none) : Un (frs l') [] H H' h h' := by
  have k1 : ∀ b o, h.get? b = some o → b ≠ e := fun b o q z => by rw [z, he] at q; cases q
  have k2 : ∀ b o, h.get? b = some o → some b ≠ T0 := fun b o q z => by rw [hT b z.symm] at q; cases q
  refine ⟨fun b o q n hb hx => ?_, fun b o q n hb hx => ?_, u.free, fun b o q hx => ?_, u.tups, u.frzs, u.tbls⟩
  · exact mv.keep b o (k1 b o q) (k2 b o q) (fun z => hb (hnew b o q z)) (u.keep b o q n hb hx)
  · obtain ⟨sl, q1⟩ := u.slot b o q n hb hx
    obtain ⟨sl2, q2⟩ := mv.slot b _ (hsub b hb) q1
    exact ⟨sl2, q2⟩
  · obtain ⟨o1, q1⟩ := u.there b o q hx
    exact mv.there b o1 q1
section
variable {P : Program} {w : World} {K : PySem.W.Frag} {mg : Str → Option Value} {base : Heap} {N : List Str} {qual : Str} {scope : Scope} {f : Addr} {cd : Value} {A : Around} {outer : List Env} {s₀ : Shared} {H₀ : Hp} {E : XK}
theorem frs_cons {env : Env} {outer : List Env} {L : Addr} (h : env.frame = some L) : frs (env :: outer) = L :: frs outer := by
  unfold frs
  rw [List.filterMap_cons, h]
theorem leave_fly {M : Model} {A : Around} {E : Value → Shared → Prop} {s : Shared} {base : Heap} {env : Env} {outer : List Env} {L e : Addr} {C : Value} {dd : Option Addr} {T0 : Option Addr} {Q : Unit → Shared → Prop}
    (hfr : A.frames = some (env :: outer)) (hl : s.heap.FunFrames base (env :: outer)) (hf : env.frame = some L) (X : ExAt s.heap e C dd (T0.elim .none Value.ref)) (hT : ∀ T, T0 = some T → TrAt s.heap T .none ∧ T ≠ e)
    (h : ∀ h' T, ExAt h' e C dd (.ref T) → TrAt h' T .none → s.heap.objs.size ≤ T → T ≠ e → Moved (frs (env :: outer)) e T0 s.heap h' → Q () { s with heap := h' }) :
    wpAny M A (noteFrame (.ref e) env) (fun _ s2 => wpAny M A (setFlight (.ref e) none) Q E s2) E s := by
  refine note_fly hfr hl hf X hT fun h1 T x1 x2 x3 x4 mv => ?_
  refine rest_fly (s := { s with heap := h1 }) x1 x2 x4 fun h2 y1 y2 k1 k2 => h h2 T y1 y2 x3 x4 ?_
  have nT : ∀ b o, s.heap.get? b = some o → b ≠ T := fun b o q z => absurd (Heap.lt_size q) (by rw [z]; exact Nat.not_lt.mpr x3)
  refine ⟨fun b o z1 z2 z3 q => k1 b o (nT b o q) (mv.keep b o z1 z2 z3 q), fun b o hb q => ?_, fun b o q => ?_⟩
  · obtain ⟨sl, q1⟩ := mv.slot b o hb q
    exact ⟨sl, k1 b _ (nT b o q) q1⟩
  · obtain ⟨o1, q1⟩ := mv.there b o q
    exact k2 b o1 q1
theorem funFrames_un {base h h' : Heap} : ∀ {l : List Env}, h.FunFrames base l → (∀ b o, b ∈ frs l → h.get? b = some o → ∃ sl, h'.get? b = some { o with slots := sl }) → h'.FunFrames base l
  | [], _, _ => trivial
  | env :: r, hl, k => by
    obtain ⟨hk, ⟨L, o, hf, hn, ho, hd⟩, hr⟩ := hl
    have e := frs_cons (outer := r) hf
    obtain ⟨sl, z⟩ := k L o (by rw [e]; exact List.mem_cons_self) ho
    exact ⟨hk, ⟨L, _, hf, hn, z, hd⟩, funFrames_un hr fun b o' hb q => k b o' (by rw [e]; exact List.mem_cons_of_mem _ hb) q⟩
theorem un_enter {fs : List Addr} {L : Addr} {H H1 H2 : Hp} {h h1 h2 : Heap} (a : Un fs [] H H1 h h1) (b : Un (L :: fs) [] H1 H2 h1 h2) (hL : h.get? L = none) : Un fs [] H H2 h h2 where
  keep := fun c o q n hc hx => b.keep c o (a.keep c o q n hc hx) (a.free c o q n hx) (fun z => (List.mem_cons.mp z).elim (fun y => by rw [y, hL] at q; cases q) hc) (by simp)
  slot := fun c o q n hc hx => by
    obtain ⟨sl, q1⟩ := a.slot c o q n hc hx
    obtain ⟨sl2, q2⟩ := b.slot c _ q1 (a.free c o q n hx) (List.mem_cons_of_mem _ hc) (by simp)
    exact ⟨sl2, q2⟩
  free := fun c o q n hx => by
    obtain ⟨o1, q1⟩ := a.there c o q hx
    exact b.free c o1 q1 (a.free c o q n hx) (by simp)
  there := fun c o q hx => by
    obtain ⟨o1, q1⟩ := a.there c o q hx
    exact b.there c o1 q1 (by simp)
  tups := fun c xs q => b.tups c xs (a.tups c xs q)
  frzs := fun c o xs q => b.frzs c o xs (a.frzs c o xs q)
  tbls := fun c ps q => by
    obtain ⟨m1, e1⟩ := a.tbls c ps q
    obtain ⟨m2, e2⟩ := b.tbls c _ e1
    exact ⟨m1 ++ m2, by rw [e2, Array.append_assoc]⟩
theorem pass_def : PassesS (CXx P w) (cxOf (CXx P w) P w K mg base N qual scope f cd A outer s₀ H₀ E) (fun _ => E) := by
  intro pins σ H s u s' I h
  obtain ⟨e, C, dd, T, H', rfl, os, bare, un, hok, x1, x2, x3, f1, f2, n1, n2, hE⟩ := h
  have fe : frs (envOfC qual scope s₀.heap.objs.size f cd :: outer) = s₀.heap.objs.size :: frs outer := frs_cons rfl
  have un' : Un (s₀.heap.objs.size :: frs outer) [] H H' s.heap s'.heap := by rw [← fe]; exact un
  have ib : Un (frs outer) [] H₀ H s₀.heap s.heap := I.base
  have nL : s₀.heap.get? s₀.heap.objs.size = none := Heap.get?_none_of_le (Nat.le_refl _)
  have um := un_enter ib un' nL
  have hfun : s'.heap.FunFrames base (envOfC qual scope s₀.heap.objs.size f cd :: outer) := funFrames_un I.stack fun b o hb q => un.slot b o q (I.stkFree b hb) hb (by simp)
  have ntr : ∀ b u, H' b = some u → b ∉ frs (envOfC qual scope s₀.heap.objs.size f cd :: outer) := fun b u q hb => by
    obtain ⟨_, o, ho, _⟩ := I.stack.mem hb
    have := un.free b o ho (I.stkFree b hb) (by simp)
    rw [q] at this; cases this
  show wpAny _ _ (leaving _ (.ref e)) _ _ s'
  unfold leaving
  refine wpAny_bind (leave_fly (T0 := some T) (L := s₀.heap.objs.size) I.ok.frames hfun rfl x1 (fun T' z => by cases z; exact ⟨x2, x3⟩) fun h' T2 y1 y2 y3 y4 mv => ?_)
  have none_of : ∀ b, s.heap.get? b = none → s₀.heap.get? b = none := fun b hb => by
    cases q : s₀.heap.get? b with
    | none => rfl
    | some o => obtain ⟨o1, q1⟩ := ib.there b o q (by simp); rw [hb] at q1; cases q1
  refine ⟨e, C, dd, T2, H', rfl, os.trans I.os, bare, un_moved (l := envOfC qual scope s₀.heap.objs.size f cd :: outer) um mv (fun b hb => by rw [fe]; exact List.mem_cons_of_mem _ hb) (fun b o q hb => ?_) (none_of e n1) (fun T' z => by cases z; exact none_of T n2),
    hok.track fun b u o q1 q2 => mv.keep b o (fun z => by rw [z, f1] at q1; cases q1) (fun z => by cases z; rw [f2] at q1; cases q1) (ntr b u q1) q2, y1, y2, y4, f1, ?_, none_of e n1, ?_, hE⟩
  · rw [fe] at hb
    rcases List.mem_cons.mp hb with z | z
    · rw [z, nL] at q; cases q
    · exact z
  · cases q : H' T2 with
    | none => rfl
    | some u => obtain ⟨ob, hob⟩ := (hok T2 u q).there; exact absurd (Heap.lt_size hob) (Nat.not_lt.mpr y3)
  · cases q : s₀.heap.get? T2 with
    | none => rfl
    | some o => obtain ⟨o1, q1⟩ := um.there T2 o q (by simp); exact absurd (Heap.lt_size q1) (Nat.not_lt.mpr y3)
def Rz (X : Cx) (E : XK) : Prop := ∀ (pins : List (Addr × Obj)) (σ : St) (H : Hp) (s : Shared) (h' : Heap) (e : Addr) (C : Value) (vs : List Value), Inv X pins σ H s → Heap.MadeExcOf s.heap h' e C vs → E C none H → X.xe (.ref e) { s with heap := h' }
theorem rz_def : Rz (cxOf (CXx P w) P w K mg base N qual scope f cd A outer s₀ H₀ E) E := by
  intro pins σ H s h1 e C vs I mx hE
  obtain ⟨t, he, htn, ht⟩ := mx.there
  have fe : frs (envOfC qual scope s₀.heap.objs.size f cd :: outer) = s₀.heap.objs.size :: frs outer := frs_cons rfl
  have ib : Un (frs outer) [] H₀ H s₀.heap s.heap := I.base
  have nL : s₀.heap.get? s₀.heap.objs.size = none := Heap.get?_none_of_le (Nat.le_refl _)
  have um : Un (frs outer) [] H₀ H s₀.heap h1 := ib.trans (Un.kept mx.keeps)
  have hfun : h1.FunFrames base (envOfC qual scope s₀.heap.objs.size f cd :: outer) := funFrames_un I.stack fun b o hb q => ⟨o.slots, mx.keeps b o q⟩
  have ntr : ∀ b u, H b = some u → b ∉ frs (envOfC qual scope s₀.heap.objs.size f cd :: outer) := fun b u q hb => by
    have := I.stkFree b hb
    rw [q] at this; cases this
  have hok1 : HOk P w H h1 := I.hok.kept mx.keeps
  have fE : H e = none := by
    cases q : H e with
    | none => rfl
    | some u => obtain ⟨ob, hob⟩ := (I.hok e u q).there; rw [mx.new] at hob; cases hob
  have none_of : ∀ b, s.heap.get? b = none → s₀.heap.get? b = none := fun b hb => by
    cases q : s₀.heap.get? b with
    | none => rfl
    | some o => obtain ⟨o1, q1⟩ := ib.there b o q (by simp); rw [hb] at q1; cases q1
  show wpAny _ _ (leaving _ (.ref e)) _ _ { s with heap := h1 }
  unfold leaving
  refine wpAny_bind (leave_fly (s := { s with heap := h1 }) (T0 := none) (L := s₀.heap.objs.size) (C := C) (dd := none) I.ok.frames hfun rfl ⟨_, _, he, rfl, rfl, rfl, rfl⟩ (fun T' z => by cases z) fun h' T2 y1 y2 y3 y4 mv => ?_)
  refine ⟨e, C, none, T2, H, rfl, I.os, I.bare, un_moved (l := envOfC qual scope s₀.heap.objs.size f cd :: outer) um mv (fun b hb => by rw [fe]; exact List.mem_cons_of_mem _ hb) (fun b o q hb => ?_) (none_of e mx.new) (fun T' z => by cases z),
    hok1.track fun b u o q1 q2 => mv.keep b o (fun z => by rw [z, fE] at q1; cases q1) (by simp) (ntr b u q1) q2, y1, y2, y4, fE, ?_, none_of e mx.new, ?_, hE⟩
  · rw [fe] at hb
    rcases List.mem_cons.mp hb with z | z
    · rw [z, nL] at q; cases q
    · exact z
  · cases q : H T2 with
    | none => rfl
    | some u => obtain ⟨ob, hob⟩ := (hok1 T2 u q).there; exact absurd (Heap.lt_size hob) (Nat.not_lt.mpr y3)
  · cases q : s₀.heap.get? T2 with
    | none => rfl
    | some o => obtain ⟨o1, q1⟩ := um.there T2 o q (by simp); exact absurd (Heap.lt_size q1) (Nat.not_lt.mpr y3)
end
def tCallS (sp : Sp) (dvs : List V) (Ez : St → XK) (t : TA) : TE := fun σ H Q => t σ H fun vs H1 => sp (vs ++ dvs) H1 Q (Ez σ)
section
variable {X : Cx} {CX : CXT} {k : Nat} {f C : Addr} {fd : FuncData} {ps : List Str} {sp : Sp} {dvs : List V} {ds : List Value} {Ez : St → XK} {x m : Str} {p pos apos : Pos} {e o : Expr} {es : List Expr} {ta : TE} {t : TA}
theorem run_fnS {pins : List (Addr × Obj)} {σ : St} {H : Hp} {s : Shared} {Q : VK} {us : List Value} {vs : List V} (F : FnOk X.prog X.w X.K X.mg X.base CX k f fd ps sp) (hr : Room k X.A) (hb : Binds X.K fd ps ds) (hd : Vals dvs ds) (hx : PassesS CX X Ez)
    (I : Inv X pins σ H s) (r : Vals vs us) (h : sp (vs ++ dvs) H Q (Ez σ)) : wpAny (model X.prog X.w) X.A (call (.ref f) us) (EP X pins σ Q) X.xe s := by
  have r2 : Vals (vs ++ dvs) (us ++ ds) := r.append hd
  have hl : (us ++ ds).length = ps.length := by rw [← r2.length]; exact F.len _ _ _ _ h
  refine wpAny_call (codeAny_mono (F.run X.A X.stack s H ⟨us, []⟩ (us ++ ds) (vs ++ dvs) Q (Ez σ) hr I.env0 (hb s us I.kIn hl) r2 h) fun r s' hq => ?_)
  cases r with
  | error e => exact hx pins σ H s e s' I hq
  | ok fl =>
    cases fl with
    | ret u => exact I.after hq
    | next => exact False.elim hq
    | brk => exact False.elim hq
    | cont => exact False.elim hq
theorem pe_callS (F : FnOk X.prog X.w X.K X.mg X.base CX k f fd ps sp) (hr : Room k X.A) (hg : Gl X x) (hm : X.mg x = some (.ref f)) (hk : PySem.W.keepIn X.K (.ref f) = true) (hb : Binds X.K fd ps ds) (hd : Vals dvs ds) (hx : PassesS CX X Ez)
    (ha : PA X (e :: es) t) (hdb : (x == ("__debug__" : Str)) = false := by decide) (he : starEach (e :: es) X.env = (false, eval e X.env) :: starEach es X.env := by rfl) (hpl : (backTo pos (starEach es X.env)).any (·.1) = false := by rfl) :
    PE X (.Call (.Name x p) (e :: es) [] pos) (tCallS sp dvs Ez t) := by
  unfold PE at *; unfold PA at *
  exact by
    intro pins s σ H Q I h
    refine wpAny_Call_Name_kw (ld_glob I hg hm ?_ hdb)
    refine PySem.W.callWith_K (h₀ := X.base) I.ok.mod.kin hk (thn (ha pos pins s σ H _ I h) fun us s1 ⟨vs, H1, I1, r, q⟩ => ⟨I1.kIn, ?_⟩) he hpl
    exact run_fnS F hr hb hd hx I1 r q
end
end L2
namespace L2
open PySem PySem.Spec PyProof.Rows
def vmro : List Value := [.type "ValueError", .type "Exception", .type "BaseException", .type "object"]
def NsK (K : PySem.W.Frag) (N : Addr) (es : Array DictEntry) : Prop := ∃ c d ep sl, K.lookup N = some ⟨c, d, .dict es ep, sl⟩ ∧ StrKeys es
theorem NsK.ns {K : PySem.W.Frag} {N : Addr} {es : Array DictEntry} {h : Heap} (x : NsK K N es) (X : K.In h) : h.Ns N (nsFind es) := by
  obtain ⟨c, d, ep, sl, lk, sk⟩ := x
  exact ⟨_, es, ep, X _ _ lk, rfl, sk, fun _ => rfl⟩
inductive TailK (K : PySem.W.Frag) : List Value → Prop
  | base : TailK K vmro
  | own {A : Addr} {c0 : Value} {dd : Option Addr} {cd : ClassData} {sl : Array (Option Value)} {tl : List Value} {es : Array DictEntry} :
      K.lookup A = some { cls := c0, dict := dd, data := .cls cd, slots := sl } → NsK K cd.ns es → nsFind es "__init__" = none → TailK K tl → TailK K (.ref A :: tl)
theorem TailK.own' {K : PySem.W.Frag} {h : Heap} {bm : List Value} (t : TailK K bm) (X : K.In h) : OwnTail h vmro bm := by
  induction t with
  | base => exact .base
  | own l n i _ ih => exact .own (X _ _ l) (n.ns X) i ih
structure XCls (K : PySem.W.Frag) (C : Addr) : Prop where
  ex : ∃ nm q N bs bm hdct sn sub ab col dd k0 k1 k2 k3 k5 es, K.lookup C = some (excClassObj nm q C N bs bm hdct sn sub ab col dd k0 k1 k2 k3 k5 "ValueError.__new__") ∧ NsK K N es ∧ nsFind es "__init__" = none ∧ TailK K bm
def tRaise (t : TA) (C : Value) (E : XK) : TS := fun _ σ H => t σ H fun vs H1 => vs.length ≤ sizeLine ∧ E C none H1
theorem ps_raise {X : Cx} {C : Addr} {x : Str} {np cpos pos : Pos} {e₀ : Expr} {rest : List Expr} {t : TA} {E : XK} (xc : XCls X.K C) (hc : X.calm = true) (hg : Gl X x) (hm : X.mg x = some (.ref C)) (hz : Rz X E) (ha : PA X (e₀ :: rest) t)
    (hdb : (x == ("__debug__" : Str)) = false := by decide) (he : starEach (e₀ :: rest) X.env = (false, eval e₀ X.env) :: starEach rest X.env := by rfl) (hpl : (backTo cpos (starEach rest X.env)).any (·.1) = false := by rfl) :
    PS X (.Raise (some (.Call (.Name x np) (e₀ :: rest) [] cpos)) none pos) (tRaise t (.ref C) E) := by
  unfold PA at *; unfold PS at *
  exact by
    intro pins s σ H D I h
    obtain ⟨nm, q, N, bs, bm, hdct, sn, sub, ab, col, dd, k0, k1, k2, k3, k5, es, lk, nk, ni, tl⟩ := xc.ex
    refine wpAny_Raise_call_subT (C := C) (nm := nm) (q := q) (N := N) (bs := bs) (bm := bm) (hdct := hdct) (sn := sn) (sub := sub) (ab := ab) (col := col) (dd := dd) (k0 := k0) (k1 := k1) (k2 := k2) (k3 := k3) (k5 := k5)
      F.excBase_ValueError (mN := nsFind es) ((tl.own' I.kIn).hasType F.excBase_ValueError.hasBase) (I.ok.hd hc) ?_ ni (ld_glob I hg hm ⟨rfl, ?_⟩ hdb)
    · rw [he]
      show (false || (backTo cpos (starEach rest X.env)).any (·.1)) = false
      rw [hpl]; rfl
    · have hA := ha cpos pins s σ H _ I h
      rw [he] at hA ⊢
      refine Calls.evalArgs_plain (wpAny_mono hA (fun us s2 ⟨vs, H1, I1, r, z, hE⟩ => ?_) fun _ _ y => y)
      exact ⟨rfl, by rw [← r.length]; exact z, I1.kIn _ _ lk, nk.ns I1.kIn, tl.own' I1.kIn, fun h' e mx => hz pins σ H1 s2 h' e (.ref C) us I1 mx hE⟩
theorem Fun.okx {P : Program} {w : World} {K : PySem.W.Frag} {mg : Str → Option Value} {base : Heap} {x qual : Str} {st : Stmt} {f : Addr} {fd : FuncData} {N ps : List Str} {k : Nat} {sp : Sp} (F : Fun K x qual st f fd) (S : FnScope N ps (defScope st)) (len : ∀ vs H Q E, sp vs H Q E → vs.length = ps.length)
    (hbody : ∀ (cdv : Value) (A : Around) (outer : List Env) (s : Shared) (H : Hp) (vs : List V) (Q : VK) (E : XK), Room k (A.deeper (envOfC qual (defScope st) s.heap.objs.size f cdv)) → sp vs H Q E →
      ∃ t, PSs (cxOf (CXx P w) P w K mg base N qual (defScope st) f cdv A outer s H E) (defBody st) t ∧ t { nx := fun _ H' => Q .non H', rt := Q } (start N vs) H) : FnOk P w K mg base (CXx P w) (k + 1) f fd ps sp := by
  obtain ⟨oc, od, kV, doc, pm, an, cdv, ct, osl, rfl, lk, hcd⟩ := F.ex
  exact fn_of lk hcd S len fun A outer s H vs Q E hr hsp => hbody cdv A outer s H vs Q E hr hsp
section
variable {X : Cx} {pins pins' : List (Addr × Obj)} {σ : St} {H : Hp} {s : Shared} {W : Value → Shared → Prop}
def Cx.tr (X : Cx) (pins : List (Addr × Obj)) (W : Value → Shared → Prop) : Cx := { X with xe := W, pn := X.pn ++ pins }
theorem Cx.Ok.tr (ok : X.Ok) : (X.tr pins W).Ok := ⟨ok.mod, ok.kind, ok.glob, ok.blt, ok.above, ok.inj, ok.has, ok.cab, ok.hd, ok.frames, ok.stk, ok.exf, ok.bs, ok.bsz, ok.noex, ok.exfs, ok.funs, ok.frf⟩
theorem Cx.Ok.untr (ok : (X.tr pins W).Ok) : X.Ok := ⟨ok.mod, ok.kind, ok.glob, ok.blt, ok.above, ok.inj, ok.has, ok.cab, ok.hd, ok.frames, ok.stk, ok.exf, ok.bs, ok.bsz, ok.noex, ok.exfs, ok.funs, ok.frf⟩
theorem Inv.tr (I : Inv X pins σ H s) : Inv (X.tr pins W) [] σ H s := ⟨I.ok.tr, I.os, I.bare, I.base, I.loc, I.cell, I.free, I.freeC, fun p hp => I.pin p (by simpa [Cx.tr] using hp), I.hok, I.len⟩
theorem Inv.untr (I : Inv (X.tr pins W) pins' σ H s) : Inv X pins σ H s := ⟨I.ok.untr, I.os, I.bare, I.base, I.loc, I.cell, I.free, I.freeC, fun p hp => I.pin p (List.mem_append_left _ hp), I.hok, I.len⟩
theorem SP.untr {D : Ends} {f : Flow} (h : SP (X.tr pins W) pins' D f s) : SP X pins D f s := by
  cases f with
  | next => obtain ⟨a, b, I, q⟩ := h; exact ⟨a, b, I.untr, q⟩
  | brk => obtain ⟨a, b, I, q⟩ := h; exact ⟨a, b, I.untr, q⟩
  | cont => obtain ⟨a, b, I, q⟩ := h; exact ⟨a, b, I.untr, q⟩
  | ret u => obtain ⟨v, a, b, I, r, q⟩ := h; exact ⟨v, a, b, I.untr, r, q⟩
def Cx.sui (X : Cx) (e : Addr) : Cx := { X with A := X.A.mark (some (.ref e)), calm := false, xe := fun _ _ => False }
theorem Cx.Ok.sui (ok : X.Ok) (e : Addr) : (X.sui e).Ok := ⟨ok.mod, ok.kind, ok.glob, ok.blt, ok.above, ok.inj, ok.has, ok.cab, fun z => Bool.noConfusion z, ok.frames, ok.stk, ok.exf, ok.bs, ok.bsz, ok.noex, ok.exfs, ok.funs, ok.frf⟩
theorem Inv.sui (I : Inv X pins σ H s) (e : Addr) : Inv (X.sui e) pins σ H s := ⟨I.ok.sui e, I.os, I.bare, I.base, I.loc, I.cell, I.free, I.freeC, I.pin, I.hok, I.len⟩
theorem Inv.unsui {e : Addr} (ok : X.Ok) (I : Inv (X.sui e) pins σ H s) : Inv X pins σ H s := ⟨ok, I.os, I.bare, I.base, I.loc, I.cell, I.free, I.freeC, I.pin, I.hok, I.len⟩
theorem Inv.adopt {e : Addr} {o : HO} (I : Inv X pins σ H s) (hn : H e = none) (h0 : X.s₀.heap.get? e = none) (hL : e ≠ X.env.locals) (hc : ∀ x c, X.env.cells.lookup x = some c → c ≠ e) (hp : ∀ p ∈ X.pn ++ pins, p.1 ≠ e)
    (new : ObjOk X.prog X.w (upd H e o) s.heap e o) : Inv X pins σ (upd H e o) s := by
  have ne : ∀ b u, H b = some u → b ≠ e := fun b u q z => by rw [z, hn] at q; cases q
  refine ⟨I.ok, I.os, I.bare, ⟨I.base.keep, I.base.slot, fun b ob q n hx => ?_, I.base.there, fun b xs q => ?_, fun b ob u q => ?_, fun b ps q => ?_⟩, I.loc, I.cell, ?_, fun x c q => ?_, fun p hq => ?_, fun b u q => ?_, I.len⟩
  · rw [upd_ne (fun z => by rw [z, h0] at q; cases q)]
    exact I.base.free b ob q n hx
  · have q1 := I.base.tups b xs q
    rw [upd_ne (ne b _ q1)]; exact q1
  · have q1 := I.base.frzs b ob u q
    rw [upd_ne (ne b _ q1)]; exact q1
  · obtain ⟨m, q1⟩ := I.base.tbls b ps q
    exact ⟨m, by rw [upd_ne (ne b _ q1)]; exact q1⟩
  · rw [upd_ne (Ne.symm hL)]; exact I.free
  · rw [upd_ne (hc x c q)]; exact I.freeC x c q
  · obtain ⟨a1, a2, a3, a4, a5⟩ := I.pin p hq
    exact ⟨a1, by rw [upd_ne (hp p hq)]; exact a2, a3, a4, a5⟩
  · by_cases hb : b = e
    · subst hb; rw [upd_same] at q; cases q; exact new
    · rw [upd_ne hb] at q
      exact (I.hok b u q).stay (fun _ _ _ z => z) (fun c z => by rw [upd_ne (ne c _ z)]; exact z) fun c xs z => by rw [upd_ne (ne c _ z)]; exact z
theorem goes_ok {M : Model} {A : Around} {E : Value → Shared → Prop} {i : Nat} {n : Str} {pos : Pos} {Q : Unit → Shared → Prop} (I : Inv X pins σ H s) (hN : X.N.Nodup) (hi : X.N[i]? = some n) (hk : X.env.kindOf n = some .local)
    (h : ∀ s', Inv X pins (σ.set i none) H s' → Q () s') : wpAny M A (do bindName X.env n .none; unbindBehindTheSuite X.env n pos) Q E s := by
  obtain ⟨m, hn, hl⟩ := id I.loc
  have hcls : (X.env.scope.kind == .class || (X.env.scope.kind == .module && X.env.locals != X.env.globals)) = false := by rw [I.ok.kind]; rfl
  refine wpAny_nameGoes_keeps hk hn hcls fun h' v hn' hs => h _ ?_
  obtain ⟨oL, _, _, hoL, _⟩ := id hn
  have kb : ∀ b o, b ≠ X.env.locals → s.heap.get? b = some o → h'.get? b = some o := fun b o hb e => (hs.2 b hb).trans e
  have nL : ∀ b o, X.s₀.heap.get? b = some o → b ≠ X.env.locals := fun b o e => Nat.ne_of_lt (Nat.lt_of_lt_of_le (Heap.lt_size e) I.ok.above)
  refine ⟨I.ok, I.os, I.bare, ⟨fun b o e n hb hx => kb b o (nL b o e) (I.base.keep b o e n hb hx), fun b o e n hb hx => ?_, I.base.free, fun b o e hx => ?_, I.base.tups, I.base.frzs, I.base.tbls⟩, ⟨_, hn', fun j y v' e1 e2 e3 => ?_⟩, fun y c e => ?_, I.free, I.freeC, fun p hp => ?_,
    I.hok.track fun b u o q1 q2 => kb b o (fun z => by rw [z, I.free] at q1; cases q1) q2, by simpa using I.len⟩
  · obtain ⟨sl, e1⟩ := I.base.slot b o e n hb hx
    exact ⟨sl, kb b _ (nL b o e) e1⟩
  · obtain ⟨o', e1⟩ := I.base.there b o e hx
    exact ⟨o', kb b o' (nL b o e) e1⟩
  · by_cases hj : j = i
    · subst hj
      have hj' : j < σ.length := by rw [I.len]; exact (List.getElem?_eq_some_iff.mp e1).1
      rw [List.getElem?_set_self hj'] at e2
      cases e2
    · rw [List.getElem?_set_ne (Ne.symm hj)] at e2
      obtain ⟨u', r', q⟩ := hl j y v' e1 e2 e3
      refine ⟨u', r', ?_⟩
      rcases q with ⟨k, e⟩ | ⟨k, c, e, z⟩
      · refine .inl ⟨k, ?_⟩
        have : y ≠ n := fun e => hj (nodup_ix hN e1 (e ▸ hi))
        simp [this, e]
      · exact .inr ⟨k, c, e, z.sameBut hs (I.cne y c e)⟩
  · obtain ⟨w', z⟩ := I.cell y c e
    exact ⟨w', z.sameBut hs (I.cne y c e)⟩
  · obtain ⟨e, n', ne, nf, d⟩ := I.pin p hp
    exact ⟨kb _ _ ne e, n', ne, nf, d⟩
end
def exO (C : Value) (dd : Option Addr) (e : Addr) : HO := .ext fun h => ∃ oe vs, h.get? e = some oe ∧ oe.cls = C ∧ oe.dict = dd ∧ oe.data = .fields vs
theorem exO_ok {P : Program} {w : World} {H : Hp} {h : Heap} {e : Addr} {C t1 : Value} {dd : Option Addr} (x : ExAt h e C dd t1) : ObjOk P w H h e (exO C dd e) := by
  obtain ⟨oe, vs, he, hC, hdd, hd, _⟩ := x
  exact ⟨⟨oe, vs, he, hC, hdd, hd⟩, ⟨oe, he⟩, fun h1 h2 ⟨o, v, q, r⟩ k => ⟨o, v, k o q, r⟩⟩
def tTry (K : PySem.W.Frag) (Cv : Value) (i : Nat) (tb : (St → XK) → List (Addr × Obj) → (Value → Shared → Prop) → TS) (th : Addr → TS) : TS := fun D σ H => ∃ Ez : St → XK, (∀ pins W, tb Ez pins W D σ H) ∧
  ∀ σ1 C dd H1, Ez σ1 C dd H1 → PySem.W.exmOne K C Cv = some true ∧ ∀ e, H1 e = none →
    th e { nx := fun σ2 H2 => D.nx (σ2.set i none) H2, rt := D.rt, bk := fun σ2 H2 => D.bk (σ2.set i none) H2, ct := fun σ2 H2 => D.ct (σ2.set i none) H2 } (σ1.set i (some (.ref e))) (upd H1 e (exO C dd e))
section
variable {X : Cx}
theorem ps_try {body suite : List Stmt} {b₀ : Stmt} {tx n : Str} {i : Nat} {np hpos pos : Pos} {Cv : Value} {tb : (St → XK) → List (Addr × Obj) → (Value → Shared → Prop) → TS} {th : Addr → TS}
    (hst : X.stack = X.env :: X.outer) (hfr : X.env.frame = some X.env.locals) (hex : X.ex = []) (hN : X.N.Nodup) (hi : X.N[i]? = some n) (hk : X.env.kindOf n = some .local) (hg : Gl X tx) (hm : X.mg tx = some Cv)
    (hb : ∀ Ez pins W, PassesS (CXx X.prog X.w) (X.tr pins W) Ez → PSs (X.tr pins W) body (tb Ez pins W)) (hs : ∀ e, PSs (X.sui e) (b₀ :: suite) (th e)) (hdb : (tx == ("__debug__" : Str)) = false := by decide) :
    PS X (.Try body [.ExceptHandler (some (.Name tx np)) (some n) (b₀ :: suite) hpos] [] [] pos) (tTry X.K Cv i tb th) := by
  unfold PS at *; unfold PSs at *
  exact by
    intro pins s σ H D I h
    obtain ⟨Ez, hb1, hh⟩ := h
    let W : Value → Shared → Prop := fun u s' => ∃ σ1 H1 s1, Inv X pins σ1 H1 s1 ∧ CXx X.prog X.w X.stack H1 s1 (Ez σ1) u s'
    have hp : PassesS (CXx X.prog X.w) (X.tr pins W) Ez := fun pins' σ1 H1 s1 u s' I1 hx => ⟨σ1, H1, s1, I1.untr, hx⟩
    refine wpAny_Try_except (wpAny_mono ((hb Ez pins W hp) [] s σ H D I.tr (hb1 pins W)) (fun f s1 q => ?_) (fun u s' q => ?_))
    · have q' := q.untr
      cases f with
      | next => exact wpAny_execs_nil q'
      | brk => exact q'
      | cont => exact q'
      | ret v => exact q'
    · obtain ⟨σ1, H1, s1, I1, e, C, dd, T, H', rfl, os, bare, un, hok, x1, x2, x3, f1, f2, n1, n2, hE⟩ := q
      have hfun : s'.heap.FunFrames X.base (X.env :: X.outer) := by
        rw [← hst]
        exact funFrames_un I1.stack fun b o hb q => un.slot b o q (I1.stkFree b hb) hb (by simp)
      refine leave_fly (T0 := some T) (L := X.env.locals) (by rw [← hst]; exact I1.ok.frames) hfun hfr x1 (fun T' z => by cases z; exact ⟨x2, x3⟩) fun h' T2 y1 y2 y3 y4 mv => ?_
      rw [← hst] at mv
      have ntr : ∀ b u, H' b = some u → b ∉ frs X.stack := fun b u q hb => by
        obtain ⟨_, o, ho, _⟩ := I1.stack.mem hb
        have := un.free b o ho (I1.stkFree b hb) (by simp)
        rw [q] at this; cases this
      have hU : Un (frs X.stack) [] H1 H' s1.heap h' := un_moved (l := X.stack) un mv (fun _ z => z) (fun _ _ _ z => z) n1 fun T' z => by cases z; exact n2
      have hO : HOk X.prog X.w H' h' := hok.track fun b u o q1 q2 => mv.keep b o (fun z => by rw [z, f1] at q1; cases q1) (fun z => by cases z; rw [f2] at q1; cases q1) (ntr b u q1) q2
      have I2 : Inv X pins σ1 H' { s' with heap := h' } := I1.call' (s' := { s' with heap := h' }) (ch := []) os hU hO bare fun _ z => absurd z (by simp)
      -- the exception becomes an object of ours
      have he0 : X.s₀.heap.get? e = none := by
        cases q : X.s₀.heap.get? e with
        | none => rfl
        | some o =>
          obtain ⟨o1, q1⟩ := I1.base.there e o q (by rw [hex]; simp)
          rw [n1] at q1; cases q1
      have live : ∀ b o, s1.heap.get? b = some o → b ≠ e := fun b o q z => by rw [z, n1] at q; cases q
      have heL : e ≠ X.env.locals := by
        obtain ⟨m, ⟨o, _, _, ho, _⟩, _⟩ := I1.loc
        exact Ne.symm (live _ _ ho)
      have heC : ∀ x c, X.env.cells.lookup x = some c → c ≠ e := fun x c q => by
        obtain ⟨v, o, ho, _⟩ := I1.cell x c q
        exact live _ _ ho
      have heP : ∀ p ∈ X.pn ++ pins, p.1 ≠ e := fun p hp => live _ _ (I1.pin p hp).1
      have I3 : Inv X pins σ1 (upd H' e (exO C dd e)) { s' with heap := h' } := I2.adopt f1 he0 heL heC heP (exO_ok y1)
      -- the trace's record is nobody's
      have szT : ∀ b o, s'.heap.get? b = some o → b ≠ T2 := fun b o q => Nat.ne_of_lt (Nat.lt_of_lt_of_le (Heap.lt_size q) y3)
      have liveT : ∀ b o, s1.heap.get? b = some o → b ≠ T2 := fun b o q => by
        obtain ⟨o', q'⟩ := un.there b o q (by simp)
        exact szT b o' q'
      have hTL : T2 ≠ X.env.locals := by
        obtain ⟨m, ⟨o, _, _, ho, _⟩, _⟩ := I1.loc
        exact Ne.symm (liveT _ _ ho)
      have hT0 : X.s₀.heap.objs.size ≤ T2 := by
        obtain ⟨m, ⟨o, _, _, ho, _⟩, _⟩ := I1.loc
        obtain ⟨o', q'⟩ := un.there _ o ho (by simp)
        exact Nat.le_trans I1.ok.above (Nat.le_trans (Nat.le_of_lt (Heap.lt_size q')) y3)
      have hTC : ∀ x c, X.env.cells.lookup x = some c → c ≠ T2 := fun x c q => by
        obtain ⟨v, o, ho, _⟩ := I1.cell x c q
        exact liveT _ _ ho
      have hTP : ∀ p ∈ X.pn ++ pins, p.1 ≠ T2 := fun p hp => liveT _ _ (I1.pin p hp).1
      have hTn : upd H' e (exO C dd e) T2 = none := by
        rw [upd_ne y4]
        cases q : H' T2 with
        | none => rfl
        | some u => obtain ⟨ob, hob⟩ := (hok T2 u q).there; exact absurd rfl (szT T2 ob hob)
      obtain ⟨hmt, hsu⟩ := hh σ1 C dd H' hE
      obtain ⟨oe, vs, hoe, hcls, _⟩ := id y1
      have LT : PySem.W.Looks (model X.prog X.w) h' (typeOf (.ref e)) C := by
        subst hcls
        exact (PySem.W.Looks.ld hoe).andThen .now
      have ok : X.Ok := I.ok
      refine wpAny_handleBy_cons (codeAny_handlers_test (ld_glob (X := X.sui e) (I3.sui e) hg hm ?_ hdb)) (by intro q; cases q)
      refine PySem.W.Looks.here (PySem.W.exm_one I3.kIn LT hmt) ?_
      show codeAny _ _ (.handlers (.ref e) [.ExceptHandler none (some n) (b₀ :: suite) hpos] X.env) _ _
      refine codeAny_handlers_suite_as ?_
      refine rest_fly y1 y2 y4 fun h2 z1 z2 k1 k2 => ?_
      have I4 : Inv X pins σ1 (upd H' e (exO C dd e)) { s' with heap := h2 } := I3.turned (t' := s'.toks) (fun b o hb q => k1 b o hb q) hTn hTL (.inr hT0) hTC hTP
      refine store_ok (X := X.sui e) (v := .ref e) (I4.sui e) hN hi (.inl hk) rfl (fun s5 I5 => ?_) (.inr hk)
      refine wpAny_mono ((hs e) pins s5 _ _ _ I5 (hsu e f1)) (fun f s6 q => ?_) fun _ _ z => z.elim
      show wpAny _ _ (do bindName X.env n .none; unbindBehindTheSuite X.env n hpos) _ _ s6
      cases f with
      | next => obtain ⟨σ6, H6, I6, q6⟩ := q; exact goes_ok (I6.unsui ok) hN hi hk fun s7 I7 => ⟨_, _, I7, q6⟩
      | brk => obtain ⟨σ6, H6, I6, q6⟩ := q; exact goes_ok (I6.unsui ok) hN hi hk fun s7 I7 => ⟨_, _, I7, q6⟩
      | cont => obtain ⟨σ6, H6, I6, q6⟩ := q; exact goes_ok (I6.unsui ok) hN hi hk fun s7 I7 => ⟨_, _, I7, q6⟩
      | ret v => obtain ⟨x6, σ6, H6, I6, r6, q6⟩ := q; exact goes_ok (I6.unsui ok) hN hi hk fun s7 I7 => ⟨_, _, _, I7, r6, q6⟩
end
end L2
namespace L2
open PySem PySem.Spec PyProof.Rows PySem.W
section
variable {prog : Program} {w : World} {A : Around} {E : Value → Shared → Prop} {s : Shared} {K : Frag} {e C : Addr} {oe : Obj}
theorem findX {a g : Value} {name : Str} (hc : (clsIn K C).isSome = true) (ha : findIn K (.ref C) name = some (some a)) (hg : specialIn K a "__get__" = some (some g)) (ht : takesIn K a = some true) : findObj K C none name = some (.bind g a) := by
  obtain ⟨cd, hc⟩ := Option.isSome_iff_exists.mp hc
  unfold findObj
  rw [hc, Option.bind_some, ha, Option.bind_some]
  simp [hg, ht]
structure XAsk (K : Frag) (C : Addr) : Prop where
  cs : (clsIn K C).isSome = true
  ga : findIn K (.ref C) "__getattribute__" = some (some (.builtin "BaseException.__getattribute__"))
  gt : findIn K (.ref C) "__getattr__" = some none
  ca : findIn K (.ref C) "__class__" = some (some (.builtin "object.__class__"))
  gg : specialIn K (.builtin "object.__class__") "__get__" = some (some (.builtin "getset_descriptor.__get__"))
  tk : takesIn K (.builtin "object.__class__") = some true
  mo : mroIn K C (.type "object") = some true
  sb : subIn K (.ref C) (.type "BaseException") = some true
theorem xcheck {nameV : Value} {Q : Unit → Shared → Prop} (U : XAsk K C) (X : K.In s.heap) (I : InstAt s.heap e oe C none) (hq : Q () s) :
    wpAny (model prog w) A (checkBuiltinCall "BaseException.__getattribute__" ⟨[.ref e, nameV], []⟩) Q E s := by
  have hk : builtinKind "BaseException.__getattribute__" = some .slot := by decide +kernel
  have hsplit : splitId "BaseException.__getattribute__" = some ("BaseException", "__getattribute__") := by decide +kernel
  have L0 := I.type (M := model prog w)
  have L1 := looks_subIn (M := model prog w) X U.sb
  have LI : Looks (model prog w) s.heap (isInstance (.ref e) (.type "BaseException")) true := L0.andThen L1
  have ha := F.args_bexc_ga (.ref e) nameV
  simp only [checkBuiltinCall, hk, hsplit]
  refine wpAny_bind (LI.at ?_)
  rw [if_neg (by decide)]
  exact wpAny_of_eq ha hq
theorem xentry {tk : Tok} {Q : Fin → Shared → Prop} (U : XAsk K C) (X : K.In s.heap) (I : InstAt s.heap e oe C none) (hq : Q (.done (.ret (.ref C))) s) :
    wpAny (model prog w) A (Builtin.«object.__getattribute__» ⟨[.ref e, .str "__class__" tk], []⟩) Q E s := by
  obtain ⟨hh, g, d, t, os⟩ := s
  have L0 := I.type (M := model prog w)
  have L3 := looks_find (M := model prog w) X I (findX U.cs U.ca U.gg U.tk)
  unfold Builtin.«object.__getattribute__»
  refine wpAny_bind (wpAny_of_eq (show slotArgs "__getattribute__" 1 ⟨[.ref e, .str "__class__" tk], []⟩ = pure (.ref e, [.str "__class__" tk]) from rfl) ?_)
  refine wpAny_bind (wpAny_of_eq (show Builtin.ObjectAttr.attrName (.str "__class__" tk) = pure ("__class__" : Str) from rfl) ?_)
  refine wpAny_bind (L0.at (wpAny_bind (L3.at ?_)))
  show wpAny _ _ (Builtin.ObjectAttr.bindTo (.builtin "getset_descriptor.__get__") (.builtin "object.__class__") (.ref e) (.ref C)) _ _ _
  show wpAny _ _ (holding [.builtin "object.__class__"] (call (.builtin "getset_descriptor.__get__") [.builtin "object.__class__", .ref e, .ref C]) >>= ret) _ _ _
  exact wpAny_bind (wpAny_holding (wpAny_call (class_get X I U.mo (wpAny_pure hq))))
theorem xclass {Q : Option Value → Shared → Prop} (U : XAsk K C) (X : K.In s.heap) (I : InstAt s.heap e oe C none) (h : Q (some (.ref C)) { s with toks := s.toks + 1 }) : wpAny (model prog w) A (getAttr? (.ref e) "__class__") Q E s := by
  obtain ⟨hh, g, d, t, os⟩ := s
  have L0 := I.type (M := model prog w)
  have L1 := looks_findIn (M := model prog w) X U.ga
  have L2 := looks_findIn (M := model prog w) X U.gt
  have L3 := looks_find (M := model prog w) X I (findX U.cs U.ca U.gg U.tk)
  unfold getAttr? getAttrBy? getAttrBy
  refine wpAny_bind (wpAny_mkText (wpAny_bind (wpAny_attempt (wpAny_holding (wpAny_bind (L0.at (wpAny_bind (L1.at ?_))))))))
  show wpAny _ _ (getAttrByItsOwn (.ref e) _ (.ref C) (.builtin "BaseException.__getattribute__") false false) _ _ _
  unfold getAttrByItsOwn
  refine wpAny_bind ?_
  show wpAny _ _ (typeLookup (.ref C) "__getattr__") _ _ _
  refine L2.at ?_
  refine wpAny_bind (wpAny_attempt (wpAny_holding ?_))
  show wpAny _ _ (boundAndCalled (.builtin "BaseException.__getattribute__") (.ref e) _) _ _ _
  unfold boundAndCalled
  refine wpAny_bind (wpAny_of_eq (F.attr_ValueError.ga.bind (.ref e)) ?_)
  refine wpAny_call (codeAny_call_builtin F.attr_ValueError.ga.plain F.entry_bexc_ga (xcheck U X I (xentry U X I ?_)))
  exact wpAny_pure (wpAny_pure h)
theorem kitx_exc (U : XAsk K C) : KitX K (.ref e) (.ref C) (fun h => ∃ oe, InstAt h e oe C none) where
  ty := fun M h _ ⟨_, I⟩ => I.type
  it := fun _ _ X _ => by
    obtain ⟨cd, hc⟩ := Option.isSome_iff_exists.mp U.cs
    unfold clsIn at hc
    split at hc
    · rename_i c' d' cd' sl' ho
      intro A' Q' E' s' k q
      unfold isType loadHead
      exact wpAny_bind (wpAny_loadPart (k _ _ (X _ _ ho)) (wpAny_pure q))
    · cases hc
  ne := fun h tp dd its n sl X htp => by
    obtain ⟨cd, hc⟩ := Option.isSome_iff_exists.mp U.cs
    refine Bool.eq_false_iff.mpr fun q => ?_
    have z : C = tp := Value.ref.inj (beq_iff_eq.mp q)
    subst z
    unfold clsIn at hc
    split at hc
    · rename_i c' d' cd' sl' ho
      have z := (X _ _ ho).symm.trans htp
      cases z
    · cases hc
  ca := fun X ⟨_, I⟩ k => xclass U X I k
end
theorem exO_inst {P : Program} {w : World} {H : Hp} {h : Heap} {e C : Addr} (ok : HOk P w H h) (q : H e = some (exO (.ref C) none e)) : ∃ oe, InstAt h e oe C none := by
  obtain ⟨⟨oe, vs, he, hC, hdd, hd⟩, _⟩ := ok e _ q
  refine ⟨oe, he, hC, ?_, ?_⟩
  · obtain ⟨a, b, c, d⟩ := oe
    have hd' : c = .fields vs := hd
    subst hd'
    rfl
  · rw [hdd]
    trivial
section
variable {X : Cx}
def rIsiX (K : Frag) : List V → Hp → VK → Prop := fun xs H Q => ∃ e c cv C b, xs = [.ref e, c] ∧ ClsV c cv ∧ H e = some (exO (.ref C) none e) ∧ XAsk K C ∧ kitOne K (.ref C) cv = some b ∧ Q (.bl b) H
theorem call_isiX : CallR X (.builtin "isinstance") (rIsiX X.K) := by
  unfold CallR at *
  exact by
    intro pins s σ H xs us Q I rv h
    obtain ⟨e, c, cv, C, b, rfl, hc, he, U, k, q⟩ := h
    obtain ⟨u, cu, rfl, ru, rc⟩ := rv.two
    have ec : cu = cv := by cases hc <;> exact rc
    subst ec
    cases (show u = Value.ref e from ru)
    exact kia_one (kitx_exc U) I.kIn (exO_inst I.hok he) k (fun z => nomatch z) fun tk => ⟨.bl b, H, I.tok tk, rfl, q⟩
def rIsiA (K : Frag) : List V → Hp → VK → Prop := fun xs H Q => rIsi K xs H Q ∨ rIsiX K xs H Q
theorem call_isiA : CallR X (.builtin "isinstance") (rIsiA X.K) := by
  first
  | exact (call_isi.or call_isiX)
  | (unfold CallR at *; exact (call_isi.or call_isiX))
end
end L2
namespace L2
open PySem PySem.Spec PyProof.Rows
theorem bt_len : bootBuiltins "len" = some (.builtin "len") := by decide +kernel
theorem bt_isinstance : bootBuiltins "isinstance" = some (.builtin "isinstance") := by decide +kernel
theorem bt_int : bootBuiltins "int" = some (.type "int") := by decide +kernel
theorem bt_bool : bootBuiltins "bool" = some (.type "bool") := by decide +kernel
theorem bt_list : bootBuiltins "list" = some (.type "list") := by decide +kernel
theorem bt_tuple : bootBuiltins "tuple" = some (.type "tuple") := by decide +kernel
theorem bt_ValueError : bootBuiltins "ValueError" = some (.type "ValueError") := by decide +kernel
theorem bt_min : bootBuiltins "min" = some (.builtin "min") := by decide +kernel
theorem rel_int {n : Int} {t : Tok} : RelV (.int n) (.int n t) := ⟨_, rfl⟩
theorem rel_str {n : Str} {t : Tok} : RelV (.str n) (.str n t) := ⟨_, rfl⟩
theorem Same.new {H : Hp} {p : Addr} {o : HO} (h : H p = none) : Same H (upd H p o) := fun b u q => by
  rw [upd_ne (ne_of_none q h)]
  exact q
theorem atI_in {α : Type} {xs : List α} {i : Int} (h0 : 0 ≤ i) (h1 : i < xs.length) : ∃ v, atI xs i = some v ∧ v ∈ xs := by
  have e : ((i.toNat : Nat) : Int) = i := Int.toNat_of_nonneg h0
  have hl : i.toNat < xs.length := by omega
  refine ⟨xs[i.toNat], ?_, List.getElem_mem hl⟩
  have q := atI_nat (xs := xs) (List.getElem?_eq_getElem hl)
  rw [e] at q
  exact q
theorem atI_toNat {α : Type} {xs : List α} {i : Int} {v : α} (h0 : 0 ≤ i) (h : xs[i.toNat]? = some v) : atI xs i = some v := by
  have q := atI_nat (xs := xs) h
  rw [Int.toNat_of_nonneg h0] at q
  exact q
theorem TyOf.same {K : PySem.W.Frag} {H H' : Hp} {x : V} {t : Value} (e : Same H H') (h : TyOf K H x t) : TyOf K H' x t := by
  cases h with
  | non => exact .non
  | bl b => exact .bl b
  | int i => exact .int i
  | str x => exact .str x
  | flt x => exact .flt x
  | lst q => exact .lst (e _ _ q)
  | frz q => exact .frz (e _ _ q)
  | tup q => exact .tup (e _ _ q)
  | dK q => exact .dK (e _ _ q)
  | dT q => exact .dT (e _ _ q)
  | ins q a b c d f => exact .ins (e _ _ q) a b c d f
def Own (K : PySem.W.Frag) (H : Hp) (x : V) : Prop := ∃ n, TyOf K H x (.type n)
theorem Own.same {K : PySem.W.Frag} {H H' : Hp} {x : V} (e : Same H H') (h : Own K H x) : Own K H' x := let ⟨n, t⟩ := h; ⟨n, t.same e⟩
theorem Own.non {K : PySem.W.Frag} {H : Hp} : Own K H .non := ⟨_, .non⟩
theorem Own.bl {K : PySem.W.Frag} {H : Hp} {b : Bool} : Own K H (.bl b) := ⟨_, .bl b⟩
theorem Own.int {K : PySem.W.Frag} {H : Hp} {i : Int} : Own K H (.int i) := ⟨_, .int i⟩
theorem Own.str {K : PySem.W.Frag} {H : Hp} {x : Str} : Own K H (.str x) := ⟨_, .str x⟩
theorem Own.lst {K : PySem.W.Frag} {H : Hp} {a : Addr} {xs : List V} (h : H a = some (.lst xs)) : Own K H (.ref a) := ⟨_, .lst h⟩
theorem Own.tup {K : PySem.W.Frag} {H : Hp} {a : Addr} {xs : List V} (h : H a = some (.tup xs)) : Own K H (.ref a) := ⟨_, .tup h⟩
theorem Own.dK {K : PySem.W.Frag} {H : Hp} {a : Addr} {xs : List (Key × V)} (h : H a = some (.dK xs)) : Own K H (.ref a) := ⟨_, .dK h⟩
def isInt : V → Bool
  | .int _ => true
  | .bl _ => true
  | _ => false
def isBool : V → Bool
  | .bl _ => true
  | _ => false
def isStr : V → Bool
  | .str _ => true
  | _ => false
theorem kit_int {K : PySem.W.Frag} {H : Hp} {x : V} {n : String} (ty : TyOf K H x (.type n)) : PySem.W.kitOne K (.type n) (.type "int") = some (isInt x) := by
  cases ty <;> rfl
theorem kit_bool {K : PySem.W.Frag} {H : Hp} {x : V} {n : String} (ty : TyOf K H x (.type n)) : PySem.W.kitOne K (.type n) (.type "bool") = some (isBool x) := by
  cases ty <;> rfl
theorem kit_str {K : PySem.W.Frag} {H : Hp} {x : V} {n : String} (ty : TyOf K H x (.type n)) : PySem.W.kitOne K (.type n) (.type "str") = some (isStr x) := by
  cases ty <;> rfl
theorem rIsiA.own {K : PySem.W.Frag} {H : Hp} {x : V} {c : String} {Q : VK} {b : Bool} (h : Own K H x) (k : ∀ n, TyOf K H x (.type n) → PySem.W.kitOne K (.type n) (.type c) = some b) (q : Q (.bl b) H) : rIsiA K [x, .ty c] H Q := by
  obtain ⟨n, t⟩ := h
  exact .inl ⟨x, .ty c, _, _, _, rfl, .ty c, t, k n t, q⟩
theorem rIsiA.int {K : PySem.W.Frag} {H : Hp} {x : V} {Q : VK} (h : Own K H x) (q : Q (.bl (isInt x)) H) : rIsiA K [x, .ty "int"] H Q := rIsiA.own h (fun _ => kit_int) q
theorem rIsiA.bool {K : PySem.W.Frag} {H : Hp} {x : V} {Q : VK} (h : Own K H x) (q : Q (.bl (isBool x)) H) : rIsiA K [x, .ty "bool"] H Q := rIsiA.own h (fun _ => kit_bool) q
theorem rIsiA.str {K : PySem.W.Frag} {H : Hp} {x : V} {Q : VK} (h : Own K H x) (q : Q (.bl (isStr x)) H) : rIsiA K [x, .ty "str"] H Q := rIsiA.own h (fun _ => kit_str) q
theorem iteB {b : Bool} {A B : Prop} (h1 : b = true → A) (h2 : b = false → B) : if b = true then A else B := by
  cases b
  · exact iteF (h2 rfl)
  · exact iteT (h1 rfl)
theorem le_ble {a b : Nat} (h : Nat.ble a b = true) : a ≤ b := Nat.le_of_ble_eq_true h
end L2
namespace L2
open PySem PySem.Spec PyProof.Rows
section
variable {X : Cx} {pins : List (Addr × Obj)} {σ : St} {H H' : Hp} {s : Shared} {h' : Heap}
end
def Nx (n i : Nat) (P : Prop) : Prop := ∃ m', m' < n - i ∧ m' = n - (i + 1) ∧ i + 1 ≤ n ∧ P
theorem Nx.mk {n i : Nat} {P : Prop} (hi : i < n) (p : P) : Nx n i P := ⟨n - (i + 1), by omega, rfl, hi, p⟩
theorem loop_by {J : It} {l : Addr} {g : TG} {tc : TT} {te : TE} {σ : St} {H : Hp} {Q : VK} (n : Nat) (Pv : Nat → St → List V → Hp → Prop) (hsz : n ≤ sizeLine) (h0 : Pv 0 σ [] H)
    (hl : ∀ i σ acc H, i ≤ n → Pv i σ acc H → H l = some (.lst acc) ∧ acc.length ≤ i)
    (hgo : ∀ i σ acc H, i < n → Pv i σ acc H → J.go i H)
    (hs : ∀ i x σ acc H H', i < n → Pv i σ acc H → J.yld i H x H' → g x σ H' fun σ2 H2 => tc σ2 H2 fun b H3 => if b = true then
      te σ2 H3 fun v H4 => H4 l = some (.lst acc) ∧ Nx n i (Pv (i + 1) σ2 (acc ++ [v]) (upd H4 l (.lst (acc ++ [v])))) else Nx n i (Pv (i + 1) σ2 acc H3))
    (hd : ∀ σ acc H, Pv n σ acc H → J.stop n H ∧ Q (.ref l) H) : tLoop J l g tc te σ H Q := by
  refine ⟨fun i m σ acc H => m = n - i ∧ i ≤ n ∧ Pv i σ acc H, ⟨n, by simp, Nat.zero_le _, h0⟩, ?_⟩
  rintro i m σ acc H ⟨rfl, hi, p⟩
  obtain ⟨q1, q2⟩ := hl i σ acc H hi p
  refine ⟨q1, ?_⟩
  by_cases hlt : i < n
  · exact .inr ⟨hgo i σ acc H hlt p, by omega, fun x H' y => hs i x σ acc H H' hlt p y⟩
  · have e : i = n := by omega
    subst e
    exact .inl (hd σ acc H p)
end L2
namespace L2
open PySem PySem.Spec PyProof.Rows
section
variable {X : Cx}
end
inductive SeqEq (K : PySem.W.Frag) (H : Hp) (R : V → V → Bool → Prop) : V → V → Bool → Prop where
  | list {a b : Addr} {xs ys : List V} {e : Nat → Bool} (ha : SqL K H a xs) (hb : SqL K H b ys) (hl : xs.length = ys.length) (he : ∀ i x y, xs[i]? = some x → ys[i]? = some y → R x y (e i)) : SeqEq K H R (.ref a) (.ref b) ((List.range xs.length).all e)
  | listN {a b : Addr} {xs ys : List V} (ha : SqL K H a xs) (hb : SqL K H b ys) (hl : xs.length ≠ ys.length) : SeqEq K H R (.ref a) (.ref b) false
  | tup {a b : Addr} {xs ys : List V} {e : Nat → Bool} (ha : SqT K H a xs) (hb : SqT K H b ys) (he : ∀ i x y, xs[i]? = some x → ys[i]? = some y → R x y (e i)) : SeqEq K H R (.ref a) (.ref b) ((List.range (min xs.length ys.length)).all e && xs.length == ys.length)
def EqD (K : PySem.W.Frag) (H : Hp) : Nat → V → V → Bool → Prop
  | 0, x, y, b => (flatV x = true ∧ flatV y = true ∧ b = eqV x y) ∨ ∃ a, x = .ref a ∧ y = .ref a ∧ b = true
  | n + 1, x, y, b => ((flatV x = true ∧ flatV y = true ∧ b = eqV x y) ∨ ∃ a, x = .ref a ∧ y = .ref a ∧ b = true) ∨ SeqEq K H (EqD K H n) x y b
theorem eqV_self {x : V} (h : flatV x = true) : eqV x x = true := by
  cases x <;> simp_all [flatV, eqV]
section
variable {X : Cx} {pins : List (Addr × Obj)} {σ : St} {H : Hp} {s : Shared}
theorem all_range {n : Nat} {e : Nat → Bool} (h : ∀ i, i < n → e i = true) : (List.range n).all e = true := by
  rw [List.all_eq_true]
  exact fun i hi => h i (List.mem_range.mp hi)
theorem EqD.self (I : Inv X pins σ H s) : ∀ {n : Nat} {x : V} {b : Bool}, EqD X.K H n x x b → b = true := by
  intro n
  induction n with
  | zero =>
    intro x b h
    rcases h with ⟨h1, _, h2⟩ | ⟨_, _, _, h⟩
    · rw [h2]; exact eqV_self h1
    · exact h
  | succ n ih =>
    intro x b h
    rcases h with (⟨h1, _, h2⟩ | ⟨_, _, _, h⟩) | h
    · rw [h2]; exact eqV_self h1
    · exact h
    · cases h with
      | @list a _ xs ys e ha hb hl he =>
        have q := I.list_inj ha hb
        subst q
        exact all_range fun i hi => ih (he i xs[i] xs[i] (by simp [hi]) (by simp [hi]))
      | listN ha hb hl => exact absurd (congrArg List.length (I.list_inj ha hb)) hl
      | @tup a _ xs ys e ha hb he =>
        have q := I.tuple_inj ha hb
        subst q
        rw [Nat.min_self, all_range fun i hi => ih (he i xs[i] xs[i] (by simp [hi]) (by simp [hi]))]
        simp
theorem SeqEq.rc {A : Around} {R : V → V → Bool → Prop} {x y : V} {b : Bool} {u v : Value} (I : Inv X pins σ H s) (h : SeqEq X.K H R x y b) (rx : RelV x u) (ry : RelV y v) (hu : A.units < cLine)
    (hR : ∀ x y b u v, R x y b → RelV x u → RelV y v → SeqAt.EqAt A.in1 s u v b) : SeqAt.RcAt A s u v b := by
  cases h with
  | @list a c xs ys e ha hb hl he =>
    cases rx; cases ry
    obtain ⟨its, r1, p1, z1⟩ := I.list ha
    obtain ⟨jts, r2, p2, z2⟩ := I.list hb
    have l1 := r1.length
    have l2 := r2.length
    have q := SeqAt.RcAt.lists (A := A) (s := s) (e := e) p1.isList p2.isList (by simp only [List.size_toArray]; omega) hu fun j h1 h2 => ?_
    · rw [List.size_toArray, ← l1] at q
      exact q
    · simp only [List.size_toArray] at h1 h2
      have g1 : xs[j]? = some xs[j] := by simp
      have g2 : ys[j]? = some ys[j] := by simp
      obtain ⟨w1, k1, rr1⟩ := r1.get g1
      obtain ⟨w2, k2, rr2⟩ := r2.get g2
      have e1 : its.toArray[j] = w1 := by
        have := List.getElem?_eq_some_iff.mp k1
        obtain ⟨_, this⟩ := this
        simpa using this
      have e2 : jts.toArray[j] = w2 := by
        have := List.getElem?_eq_some_iff.mp k2
        obtain ⟨_, this⟩ := this
        simpa using this
      rw [e1, e2]
      exact hR _ _ _ _ _ (he j _ _ g1 g2) rr1 rr2
  | @listN a c xs ys ha hb hl =>
    cases rx; cases ry
    obtain ⟨its, r1, p1, z1⟩ := I.list ha
    obtain ⟨jts, r2, p2, z2⟩ := I.list hb
    have l1 := r1.length
    have l2 := r2.length
    exact SeqAt.RcAt.lists_lengths p1.isList p2.isList (by simp only [List.size_toArray, bne_iff_ne]; omega) hu
  | @tup a c xs ys e ha hb he =>
    cases rx; cases ry
    obtain ⟨its, r1, p1, z1⟩ := I.tuple ha
    obtain ⟨jts, r2, p2, z2⟩ := I.tuple hb
    have l1 := r1.length
    have l2 := r2.length
    have q := SeqAt.RcAt.tuples (A := A) (s := s) (e := e) p1 p2 hu fun j h1 h2 => ?_
    · rw [List.size_toArray, List.size_toArray, ← l1, ← l2] at q
      exact q
    · simp only [List.size_toArray] at h1 h2
      have g1 : xs[j]? = some xs[j] := by simp
      have g2 : ys[j]? = some ys[j] := by simp
      obtain ⟨w1, k1, rr1⟩ := r1.get g1
      obtain ⟨w2, k2, rr2⟩ := r2.get g2
      have e1 : its.toArray[j] = w1 := by
        have := List.getElem?_eq_some_iff.mp k1
        obtain ⟨_, this⟩ := this
        simpa using this
      have e2 : jts.toArray[j] = w2 := by
        have := List.getElem?_eq_some_iff.mp k2
        obtain ⟨_, this⟩ := this
        simpa using this
      rw [e1, e2]
      exact hR _ _ _ _ _ (he j _ _ g1 g2) rr1 rr2
theorem EqD.at (I : Inv X pins σ H s) : ∀ (n : Nat) (A : Around) (x y : V) (b : Bool) (u v : Value), A.units + n < cLine → EqD X.K H n x y b → RelV x u → RelV y v → SeqAt.EqAt A s u v b := by
  intro n
  induction n with
  | zero =>
    intro A x y b u v hu h rx ry
    rcases h with ⟨h1, h2, rfl⟩ | ⟨a, rfl, rfl, rfl⟩
    · exact eqAt_V rx ry h1 h2
    · cases rx; cases ry
      exact SeqAt.EqAt.same _
  | succ n ih =>
    intro A x y b u v hu h rx ry
    rcases h with (⟨h1, h2, rfl⟩ | ⟨a, rfl, rfl, rfl⟩) | h
    · exact eqAt_V rx ry h1 h2
    · cases rx; cases ry
      exact SeqAt.EqAt.same _
    · have rc := SeqEq.rc (A := A) I h rx ry (by omega) fun x y b u v hd r1 r2 => ih A.in1 x y b u v (by show A.units + 1 + n < cLine; omega) hd r1 r2
      have refs : ∃ a c, x = .ref a ∧ y = .ref c := by cases h <;> exact ⟨_, _, rfl, rfl⟩
      obtain ⟨a, c, rfl, rfl⟩ := refs
      cases rx; cases ry
      by_cases hac : a = c
      · subst hac
        have hb : b = true := EqD.self (n := n + 1) I (.inr h)
        subst hb
        exact SeqAt.EqAt.same _
      · exact SeqAt.EqAt.of_refs hac rc
def rEqD (K : PySem.W.Frag) (neg : Bool) : R2 := fun x y H Q => ∃ n b, n ≤ 60 ∧ SeqEq K H (EqD K H n) x y b ∧ Q (.bl (if neg then !b else b)) H
theorem op_eqD (hu : X.A.units + 62 < cLine) : OpR X (compareOp .Eq) (rEqD X.K false) := by
  unfold OpR at *
  exact by
    intro pins s σ H x y v u Q I rx ry h
    obtain ⟨n, b, hn, he, q⟩ := h
    exact SeqEq.rc (A := X.A) I he rx ry (by omega) (fun x y b u v hd r1 r2 => EqD.at I n X.A.in1 x y b u v (by show X.A.units + 1 + n < cLine; omega) hd r1 r2) X.prog X.w _ _ (fin_bl I q rfl)
def eqL : List V → List V → Bool
  | [], [] => true
  | x :: xs, y :: ys => eqV x y && eqL xs ys
  | _, _ => false
end
theorem eqL_range : ∀ {xs ys : List V}, xs.length = ys.length → (List.range xs.length).all (fun i => eqV (xs.getD i .non) (ys.getD i .non)) = eqL xs ys
  | [], [], _ => rfl
  | x :: xs, y :: ys, h => by
    have h' : xs.length = ys.length := by simpa using h
    rw [List.length_cons, List.range_succ_eq_map, List.all_cons, List.all_map, eqL, ← eqL_range h']
    rfl
  | [], _ :: _, h => by simp at h
  | _ :: _, [], h => by simp at h
theorem eqL_len : ∀ {xs ys : List V}, xs.length ≠ ys.length → eqL xs ys = false
  | [], [], h => absurd rfl h
  | x :: xs, y :: ys, h => by
    rw [eqL, eqL_len (xs := xs) (ys := ys) (by simpa using h), Bool.and_false]
  | [], _ :: _, _ => rfl
  | _ :: _, [], _ => rfl
theorem SeqEq.flatL {K : PySem.W.Frag} {H : Hp} {n : Nat} {a b : Addr} {xs ys : List V} (ha : SqL K H a xs) (hb : SqL K H b ys) (fx : xs.all flatV = true) (fy : ys.all flatV = true) : SeqEq K H (EqD K H n) (.ref a) (.ref b) (eqL xs ys) := by
  by_cases hl : xs.length = ys.length
  · rw [← eqL_range hl]
    refine .list ha hb hl fun i x y hx hy => ?_
    have q : (flatV x = true ∧ flatV y = true ∧ eqV (xs.getD i .non) (ys.getD i .non) = eqV x y) := by
      refine ⟨List.all_eq_true.mp fx x (List.mem_of_getElem? hx), List.all_eq_true.mp fy y (List.mem_of_getElem? hy), ?_⟩
      rw [List.getD_eq_getElem?_getD, List.getD_eq_getElem?_getD, hx, hy]
      rfl
    cases n with
    | zero => exact .inl q
    | succ n => exact .inl (.inl q)
  · rw [eqL_len hl]
    exact .listN ha hb hl
theorem SeqEq.flatT {K : PySem.W.Frag} {H : Hp} {n : Nat} {a b : Addr} {xs ys : List V} (ha : SqT K H a xs) (hb : SqT K H b ys) (hl : xs.length = ys.length) (fx : xs.all flatV = true) (fy : ys.all flatV = true) : SeqEq K H (EqD K H n) (.ref a) (.ref b) (eqL xs ys) := by
  have q := SeqEq.tup (K := K) (H := H) (R := EqD K H n) (e := fun i => eqV (xs.getD i .non) (ys.getD i .non)) ha hb fun i x y hx hy => ?_
  · rw [← hl, Nat.min_self, eqL_range hl] at q
    simpa using q
  · have q : (flatV x = true ∧ flatV y = true ∧ eqV (xs.getD i .non) (ys.getD i .non) = eqV x y) := by
      refine ⟨List.all_eq_true.mp fx x (List.mem_of_getElem? hx), List.all_eq_true.mp fy y (List.mem_of_getElem? hy), ?_⟩
      rw [List.getD_eq_getElem?_getD, List.getD_eq_getElem?_getD, hx, hy]
      rfl
    cases n with
    | zero => exact .inl q
    | succ n => exact .inl (.inl q)
end L2
namespace L2
open PySem PySem.Spec PyProof.Rows
theorem sqT_of {K : PySem.W.Frag} {H : Hp} {a : Addr} {o : Obj} {xs : List V} {its : Array Value} {n : Nat} (hk : K.lookup a = some o) (hc : o.cls = .type "tuple") (ho : o.data = .seq its n) (hz : its.size ≤ sizeLine) (hv : Vals xs its.toList) : SqT K H a xs :=
  .inr ⟨o, its, n, hk, hc, ho, hz, hv⟩
def EntryIs (w : World) (p : Str × V) (e : DictEntry) : Prop := e.hash = PyData.keyHash w.params p.1 ∧ (∃ t, e.key = .str p.1 t) ∧ RelV p.2 e.val
structure KDict (w : World) (K : PySem.W.Frag) (a : Addr) (kvs : List (Str × V)) : Prop where
  ex : ∃ (es : List DictEntry) (ep : Nat), K.lookup a = some ⟨.type "dict", none, .dict es.toArray ep, #[]⟩ ∧ Paired (EntryIs w) kvs es
  nd : (kvs.map (·.1)).Nodup
end L2
namespace L2
open PySem PySem.Spec PyProof.Rows
def strKeysB (es : Array DictEntry) : Bool := es.all fun e => match e.key with | .str _ _ => true | _ => false
theorem strKeys_of {es : Array DictEntry} (h : strKeysB es = true) : StrKeys es := by
  intro e he
  have q := Array.all_eq_true_iff_forall_mem.mp h e he
  split at q
  · rename_i n t hk
    exact ⟨n, t, hk⟩
  · cases q
theorem XCls.mk2 {K : PySem.W.Frag} {C N A : Addr} {nm q : Str} {bs : List Value} {hdct : Bool} {sn : List Str} {sub : List Value} {ab : Bool} {col : Option Bool} {dd : Option Addr} {k0 k1 k2 k3 k5 : Option Value} {es : Array DictEntry} {c d ep sl}
    {c0 : Value} {dd' : Option Addr} {cd : ClassData} {sl0 : Array (Option Value)} {es' : Array DictEntry} {c' d' ep' sl'}
    (l : K.lookup C = some (excClassObj nm q C N bs (.ref A :: vmro) hdct sn sub ab col dd k0 k1 k2 k3 k5 "ValueError.__new__")) (ln : K.lookup N = some ⟨c, d, .dict es ep, sl⟩) (sk : strKeysB es = true) (ni : nsFind es "__init__" = none)
    (la : K.lookup A = some { cls := c0, dict := dd', data := .cls cd, slots := sl0 }) (lna : K.lookup cd.ns = some ⟨c', d', .dict es' ep', sl'⟩) (ska : strKeysB es' = true) (nia : nsFind es' "__init__" = none) : XCls K C :=
  ⟨nm, q, N, bs, _, hdct, sn, sub, ab, col, dd, k0, k1, k2, k3, k5, es, l, ⟨c, d, ep, sl, ln, strKeys_of sk⟩, ni, .own la ⟨c', d', ep', sl', lna, strKeys_of ska⟩ nia .base⟩
theorem hu62 {A : Around} {k : Nat} (hr : Room k A) : A.units + 62 < cLine := by have := hr.un; omega
theorem cap_nil {X : Cx} {scope : Scope} {N' : List Str} {js : List (Option Nat)} (hl : js.length = N'.length) (h : js.all Option.isNone = true) : Cap X scope N' js :=
  ⟨hl, fun i j x h1 _ => by
    have q := List.all_eq_true.mp h _ (List.mem_of_getElem? h1)
    cases q⟩
theorem free_nil {X : Cx} {scope : Scope} (h : (scope.names.all fun y => match y.2 with | .free => false | _ => true) = true) : ∀ y ∈ scope.names, y.2 = .free → (X.env.kindOf y.1 = some .cell ∨ X.env.kindOf y.1 = some .free) := fun y hy e => by
  have q := List.all_eq_true.mp h y hy
  rw [e] at q
  cases q
theorem rIsiA.exc {K : PySem.W.Frag} {H : Hp} {e C c : Addr} {b : Bool} {Q : VK} (h : H e = some (exO (.ref C) none e)) (q : XAsk K C) (k : PySem.W.kitOne K (.ref C) (.ref c) = some b) (hQ : Q (.bl b) H) : rIsiA K [.ref e, .ref c] H Q :=
  .inr ⟨e, .ref c, .ref c, C, b, rfl, .own c, h, q, k, hQ⟩
theorem rIsiA.excT {K : PySem.W.Frag} {H : Hp} {e C : Addr} {c : String} {b : Bool} {Q : VK} (h : H e = some (exO (.ref C) none e)) (q : XAsk K C) (k : PySem.W.kitOne K (.ref C) (.type c) = some b) (hQ : Q (.bl b) H) : rIsiA K [.ref e, .ty c] H Q :=
  .inr ⟨e, .ty c, .type c, C, b, rfl, .ty c, h, q, k, hQ⟩
theorem passE0 {P : Program} {w : World} {X : Cx} : PassesS (CXx P w) X (fun _ => E0) := by
  intro pins σ H s e s' I h
  obtain ⟨_, _, _, _, _, _, _, _, _, _, _, _, _, _, _, _, _, h⟩ := h
  exact h.elim
end L2
namespace L2
open PySem PySem.Spec PyProof.Rows
structure FunD (K : PySem.W.Frag) (x qual : Str) (st : Stmt) (dV : Value) (f : Addr) (fd : FuncData) : Prop where
  ex : ∃ (oc : Value) (od : Option Addr) (kV doc pm : Value) (an : Option Addr) (cdv ct : Value) (osl : Array (Option Value)),
    fd = PySem.W.fnOf x qual (defArgs st) (defBody st) (defScope st) dV kV doc pm an cdv ct ∧ K.lookup f = some ⟨oc, od, .func fd, osl⟩ ∧ PySem.W.codeIn K cdv qual = true
  kp : PySem.W.keepIn K (.ref f) = true
theorem FunD.okx {P : Program} {w : World} {K : PySem.W.Frag} {mg : Str → Option Value} {base : Heap} {x qual : Str} {st : Stmt} {dV : Value} {f : Addr} {fd : FuncData} {N ps : List Str} {k : Nat} {sp : Sp} (F : FunD K x qual st dV f fd) (S : FnScope N ps (defScope st)) (len : ∀ vs H Q E, sp vs H Q E → vs.length = ps.length)
    (hbody : ∀ (cdv : Value) (A : Around) (outer : List Env) (s : Shared) (H : Hp) (vs : List V) (Q : VK) (E : XK), Room k (A.deeper (envOfC qual (defScope st) s.heap.objs.size f cdv)) → sp vs H Q E →
      ∃ t, PSs (cxOf (CXx P w) P w K mg base N qual (defScope st) f cdv A outer s H E) (defBody st) t ∧ t { nx := fun _ H' => Q .non H', rt := Q } (start N vs) H) : FnOk P w K mg base (CXx P w) (k + 1) f fd ps sp := by
  obtain ⟨oc, od, kV, doc, pm, an, cdv, ct, osl, rfl, lk, hcd⟩ := F.ex
  exact fn_of lk hcd S len fun A outer s H vs Q E hr hsp => hbody cdv A outer s H vs Q E hr hsp
section
variable {X : Cx} {CX : CXT} {k : Nat} {f C : Addr} {fd : FuncData} {ps ks : List Str} {sp : Sp} {Ez : St → XK} {x : Str} {p pos : Pos} {e : Expr} {es : List Expr} {kws : List Keyword} {t tk : TA} {na : Nat} {g : List Value → List Value → List Value} {gV : List V → List V → List V}
end
theorem free_of {X : Cx} {scope : Scope} (l : List Str) (h : (scope.names.all fun y => match y.2 with | .free => l.contains y.1 | _ => true) = true) (hl : ∀ x ∈ l, X.env.kindOf x = some .cell ∨ X.env.kindOf x = some .free) :
    ∀ y ∈ scope.names, y.2 = .free → (X.env.kindOf y.1 = some .cell ∨ X.env.kindOf y.1 = some .free) := fun y hy e => by
  have q := List.all_eq_true.mp h y hy
  rw [e] at q
  exact hl _ (List.contains_iff_mem.mp q)
def tCut (t u : TS) : TS := fun D σ H => ∃ Mid : St → Hp → Prop, t { D with nx := Mid } σ H ∧ ∀ σ' H', Mid σ' H' → u D σ' H'
theorem pss_cut {X : Cx} {st : Stmt} {rest : List Stmt} {t u : TS} (h1 : PS X st t) (h2 : PSs X rest u) : PSs X (st :: rest) (tCut t u) := by
  unfold PS at *; unfold PSs at *
  exact by
    intro pins s σ H D I h
    obtain ⟨Mid, h, hm⟩ := h
    refine wpAny_execs_cons (thn (h1 pins s σ H { D with nx := Mid } I h) fun f s1 q => ?_)
    cases f with
    | next =>
      obtain ⟨σ', H', I', q⟩ := q
      exact h2 pins s1 σ' H' D I' (hm σ' H' q)
    | ret v => exact q
    | brk => exact q
    | cont => exact q
theorem lenS {α : Type} {n : Nat} : ∀ {us : List α}, us.length = n + 1 → ∃ a r, us = a :: r ∧ r.length = n
  | a :: r, h => ⟨a, r, rfl, by simpa using h⟩
theorem len0 {α : Type} : ∀ {us : List α}, us.length = 0 → us = []
  | [], _ => rfl
theorem fm_nil {α : Type} {p : α → Prop} : ∀ x ∈ ([] : List α), p x := fun _ h => nomatch h
theorem fm_cons {α : Type} {p : α → Prop} {a : α} {l : List α} (h : p a) (r : ∀ x ∈ l, p x) : ∀ x ∈ a :: l, p x := fun x hx => by
  rcases List.mem_cons.mp hx with e | e
  · subst e; exact h
  · exact r x e
theorem cap_of {X : Cx} {scope : Scope} {N' : List Str} {js : List (Option Nat)} (hl : js.length = N'.length)
    (h : ∀ p ∈ js.zip N', ∀ j, p.1 = some j → X.N[j]? = some p.2 ∧ scope.names.lookup p.2 = some .free ∧ (X.env.kindOf p.2 = some .cell ∨ X.env.kindOf p.2 = some .free)) : Cap X scope N' js :=
  ⟨hl, fun i j x h1 h2 => h (some j, x) (List.mem_of_getElem? (i := i) (by rw [List.getElem?_zip_eq_some]; exact ⟨h1, h2⟩)) j rfl⟩
end L2
namespace L2
open PySem PySem.Spec PyProof.Rows
section
variable {X : Cx}
end
end L2
namespace L2
open PySem PySem.Spec PyProof.Rows
section
variable {X : Cx}
theorem ints_are : ∀ {ns : List Int} {us : List Value}, Vals (ns.map V.int) us → IntsAre us ns
  | [], _, .nil => .nil
  | _ :: _, _, .cons ⟨_, h⟩ r => by
    subst h
    exact .cons _ _ (ints_are r)
theorem ints_vals : ∀ {ns : List Int} {us : List Value}, IntsAre us ns → Vals (ns.map V.int) us
  | [], _, .nil => .nil
  | _ :: _, _, .cons _ _ r => .cons ⟨_, rfl⟩ (ints_vals r)
theorem call_sorted (hc : X.calm = true) : CallR X (.builtin "sorted") (fun xs H Q => ∃ (a : Addr) (ns : List Int), xs = [.ref a] ∧ SqL X.K H a (ns.map V.int) ∧ ns.length < 64 ∧
    ∀ (l : Addr) (ms : List Int), H l = none → ms.Perm ns → ms.Pairwise (· ≤ ·) → Q (.ref l) (upd H l (.lst (ms.map V.int)))) := by
  unfold CallR at *
  exact by
    intro pins s σ H xs us Q I r h
    obtain ⟨a, ns, rfl, hq, hl, q⟩ := h
    obtain ⟨u, rfl, rx⟩ := vals1 r
    cases rx
    obtain ⟨its, r', pl, hz⟩ := I.list hq
    have hlen := r'.length
    rw [List.length_map] at hlen
    refine sorted_ints pl.isList (ints_are r') (by omega) fun out ns' a1 a2 a3 => ?_
    obtain ⟨e, he⟩ := sortedAll_at s.heap its out
    have hn := a2.length_eq
    have h64 : 64 ≤ sizeLine := le_ble rfl
    exact ⟨.ref (s.heap.objs.size + 1), _, I.laid (t' := s.toks) (fun _ _ => sortedAll_old) (Nat.le_succ _) (show ObjOk X.prog X.w _ _ _ (.lst (ns'.map V.int)) from ⟨by rw [List.length_map]; omega, out.toList, e, ints_vals a1, he⟩), rfl, q _ _ (I.hok.fresh (Nat.le_succ _)) a2 a3⟩
end
structure CDivB (i j : Int) : Prop where
  lo : 0 < j
  hi : j < 2 ^ 200
theorem op_fdivB {X : Cx} : OpR X (binaryOp .FloorDiv) (rI CDivB fun i j => .int (i / j)) := opI fun i j _ _ _ _ _ hc q => by
  have h1 : (0 : Int) < j := hc.lo
  have h2 : j < 2 ^ 200 := hc.hi
  refine floordiv_int (by omega) (by rw [Int.fdiv_eq_ediv_of_nonneg i (by omega)]; exact q) (.inl (PyProof.noPylong_of_log2 ?_))
  have h3 : j.natAbs < 2 ^ 200 := by omega
  have h4 := (Nat.log2_lt (n := j.natAbs) (k := 200) (by omega)).mpr h3
  omega
theorem own_def {P : Program} {w : World} {K : PySem.W.Frag} {mg : Str → Option Value} {base : Heap} {N : List Str} {qual : Str} {scope : Scope} {f : Addr} {cd : Value} {A : Around} {outer : List Env} {s₀ : Shared} {H₀ : Hp} {E : XK} {CX : CXT} :
    PassesOwn (model P w) (cxOf CX P w K mg base N qual scope f cd A outer s₀ H₀ E).A (cxOf CX P w K mg base N qual scope f cd A outer s₀ H₀ E).env (cxOf CX P w K mg base N qual scope f cd A outer s₀ H₀ E).xe := PassesOwn.leaving
theorem MtM.r {X : Cx} {id : String} {r : V → List V → Hp → VK → Prop} (h : MtM X id r) : MtR X id r := by
  first
  | exact (h)
  | (unfold MtR at *; unfold MtM at *; exact (h))
theorem bt_sorted : bootBuiltins "sorted" = some (.builtin "sorted") := by decide +kernel
end L2
namespace L2
open PySem PySem.Spec PyProof.Rows
theorem loop_lst {K : PySem.W.Frag} {a l : Addr} {xs : List V} {g : TG} {tc : TT} {te : TE} {σ : St} {H : Hp} {Q : VK} (Pv : Nat → St → List V → Hp → Prop) (hsz : xs.length ≤ sizeLine) (h0 : Pv 0 σ [] H)
    (hl : ∀ i σ acc H, i ≤ xs.length → Pv i σ acc H → H l = some (.lst acc) ∧ SqL K H a xs ∧ acc.length ≤ i)
    (hs : ∀ i x σ acc H, xs[i]? = some x → Pv i σ acc H → g x σ H fun σ2 H2 => tc σ2 H2 fun b H3 => if b = true then
      te σ2 H3 fun v H4 => H4 l = some (.lst acc) ∧ Nx xs.length i (Pv (i + 1) σ2 (acc ++ [v]) (upd H4 l (.lst (acc ++ [v])))) else Nx xs.length i (Pv (i + 1) σ2 acc H3))
    (hd : ∀ σ acc H, Pv xs.length σ acc H → Q (.ref l) H) : tLoop (Itl K a) l g tc te σ H Q :=
  loop_by xs.length Pv hsz h0 (fun i σ acc H hi p => ⟨(hl i σ acc H hi p).1, (hl i σ acc H hi p).2.2⟩)
    (fun i σ acc H hi p => ⟨xs, xs[i], (hl i σ acc H (Nat.le_of_lt hi) p).2.1, List.getElem?_eq_getElem hi⟩)
    (fun i x σ acc H H' hi p y => by
      obtain ⟨e, y⟩ := y
      subst e
      exact hs i x σ acc _ (y xs (hl i σ acc _ (Nat.le_of_lt hi) p).2.1) p)
    (fun σ acc H p => ⟨⟨xs, (hl _ σ acc H (Nat.le_refl _) p).2.1, Nat.le_refl _⟩, hd σ acc H p⟩)
def Tr : Nat → Type
  | 0 => Int
  | n + 1 => List (Tr n)
abbrev ls {n : Nat} (ts : Tr (n + 1)) : List (Tr n) := ts
abbrev Ow := Addr → Option (List Nat)
def AtR (H : Hp) : (n : Nat) → V → Tr n → Prop
  | 0, v, i => v = .int i
  | n + 1, v, ts => ∃ a vs, v = .ref a ∧ H a = some (.lst vs) ∧ vs.length = (ls ts).length ∧ ∀ (j : Nat) w t, vs[j]? = some w → (ls ts)[j]? = some t → AtR H n w t
def At (o : Ow) (H : Hp) : (n : Nat) → List Nat → V → Tr n → Prop
  | 0, _, v, i => v = .int i
  | n + 1, p, v, ts => ∃ a vs, v = .ref a ∧ o a = some p ∧ H a = some (.lst vs) ∧ vs.length = (ls ts).length ∧ ∀ (j : Nat) w t, vs[j]? = some w → (ls ts)[j]? = some t → At o H n (j :: p) w t
theorem At.r {o : Ow} {H : Hp} : ∀ {n : Nat} {p : List Nat} {v : V} {t : Tr n}, At o H n p v t → AtR H n v t
  | 0, _, _, _, h => h
  | n + 1, _, _, _, ⟨a, vs, e, _, h, l, k⟩ => ⟨a, vs, e, h, l, fun j w t hw ht => (k j w t hw ht).r⟩
theorem AtR.keep {H H' : Hp} (s : ∀ a xs, H a = some (.lst xs) → H' a = some (.lst xs)) : ∀ {n : Nat} {v : V} {t : Tr n}, AtR H n v t → AtR H' n v t
  | 0, _, _, h => h
  | n + 1, _, _, ⟨a, vs, e, h, l, k⟩ => ⟨a, vs, e, s _ _ h, l, fun j w t hw ht => (k j w t hw ht).keep s⟩
theorem AtR.same {H H' : Hp} (s : Same H H') {n : Nat} {v : V} {t : Tr n} (h : AtR H n v t) : AtR H' n v t := h.keep fun a xs e => s a _ e
theorem At.frame {o o' : Ow} {H H' : Hp} : ∀ {n : Nat} {p : List Nat} {v : V} {t : Tr n}, At o H n p v t → (∀ a r xs, o a = some r → p <:+ r → H a = some (.lst xs) → H' a = some (.lst xs) ∧ o' a = some r) → At o' H' n p v t
  | 0, _, _, _, h, _ => h
  | n + 1, p, _, _, ⟨a, vs, e, ho, h, l, k⟩, f =>
    have q := f a p vs ho (List.suffix_refl p) h
    ⟨a, vs, e, q.2, q.1, l, fun j w t hw ht => (k j w t hw ht).frame fun b r xs hb hs hx => f b r xs hb ((List.suffix_cons j p).trans hs) hx⟩
theorem At.under {o : Ow} {H : Hp} (q : List Nat) : ∀ {n : Nat} {p : List Nat} {v : V} {t : Tr n}, At o H n p v t → At (fun a => (o a).map (· ++ q)) H n (p ++ q) v t
  | 0, _, _, _, h => h
  | n + 1, p, _, _, ⟨a, vs, e, ho, h, l, k⟩ => ⟨a, vs, e, (by show (o a).map (· ++ q) = _; rw [ho]; rfl), h, l, fun j w t hw ht => (k j w t hw ht).under q⟩
theorem cons_not_suffix {j : Nat} {p : List Nat} : ¬ (j :: p) <:+ p := fun h => by
  have := h.length_le
  rw [List.length_cons] at this
  omega
theorem cons_ne_suffix {j i : Nat} {p r : List Nat} (h : (j :: p) <:+ r) (h' : (i :: p) <:+ r) : j = i := by
  have e1 : (j :: p) = r.drop (r.length - (j :: p).length) := List.suffix_iff_eq_drop.mp h
  have e2 : (i :: p) = r.drop (r.length - (i :: p).length) := List.suffix_iff_eq_drop.mp h'
  rw [List.length_cons] at e1 e2
  rw [← e2] at e1
  exact (List.cons.inj e1).1
theorem At.app {o o' : Ow} {H H' : Hp} {n : Nat} {p : List Nat} {a : Addr} {ts : Tr (n + 1)} {vs : List V} {w : V} {t : Tr n} (h : At o H (n + 1) p (.ref a) ts) (hv : H a = some (.lst vs)) (hf : ∀ b r xs, o b = some r → b ≠ a → H b = some (.lst xs) → H' b = some (.lst xs))
    (ho : ∀ b r, o b = some r → o' b = some r) (e : H' a = some (.lst (vs ++ [w]))) (hw : At o' H' n ((ls ts).length :: p) w t) : At o' H' (n + 1) p (.ref a) (ls ts ++ [t] : List (Tr n)) := by
  obtain ⟨a', vs', ea, ho', h', l, k⟩ := h
  cases ea
  rw [hv] at h'
  cases h'
  refine ⟨a, _, rfl, ho _ _ ho', e, by show (vs ++ [w]).length = (ls ts ++ [t]).length; rw [List.length_append, List.length_append, l]; rfl, fun j x u hx hu => ?_⟩
  have hu : (ls ts ++ [t])[j]? = some u := hu
  rcases Nat.lt_trichotomy j vs.length with q | q | q
  · rw [List.getElem?_append_left q] at hx
    rw [List.getElem?_append_left (by omega)] at hu
    refine (k j x u hx hu).frame fun b r xs hb hs hx => ?_
    have hne : b ≠ a := fun z => by
      subst z
      rw [ho'] at hb
      cases hb
      exact cons_not_suffix hs
    exact ⟨hf b r xs hb hne hx, ho b r hb⟩
  · subst q
    rw [List.getElem?_append_right (Nat.le_refl _), Nat.sub_self] at hx
    rw [List.getElem?_append_right (by omega), show vs.length - (ls ts).length = 0 by omega] at hu
    cases hx
    cases hu
    rw [l]
    exact hw
  · rw [List.getElem?_append_right (by omega)] at hx
    have : [w].length ≤ j - vs.length := by rw [List.length_singleton]; omega
    rw [List.getElem?_eq_none this] at hx
    cases hx
theorem At.put {o o' : Ow} {H H' : Hp} {n : Nat} {p : List Nat} {a : Addr} {ts : Tr (n + 1)} {vs : List V} {i : Nat} {w : V} {t : Tr n} (h : At o H (n + 1) p (.ref a) ts) (hv : H a = some (.lst vs)) (hi : i < vs.length)
    (hf : ∀ b r xs, o b = some r → b ≠ a → ¬ (i :: p) <:+ r → H b = some (.lst xs) → H' b = some (.lst xs)) (ho : ∀ b r, o b = some r → ¬ (i :: p) <:+ r → o' b = some r)
    (e : H' a = some (.lst (vs.set i w))) (hw : At o' H' n (i :: p) w t) : At o' H' (n + 1) p (.ref a) ((ls ts).set i t : List (Tr n)) := by
  obtain ⟨a', vs', ea, ho', h', l, k⟩ := h
  cases ea
  rw [hv] at h'
  cases h'
  refine ⟨a, _, rfl, ho _ _ ho' cons_not_suffix, e, by show (vs.set i w).length = ((ls ts).set i t).length; rw [List.length_set, List.length_set, l], fun j x u hx hu => ?_⟩
  have hu : ((ls ts).set i t)[j]? = some u := hu
  by_cases q : i = j
  · subst q
    rw [List.getElem?_set_self (by omega)] at hx
    rw [List.getElem?_set_self (by omega)] at hu
    cases hx
    cases hu
    exact hw
  · rw [List.getElem?_set_ne q] at hx hu
    refine (k j x u hx hu).frame fun b r xs hb hs hx => ?_
    have hne : b ≠ a := fun z => by
      subst z
      rw [ho'] at hb
      cases hb
      exact cons_not_suffix hs
    have hni : ¬ (i :: p) <:+ r := fun z => q (cons_ne_suffix z hs)
    exact ⟨hf b r xs hb hne hni hx, ho b r hb hni⟩
theorem At.lst {o : Ow} {H : Hp} {n : Nat} {p : List Nat} {v : V} {ts : Tr (n + 1)} (h : At o H (n + 1) p v ts) : ∃ a vs, v = .ref a ∧ o a = some p ∧ H a = some (.lst vs) ∧ vs.length = (ls ts).length :=
  let ⟨a, vs, e, ho, h, l, _⟩ := h
  ⟨a, vs, e, ho, h, l⟩
theorem At.kid {o : Ow} {H : Hp} {n : Nat} {p : List Nat} {a : Addr} {ts : Tr (n + 1)} {vs : List V} {j : Nat} (h : At o H (n + 1) p (.ref a) ts) (hv : H a = some (.lst vs)) (hj : j < vs.length) : ∃ w t, vs[j]? = some w ∧ (ls ts)[j]? = some t ∧ At o H n (j :: p) w t := by
  obtain ⟨a', vs', ea, ho', h', l, k⟩ := h
  cases ea
  rw [hv] at h'
  cases h'
  have h1 : vs[j]? = some vs[j] := List.getElem?_eq_getElem hj
  have hj' : j < (ls ts).length := by omega
  have h2 : (ls ts)[j]? = some (ls ts)[j] := List.getElem?_eq_getElem hj'
  exact ⟨_, _, h1, h2, k j _ _ h1 h2⟩
theorem AtR.kid {H : Hp} {n : Nat} {a : Addr} {ts : Tr (n + 1)} {vs : List V} {j : Nat} (h : AtR H (n + 1) (.ref a) ts) (hv : H a = some (.lst vs)) (hj : j < vs.length) : ∃ w t, vs[j]? = some w ∧ (ls ts)[j]? = some t ∧ AtR H n w t := by
  obtain ⟨a', vs', ea, h', l, k⟩ := h
  cases ea
  rw [hv] at h'
  cases h'
  have h1 : vs[j]? = some vs[j] := List.getElem?_eq_getElem hj
  have hj' : j < (ls ts).length := by omega
  have h2 : (ls ts)[j]? = some (ls ts)[j] := List.getElem?_eq_getElem hj'
  exact ⟨_, _, h1, h2, k j _ _ h1 h2⟩
theorem AtR.lst {H : Hp} {n : Nat} {v : V} {ts : Tr (n + 1)} (h : AtR H (n + 1) v ts) : ∃ a vs, v = .ref a ∧ H a = some (.lst vs) ∧ vs.length = (ls ts).length :=
  let ⟨a, vs, e, h, l, _⟩ := h
  ⟨a, vs, e, h, l⟩
def New (H H' : Hp) (n : Nat) (w : V) (t : Tr n) : Prop := ∃ o, At o H' n [] w t ∧ ∀ a r, o a = some r → H a = none ∧ H' a ≠ none
def NewL (H H' : Hp) (l : Addr) (n : Nat) (ws : List V) (ts : List (Tr n)) : Prop :=
  ws.length = ts.length ∧ ∃ o : Ow, (∀ (j : Nat) w t, ws[j]? = some w → ts[j]? = some t → At o H' n [j] w t) ∧ ∀ a r, o a = some r → H a = none ∧ H' a ≠ none ∧ a ≠ l ∧ r ≠ []
theorem New.r {H H' : Hp} {n : Nat} {w : V} {t : Tr n} (h : New H H' n w t) : AtR H' n w t := let ⟨_, h, _⟩ := h; h.r
theorem NewL.nil {H H' : Hp} {l : Addr} {n : Nat} : NewL H H' l n [] [] := ⟨rfl, fun _ => none, fun j w t h => (by rw [List.getElem?_nil] at h; cases h), fun a r h => nomatch h⟩
theorem NewL.frame {H H' H'' : Hp} {l : Addr} {n : Nat} {ws : List V} {ts : List (Tr n)} (h : NewL H H' l n ws ts) (f : ∀ a xs, a ≠ l → H a = none → H' a = some (.lst xs) → H'' a = some (.lst xs)) (g : ∀ a, H' a ≠ none → H'' a ≠ none) : NewL H H'' l n ws ts := by
  obtain ⟨e, o, k, d⟩ := h
  exact ⟨e, o, fun j w t hw ht => (k j w t hw ht).frame fun a r xs ho _ hx => ⟨f a xs (d a r ho).2.2.1 (d a r ho).1 hx, ho⟩, fun a r ho => ⟨(d a r ho).1, g a (d a r ho).2.1, (d a r ho).2.2⟩⟩
theorem New.frame {H H' H'' : Hp} {n : Nat} {w : V} {t : Tr n} (h : New H H' n w t) (f : ∀ a xs, H a = none → H' a = some (.lst xs) → H'' a = some (.lst xs)) (g : ∀ a, H' a ≠ none → H'' a ≠ none) : New H H'' n w t := by
  obtain ⟨o, k, d⟩ := h
  exact ⟨o, k.frame fun a r xs ho _ hx => ⟨f a xs (d a r ho).1 hx, ho⟩, fun a r ho => ⟨(d a r ho).1, g a (d a r ho).2⟩⟩
theorem New.same {H H' H'' : Hp} {n : Nat} {w : V} {t : Tr n} (h : New H H' n w t) (s : Same H' H'') : New H H'' n w t := h.frame (fun a xs _ e => s a _ e) fun a e => by
  cases q : H' a with
  | none => exact absurd q e
  | some u => rw [s a u q]; intro z; cases z
theorem New.older {H0 H H' : Hp} {n : Nat} {w : V} {t : Tr n} (h : New H H' n w t) (s : Same H0 H) : New H0 H' n w t := by
  obtain ⟨o, k, d⟩ := h
  exact ⟨o, k, fun a r ho => ⟨s.free (d a r ho).1, (d a r ho).2⟩⟩
theorem New.int {H H' : Hp} {i : Int} : New H H' 0 (.int i) i := ⟨fun _ => none, rfl, fun a r h => nomatch h⟩
theorem NewL.snoc {H H' H'' : Hp} {l : Addr} {n : Nat} {ws : List V} {ts : List (Tr n)} {w : V} {t : Tr n} (h : NewL H H' l n ws ts) (hl : H' l ≠ none) (fr : ∀ a, H' a = none → H a = none) (f : ∀ a xs, a ≠ l → H a = none → H' a = some (.lst xs) → H'' a = some (.lst xs)) (g : ∀ a, H' a ≠ none → H'' a ≠ none)
    (hn : New H' H'' n w t) : NewL H H'' l n (ws ++ [w]) (ts ++ [t]) := by
  obtain ⟨e, o, k, d⟩ := h
  obtain ⟨o2, k2, d2⟩ := hn
  have old : ∀ a r, o a = some r → o2 a = none := fun a r ho => by
    cases q : o2 a with
    | none => rfl
    | some r2 => exact absurd (d2 a r2 q).1 (d a r ho).2.1
  refine ⟨by rw [List.length_append, List.length_append, e]; rfl, fun a => match o2 a with | some r => some (r ++ [ws.length]) | none => o a, fun j x u hx hu => ?_, fun a r hr => ?_⟩
  · rcases Nat.lt_trichotomy j ws.length with q | q | q
    · rw [List.getElem?_append_left q] at hx
      rw [List.getElem?_append_left (by omega)] at hu
      refine (k j x u hx hu).frame fun a r xs ho _ hx => ⟨f a xs (d a r ho).2.2.1 (d a r ho).1 hx, ?_⟩
      show (match o2 a with | some r => some (r ++ [ws.length]) | none => o a) = some r
      rw [old a r ho]
      exact ho
    · subst q
      rw [List.getElem?_append_right (Nat.le_refl _), Nat.sub_self] at hx
      rw [List.getElem?_append_right (by omega), show ws.length - ts.length = 0 by omega] at hu
      cases hx
      cases hu
      refine (k2.under [ws.length]).frame fun a r xs ho _ hx => ⟨hx, ?_⟩
      show (match o2 a with | some r => some (r ++ [ws.length]) | none => o a) = some r
      cases q : o2 a with
      | none => rw [q] at ho; cases ho
      | some r2 => rw [q] at ho; exact ho
    · rw [List.getElem?_append_right (by omega)] at hx
      have : [w].length ≤ j - ws.length := by rw [List.length_singleton]; omega
      rw [List.getElem?_eq_none this] at hx
      cases hx
  · have hr : (match o2 a with | some r => some (r ++ [ws.length]) | none => o a) = some r := hr
    cases q : o2 a with
    | none =>
      rw [q] at hr
      exact ⟨(d a r hr).1, g a (d a r hr).2.1, (d a r hr).2.2⟩
    | some r2 =>
      rw [q] at hr
      cases hr
      refine ⟨fr a (d2 a r2 q).1, (d2 a r2 q).2, fun z => ?_, fun z => ?_⟩
      · subst z
        exact hl (d2 a r2 q).1
      · have := congrArg List.length z
        rw [List.length_append] at this
        simp at this
theorem NewL.done {H H' : Hp} {l : Addr} {n : Nat} {ws : List V} {ts : List (Tr n)} (h : NewL H H' l n ws ts) (hl : H l = none) (e : H' l = some (.lst ws)) : New H H' (n + 1) (.ref l) ts := by
  obtain ⟨el, o, k, d⟩ := h
  have nl : o l = none := by
    cases q : o l with
    | none => rfl
    | some r => exact absurd rfl (d l r q).2.2.1
  refine ⟨fun a => if a = l then some [] else o a, ⟨l, ws, rfl, if_pos rfl, e, el, fun j w t hw ht => (k j w t hw ht).frame fun a r xs ho _ hx => ⟨hx, ?_⟩⟩, fun a r hr => ?_⟩
  · show (if a = l then some [] else o a) = some r
    rw [if_neg (d a r ho).2.2.1]
    exact ho
  · have hr : (if a = l then some [] else o a) = some r := hr
    by_cases q : a = l
    · subst q
      exact ⟨hl, by rw [e]; intro z; cases z⟩
    · rw [if_neg q] at hr
      exact ⟨(d a r hr).1, (d a r hr).2.1⟩
def flat : (n : Nat) → Tr n → List Int
  | 0, i => [i]
  | n + 1, ts => (ls ts).flatMap (flat n)
def full : (n : Nat) → Tr n → Prop
  | 0, _ => True
  | n + 1, ts => ls ts ≠ [] ∧ ∀ t ∈ ls ts, full n t
def asc : (n : Nat) → Tr n → Prop
  | 0, _ => True
  | 1, f => List.Pairwise (α := Int) (· < ·) f
  | n + 2, ts => ∀ t ∈ ls ts, asc (n + 1) t
theorem flat_ints (f : Tr 1) : flat 1 f = (f : List Int) := by
  show List.flatMap (fun i => [i]) (f : List Int) = f
  exact List.flatMap_singleton' f
theorem flat_app (n : Nat) (ts us : List (Tr n)) : flat (n + 1) (ts ++ us : List (Tr n)) = flat (n + 1) ts ++ flat (n + 1) us := List.flatMap_append
theorem flat_set (n : Nat) : ∀ (ts : List (Tr n)) (i : Nat) (t t' : Tr n) (s : Int), ts[i]? = some t → (flat n t').Perm (flat n t ++ [s]) → (flat (n + 1) (ts.set i t' : List (Tr n))).Perm (flat (n + 1) ts ++ [s])
  | x :: r, 0, t, t', s, h, p => by
    cases h
    show (flat n t' ++ r.flatMap (flat n)).Perm ((flat n x ++ r.flatMap (flat n)) ++ [s])
    refine (p.append_right _).trans ?_
    rw [List.append_assoc, List.append_assoc]
    exact List.Perm.append_left _ List.perm_append_comm
  | x :: r, i + 1, t, t', s, h, p => by
    have := flat_set n r i t t' s h p
    show (flat n x ++ (r.set i t').flatMap (flat n)).Perm ((flat n x ++ r.flatMap (flat n)) ++ [s])
    rw [List.append_assoc]
    exact List.Perm.append_left _ this
theorem full_set {n : Nat} {ts : List (Tr n)} {i : Nat} {t : Tr n} (h : full (n + 1) ts) (ht : full n t) : full (n + 1) (ts.set i t : List (Tr n)) := by
  refine ⟨fun z => h.1 (List.length_eq_zero_iff.mp (by have := congrArg List.length z; rw [List.length_set] at this; exact this)), fun x hx => ?_⟩
  rcases List.mem_or_eq_of_mem_set hx with q | q
  · exact h.2 x q
  · rw [q]; exact ht
theorem full_app {n : Nat} {ts : List (Tr n)} {t : Tr n} (h : full (n + 1) ts) (ht : full n t) : full (n + 1) (ts ++ [t] : List (Tr n)) := by
  refine ⟨List.append_ne_nil_of_right_ne_nil _ (List.cons_ne_nil _ _), fun x hx => ?_⟩
  rcases List.mem_append.mp hx with q | q
  · exact h.2 x q
  · rw [List.mem_singleton.mp q]; exact ht
theorem asc_set {n : Nat} {ts : List (Tr (n + 1))} {i : Nat} {t : Tr (n + 1)} (h : asc (n + 2) ts) (ht : asc (n + 1) t) : asc (n + 2) (ts.set i t : List (Tr (n + 1))) := fun x hx => by
  rcases List.mem_or_eq_of_mem_set hx with q | q
  · exact h x q
  · rw [q]; exact ht
theorem asc_app {n : Nat} {ts : List (Tr (n + 1))} {t : Tr (n + 1)} (h : asc (n + 2) ts) (ht : asc (n + 1) t) : asc (n + 2) (ts ++ [t] : List (Tr (n + 1))) := fun x hx => by
  rcases List.mem_append.mp hx with q | q
  · exact h x q
  · rw [List.mem_singleton.mp q]; exact ht
theorem rIsiA.ty {K : PySem.W.Frag} {H : Hp} {x : V} {n c : String} {b : Bool} {Q : VK} (t : TyOf K H x (.type n)) (k : PySem.W.kitOne K (.type n) (.type c) = some b) (q : Q (.bl b) H) : rIsiA K [x, .ty c] H Q := .inl ⟨x, .ty c, _, _, _, rfl, .ty c, t, k, q⟩
theorem AtR.ints {H : Hp} {a : Addr} {ns : List Int} (h : AtR H 1 (.ref a) ns) : H a = some (.lst (ns.map V.int)) := by
  obtain ⟨a', vs, e, hv, l, k⟩ := h
  cases e
  have l : vs.length = ns.length := l
  have k : ∀ (j : Nat) w (t : Int), vs[j]? = some w → ns[j]? = some t → w = .int t := k
  have ev : vs = ns.map V.int := by
    refine List.ext_getElem? fun j => ?_
    rcases Nat.lt_or_ge j vs.length with q | q
    · have hj : j < ns.length := by omega
      have h1 : vs[j]? = some vs[j] := List.getElem?_eq_getElem q
      have h2 : ns[j]? = some ns[j] := List.getElem?_eq_getElem hj
      rw [h1, List.getElem?_map, h2, k j _ _ h1 h2]
      rfl
    · rw [List.getElem?_eq_none q, List.getElem?_eq_none (by rw [List.length_map]; omega)]
  rw [hv, ev]
theorem New.ints {H H' : Hp} {l : Addr} {ns : List Int} (hl : H l = none) (h : H' l = some (.lst (ns.map V.int))) : New H H' 1 (.ref l) ns :=
  ⟨fun a => if a = l then some [] else none, ⟨l, _, rfl, if_pos rfl, h, List.length_map .., fun j w t hw ht => by
    have ht : ns[j]? = some t := ht
    rw [List.getElem?_map, ht] at hw
    cases hw
    rfl⟩, fun a r hr => by
    have hr : (if a = l then some [] else none) = some r := hr
    by_cases q : a = l
    · subst q
      exact ⟨hl, by rw [h]; intro z; cases z⟩
    · rw [if_neg q] at hr
      cases hr⟩
theorem flat_split {n : Nat} {ts : List (Tr n)} {i : Nat} {t : Tr n} (h : ts[i]? = some t) : flat (n + 1) ts = flat (n + 1) (ts.take i : List (Tr n)) ++ (flat n t ++ flat (n + 1) (ts.drop (i + 1) : List (Tr n))) := by
  have e : ts = ts.take i ++ t :: ts.drop (i + 1) := by
    obtain ⟨hi, rfl⟩ := List.getElem?_eq_some_iff.mp h
    rw [List.getElem_cons_drop hi, List.take_append_drop]
  have e2 := congrArg (fun z : List (Tr n) => flat (n + 1) z) e
  refine Eq.trans e2 ?_
  show flat (n + 1) (ts.take i ++ t :: ts.drop (i + 1) : List (Tr n)) = _
  rw [flat_app]
  rfl
theorem flat_take {n : Nat} {ts : List (Tr n)} {i : Nat} {t : Tr n} (h : ts[i]? = some t) : flat (n + 1) (ts.take (i + 1) : List (Tr n)) = flat (n + 1) (ts.take i : List (Tr n)) ++ flat n t := by
  have e : ts.take (i + 1) = ts.take i ++ [t] := by rw [List.take_succ, h]; rfl
  rw [e, flat_app]
  show _ ++ (flat n t ++ []) = _
  rw [List.append_nil]
theorem flat_mem {n : Nat} {ts : List (Tr n)} {t : Tr n} {s : Int} (h : t ∈ ts) (hs : s ∈ flat n t) : s ∈ flat (n + 1) ts := List.mem_flatMap.mpr ⟨t, h, hs⟩
theorem flat_nd {n : Nat} {ts : List (Tr n)} {i : Nat} {t : Tr n} (h : ts[i]? = some t) (nd : (flat (n + 1) ts).Nodup) : (flat n t).Nodup ∧ ∀ s ∈ flat n t, s ∉ flat (n + 1) (ts.take i : List (Tr n)) := by
  rw [flat_split h, List.nodup_append, List.nodup_append] at nd
  exact ⟨nd.2.1.1, fun s hs z => nd.2.2 s z s (List.mem_append_left _ hs) rfl⟩
theorem flat_len {n : Nat} {ts : List (Tr n)} {i : Nat} {t : Tr n} (h : ts[i]? = some t) : (flat (n + 1) (ts.take i : List (Tr n))).length + (flat n t).length ≤ (flat (n + 1) ts).length := by
  rw [flat_split h, List.length_append, List.length_append]
  omega
def Dom (o : Ow) (H : Hp) : Prop := ∀ b r, o b = some r → H b ≠ none
structure Ext (o o' : Ow) (H H1 : Hp) : Prop where
  old : ∀ b, H b ≠ none → o' b = o b
  new : ∀ b r, o' b = some r → H b = none → H1 b ≠ none
def ovr (H : Hp) (o oN : Ow) (q : List Nat) : Ow := fun b => match H b with | none => (oN b).map (· ++ q) | some _ => o b
theorem New.put {o : Ow} {H H1 : Hp} {n : Nat} {w : V} {t : Tr n} (nw : New H H1 n w t) (q : List Nat) : ∃ o', Ext o o' H H1 ∧ ∀ H2, (∀ b xs, H b = none → H1 b = some (.lst xs) → H2 b = some (.lst xs)) → At o' H2 n q w t := by
  obtain ⟨oN, k, d⟩ := nw
  refine ⟨ovr H o oN q, ⟨fun b hb => ?_, fun b r hr hb => ?_⟩, fun H2 f => ?_⟩
  · unfold ovr
    cases e : H b with
    | none => exact absurd e hb
    | some u => rfl
  · unfold ovr at hr
    rw [hb] at hr
    cases e : oN b with
    | none =>
      have hr : (oN b).map (· ++ q) = some r := hr
      rw [e] at hr
      cases hr
    | some r' => exact (d b r' e).2
  · refine (k.under q).frame fun b r xs hr _ hx => ?_
    have hr : (oN b).map (· ++ q) = some r := hr
    cases e : oN b with
    | none => rw [e] at hr; cases hr
    | some r' =>
      refine ⟨f b xs (d b r' e).1 hx, ?_⟩
      unfold ovr
      rw [(d b r' e).1]
      exact hr
theorem Ext.dom {o o' : Ow} {H H1 : Hp} (x : Ext o o' H H1) (d : Dom o H) : ∀ b r, o b = some r → o' b = some r := fun b r h => by rw [x.old b (d b r h)]; exact h
theorem some_ne {α : Type} {o : Option α} {x : α} (h : o = some x) : o ≠ none := by rw [h]; intro z; cases z
theorem At.appN {o : Ow} {H H1 : Hp} {n : Nat} {p : List Nat} {a : Addr} {ts : Tr (n + 1)} {vs : List V} {w : V} {t : Tr n} (h : At o H (n + 1) p (.ref a) ts) (dm : Dom o H) (hv : H a = some (.lst vs)) (s : Same H H1) (nw : New H H1 n w t) :
    ∃ o', Ext o o' H H1 ∧ At o' (upd H1 a (.lst (vs ++ [w]))) (n + 1) p (.ref a) (ls ts ++ [t] : List (Tr n)) := by
  obtain ⟨o', x, k⟩ := nw.put (o := o) ((ls ts).length :: p)
  refine ⟨o', x, h.app hv (fun b r xs hb nb hx => by rw [upd_ne nb]; exact s b _ hx) (x.dom dm) upd_same (k _ fun b xs hb hx => ?_)⟩
  rw [upd_ne (fun z => by rw [z, hv] at hb; cases hb)]
  exact hx
theorem At.setN {o : Ow} {H H1 : Hp} {n : Nat} {p : List Nat} {a : Addr} {ts : Tr (n + 1)} {vs : List V} {i : Nat} {w : V} {t : Tr n} (h : At o H (n + 1) p (.ref a) ts) (dm : Dom o H) (hv : H a = some (.lst vs)) (hi : i < vs.length) (s : Same H H1) (nw : New H H1 n w t) :
    ∃ o', Ext o o' H H1 ∧ At o' (upd H1 a (.lst (vs.set i w))) (n + 1) p (.ref a) ((ls ts).set i t : List (Tr n)) := by
  obtain ⟨o', x, k⟩ := nw.put (o := o) (i :: p)
  refine ⟨o', x, h.put hv hi (fun b r xs hb nb _ hx => by rw [upd_ne nb]; exact s b _ hx) (fun b r hb _ => x.dom dm b r hb) upd_same (k _ fun b xs hb hx => ?_)⟩
  rw [upd_ne (fun z => by rw [z, hv] at hb; cases hb)]
  exact hx
theorem At.up {o o' : Ow} {H H1 : Hp} {n : Nat} {p pc : List Nat} {a c : Addr} {ts : Tr (n + 1)} {vs ys : List V} {i : Nat} {w : V} {t : Tr n} (h : At o H (n + 1) p (.ref a) ts) (dm : Dom o H) (hv : H a = some (.lst vs)) (hw : vs[i]? = some w) (s : Same H H1) (x : Ext o o' H H1)
    (hc : o c = some pc) (hp : (i :: p) <:+ pc) (k : At o' (upd H1 c (.lst ys)) n (i :: p) w t) : At o' (upd H1 c (.lst ys)) (n + 1) p (.ref a) ((ls ts).set i t : List (Tr n)) := by
  have hi : i < vs.length := (List.getElem?_eq_some_iff.mp hw).1
  have oa : o a = some p := by
    obtain ⟨a', _, e, oa, _⟩ := h
    cases e
    exact oa
  have nac : a ≠ c := fun z => by
    rw [z, hc] at oa
    cases oa
    exact cons_not_suffix hp
  have es : vs.set i w = vs := by
    obtain ⟨hi, rfl⟩ := List.getElem?_eq_some_iff.mp hw
    exact List.set_getElem_self hi
  refine h.put hv hi (fun b r xs hb _ hs hx => ?_) (fun b r hb _ => x.dom dm b r hb) (by rw [upd_ne nac, es]; exact s a _ hv) k
  rw [upd_ne (fun z => by rw [z, hc] at hb; cases hb; exact hs hp)]
  exact s b _ hx
theorem Ext.after {o o' : Ow} {H H1 : Hp} {c : Addr} {u : HO} (x : Ext o o' H H1) (dm : Dom o H) (s : Same H H1) : Dom o' (upd H1 c u) := fun b r hr => by
  by_cases q : b = c
  · rw [q, upd_same]; intro z; cases z
  · rw [upd_ne q]
    cases e : H b with
    | none => exact x.new b r hr e
    | some v => rw [s b v e]; intro z; cases z
end L2
namespace L2
open PySem PySem.Spec PyProof.Rows
end L2
namespace L2
open PySem PySem.Spec PyProof.Rows
end L2
namespace L2
open PySem PySem.Spec PyProof.Rows
structure IAsk (K : PySem.W.Frag) (C : Addr) : Prop where
  ha : PySem.W.findIn K (.ref C) "__class__" = some (some (.builtin "object.__class__"))
  hn : PySem.W.specialIn K (.builtin "object.__class__") "__get__" = some (some (.builtin "getset_descriptor.__get__"))
  htk : PySem.W.takesIn K (.builtin "object.__class__") = some true
  hm : PySem.W.mroIn K C (.type "object") = some true
theorem rIsiA.ins {K : PySem.W.Frag} {H : Hp} {a C D dx : Addr} {fs : List (Str × V)} {b : Bool} {Q : VK} (h : H a = some (.ins C dx fs)) (cl : Cls K C) (q : IAsk K C) (k : PySem.W.kitOne K (.ref C) (.ref D) = some b) (hQ : Q (.bl b) H) : rIsiA K [.ref a, .ref D] H Q :=
  .inl ⟨.ref a, .ref D, _, _, _, rfl, .own D, .ins h cl q.ha q.hn q.htk q.hm, k, hQ⟩
end L2
namespace L2
open PySem PySem.Spec PyProof.Rows
section
variable {X : Cx}
end
structure Pk {n : Nat} (ws : List V) (ts : List (Tr n)) (i : Nat) (idx : List Nat) (acc : List V) (us : List (Tr n)) : Prop where
  la : acc.length = idx.length
  lu : us.length = idx.length
  lt : ∀ k ∈ idx, k < i
  nd : idx.Nodup
  at_ : ∀ j k : Nat, idx[j]? = some k → acc[j]? = ws[k]? ∧ us[j]? = ts[k]?
theorem Pk.nil {n : Nat} {ws : List V} {ts : List (Tr n)} : Pk ws ts 0 [] [] [] := ⟨rfl, rfl, fun _ h => (nomatch h), List.nodup_nil, fun _ _ h => (by rw [List.getElem?_nil] at h; cases h)⟩
theorem Pk.drop {n : Nat} {ws : List V} {ts : List (Tr n)} {i : Nat} {idx : List Nat} {acc : List V} {us : List (Tr n)} (h : Pk ws ts i idx acc us) : Pk ws ts (i + 1) idx acc us :=
  ⟨h.la, h.lu, fun k hk => Nat.lt_succ_of_lt (h.lt k hk), h.nd, h.at_⟩
theorem Pk.keep {n : Nat} {ws : List V} {ts : List (Tr n)} {i : Nat} {idx : List Nat} {acc : List V} {us : List (Tr n)} {w : V} {t : Tr n} (h : Pk ws ts i idx acc us) (hw : ws[i]? = some w) (ht : ts[i]? = some t) : Pk ws ts (i + 1) (idx ++ [i]) (acc ++ [w]) (us ++ [t]) := by
  refine ⟨by rw [List.length_append, List.length_append, h.la]; rfl, by rw [List.length_append, List.length_append, h.lu]; rfl, fun k hk => ?_, ?_, fun j k hk => ?_⟩
  · rcases List.mem_append.mp hk with q | q
    · exact Nat.lt_succ_of_lt (h.lt k q)
    · rw [List.mem_singleton.mp q]; exact Nat.lt_succ_self i
  · rw [List.nodup_append]
    exact ⟨h.nd, List.nodup_cons.mpr ⟨List.not_mem_nil, List.nodup_nil⟩, fun x hx y hy e => by rw [e, List.mem_singleton.mp hy] at hx; exact Nat.lt_irrefl _ (h.lt _ hx)⟩
  · by_cases q : j < idx.length
    · rw [List.getElem?_append_left q] at hk
      rw [List.getElem?_append_left (by rw [h.la]; exact q), List.getElem?_append_left (by rw [h.lu]; exact q)]
      exact h.at_ j k hk
    · rw [List.getElem?_append_right (by omega)] at hk
      obtain ⟨h1, e1⟩ := List.getElem?_eq_some_iff.mp hk
      have j0 : j - idx.length = 0 := by simpa using h1
      rw [j0] at hk
      cases (Option.some.inj hk : i = k)
      rw [List.getElem?_append_right (by rw [h.la]; omega), List.getElem?_append_right (by rw [h.lu]; omega), h.la, h.lu, j0]
      exact ⟨hw.symm, ht.symm⟩
end L2
namespace L2
open PySem PySem.Spec PyProof.Rows
end L2
namespace L2
open PySem PySem.Spec PyProof.Rows
section
variable {X : Cx} {pins : List (Addr × Obj)} {σ : St} {H : Hp} {s : Shared}
end
section
variable {X : Cx} {pins : List (Addr × Obj)} {σ : St} {H : Hp} {s : Shared} {d : Addr} {u0 u1 : HO}
end
end L2
namespace L2
open PySem PySem.Spec PyProof.Rows
section
variable {X : Cx} {CX : CXT} {k : Nat} {f C : Addr} {fd : FuncData} {ps : List Str} {sp : Sp} {dvs : List V} {ds : List Value} {Ez : St → XK} {x m : Str} {p pos apos : Pos} {e o : Expr} {es : List Expr} {ta : TE} {t : TA}
end
end L2
namespace L2
open PySem PySem.Spec PyProof.Rows
end L2
namespace L2
open PySem PySem.Spec PyProof.Rows
section
variable {prog : Program} {w : World} {A : Around} {E : Value → Shared → Prop} {s : Shared} {T : String} {r d : Addr} {n : Nat} {P : Nat → Value → Prop} {OK : Heap → Prop}
end
section
variable {X : Cx}
end
section
variable {X : Cx}
end
end L2
namespace L2
open PySem PySem.Spec PyProof.Rows
theorem dict_anyW {P P' : Program} {w w' : World} {h : Heap} {a : Addr} {vs : List (Key × Value)} (d : h.DictOf (mixKind P w) a vs) (hi : ∀ p ∈ vs, ∃ n : Int, p.1 = Sum.inl n) : h.DictOf (mixKind P' w') a vs := by
  obtain ⟨o, es, ep, g, c, hd, hk, hp, hn⟩ := d
  have pp : ∀ {el : List DictEntry} {vl : List (Key × Value)}, Pairs (mixKind P w) el vl → (∀ p ∈ vl, ∃ n : Int, p.1 = Sum.inl n) → Pairs (mixKind P' w') el vl ∧ ∀ e ∈ el, ∃ n : Int, keyIs (Sum.inl n) e.key = true := by
    intro el vl h
    induction h with
    | nil => intro _; exact ⟨.nil, fun _ h => nomatch h⟩
    | @cons e kv es kvs h1 h2 _ ih =>
      intro hi
      obtain ⟨i1, i2⟩ := ih fun p hp => hi p (List.mem_cons_of_mem _ hp)
      refine ⟨.cons h1 h2 i1, fun x hx => ?_⟩
      rcases List.mem_cons.mp hx with q | q
      · obtain ⟨n, hn⟩ := hi kv (List.mem_cons_self ..)
        rw [q]
        exact ⟨n, by rw [← hn]; exact h1⟩
      · exact i2 x q
  obtain ⟨p1, p2⟩ := pp hp hi
  refine ⟨o, es, ep, g, c, hd, fun e he => ?_, p1, hn⟩
  obtain ⟨k, k1, k2⟩ := hk e he
  obtain ⟨n, hn'⟩ := p2 e (by simpa using he)
  have e1 : k = Sum.inl n := (mixKind P w).inj e.key k (Sum.inl n) k1 hn'
  subst e1
  exact ⟨_, k1, k2⟩
theorem kv_ints {ka : List (Key × V)} {va : List (Key × Value)} (r : KV ka va) (hi : ∀ p ∈ ka, ∃ n : Int, p.1 = Sum.inl n) : ∀ p ∈ va, ∃ n : Int, p.1 = Sum.inl n := by
  unfold KV at r
  induction r with
  | nil => exact fun _ h => nomatch h
  | @cons p q ps qs h t ih =>
    intro x hx
    rcases List.mem_cons.mp hx with e | e
    · obtain ⟨n, hn⟩ := hi p (List.mem_cons_self ..)
      rw [e, ← h.1]
      exact ⟨n, hn⟩
    · exact ih (fun p hp => hi p (List.mem_cons_of_mem _ hp)) x e
def DEq (K : PySem.W.Frag) (H : Hp) (n : Nat) (u v : V) : Prop := ∃ a b ka kb, u = .ref a ∧ v = .ref b ∧ Rd H a (.dK ka) ∧ Rd H b (.dK kb) ∧ ka.length = kb.length ∧ (∀ p ∈ ka, ∃ y, valV kb p.1 = some y ∧ EqD K H n p.2 y true) ∧ (∀ p ∈ ka, ∃ m : Int, p.1 = Sum.inl m) ∧ ∀ p ∈ kb, ∃ m : Int, p.1 = Sum.inl m
section
variable {X : Cx} {pins : List (Addr × Obj)} {σ : St} {H : Hp} {s : Shared}
theorem hits_at (I : Inv X pins σ H s) {A : Around} {n : Nat} {kb : List (Key × V)} {vb : List (Key × Value)} (rb : KV kb vb) (hu : A.units + n < cLine) : ∀ {ka : List (Key × V)} {va : List (Key × Value)}, KV ka va →
    (∀ p ∈ ka, ∃ y, valV kb p.1 = some y ∧ EqD X.K H n p.2 y true) → PySem.W.KeqHits A s vb va true := by
  intro ka va r
  unfold KV at r
  induction r with
  | nil => intro _; exact .nil
  | @cons p q ps qs h t ih =>
    intro hall
    obtain ⟨y, hy, he⟩ := hall p (List.mem_cons_self ..)
    obtain ⟨w, hw, rw'⟩ := RelO.some_of (v := y) (o := valueAt vb q.1) (by rw [← hy, h.1]; exact rb.val q.1)
    obtain ⟨q1, q2⟩ := q
    exact PySem.W.KeqHits.hit (e := true) (b := true) hw (EqD.at I n A p.2 y true q2 w hu he h.2 rw') (ih fun p' hp' => hall p' (List.mem_cons_of_mem _ hp'))
theorem DEq.at (I : Inv X pins σ H s) {A : Around} {n : Nat} {x y : V} {u v : Value} (hu : A.units + 1 + n < cLine) (h : DEq X.K H n x y) (rx : RelV x u) (ry : RelV y v) : SeqAt.EqAt A s u v true := by
  obtain ⟨a, b, ka, kb, rfl, rfl, ha, hb, hl, hall, ia, ib⟩ := h
  cases rx
  cases ry
  obtain ⟨za, da, va, ra, oa⟩ := dk_rd I.hok ha
  obtain ⟨zb, db, vb, rb, ob⟩ := dk_rd I.hok hb
  by_cases hab : a = b
  · subst hab
    exact SeqAt.EqAt.same _
  · refine SeqAt.EqAt.of_refs hab fun prog w E Q hq => ?_
    have oa' := dict_anyW (P' := prog) (w' := w) oa (kv_ints ra ia)
    have ob' := dict_anyW (P' := prog) (w' := w) ob (kv_ints rb ib)
    refine PySem.W.keq_eq da db oa' ob' (by omega) (fun _ => hits_at (A := A.in1) I rb (by show A.units + 1 + n < cLine; exact hu) ra hall) ?_
    rw [← ra.length, ← rb.length, hl, beq_self_eq_true, Bool.true_and]
    exact hq
end
end L2
namespace L2
open PySem PySem.Spec PyProof.Rows
end L2
namespace L2
open PySem PySem.Spec PyProof.Rows
structure RoomH (k : Nat) (A : Around) : Prop where
  dp : A.depth + 3 * k + 5 < recursionLimit
  un : A.units + 16 * k + 200 < cLine
theorem RoomH.mono {j k : Nat} {A : Around} (r : RoomH k A) (h : j ≤ k) : RoomH j A := ⟨by have := r.dp; omega, by have := r.un; omega⟩
theorem RoomH.deeper {k : Nat} {A : Around} (r : RoomH (k + 1) A) (env : Env) : RoomH k (A.deeper env) :=
  ⟨by have := r.dp; show A.depth + 1 + 3 * k + 5 < _; omega, by have := r.un; show A.units + 3 + 16 * k + 200 < _; omega⟩
theorem RoomH.depth {k : Nat} {A : Around} (r : RoomH k A) : A.depth < recursionLimit := by have := r.dp; omega
section
variable {X : Cx} {CX : CXT} {k : Nat} {f C : Addr} {fd : FuncData} {ps : List Str} {sp : Sp} {dvs : List V} {ds : List Value} {E : XK} {x m : Str} {p pos apos : Pos} {e o : Expr} {es : List Expr} {ta : TE} {t : TA}
end
section
variable {P : Program} {w : World} {K : PySem.W.Frag} {mg : Str → Option Value} {base : Heap}
end
end L2
namespace L2
open PySem PySem.Spec PyProof.Rows
section
variable {prog : Program} {w : World} {A : Around} {E : Value → Shared → Prop} {s : Shared}
end
section
variable {prog : Program} {w : World} {A : Around} {E : Value → Shared → Prop} {s : Shared}
end
section
variable {X : Cx}
def OptT (H : Hp) (v : V) (nm : Option (List Str)) : Prop := match nm with | none => v = .non | some z => ∃ t, v = .ref t ∧ H t = some (.tup (z.map V.str))
end
theorem eqL_txt : ∀ (a b : List Str), eqL (a.map V.str) (b.map V.str) = decide (a = b)
  | [], [] => rfl
  | [], _ :: _ => rfl
  | _ :: _, [] => rfl
  | x :: a, y :: b => by
    show (eqV (.str x) (.str y) && eqL (a.map V.str) (b.map V.str)) = _
    rw [eqL_txt a b]
    by_cases h : x = y
    · subst h
      rw [eqV_self rfl, Bool.true_and]
      by_cases q : a = b
      · rw [decide_eq_true q, decide_eq_true (by rw [q])]
      · rw [decide_eq_false q, decide_eq_false (fun z => q (List.cons.inj z).2)]
    · have e : eqV (.str x) (.str y) = false := by
        simp [eqV]
        exact h
      rw [e, decide_eq_false (fun z => h (List.cons.inj z).1)]
      rfl
theorem flat_txt (zs : List Str) : (zs.map V.str).all flatV = true := by
  rw [List.all_eq_true]
  intro x hx
  obtain ⟨z, _, rfl⟩ := List.mem_map.mp hx
  rfl
theorem tup_txt {K : PySem.W.Frag} {H : Hp} {n : Nat} {t u : Addr} {a b : List Str} (h1 : H t = some (.tup (a.map V.str))) (h2 : H u = some (.tup (b.map V.str))) : SeqEq K H (EqD K H n) (.ref t) (.ref u) (decide (a = b)) := by
  by_cases hl : a.length = b.length
  · have h := SeqEq.flatT (K := K) (H := H) (n := n) (SqT.of h1) (SqT.of h2) (by rw [List.length_map, List.length_map, hl]) (flat_txt a) (flat_txt b)
    rw [eqL_txt] at h
    exact h
  · have h := SeqEq.tup (K := K) (H := H) (R := EqD K H n) (e := fun i => eqV ((a.map V.str).getD i .non) ((b.map V.str).getD i .non)) (SqT.of h1) (SqT.of h2) fun i x y hx hy => ?_
    · have e1 : ((a.map V.str).length == (b.map V.str).length) = false := by
        rw [List.length_map, List.length_map]
        exact beq_eq_false_iff_ne.mpr hl
      rw [e1, Bool.and_false] at h
      rw [decide_eq_false (fun z => hl (by rw [z]))]
      exact h
    · have q : flatV x = true ∧ flatV y = true ∧ eqV ((a.map V.str).getD i .non) ((b.map V.str).getD i .non) = eqV x y := by
        refine ⟨List.all_eq_true.mp (flat_txt a) x (List.mem_of_getElem? hx), List.all_eq_true.mp (flat_txt b) y (List.mem_of_getElem? hy), ?_⟩
        rw [List.getD_eq_getElem?_getD, List.getD_eq_getElem?_getD, hx, hy]
        rfl
      cases n with
      | zero => exact .inl q
      | succ n => exact .inl (.inl q)
theorem OptT.eqd {K : PySem.W.Frag} {H : Hp} {x y : V} {a : Option (List Str)} (h1 : OptT H x a) (h2 : OptT H y a) (n : Nat) : EqD K H (n + 1) x y true := by
  cases a with
  | none =>
    obtain rfl : x = .non := h1
    obtain rfl : y = .non := h2
    exact .inl (.inl ⟨rfl, rfl, rfl⟩)
  | some z =>
    obtain ⟨t, rfl, ht⟩ := h1
    obtain ⟨u, rfl, hu⟩ := h2
    have h := tup_txt (K := K) (n := n) ht hu
    rw [decide_eq_true rfl] at h
    exact .inr h
end L2
namespace L2
open PySem PySem.Spec PyProof.Rows
theorem AtR.eqd {K : PySem.W.Frag} {H : Hp} : ∀ {n : Nat} {v w : V} {t : Tr n}, AtR H n v t → AtR H n w t → EqD K H n v w true
  | 0, v, w, t, h1, h2 => by
    have e1 : v = .int t := h1
    have e2 : w = .int t := h2
    subst e1 e2
    exact .inl ⟨rfl, rfl, (eqV_self (x := V.int t) rfl).symm⟩
  | n + 1, v, w, t, h1, h2 => by
    obtain ⟨a, vs, rfl, hA, la⟩ := h1.lst
    obtain ⟨b, ws, rfl, hB, lb⟩ := h2.lst
    have h := SeqEq.list (K := K) (R := EqD K H n) (e := fun _ => true) (SqL.of hA) (SqL.of hB) (by omega) fun i x y hx hy => by
      obtain ⟨x', t1, e1, e2, k1⟩ := h1.kid hA (List.getElem?_eq_some_iff.mp hx).1
      obtain ⟨y', t2, e3, e4, k2⟩ := h2.kid hB (List.getElem?_eq_some_iff.mp hy).1
      rw [hx] at e1; cases e1
      rw [hy] at e3; cases e3
      rw [e2] at e4; cases e4
      exact AtR.eqd k1 k2
    rw [all_range fun i _ => rfl] at h
    exact .inr h
theorem AtR.seq {K : PySem.W.Frag} {H : Hp} {n : Nat} {v w : V} {t : Tr (n + 1)} (h1 : AtR H (n + 1) v t) (h2 : AtR H (n + 1) w t) : SeqEq K H (EqD K H n) v w true := by
  rcases AtR.eqd (K := K) h1 h2 with (⟨e, _, _⟩ | ⟨a, e1, e2, _⟩) | h
  · obtain ⟨a, vs, rfl, _⟩ := h1.lst
    exact absurd e (by intro z; cases z)
  · subst e1 e2
    obtain ⟨_, vs, e, hA, la⟩ := h1.lst
    cases e
    have h := SeqEq.list (K := K) (R := EqD K H n) (e := fun _ => true) (SqL.of hA) (SqL.of hA) rfl fun i x y hx hy => by
      obtain ⟨x', t1, e1, e2, k1⟩ := h1.kid hA (List.getElem?_eq_some_iff.mp hx).1
      rw [hx] at hy; cases hy
      rw [hx] at e1; cases e1
      exact AtR.eqd k1 k1
    rw [all_range fun i _ => rfl] at h
    exact h
  · exact h
end L2
namespace L2
open PySem PySem.Spec PyProof.Rows PySem.W
section
variable {prog : Program} {w : World} {A : Around} {E : Value → Shared → Prop} {h : Heap} {g : Array GenState} {d : Drawn} {t : Nat} {os : OsState}
variable {nm q : Str} {C N : Addr} {bs bm : List Value} {hdct : Bool} {sn : List Str} {sub : List Value} {ab : Bool} {col : Option Bool} {dd : Option Addr} {k0 k1 k2 k3 k5 : Option Value} {K : Frag}
end
structure XCli (K : Frag) (C f : Addr) : Prop where
  ex : ∃ nm q N bs bm hdct sn sub ab col dd k0 k1 k2 k3 k5 es, K.lookup C = some (excClassObj nm q C N bs bm hdct sn sub ab col dd k0 k1 k2 k3 k5 "ValueError.__new__") ∧ NsK K N es ∧ nsFind es "__init__" = some (.ref f) ∧ TailK K bm
  fn : typeIn K (.ref f) = some (.type "function")
  kp : keepIn K (.ref C) = true
def exF (C : Value) (dd : Option Addr) (e : Addr) : HO := .ext fun h => ∃ oe vs, h.get? e = some oe ∧ oe.cls = C ∧ oe.dict = dd ∧ oe.data = .fields vs ∧ vs[1]? = some .none ∧ 0 < vs.size
section
variable {X : Cx} {k : Nat} {f C : Addr} {fd : FuncData} {ps : List Str} {sp : Sp} {x : Str} {p pos : Pos} {e : Expr} {es : List Expr} {t : TA} {na : Nat} {g : List Value → List Value → List Value} {gV : List V → List V → List V}
end
section
variable {M : Model} {A : Around} {E : Value → Shared → Prop} {s : Shared} {env : Env}
variable {nm q : Str} {C N : Addr} {bs bm : List Value} {hdct : Bool} {sn : List Str} {sub : List Value} {ab : Bool} {col : Option Bool} {dd : Option Addr} {k0 k1 k2 k3 k5 : Option Value} {newId : String}
end
section
variable {P : Program} {w : World} {K : PySem.W.Frag} {mg : Str → Option Value} {base : Heap} {N : List Str} {qual : Str} {scope : Scope} {f : Addr} {cd : Value} {A : Around} {outer : List Env} {s₀ : Shared} {H₀ : Hp} {E : XK}
end
section
variable {X : Cx} {k : Nat} {f C : Addr} {fd : FuncData} {ps : List Str} {sp : Sp} {x : Str} {np cpos pos : Pos} {e₀ : Expr} {rest : List Expr} {t : TA} {na : Nat} {g : List Value → List Value → List Value} {gV : List V → List V → List V} {E : XK}
end
theorem vals2X {x y : V} {us : List Value} (r : Vals [x, y] us) : ∃ u v, us = [u, v] ∧ RelV x u ∧ RelV y v := by
  cases r with
  | cons a r => cases r with
    | cons b r => cases r; exact ⟨_, _, rfl, a, b⟩
section
variable {X : Cx} {B : Addr} {x : Str} {p apos pos : Pos} {a b : Expr} {t : TA}
end
end L2
namespace L2
open PySem PySem.Spec PyProof.Rows PySem.W
section
variable {prog : Program} {w : World} {A : Around} {E : Value → Shared → Prop} {s : Shared} {K : Frag} {e C : Addr} {oe : Obj} {od : Option Obj}
end
def XD (H : Hp) (e C dx : Addr) (fs : List (Str × V)) : Prop := (H e = some (exF (.ref C) (some dx) e) ∨ H e = some (exO (.ref C) (some dx) e)) ∧ H dx = some (.xd fs)
section
variable {X : Cx}
def rIsiD (K : Frag) : List V → Hp → VK → Prop := fun xs H Q => ∃ e c cv C dx fs b, xs = [.ref e, c] ∧ ClsV c cv ∧ XD H e C dx fs ∧ XAsk K C ∧ kitOne K (.ref C) cv = some b ∧ Q (.bl b) H
def rIsiE (K : Frag) : List V → Hp → VK → Prop := fun xs H Q => rIsiA K xs H Q ∨ rIsiD K xs H Q
end
section
variable {prog : Program} {w : World} {A : Around} {E : Value → Shared → Prop} {K : Frag} {e C fI : Addr} {oe : Obj} {name : Str} {v : Value} {h : Heap} {g : Array GenState} {d : Drawn} {t : Nat} {os : OsState}
end
section
variable {X : Cx} {o value : Expr} {f : Str} {ta tv : TE} {pos pos' : Pos}
end
theorem XCli.mk2 {K : Frag} {C N A f : Addr} {nm q : Str} {bs : List Value} {hdct : Bool} {sn : List Str} {sub : List Value} {ab : Bool} {col : Option Bool} {dd : Option Addr} {k0 k1 k2 k3 k5 : Option Value} {es : Array DictEntry} {c d ep sl}
    {c0 : Value} {dd' : Option Addr} {cd : ClassData} {sl0 : Array (Option Value)} {es' : Array DictEntry} {c' d' ep' sl'}
    (l : K.lookup C = some (excClassObj nm q C N bs (.ref A :: vmro) hdct sn sub ab col dd k0 k1 k2 k3 k5 "ValueError.__new__")) (ln : K.lookup N = some ⟨c, d, .dict es ep, sl⟩) (sk : strKeysB es = true) (ni : nsFind es "__init__" = some (.ref f))
    (la : K.lookup A = some { cls := c0, dict := dd', data := .cls cd, slots := sl0 }) (lna : K.lookup cd.ns = some ⟨c', d', .dict es' ep', sl'⟩) (ska : strKeysB es' = true) (nia : nsFind es' "__init__" = none)
    (fn : isFn K (.ref f) = true) (kp : keepIn K (.ref C) = true) : XCli K C f :=
  ⟨⟨_, _, _, _, _, _, _, _, _, _, _, _, _, _, _, _, _, l, ⟨_, _, _, _, ln, strKeys_of sk⟩, ni, .own la ⟨_, _, _, _, lna, strKeys_of ska⟩ nia .base⟩, beq_iff_eq.mp fn, kp⟩
theorem rIsiE.xd {K : Frag} {H : Hp} {e C c dx : Addr} {fs : List (Str × V)} {b : Bool} {Q : VK} (h : XD H e C dx fs) (q : XAsk K C) (k : kitOne K (.ref C) (.ref c) = some b) (hQ : Q (.bl b) H) : rIsiE K [.ref e, .ref c] H Q :=
  .inr ⟨e, .ref c, _, C, dx, fs, b, rfl, .own c, h, q, k, hQ⟩
theorem XD.same {H H' : Hp} {e C dx : Addr} {fs : List (Str × V)} (h : XD H e C dx fs) (s : Same H H') : XD H' e C dx fs := ⟨h.1.imp (s _ _) (s _ _), s _ _ h.2⟩
def XE (H : Hp) (e C : Addr) : Prop := H e = some (exO (.ref C) none e) ∨ ∃ dx fs, XD H e C dx fs
theorem XE.same {H H' : Hp} {e C : Addr} (h : XE H e C) (s : Same H H') : XE H' e C := h.imp (s _ _) fun ⟨dx, fs, x⟩ => ⟨dx, fs, x.same s⟩
theorem rIsiE.xe {K : Frag} {H : Hp} {e C c : Addr} {b : Bool} {Q : VK} (h : XE H e C) (q : XAsk K C) (k : kitOne K (.ref C) (.ref c) = some b) (hQ : Q (.bl b) H) : rIsiE K [.ref e, .ref c] H Q := by
  rcases h with h | ⟨dx, fs, h⟩
  · exact .inl (rIsiA.exc h q k hQ)
  · exact .xd h q k hQ
end L2
namespace L2
open PySem PySem.Spec PyProof.Rows
section
variable {prog : Program} {w : World} {A : Around} {E : Value → Shared → Prop} {s : Shared}
def IsPairKey (prog : Program) (w : World) (h : Heap) (k : Key × List Key) (a : Addr) : Prop := ∃ o n u b, h.get? a = some o ∧ o.cls = .type "tuple" ∧ o.data = .seq #[u, .ref b] n ∧ (mixKind prog w).is k.1 u = true ∧ IsTupleKey (mixKind prog w) h k.2 b
theorem IsPairKey.typeIs {k : Key × List Key} {a : Addr} (x : IsPairKey prog w s.heap k a) : s.TypeIs (.ref a) "tuple" := let ⟨o, _, _, _, ho, hc, _⟩ := x; ⟨o, ho, hc⟩
theorem IsPairKey.inj {h : Heap} {a : Addr} {x y : Key × List Key} (hx : IsPairKey prog w h x a) (hy : IsPairKey prog w h y a) : x = y := by
  obtain ⟨o, n, u, b, ho, _, hd, h1, h2⟩ := hx
  obtain ⟨o', n', u', b', ho', _, hd', h1', h2'⟩ := hy
  obtain rfl : o = o' := Option.some.inj (ho.symm.trans ho')
  rw [hd] at hd'
  injection hd' with e _
  have e1 : [u, Value.ref b] = [u', Value.ref b'] := by simpa using congrArg Array.toList e
  injection e1 with e2 e3
  injection e3 with e4 _
  injection e4 with e5
  subst e2 e5
  obtain ⟨x1, x2⟩ := x
  obtain ⟨y1, y2⟩ := y
  exact Prod.ext ((mixKind prog w).inj _ _ _ h1 h1') (h2.inj h2')
theorem IsPairKey.keeps {h h' : Heap} {k : Key × List Key} {a d : Addr} {o : Obj} {es ep} (x : IsPairKey prog w h k a) (ho : h.get? d = some o) (hd : o.data = .dict es ep) (hs : Heap.SameBut d h h') : IsPairKey prog w h' k a := by
  obtain ⟨o', n, u, b, ho', hc, hd', h1, h2⟩ := x
  have hne : a ≠ d := by
    rintro rfl
    obtain rfl : o' = o := Option.some.inj (ho'.symm.trans ho)
    rw [hd] at hd'; exact nomatch hd'
  exact ⟨o', n, u, b, (hs.2 a hne).trans ho', hc, hd', h1, h2.keeps ho hd hs⟩
def pairHash (prog : Program) (w : World) (k : Key × List Key) : Int := reduceHash (Builtin.Tuple.tupleHashOf [(mixKind prog w).hash k.1, tupleKeyHash (mixKind prog w) k.2])
theorem pair_hash {k : Key × List Key} {a : Addr} {Q : Int → Shared → Prop} (hu : A.units + 4 < cLine) (hk : IsPairKey prog w s.heap k a) (h : Q (pairHash prog w k) { s with toks := s.toks + (1 + (k.2.length + 1) + 1) }) :
    wpAny (model prog w) A (pyHash (.ref a)) Q E s := by
  have hT := hk.typeIs
  obtain ⟨o, n, u, b, ho, _, hd, h1, h2⟩ := hk
  unfold pyHash
  first | unfold pyHashByItsType | skip
  first | refine wpAny_bind (wpAny_cRoomFor_or (.inr (by omega)) ?_) | skip
  refine wpAny_bind (wpAny_specialOf hT F.slot_tuple_hash.lookup ?_)
  show wpAny _ _ (if (some (Value.builtin "tuple.__hash__") == some Value.none) = true then _ else _) Q E s
  rw [if_neg (by rw [beq_builtin_none]; exact Bool.false_ne_true)]
  refine wpAny_bind (wpAny_specialOf hT F.slot_tuple_hash.lookup ?_)
  show wpAny _ _ (callSpecialIfBoundUnlessNone? (.ref a) "__hash__" _ >>= _) Q E s
  refine wpAny_bind (wpAny_callSpecialIfBoundUnlessNone?_slot hT F.slot_tuple_hash (wpAny_call_entry F.slot_tuple_hash hT F.entry_tuple_hash ?_ (F.args_tuple_hash_1 _)))
  show wpAny _ _ (Builtin.Tuple.tupleItemsOf (.ref a) >>= _) _ _ s
  refine wpAny_bind (wpAny_tupleItemsOf ho hd ?_)
  refine wpAny_bind ?_
  rw [← Array.forIn_toList]
  simp only [List.forIn_cons, List.forIn_nil]
  refine wpAny_bind (wpAny_bind ((mixKind prog w).pyHash h1 ?_))
  refine wpAny_pure (wpAny_bind (wpAny_bind (wpAny_pyHash_tuple (s := { s with toks := s.toks + 1 }) (by show A.units + 1 < cLine; omega) h2 ?_)))
  refine wpAny_pure (wpAny_pure ?_)
  show wpAny _ _ (retInt (Builtin.Tuple.tupleHashOf [(mixKind prog w).hash k.1, tupleKeyHash (mixKind prog w) k.2])) _ _ _
  refine wpAny_ret_mkInt ?_
  show wpAny _ _ (if (decide (-(2 : Int) ^ 63 ≤ Builtin.Tuple.tupleHashOf [(mixKind prog w).hash k.1, tupleKeyHash (mixKind prog w) k.2]) && decide (Builtin.Tuple.tupleHashOf [(mixKind prog w).hash k.1, tupleKeyHash (mixKind prog w) k.2] < 2 ^ 63)) = true then _ else _) Q E _
  unfold pairHash reduceHash at h
  by_cases hr : (decide (-(2 : Int) ^ 63 ≤ Builtin.Tuple.tupleHashOf [(mixKind prog w).hash k.1, tupleKeyHash (mixKind prog w) k.2]) && decide (Builtin.Tuple.tupleHashOf [(mixKind prog w).hash k.1, tupleKeyHash (mixKind prog w) k.2] < 2 ^ 63)) = true
  · rw [if_pos hr]
    rw [if_pos hr] at h
    exact wpAny_pure (by simpa [Nat.add_assoc] using h)
  · rw [if_neg hr]
    rw [if_neg hr] at h
    exact wpAny_bind (wpAny_rule (wpAny_pure (by simpa [Nat.add_assoc] using h)))
theorem pair_eq_tree {x y : Key × List Key} {a b : Addr} {P : Fin → Shared → Prop} (hu : A.units + 1 < cLine) (hx : IsPairKey prog w s.heap x a) (hy : IsPairKey prog w s.heap y b) (h : P (.done (.ret (.bool (decide (x = y))))) s) :
    wpAny (model prog w) A (Builtin.«tuple.__eq__» ⟨[.ref a, .ref b], []⟩) P E s := by
  have hTb := hy.typeIs
  obtain ⟨oa, na, u1, b1, hoa, _, hda, h11, h12⟩ := hx
  obtain ⟨ob, nb, u2, b2, hob, _, hdb, h21, h22⟩ := hy
  obtain ⟨x1, x2⟩ := x
  obtain ⟨y1, y2⟩ := y
  show wpAny _ _ (isInstance (.ref b) (.type "tuple") >>= _) _ _ s
  refine wpAny_bind (wpAny_isInstance hTb isSubtype_tuple_tuple ?_)
  simp only [Bool.not_true, Bool.false_eq_true, if_false]
  refine wpAny_bind (wpAny_tupleItemsOf hoa hda ?_)
  refine wpAny_bind (wpAny_tupleItemsOf hob hdb ?_)
  refine wpAny_bind ?_
  simp only [List.zip_cons_cons, List.zip_nil_right, List.forIn_cons, List.forIn_nil]
  refine wpAny_bind (wpAny_bind ((mixKind prog w).eqBool (a := x1) (b := y1) h11 h21 ?_))
  by_cases hk : x1 = y1
  · subst hk
    rw [decide_eq_true rfl]
    simp only [Bool.not_true, Bool.false_eq_true, if_false]
    refine wpAny_pure ?_
    refine wpAny_bind (wpAny_bind (wpAny_eqBool_tuple (by omega) h12 h22 ?_))
    by_cases h2 : x2 = y2
    · subst h2
      rw [decide_eq_true rfl]
      simp only [Bool.not_true, Bool.false_eq_true, if_false]
      rw [decide_eq_true rfl] at h
      exact wpAny_pure (wpAny_pure (wpAny_pure h))
    · rw [decide_eq_false h2]
      simp only [Bool.not_false, if_true]
      rw [decide_eq_false (fun z => h2 (congrArg Prod.snd z))] at h
      exact wpAny_bind (wpAny_pure (wpAny_pure (wpAny_pure (wpAny_pure h))))
  · rw [decide_eq_false hk]
    simp only [Bool.not_false, if_true]
    rw [decide_eq_false (fun z => hk (congrArg Prod.fst z))] at h
    exact wpAny_bind (wpAny_pure (wpAny_pure (wpAny_pure (wpAny_pure h))))
theorem pair_eqBool {x y : Key × List Key} {a b : Addr} {Q : Bool → Shared → Prop} (hu : A.units + 4 < cLine) (hx : IsPairKey prog w s.heap x a) (hy : IsPairKey prog w s.heap y b) (h : Q (decide (x = y)) s) :
    wpAny (model prog w) A (eqBool (.ref a) (.ref b)) Q E s := by
  unfold eqBool
  try with_reducible refine wpAny_holding ?_
  show wpAny _ _ (if (Value.ref a == Value.ref b) = true then _ else _) Q E s
  by_cases hab : (Value.ref a == Value.ref b) = true
  · rw [if_pos hab]
    have e : a = b := by have := eq_of_beq hab; injection this
    subst e
    obtain rfl := hx.inj hy
    exact wpAny_bind (wpAny_rule (wpAny_pure (by simpa using h)))
  · rw [if_neg hab]
    exact wpAny_bind (wpAny_richCompare_same_room (op := .Eq) hx.typeIs hy.typeIs F.slot_tuple_eq
      (wpAny_call_entry F.slot_tuple_eq hx.typeIs F.entry_tuple_eq (pair_eq_tree (by show A.units + 1 + 1 < cLine; omega) hx hy ⟨_, rfl, (fun e => nomatch e), wpAny_truthy_bool h⟩) (F.args_tuple_eq_2 _ _)) (by omega))
theorem quiet_tuple {m : Nat} {ks : List Key} {a : Addr} {Q : Bool → Shared → Prop} (hk : IsTupleKey (mixKind prog w) s.heap ks a) (h : Q true s) : wpAny (model prog w) A (eqIsQuiet (m + 1) (.ref a)) Q E s := by
  have hT := hk.typeIs
  obtain ⟨o, items, n, ho, _, hd, hi⟩ := hk
  unfold eqIsQuiet
  refine wpAny_bind (wpAny_specialOf hT F.slot_tuple_eq.lookup ?_)
  show wpAny _ _ (isInstance (.ref a) (.type "tuple") >>= _) _ _ s
  refine wpAny_bind (wpAny_isInstance hT isSubtype_tuple_tuple ?_)
  simp only [Bool.not_true, Bool.false_eq_true, if_false]
  refine wpAny_bind (wpAny_seqItems ho hd ?_)
  refine wpAny_bind ?_
  show wpAny _ _ (forIn items _ _) _ _ s
  rw [← Array.forIn_toList]
  refine wpAny_forIn_list _ (fun rest r s' => r.1 = none ∧ s' = s ∧ ∀ v ∈ rest, carriedByValue v = true) _ ?_ ?_ _ _ ⟨rfl, rfl, hi.byValue⟩
  · rintro v rest r s' ⟨hr, rfl, hall⟩
    rw [eqIsQuiet_byValue _ (hall v List.mem_cons_self)]
    refine wpAny_bind (wpAny_pure ?_)
    simp only [Bool.not_true, Bool.false_eq_true, if_false]
    exact wpAny_pure ⟨rfl, rfl, fun u hu' => hall u (List.mem_cons_of_mem _ hu')⟩
  · rintro ⟨r1, r2⟩ s' ⟨hr, rfl, _⟩
    simp only at hr
    subst hr
    exact wpAny_pure h
theorem pair_quiet {k : Key × List Key} {a : Addr} {Q : Bool → Shared → Prop} (hk : IsPairKey prog w s.heap k a) (h : Q true s) : wpAny (model prog w) A (eqIsQuiet 8 (.ref a)) Q E s := by
  have hT := hk.typeIs
  obtain ⟨o, n, u, b, ho, _, hd, h1, h2⟩ := hk
  unfold eqIsQuiet
  refine wpAny_bind (wpAny_specialOf hT F.slot_tuple_eq.lookup ?_)
  show wpAny _ _ (isInstance (.ref a) (.type "tuple") >>= _) _ _ s
  refine wpAny_bind (wpAny_isInstance hT isSubtype_tuple_tuple ?_)
  simp only [Bool.not_true, Bool.false_eq_true, if_false]
  refine wpAny_bind (wpAny_seqItems ho hd ?_)
  refine wpAny_bind ?_
  show wpAny _ _ (forIn #[u, Value.ref b] _ _) _ _ s
  rw [← Array.forIn_toList]
  simp only [List.forIn_cons, List.forIn_nil]
  rw [eqIsQuiet_byValue _ ((mixKind prog w).byValue _ _ h1)]
  refine wpAny_bind (wpAny_bind (wpAny_pure ?_))
  simp only [Bool.not_true, Bool.false_eq_true, if_false]
  refine wpAny_pure (wpAny_bind (wpAny_bind (quiet_tuple (m := 6) h2 ?_)))
  simp only [Bool.not_true, Bool.false_eq_true, if_false]
  exact wpAny_pure (wpAny_pure (wpAny_pure h))
end
def pairKind (prog : Program) (w : World) : HeapKind prog w (Key × List Key) where
  is := IsPairKey prog w
  hash := pairHash prog w
  draws := fun k => 1 + (k.2.length + 1) + 1
  room := fun A => A.units + 4 < cLine
  inj := fun hx hy => hx.inj hy
  keeps := fun x ho hd hs => x.keeps ho hd hs
  pyHash := fun hu hk h => pair_hash hu hk h
  eqBool := fun hu hx hy h => pair_eqBool hu hx hy h
  quiet := fun hk h => pair_quiet hk h
def KeyAt (H : Hp) (k : Key × List Key) (a : Addr) : Prop := ∃ b, H a = some (.tup [kV k.1, .ref b]) ∧ H b = some (.tup (k.2.map kV))
theorem pair_key {P : Program} {w : World} {H : Hp} {h : Heap} {a : Addr} {k : Key × List Key} (ok : HOk P w H h) (e : KeyAt H k a) : IsPairKey P w h k a := by
  obtain ⟨b, e1, e2⟩ := e
  obtain ⟨_, its, r, o, h1, h2, n, h3⟩ := (show ObjOk P w H h a (.tup [kV k.1, .ref b]) from ok a _ e1)
  obtain ⟨u, v, rfl, ru, rv⟩ := vals2X r
  obtain rfl : v = Value.ref b := rv
  exact ⟨o, n, u, b, h1, h2, h3, kV_is ru, key_of ok e2⟩
abbrev NK := Key × List Key
def dNO (P : Program) (w : World) (a : Addr) (xs : List (NK × Addr × Value)) : HO := .ext fun h => (a == sysModules) = false ∧ ∃ o es ep, h.get? a = some o ∧ o.ExactDict ∧ o.data = .dict es ep ∧ es.toList = xs.map (entryOfKey (pairKind P w)) ∧ (xs.map (·.1)).Nodup
def KN (H : Hp) (kvs : List (NK × V)) (xs : List (NK × Addr × Value)) : Prop := Paired (fun (p : NK × V) (q : NK × Addr × Value) => p.1 = q.1 ∧ KeyAt H q.1 q.2.1 ∧ RelV p.2 q.2.2) kvs xs
def DN (P : Program) (w : World) (H : Hp) (a : Addr) (kvs : List (NK × V)) : Prop := ∃ xs, H a = some (dNO P w a xs) ∧ KN H kvs xs ∧ kvs.length ≤ 1000
theorem KeyAt.keep {H H' : Hp} {k : NK} {a : Addr} (h : KeyAt H k a) (f : ∀ b ys, H b = some (.tup ys) → H' b = some (.tup ys)) : KeyAt H' k a := let ⟨b, e1, e2⟩ := h; ⟨b, f _ _ e1, f _ _ e2⟩
theorem KN.keep {H H' : Hp} {kvs : List (NK × V)} {xs : List (NK × Addr × Value)} (h : KN H kvs xs) (f : ∀ b ys, H b = some (.tup ys) → H' b = some (.tup ys)) : KN H' kvs xs :=
  Paired.mapP h fun _ _ z => ⟨z.1, z.2.1.keep f, z.2.2⟩
theorem DN.same {P : Program} {w : World} {H H' : Hp} {a : Addr} {kvs : List (NK × V)} (d : DN P w H a kvs) (s : Same H H') : DN P w H' a kvs := let ⟨xs, e, k, l⟩ := d; ⟨xs, s _ _ e, k.keep fun b ys q => s _ _ q, l⟩
theorem DN.new {P : Program} {w : World} {H : Hp} {a : Addr} : DN P w (upd H a (dNO P w a [])) a [] := ⟨[], upd_same, .nil, Nat.zero_le _⟩
theorem KN.val {H : Hp} {kvs : List (NK × V)} {xs : List (NK × Addr × Value)} (h : KN H kvs xs) (k : NK) : (valV kvs k).isSome = (atKey xs k).isSome := by
  induction h with
  | nil => rfl
  | @cons p q ps qs e t ih =>
    obtain ⟨q1, q2⟩ := q
    have e1 : p.1 = q1 := e.1
    by_cases z : p.1 = k
    · rw [valV_pos z]
      unfold atKey
      rw [List.find?_cons_of_pos (by simp [← e1, z])]
      rfl
    · rw [valV_neg z, ih]
      unfold atKey
      rw [List.find?_cons_of_neg (by simp [← e1, z])]
theorem DN.at {P : Program} {w : World} {H : Hp} {h : Heap} {a : Addr} {kvs : List (NK × V)} (ok : HOk P w H h) (d : DN P w H a kvs) : ∃ xs, KN H kvs xs ∧ h.DictOfH (pairKind P w) a xs ∧ (a == sysModules) = false ∧ H a = some (dNO P w a xs) ∧ kvs.length ≤ 1000 := by
  obtain ⟨xs, e, kn, l⟩ := d
  obtain ⟨⟨hs, o, es, ep, h1, h2, h3, h4, h5⟩, _⟩ := ok a _ e
  refine ⟨xs, kn, ⟨o, es, ep, h1, h2, h3, h4, fun x hx => ?_, h5⟩, hs, e, l⟩
  have all : ∀ {l : List (NK × V)} {m : List (NK × Addr × Value)}, KN H l m → ∀ x ∈ m, IsPairKey P w h x.1 x.2.1 := by
    intro l m q
    induction q with
    | nil => intro x hx; exact nomatch hx
    | @cons p q ps qs hq t ih =>
      intro x hx
      rcases List.mem_cons.mp hx with e | hx
      · subst e
        exact pair_key ok hq.2.1
      · exact ih x hx
  exact all kn x hx
section
variable {X : Cx}
end
end L2
namespace L2
open PySem PySem.Spec PyProof.Rows
section
variable {X : Cx}
end
end L2
namespace L2
open PySem PySem.Spec PyProof.Rows
section
variable {X : Cx}
def rInsert (x : V) (vs : List V) (H : Hp) (Q : VK) : Prop := ∃ l xs, ∃ i : Int, ∃ k : Nat, ∃ y, x = .ref l ∧ vs = [.int i, y] ∧ i = k ∧ H l = some (.lst xs) ∧ k ≤ xs.length ∧ xs.length + 1 ≤ sizeLine ∧ Q .non (upd H l (.lst (xs.take k ++ y :: xs.drop k)))
theorem ins_array (its : List Value) (k : Nat) (u : Value) (h : k ≤ its.length) : (its.toArray.extract 0 k).push u ++ its.toArray.extract k = (its.take k ++ u :: its.drop k).toArray := by
  apply Array.toList_inj.mp
  simp
  rw [List.take_of_length_le (by rw [List.length_drop]; omega)]
theorem mt_insert : MtM X "list.insert" rInsert := by
  unfold MtM at *
  exact by
    intro pins s σ H x vs v us Q I rx rv h
    obtain ⟨l, xs, i, k, y, rfl, rfl, hi, hH, hk, hz, q⟩ := h
    cases rx
    obtain ⟨u1, u, rfl, ru1, ru⟩ := rv.two
    obtain ⟨t, rfl⟩ := ru1
    obtain ⟨z, its, n, r, hl, e⟩ := I.lstM hH
    have hs : sizeLine < 2 ^ 62 := by decide
    have hb : i < 2 ^ 63 := by omega
    have fit : Builtin.List.listFitsIndex i = true := fitsIndex_both (by omega) hb
    have M := PySem.AutoSeq1.list_insert_list_int_val_1 l its.toArray n i t u (by rw [fit]; exact Bool.noConfusion) (by rw [List.size_toArray]; omega)
    refine call_meets F.slot_list_insert ⟨_, e, rfl⟩ F.entry_list_insert (F.args_list_insert_3 _ _ _) M ⟨e, ?_⟩
    refine ⟨.non, _, I.lset (its' := its.take k ++ u :: its.drop k) hH e ?_ ((r.take k).append (.cons ru (r.drop k))) ?_, rfl, q⟩
    · show (its.toArray.extract 0 (if i < 0 then (i + (its.toArray.size : Int)).toNat else min i.toNat its.toArray.size)).push u ++ its.toArray.extract (if i < 0 then (i + (its.toArray.size : Int)).toNat else min i.toNat its.toArray.size) = _
      rw [if_neg (by omega), List.size_toArray, hi, Int.toNat_natCast, Nat.min_eq_left (by omega)]
      exact ins_array its k u (by omega)
    · rw [List.length_append, List.length_cons, List.length_take, List.length_drop]
      omega
end
end L2
namespace L2
open PySem PySem.Spec PyProof.Rows
section
variable {X : Cx}
end
end L2
namespace L2
open PySem PySem.Spec PyProof.Rows
@[irreducible] def PEp (X : Cx) (e : Expr) (t : TE) : Prop :=
  ∀ (pins : List (Addr × Obj)) (s : Shared) (σ : St) (H : Hp) (Q : VK), 0 < s.toks → Inv X pins σ H s → t σ H Q → wpAny (model X.prog X.w) X.A (eval e X.env) (EP X pins σ Q) X.xe s
@[irreducible] def PAp (X : Cx) (es : List Expr) (t : TA) : Prop :=
  ∀ (pos : Pos) (pins : List (Addr × Obj)) (s : Shared) (σ : St) (H : Hp) (Q : List V → Hp → Prop), 0 < s.toks → Inv X pins σ H s → t σ H Q → wpAny (model X.prog X.w) X.A (spliced (backTo pos (starEach es X.env))) (AP X pins σ Q) X.xe s
section
variable {X : Cx} {e o a : Expr} {es : List Expr} {te to ta tb : TE} {t : TA} {pos : Pos}
theorem PE.p (h : PE X e te) : PEp X e te := by
  unfold PE at *
  exact by
    unfold PEp
    exact fun pins s σ H Q _ => h pins s σ H Q
theorem PA.p (h : PA X es t) : PAp X es t := by
  unfold PA at *
  exact by
    unfold PAp
    exact fun pos pins s σ H Q _ => h pos pins s σ H Q
end
section
open Builtin Builtin.Str
end
section
variable {X : Cx} {o : Expr} {to : TE} {apos cpos : Pos}
end
end L2
namespace L2
open PySem PySem.Spec PyProof.Rows
end L2
namespace L2
open PySem PySem.Spec PyProof.Rows
structure Hand (P : Program) (w : World) (i l : Addr) (St : Nat → Heap → Prop) (xs : Array Value) : Prop where
  keep : ∀ k h h', St k h → (∀ o, h.get? i = some o → h'.get? i = some o) → (∀ o, h.get? l = some o → h'.get? l = some o) → St k h'
  item : ∀ (A : Around) (E : Value → Shared → Prop) k x (s : Shared) (Q : Value → Shared → Prop), St k s.heap → xs[k]? = some x → (∀ h', St (k + 1) h' → Heap.SameBut i s.heap h' → Q x { s with heap := h' }) → wpAny (model P w) A (Builtin.SmallTypes.nextOf (.ref i)) Q E s
  stop : ∀ (A : Around) (E : Value → Shared → Prop) k (s : Shared) (Q : Value → Shared → Prop), A.handled = none → St k s.heap → xs[k]? = none → (∀ h' e, Heap.ExtBut i s.heap h' → (∃ o, h'.get? e = some o ∧ o.cls = .type "StopIteration") → E (.ref e) { s with heap := h' }) → wpAny (model P w) A (Builtin.SmallTypes.nextOf (.ref i)) Q E s
theorem Hand.list {P : Program} {w : World} (i l : Addr) (n : i ≠ l) (xs : Array Value) : Hand P w i l (fun k h => h.IsListIter i l k ∧ h.IsList l xs) xs where
  keep := fun k h h' st a b => ⟨st.1.at a, st.2.at b⟩
  item := fun A E k x s Q st hx hQ => wpAny_nextOf_list_item st.1 st.2 hx fun h' a b => hQ h' ⟨a, st.2.extBut b.extBut n.symm⟩ b
  stop := fun A E k s Q hh st hx hE => wpAny_nextOf_list_end hh st.1 st.2 hx hE
section
variable {P : Program} {w : World} {A : Around} {E : Value → Shared → Prop} {s : Shared}
theorem tup_step {it t : Addr} {i : Nat} {its : Array Value} {Q : Value → Shared → Prop} (hit : s.heap.IsTupleIter it t i) (ht : s.heap.IsTuple t its)
    (h : match its[i]? with
      | some x => ∀ h', h'.IsTupleIter it t (i + 1) → Heap.SameBut it s.heap h' → Q x { s with heap := h' }
      | none => A.handled = none ∧ ∀ h' e, Heap.ExtBut it s.heap h' → (∃ o, h'.get? e = some o ∧ o.cls = .type "StopIteration") → E (.ref e) { s with heap := h' }) :
    wpAny (model P w) A (Builtin.SmallTypes.nextOf (.ref it)) Q E s := by
  obtain ⟨o, ho, hc, hd⟩ := id hit
  obtain ⟨ol, hol, _, nl, hdl⟩ := ht
  have ne : ¬ (Value.ref t == Value.none) = true := Bool.false_ne_true
  unfold Builtin.SmallTypes.nextOf
  refine wpAny_bind (wpAny_callSpecial?_slot (name := Str.ofString "__next__") hit.typeIs F.slot_tuple_iterator_next (wpAny_call_entry F.slot_tuple_iterator_next hit.typeIs F.entry_tuple_iterator_next ?_ (F.args_tuple_iterator_next_1 _)))
  refine (show wpAny _ _ (field (.ref it) 0 >>= _) _ _ s from wpAny_bind (wpAny_field ho hd (x := .ref t) rfl ((if_neg ne).symm ▸ (show wpAny _ _ (field (.ref it) 1 >>= _) _ _ s from wpAny_bind (wpAny_field ho hd (x := .int i 0) rfl (show wpAny _ _ (seqItems? (.ref t) >>= _) _ _ s from wpAny_bind (wpAny_seqItems hol hdl ?_)))))))
  cases hx : its[i]? with
  | some x =>
    rw [hx] at h
    simp only [Int.toNat_natCast, hx]
    refine wpAny_bind (wpAny_setField ho hd (by simp) (wpAny_pure ⟨x, rfl, wpAny_pure (h _ ⟨_, Heap.get?_update_self _ ho (Obj.isFreed_of_fields (Obj.data_mapFields hd _)), (Obj.cls_mapFields ..).trans hc, ?_⟩ (Heap.SameBut.update ..))⟩))
    rw [Obj.data_mapFields hd]; simp [rawInt]
  | none =>
    rw [hx] at h
    simp only [Int.toNat_natCast, hx]
    refine wpAny_bind (wpAny_rule (wpAny_bind (wpAny_setField ho hd (by simp) (show wpAny _ _ (newExc (.type "StopIteration") [] >>= _) _ _ _ from wpAny_bind ?_))))
    simp only [newExc, newTuple]
    refine wpAny_bind (wpAny_newObj_type (wpAny_bind (m := firstArgMember _ _) (wpAny_of_eq (a := Value.none) (by first | rfl | (simp only [firstArgMember]; rfl)) (wpAny_newObj_type ?_ (by size_fits)))) (by size_fits))
    simp only [raiseNew]
    refine wpAny_bind (wpAny_handled ?_)
    rw [show A.in1.handled = none from h.1]
    exact wpAny_bind (wpAny_pure (wpAny_throw (h.2 _ _ (((Heap.SameBut.update ..).extBut.push _).push _) ⟨_, Heap.get?_push_size _ rfl, rfl⟩)))
end
theorem Hand.tup {P : Program} {w : World} (i t : Addr) (n : i ≠ t) (xs : Array Value) : Hand P w i t (fun k h => h.IsTupleIter i t k ∧ h.IsTuple t xs) xs where
  keep := fun k h h' st a b => ⟨st.1.at a, st.2.at b⟩
  item := fun A E k x s Q st hx hQ => tup_step st.1 st.2 (by rw [hx]; exact fun h' a b => hQ h' ⟨a, st.2.extBut b.extBut n.symm⟩ b)
  stop := fun A E k s Q hh st hx hE => tup_step st.1 st.2 (by rw [hx]; exact ⟨hh, hE⟩)
section
variable {P : Program} {w : World} {A : Around} {E : Value → Shared → Prop} {s : Shared} {z TI TO i1 i2 l1 l2 : Addr} {S1 S2 : Nat → Heap → Prop} {xs ys : Array Value} {k : Nat} {a b : Value}
end
abbrev zA (h : Heap) (l1 : Addr) : Heap := h.push { cls := .type "tuple_iterator", data := .fields #[.ref l1, .int 0 0] }
end L2
namespace L2
open PySem PySem.Spec PyProof.Rows
section
variable {X : Cx} {a b e : Expr} {ta tb te : TE} {es : List Expr} {t : TA} {pos : Pos} {st st2 : Stmt} {rest : List Stmt} {t1 t2 u : TS}
end
end L2
namespace L2
open PySem PySem.Spec PyProof.Rows
section
variable {X : Cx}
theorem DGet.f {H : Hp} {a : Addr} {o : Obj} {kvs : List (Key × V)} {k : Key} (e : H a = some (.frz o (.dK kvs))) : DGet H a (kV k) (valV kvs k) := .inl ⟨kvs, k, .inr ⟨o, e⟩, rfl, rfl⟩
end
end L2
namespace HT
open PySem PySem.Spec PyProof.Rows
section
variable {prog : Program} {w : World} {A : Around} {E : Value → Shared → Prop} {s : Shared}
end
end HT
namespace L2
open PySem PySem.Spec PyProof.Rows
section
variable {X : Cx}
end
end L2
namespace L2
open PySem PySem.Spec PyProof.Rows
section
variable {prog : Program} {w : World} {A : Around} {R : Result → Shared → Prop} {I S : Addr} {fp wr : List Addr} {n : Nat} {P : Nat → Value → Prop} {St : Nat → Heap → Prop} {kw : List (Str × Value)} {bt : Nat → Nat → Bool}
end
section
variable {prog : Program} {w : World} {A : Around} {E : Value → Shared → Prop} {s : Shared}
end
end L2
namespace L2
open PySem PySem.Spec PyProof.Rows
section
variable {X : Cx} {e : Expr} {te : TE} {lo hi : Option Expr} {tl th : TO} {pos p2 : Pos}
end
end L2
namespace L2
open PySem PySem.Spec PyProof.Rows
def hitK (kb : List (Key × V)) : List (Key × V) → Bool
  | [] => true
  | p :: r => match valV kb p.1 with
    | none => false
    | some y => eqV p.2 y && hitK kb r
def DEqB (H : Hp) (x y : V) (b : Bool) : Prop := ∃ a c ka kb, x = .ref a ∧ y = .ref c ∧ a ≠ c ∧ Rd H a (.dK ka) ∧ Rd H c (.dK kb) ∧ (∀ p ∈ ka, ∃ m : Int, p.1 = Sum.inl m) ∧ (∀ p ∈ kb, ∃ m : Int, p.1 = Sum.inl m) ∧ (∀ p ∈ ka, flatV p.2 = true) ∧ (∀ p ∈ kb, flatV p.2 = true) ∧ b = (ka.length == kb.length && hitK kb ka)
theorem valV_mem {kvs : List (Key × V)} {k : Key} {y : V} (h : valV kvs k = some y) : (k, y) ∈ kvs := by
  induction kvs with
  | nil => cases h
  | cons p r ih =>
    by_cases e : p.1 = k
    · rw [valV_pos e] at h
      have h := Option.some.inj h
      subst e h
      exact List.mem_cons_self ..
    · rw [valV_neg e] at h
      exact List.mem_cons_of_mem _ (ih h)
section
variable {X : Cx} {pins : List (Addr × Obj)} {σ : St} {H : Hp} {s : Shared}
theorem hitK_at {A : Around} {kb : List (Key × V)} {vb : List (Key × Value)} (rb : KV kb vb) (fb : ∀ p ∈ kb, flatV p.2 = true) : ∀ {ka : List (Key × V)} {va : List (Key × Value)}, KV ka va → (∀ p ∈ ka, flatV p.2 = true) → PySem.W.KeqHits A s vb va (hitK kb ka) := by
  intro ka va r
  unfold KV at r
  induction r with
  | nil => intro _; exact .nil
  | @cons p q ps qs h t ih =>
    intro fa
    obtain ⟨q1, q2⟩ := q
    have h1 : p.1 = q1 := h.1
    unfold hitK
    cases hy : valV kb p.1 with
    | none =>
      refine PySem.W.KeqHits.miss ?_
      have := rb.val q1
      rw [← h1, hy] at this
      rw [← h1]
      generalize valueAt vb p.1 = o at this
      cases o with
      | none => rfl
      | some _ => exact this.elim
    | some y =>
      obtain ⟨w, hw, rw'⟩ := RelO.some_of (v := y) (o := valueAt vb q1) (by rw [← hy, h1]; exact rb.val q1)
      exact PySem.W.KeqHits.hit hw (eqAt_V h.2 rw' (fa p (List.mem_cons_self ..)) (fb _ (valV_mem hy))) (ih fun p' hp' => fa p' (List.mem_cons_of_mem _ hp'))
theorem DEqB.at (I : Inv X pins σ H s) {A : Around} {x y : V} {b : Bool} {u v : Value} (hu : A.units < cLine) (h : DEqB H x y b) (rx : RelV x u) (ry : RelV y v) : SeqAt.EqAt A s u v b := by
  obtain ⟨a, c, ka, kb, rfl, rfl, hac, ha, hb, ia, ib, fa, fb, rfl⟩ := h
  cases rx
  cases ry
  obtain ⟨za, da, va, ra, oa⟩ := dk_rd I.hok ha
  obtain ⟨zb, db, vb, rb, ob⟩ := dk_rd I.hok hb
  refine SeqAt.EqAt.of_refs hac fun prog w E Q hq => ?_
  have oa' := dict_anyW (P' := prog) (w' := w) oa (kv_ints ra ia)
  have ob' := dict_anyW (P' := prog) (w' := w) ob (kv_ints rb ib)
  refine PySem.W.keq_eq da db oa' ob' hu (fun _ => hitK_at (A := A.in1) rb fb ra fa) ?_
  rw [← ra.length, ← rb.length]
  exact hq
def MEq (K : PySem.W.Frag) (H : Hp) (x y : V) (b : Bool) : Prop := EqD K H 20 x y b ∨ DEqB H x y b
theorem MEq.at (I : Inv X pins σ H s) (hu : X.A.units + 62 < cLine) {x y : V} {b : Bool} {u v : Value} (h : MEq X.K H x y b) (rx : RelV x u) (ry : RelV y v) : SeqAt.EqAt X.A.in1 s u v b := by
  rcases h with h | h
  · exact EqD.at I 20 X.A.in1 x y b u v (by show X.A.units + 1 + 20 < cLine; omega) h rx ry
  · exact DEqB.at I (by show X.A.units + 1 < cLine; omega) h rx ry
end
end L2
namespace L2
open PySem PySem.Spec PyProof.Rows
theorem noteFrame_congr {x : Value} {env env' : Env} (h : env.frame = env'.frame) : noteFrame x env = noteFrame x env' := by
  unfold noteFrame PySem.frameOf
  rw [h]
section
variable {M : Model} {A : Around} {E : Value → Shared → Prop} {s : Shared}
theorem Moved.refl (fs : List Addr) (e : Addr) (T0 : Option Addr) (h : Heap) : Moved fs e T0 h h := ⟨fun _ _ _ _ _ q => q, fun b o _ q => ⟨o.slots, q⟩, fun _ o q => ⟨o, q⟩⟩
theorem note_any {base : Heap} {env : Env} {outer : List Env} {L e T : Addr} {C : Value} {dd : Option Addr} {fl : Value} {Q : Unit → Shared → Prop}
    (hfr : A.frames = some (env :: outer)) (hl : s.heap.FunFrames base (env :: outer)) (hf : env.frame = some L) (X : ExAt s.heap e C dd (.ref T)) (hT : TrAt s.heap T fl) (hne : T ≠ e)
    (h : ∀ h' T2 fl2, ExAt h' e C dd (.ref T2) → TrAt h' T2 fl2 → (T2 = T ∨ s.heap.objs.size ≤ T2) → T2 ≠ e → Moved (frs (env :: outer)) e (some T) s.heap h' → Q () { s with heap := h' }) :
    wpAny M A (noteFrame (.ref e) env) Q E s := by
  obtain ⟨oe, vs, he, hC, hdd, hd, h1⟩ := id X
  obtain ⟨oT, ts, hTg, hdT, h3⟩ := id hT
  unfold noteFrame
  simp only [hf]
  refine wpAny_bind (wpAny_field he hd h1 ?_)
  show wpAny M A (if (Value.ref T != Value.none) = true then _ else _) Q E s
  rw [if_pos (by simp)]
  refine wpAny_bind (wpAny_field hTg hdT h3 ?_)
  by_cases hfl : (fl == rawInt L) = true
  · rw [if_pos hfl]
    exact wpAny_pure (h s.heap T fl X hT (.inl rfl) hne (Moved.refl ..))
  · rw [if_neg hfl]
    refine wpAny_bind (wpAny_setField hTg hdT (Array.getElem?_eq_some_iff.mp h3).1 ?_)
    have oth : ∀ b, b ≠ T → (s.heap.update T (Obj.mapFields (·.setIfInBounds 3 Value.none))).get? b = s.heap.get? b := fun b hb => Heap.get?_update_other _ _ (Ne.symm hb)
    have nfr : ∀ b o, b ∈ frs (env :: outer) → s.heap.get? b = some o → b ≠ T := fun b o hb q z => by
      obtain ⟨_, o', ho', hnf⟩ := hl.mem hb
      rw [z, hTg] at ho'; cases ho'
      exact hnf _ hdT
    have hl2 : (s.heap.update T (Obj.mapFields (·.setIfInBounds 3 Value.none))).FunFrames base (env :: outer) := hl.of_keeps fun b o hb hnf => ⟨o, (oth b fun z => by rw [z, hTg] at hb; cases hb; exact hnf _ hdT).trans hb, rfl⟩
    refine note_new (s := { s with heap := s.heap.update T (Obj.mapFields (·.setIfInBounds 3 Value.none)) }) hfr hl2 hf ⟨oe, vs, (oth e (Ne.symm hne)).trans he, hC, hdd, hd, h1⟩ fun h' T2 x1 x2 x3 x4 mv => ?_
    have goneT : s.heap.objs.size ≤ T2 := Nat.le_trans (Nat.le_of_eq (Heap.size_after_update ..).symm) x3
    refine h h' T2 _ x1 x2 (.inr goneT) x4 ⟨fun b o k1 k2 k3 q => mv.keep b o k1 (by simp) k3 ((oth b fun z => k2 (by rw [z])).trans q), fun b o hb q => mv.slot b o hb ((oth b (nfr b o hb q)).trans q), fun b o q => ?_⟩
    by_cases k : b = T
    · exact mv.there b _ (by rw [k]; exact up_self hTg hdT)
    · exact mv.there b o ((oth b k).trans q)
theorem flight_any {e T : Addr} {C : Value} {dd : Option Addr} {fl : Value} {f : Option Addr} {Q : Unit → Shared → Prop} (X : ExAt s.heap e C dd (.ref T)) (hT : TrAt s.heap T fl) (hne : T ≠ e)
    (h : ∀ h' fl', ExAt h' e C dd (.ref T) → TrAt h' T fl' → (∀ b, b ≠ T → h'.get? b = s.heap.get? b) → (∀ b o, s.heap.get? b = some o → ∃ o', h'.get? b = some o') → Q () { s with heap := h' }) :
    wpAny M A (setFlight (.ref e) f) Q E s := by
  obtain ⟨oe, vs, he, hC, hdd, hd, h1⟩ := X
  obtain ⟨oT, ts, hT, hdT, h3⟩ := hT
  have hsz := (Array.getElem?_eq_some_iff.mp h3).1
  unfold setFlight
  refine wpAny_bind (wpAny_field he hd h1 ?_)
  rw [if_pos (by simp)]
  have oth : ∀ b, b ≠ T → (s.heap.update T (Obj.mapFields (·.setIfInBounds 3 (f.elim Value.none fun f => rawInt f)))).get? b = s.heap.get? b := fun b hb => Heap.get?_update_other _ _ (Ne.symm hb)
  refine wpAny_setField hT hdT hsz (h _ _ ⟨oe, vs, (oth e (Ne.symm hne)).trans he, hC, hdd, hd, h1⟩ ⟨_, _, up_self hT hdT, Obj.data_mapFields hdT _, Array.getElem?_setIfInBounds_self_of_lt hsz⟩ oth fun b o q => ?_)
  by_cases k : b = T
  · rw [k]; exact ⟨_, up_self hT hdT⟩
  · exact ⟨o, (oth b k).trans q⟩
end
theorem un_agree {fs ex : List Addr} {H H' : Hp} {h g h' : Heap} (u : Un fs ex H H' h g) (k : ∀ b o, h.get? b = some o → h'.get? b = g.get? b) : Un fs ex H H' h h' where
  keep := fun b o q n hb hx => (k b o q).trans (u.keep b o q n hb hx)
  slot := fun b o q n hb hx => by obtain ⟨sl, z⟩ := u.slot b o q n hb hx; exact ⟨sl, (k b o q).trans z⟩
  free := u.free
  there := fun b o q hx => by obtain ⟨o', z⟩ := u.there b o q hx; exact ⟨o', (k b o q).trans z⟩
  tups := u.tups
  frzs := u.frzs
  tbls := u.tbls
def FlyS (X : Cx) (E : XK) (u : Value) (s' : Shared) : Prop := ∃ (e : Addr) (C : Value) (dd : Option Addr) (T : Addr) (fl : Value) (H' : Hp), u = .ref e ∧ s'.os = X.s₀.os ∧ AllBare s'.gens ∧ Un X.fs [] X.H₀ H' X.s₀.heap s'.heap ∧ s'.heap.FunFrames X.base X.stack ∧ (∀ b o, H' b = some o → b ∉ frs X.stack) ∧ HOk X.prog X.w H' s'.heap ∧
  ExAt s'.heap e C dd (.ref T) ∧ TrAt s'.heap T fl ∧ T ≠ e ∧ H' e = none ∧ H' T = none ∧ X.s₀.heap.get? e = none ∧ X.s₀.heap.get? T = none ∧ E C dd H'
structure PassF (X : Cx) (E : XK) : Prop where
  go : X.A.frames = some X.stack → ∀ u s', FlyS X E u s' → X.xe u s'
  stk : X.stack = X.env :: X.outer
  frm : X.env.frame = some X.env.locals
  ex : X.ex = []
  new : X.s₀.heap.get? X.env.locals = none
section
variable {P : Program} {w : World} {K : PySem.W.Frag} {mg : Str → Option Value} {base : Heap} {N : List Str} {qual : Str} {scope : Scope} {f : Addr} {cd : Value} {A : Around} {outer : List Env} {s₀ : Shared} {H₀ : Hp} {E : XK}
theorem passF_def : PassF (cxOf (CXx P w) P w K mg base N qual scope f cd A outer s₀ H₀ E) E := by
  refine ⟨?_, rfl, rfl, rfl, Heap.get?_none_of_le (Nat.le_refl _)⟩
  rintro hfr u s' ⟨e, C, dd, T, fl, H', rfl, os, bare, um, hfun, ntr, hok, x1, x2, x3, f1, f2, n1, n2, hE⟩
  have fe : frs (envOfC qual scope s₀.heap.objs.size f cd :: outer) = s₀.heap.objs.size :: frs outer := frs_cons rfl
  have nL : s₀.heap.get? s₀.heap.objs.size = none := Heap.get?_none_of_le (Nat.le_refl _)
  show wpAny _ _ (leaving _ (.ref e)) _ _ s'
  unfold leaving
  refine wpAny_bind (note_any (L := s₀.heap.objs.size) hfr hfun rfl x1 x2 x3 fun h1 T2 fl2 y1 y2 y3 y4 mv => ?_)
  refine rest_fly (s := { s' with heap := h1 }) y1 y2 y4 fun h2 z1 z2 k1 k2 => ?_
  have nT2 : s₀.heap.get? T2 = none := by
    rcases y3 with z | z
    · rw [z]; exact n2
    · cases q : s₀.heap.get? T2 with
      | none => rfl
      | some o => obtain ⟨o1, q1⟩ := um.there T2 o q (by simp); exact absurd (Heap.lt_size q1) (Nat.not_lt.mpr z)
  have fT2 : H' T2 = none := by
    rcases y3 with z | z
    · rw [z]; exact f2
    · cases q : H' T2 with
      | none => rfl
      | some u => obtain ⟨ob, hob⟩ := (hok T2 u q).there; exact absurd (Heap.lt_size hob) (Nat.not_lt.mpr z)
  have um1 : Un (frs outer) [] H₀ H' s₀.heap h1 := un_moved (l := envOfC qual scope s₀.heap.objs.size f cd :: outer) um mv (fun b hb => by rw [fe]; exact List.mem_cons_of_mem _ hb) (fun b o q hb => by
    rw [fe] at hb
    rcases List.mem_cons.mp hb with z | z
    · rw [z, nL] at q; cases q
    · exact z) n1 (fun T' z => by cases z; exact n2)
  have um2 : Un (frs outer) [] H₀ H' s₀.heap h2 := by
    have nb : ∀ b o, s₀.heap.get? b = some o → b ≠ T2 := fun b o q z => by rw [z, nT2] at q; cases q
    exact ⟨fun b o q n hb hx => k1 b o (nb b o q) (um1.keep b o q n hb hx), fun b o q n hb hx => by obtain ⟨sl, z⟩ := um1.slot b o q n hb hx; exact ⟨sl, k1 b _ (nb b o q) z⟩, um1.free, fun b o q hx => by obtain ⟨o', z⟩ := um1.there b o q hx; exact k2 b o' z, um1.tups, um1.frzs, um1.tbls⟩
  refine ⟨e, C, dd, T2, H', rfl, os, bare, um2, ?_, z1, z2, y4, f1, fT2, n1, nT2, hE⟩
  have hok1 : HOk P w H' h1 := hok.track fun b u o q1 q2 => mv.keep b o (fun z => by rw [z, f1] at q1; cases q1) (fun z => by cases z; rw [f2] at q1; cases q1) (ntr b u q1) q2
  exact hok1.track fun b u o q1 q2 => k1 b o (fun z => by rw [z, fT2] at q1; cases q1) q2
end
end L2
namespace L2
open PySem PySem.Spec PyProof.Rows
section
variable {prog : Program} {w : World} {A : Around} {R : Result → Shared → Prop} {s : Shared}
theorem compLoop_goX {elt target iter : Expr} {ifs : List Expr} {scope : Scope} {pos : Pos} {it acc : Value} {env : Env} (I : Nat → Shared → Prop)
    (turn : ∀ n s, I n s → wpAny (model prog w) A (pyNext it) (fun r s₁ => match r with
      | none => R (.ok .next) s₁
      | some v => wpAny (model prog w) A (letOwnedTupleGo target it v) (fun _ s₁ => wpAny (model prog w) A (assign target env v) (fun _ s₂ =>
          wpAny (model prog w) A (forIn ifs true fun c r => if r = true then do let ok ← isTrue c env (eval c env); pure (ForInStep.yield ok) else pure (ForInStep.yield r)) (fun ok s₃ =>
            if ok = true then wpAny (model prog w) A (eval elt env) (fun x s₄ =>
              wpAny (model prog w) A (call (.builtin "list.append") [acc, x]) (fun _ s₅ => ∃ m, m < n ∧ I m s₅) (fun _ _ => False) s₄) (fun u s' => wpAny (model prog w) A (noteFrame u env) (fun _ s'' => R (.error u) s'') (fun _ _ => False) s') s₃
            else ∃ m, m < n ∧ I m s₃) (fun _ _ => False) s₂) (fun _ _ => False) s₁) (fun _ _ => False) s₁) (fun _ _ => False) s)
    (n : Nat) (h : I n s) :
    codeAny (model prog w) A (.compLoop (.ListComp elt [⟨target, iter, ifs, 0⟩] scope pos) 0 it acc env) R s := by
  refine codeAny_loop rfl I (fun n s hI => ?_) n h
  show wpAny _ A ((compTurn (.ListComp elt [⟨target, iter, ifs, 0⟩] scope pos) 0 it acc env).onRaise (fun x => do noteFrame x env; theTreesLotGoes x)) _ _ s
  refine wpAny_noted ?_
  rw [compTurn_list]
  refine wpAny_bind (wpAny_standAt (wpAny_bind (wpAny_mono (turn n s hI) (fun r s₁ h₁ => ?_) fun _ _ h' => h'.elim)))
  cases r with
  | none => exact wpAny_pure h₁
  | some v =>
    refine wpAny_bind (wpAny_mono h₁ (fun _ s₁ h₁ => ?_) fun _ _ h' => h'.elim)
    refine wpAny_bind (wpAny_mono h₁ (fun _ s₂ h₂ => wpAny_bind (wpAny_mono h₂ (fun ok s₃ h₃ => ?_) fun _ _ h' => h'.elim)) fun _ _ h' => h'.elim)
    cases ok with
    | false => exact wpAny_pure ⟨rfl, h₃⟩
    | true =>
      exact wpAny_bind (wpAny_bind (wpAny_mono h₃ (fun x s₄ h₄ => wpAny_bind (wpAny_mono h₄ (fun _ s₅ h₅ => wpAny_pure (wpAny_pure ⟨rfl, h₅⟩)) fun _ _ h' => h'.elim)) fun u s' h' => wpAny_mono h' (fun _ _ q => q) fun _ _ q => q.elim))
end
def cxCompX (X : Cx) (E : XK) (scope : Scope) (N' : List Str) (B : Bk) : Cx :=
  { cxComp X scope N' B with xe := fun u s' => ∃ (pins : List (Addr × Obj)) (σ : St) (H : Hp) (s : Shared), Inv (cxComp X scope N' B) pins σ H s ∧ CXx X.prog X.w X.stack H s E u s' }
theorem inv_out {X : Cx} {E : XK} {scope : Scope} {N' : List Str} {B : Bk} {pins : List (Addr × Obj)} {σ : St} {H : Hp} {s : Shared} (I : Inv (cxCompX X E scope N' B) pins σ H s) : Inv (cxComp X scope N' B) pins σ H s :=
  ⟨⟨I.ok.mod, I.ok.kind, I.ok.glob, I.ok.blt, I.ok.above, I.ok.inj, I.ok.has, I.ok.cab, I.ok.hd, I.ok.frames, I.ok.stk, I.ok.exf, I.ok.bs, I.ok.bsz, I.ok.noex, I.ok.exfs, I.ok.funs, I.ok.frf⟩, I.os, I.bare, I.base, I.loc, I.cell, I.free, I.freeC, I.pin, I.hok, I.len⟩
theorem inv_into {X : Cx} {E : XK} {scope : Scope} {N' : List Str} {B : Bk} {pins : List (Addr × Obj)} {σ : St} {H : Hp} {s : Shared} (I : Inv (cxComp X scope N' B) pins σ H s) : Inv (cxCompX X E scope N' B) pins σ H s :=
  ⟨⟨I.ok.mod, I.ok.kind, I.ok.glob, I.ok.blt, I.ok.above, I.ok.inj, I.ok.has, I.ok.cab, I.ok.hd, I.ok.frames, I.ok.stk, I.ok.exf, I.ok.bs, I.ok.bsz, I.ok.noex, I.ok.exfs, I.ok.funs, I.ok.frf⟩, I.os, I.bare, I.base, I.loc, I.cell, I.free, I.freeC, I.pin, I.hok, I.len⟩
theorem pass_comp {X : Cx} {E : XK} {scope : Scope} {N' : List Str} {B : Bk} : PassesS (CXx X.prog X.w) (cxCompX X E scope N' B) (fun _ => E) := fun pins σ H s u s' I h => ⟨pins, σ, H, s, inv_out I, h⟩
section
variable {X : Cx} {E : XK} {elt tg iter : Expr} {ifs : List Expr} {scope : Scope} {pos : Pos} {N' : List Str} {js : List (Option Nat)} {wi : TI} {g : Bk → TG} {tc : Bk → TT} {te : Bk → TE}
theorem comp_fly {pins : List (Addr × Obj)} {σ : St} {H : Hp} {s s' : Shared} {u : Value} {C : Addr} {m : Str → Option Value} {cenv : Env} {R : Result → Shared → Prop} (pf : PassF X E) (I : Inv X pins σ H s) (h : CXx X.prog X.w X.stack H s E u s')
    (hn : s.heap.Ns C m) (hC : H C = none) (nL : C ≠ X.env.locals) (nfs : C ∉ X.fs) (hs0 : X.s₀.heap.objs.size ≤ C) (hcf : cenv.frame = X.env.frame)
    (hR : ∀ s'', (∃ m, s''.heap.Ns C m ∧ ∀ h', Heap.SameBut C s''.heap h' → ∀ cenv : Env, cenv.locals = C → wpAny (model X.prog X.w) X.A (passOn "comprehension.variables-let-go" u cenv : Sem Value) (fun _ _ => False) X.xe { s'' with heap := h' }) → R (.error u) s'') :
    wpAny (model X.prog X.w) X.A (noteFrame u cenv) (fun _ s'' => R (.error u) s'') (fun _ _ => False) s' := by
  obtain ⟨e, Cl, dd, T, H', rfl, os, bare, un, hok, x1, x2, x3, f1, f2, n1, n2, hE⟩ := h
  have fe : frs X.stack = X.env.locals :: frs X.outer := by rw [pf.stk]; exact frs_cons pf.frm
  have ib : Un X.fs [] X.H₀ H X.s₀.heap s.heap := by have := I.base; rw [pf.ex] at this; exact this
  have un' : Un (X.env.locals :: frs X.outer) [] H H' s.heap s'.heap := by rw [← fe]; exact un
  have um := un_enter ib un' pf.new
  have hfun : s'.heap.FunFrames X.base X.stack := funFrames_un I.stack fun b o hb q => un.slot b o q (I.stkFree b hb) hb (by simp)
  have ntr : ∀ b u, H' b = some u → b ∉ frs X.stack := fun b u q hb => by
    obtain ⟨_, o, ho, _⟩ := I.stack.mem hb
    have := un.free b o ho (I.stkFree b hb) (by simp)
    rw [q] at this; cases this
  have none_of : ∀ b, s.heap.get? b = none → X.s₀.heap.get? b = none := fun b hb => by
    cases q : X.s₀.heap.get? b with
    | none => rfl
    | some o => obtain ⟨o1, q1⟩ := ib.there b o q (by simp); rw [hb] at q1; cases q1
  have nCs : C ∉ frs X.stack := fun z => by
    rw [fe] at z
    rcases List.mem_cons.mp z with z | z
    · exact nL z
    · exact nfs z
  have kC : ∀ o, s.heap.get? C = some o → s'.heap.get? C = some o := fun o q => un.keep C o q hC nCs (by simp)
  obtain ⟨oC, hoC⟩ : ∃ o, s.heap.get? C = some o := let ⟨o, _, _, ho, _⟩ := hn; ⟨o, ho⟩
  have hn' := hn.at kC
  have fC : H' C = none := un.free C oC hoC hC (by simp)
  have nCe : C ≠ e := fun z => by rw [z, n1] at hoC; cases hoC
  have nCT : C ≠ T := fun z => by rw [z, n2] at hoC; cases hoC
  rw [noteFrame_congr hcf]
  have hfun' : s'.heap.FunFrames X.base (X.env :: X.outer) := by rw [← pf.stk]; exact hfun
  refine note_any (by rw [← pf.stk]; exact I.ok.frames) hfun' pf.frm x1 x2 x3 fun h1 T2 fl2 y1 y2 y3 y4 mv => hR _ ?_
  rw [← pf.stk] at mv
  have nT2 : X.s₀.heap.get? T2 = none := by
    rcases y3 with z | z
    · rw [z]; exact none_of T n2
    · cases q : X.s₀.heap.get? T2 with
      | none => rfl
      | some o => obtain ⟨o1, q1⟩ := um.there T2 o q (by simp); exact absurd (Heap.lt_size q1) (Nat.not_lt.mpr z)
  have fT2 : H' T2 = none := by
    rcases y3 with z | z
    · rw [z]; exact f2
    · cases q : H' T2 with
      | none => rfl
      | some u => obtain ⟨ob, hob⟩ := (hok T2 u q).there; exact absurd (Heap.lt_size hob) (Nat.not_lt.mpr z)
  have nCT2 : C ≠ T2 := by
    rcases y3 with z | z
    · rw [z]; exact nCT
    · exact fun w => absurd (Heap.lt_size (kC oC hoC)) (by rw [w]; exact Nat.not_lt.mpr z)
  have um1 : Un X.fs [] X.H₀ H' X.s₀.heap h1 := un_moved (l := X.stack) (l' := X.outer) um mv (fun b hb => by rw [fe]; exact List.mem_cons_of_mem _ hb) (fun b o q hb => by
    rw [fe] at hb
    rcases List.mem_cons.mp hb with z | z
    · rw [z, pf.new] at q; cases q
    · exact z) (none_of e n1) (fun T' z => by cases z; exact none_of T n2)
  have hok1 : HOk X.prog X.w H' h1 := hok.track fun b u o q1 q2 => mv.keep b o (fun z => by rw [z, f1] at q1; cases q1) (fun z => by cases z; rw [f2] at q1; cases q1) (ntr b u q1) q2
  refine ⟨m, hn'.at fun o q => mv.keep C o nCe (fun z => nCT (Option.some.inj z)) nCs q, fun h2 sb cenv' _ => ?_⟩
  have b2 : ∀ b, b ≠ C → h2.get? b = h1.get? b := fun b hb => sb.2 b hb
  obtain ⟨oe, vs, he, hCl, hdd, hd, h1'⟩ := id y1
  have y1' : ExAt h2 e Cl dd (.ref T2) := ⟨oe, vs, (b2 e (Ne.symm nCe)).trans he, hCl, hdd, hd, h1'⟩
  have y2' : TrAt h2 T2 fl2 := let ⟨a, b, c, d⟩ := y2; ⟨a, b, (b2 T2 (Ne.symm nCT2)).trans c, d⟩
  unfold PySem.passOn
  refine wpAny_bind (wpAny_field ((b2 e (Ne.symm nCe)).trans he) hd h1' ?_)
  rw [if_neg (by simp)]
  refine wpAny_bind (flight_any (s := { s' with heap := h2 }) y1' y2' y4 fun h3 fl3 z1 z2 k1 k2 => wpAny_throw (pf.go I.ok.frames _ _ ?_))
  have um3 : Un X.fs [] X.H₀ H' X.s₀.heap h3 := un_agree um1 fun b o q => by
    have nb : b ≠ T2 := fun z => by rw [z, nT2] at q; cases q
    have nb2 : b ≠ C := fun z => absurd (Heap.lt_size q) (by rw [z]; exact Nat.not_lt.mpr hs0)
    rw [k1 b nb]
    exact b2 b nb2
  refine ⟨e, Cl, dd, T2, fl3, H', rfl, os.trans I.os, bare, um3, ?_, ntr, ?_, z1, z2, y4, f1, fT2, none_of e n1, nT2, hE⟩
  · refine funFrames_un hfun fun b o hb q => ?_
    obtain ⟨sl, w1⟩ := mv.slot b o hb q
    have nb2 : b ≠ C := fun z => nCs (by rw [← z]; exact hb)
    have nb : b ≠ T2 := fun z => by
      obtain ⟨_, o', ho', hnf⟩ := hfun.mem hb
      rw [q] at ho'; cases ho'
      obtain ⟨a, ts, c, d, _⟩ := y2
      rw [← z, w1] at c; cases c
      exact hnf _ d
    exact ⟨sl, by rw [k1 b nb]; exact (b2 b nb2).trans w1⟩
  · refine hok1.track fun b u o q1 q2 => ?_
    rw [k1 b fun z => by rw [z, fT2] at q1; cases q1]
    exact (b2 b fun z => by rw [z, fC] at q1; cases q1).trans q2
theorem comp_blockX {pins : List (Addr × Obj)} {σ : St} {H1 : Hp} {s1 : Shared} {it : Addr} {fp : List Addr} {tn : Nat → Heap → Prop} {J : It} {cl : List (Str × Addr)} {Q : VK} {RR : Value → Addr → Result → Shared → Prop}
    (pf : PassF X E) (hc : X.calm = true) (hk : scope.kind = .function) (hcell : ∀ y ∈ scope.names, y.2 ≠ .cell) (cap : Cap X scope N' js)
    (blk : ∀ B, PG (cxComp X scope N' B) tg (g B) ∧ PIfs (cxComp X scope N' B) ifs (tc B) ∧ PE (cxCompX X E scope N' B) elt (te B))
    (c1 : ∀ x c, cl.lookup x = some c → X.env.cells.lookup x = some c) (c2 : ∀ x, (x, NameKind.free) ∈ scope.names → ∃ c, cl.lookup x = some c)
    (I : Inv X pins σ H1 s1) (T : Turn X.prog X.w X.K tg J fp it tn) (st : tn 0 s1.heap) (hf : ∀ b ∈ fp, FpOk X pins H1 b)
    (h : ∀ l B, H1 l = none → tLoop J l (g B) (tc B) (te B) (capS js σ) (upd H1 l (.lst [])) Q)
    (hRR : ∀ l C H' s' (m' : Str → Option Value), Inv X pins σ H' s' → Q (.ref l) H' → s'.heap.Ns C m' → H' C = none → C ≠ X.env.locals → (∀ x c, X.env.cells.lookup x = some c → c ≠ C) → C ∉ X.fs → X.s₀.heap.objs.size ≤ C → (∀ p ∈ X.pn ++ pins, p.1 ≠ C) →
      RR (.ref l) C (.ok .next) s')
    (hRX : ∀ l C u s'', (∃ m, s''.heap.Ns C m ∧ ∀ h', Heap.SameBut C s''.heap h' → ∀ cenv : Env, cenv.locals = C → wpAny (model X.prog X.w) X.A (PySem.passOn "comprehension.variables-let-go" u cenv : Sem Value) (fun _ _ => False) X.xe { s'' with heap := h' }) → RR (.ref l) C (.error u) s'') :
    wpAny (model X.prog X.w) X.A (newList []) (fun acc s₃ => wpAny (model X.prog X.w) X.A (newFunctionEnv scope X.env.globals cl [] X.env.qual none .none (some X.env)) (fun cenv s₄ =>
      codeAny (model X.prog X.w) X.A (.compStart (.ListComp elt [⟨tg, iter, ifs, 0⟩] scope pos) 0 (.ref it) acc { cenv with scope := relabel scope X.env }) (RR acc cenv.locals) s₄) X.xe s₃) X.xe s1 := by
  unfold PE at *; unfold PG at *; unfold PIfs at *
  exact by
    refine wpAny_newObj_type ?_
    have I2 : Inv X pins σ (upd H1 s1.heap.objs.size (.lst [])) { s1 with heap := s1.heap.push { cls := .type "list", data := .seq ([] : List Value).toArray } } := I.lnew (t' := s1.toks) .nil (Nat.zero_le _)
    have hl : H1 s1.heap.objs.size = none := I.fresh
    generalize es2 : ({ s1 with heap := s1.heap.push { cls := .type "list", data := .seq ([] : List Value).toArray } } : Shared) = s2 at I2 ⊢
    generalize el : s1.heap.objs.size = l at *
    have ne_fp : ∀ b ∈ fp, b ≠ l := fun b hb => by
      obtain ⟨o, e, _⟩ := T.obj _ _ st b hb
      rw [← el]
      exact Nat.ne_of_lt (Heap.lt_size e)
    have hf2 : ∀ b ∈ fp, FpOk X pins (upd H1 l (.lst [])) b := fun b hb => ⟨by rw [upd_ne (ne_fp b hb)]; exact (hf b hb).1, (hf b hb).2⟩
    have kp : ∀ b o, s1.heap.get? b = some o → s2.heap.get? b = some o := fun b o e => by rw [← es2]; exact Heap.get?_push_of_some _ e
    have st2 : tn 0 s2.heap := T.keep _ _ _ st fun b _ o e => kp b o e
    refine wpAny_newFunctionEnv hcell (by intro y hy; simp at hy) (fun h' ns sb => ?_) hk
    have kp2 : ∀ b o, s2.heap.get? b = some o → h'.get? b = some o := fun b o e => (sb.2 b (Nat.ne_of_lt (Heap.lt_size e))).trans (Heap.get?_push_of_some _ e)
    have st3 : tn 0 h' := T.keep _ _ _ st2 fun b _ o e => kp2 b o e
    have I3 := comp_start (t' := s2.toks + ([] : List (Str × Value)).length) (m0 := fun x => ([] : List (Str × Value)).reverse.lookup x) I2 hk hcell hf2 (fun b hb => by obtain ⟨o, e, _⟩ := T.obj _ _ st2 b hb; exact ⟨o, e⟩) c1 c2 cap ns kp2
    obtain ⟨pg, pif, pel⟩ := blk ⟨cl, s2, upd H1 l (.lst []), fp⟩
    obtain ⟨W, ⟨m0, w0⟩, turn⟩ := h l ⟨cl, s2, upd H1 l (.lst []), fp⟩ hl
    have fpY : ∀ {H' : Hp}, (∀ b ∈ fp, H' b = none) → ∀ b ∈ fp, FpOk (cxComp X scope N' ⟨cl, s2, upd H1 l (.lst []), fp⟩) [] H' b := fun {H'} hn b hb =>
      ⟨hn b hb, (I3.ok.exf b hb).1, I3.ok.exfs b hb, .inl hb, (I3.ok.exf b hb).2, fun p hp => absurd hp (by simp [cxComp])⟩
    have loop : codeAny (model X.prog X.w) X.A (.compLoop (.ListComp elt [⟨tg, iter, ifs, 0⟩] scope pos) 0 (.ref it) (.ref l) (compEnvC scope cl s2.heap.objs.size X.env)) (RR (.ref l) s2.heap.objs.size) { s2 with heap := h', toks := s2.toks + ([] : List (Str × Value)).length } := by
      refine compLoop_goX (fun n s' => ∃ i σ' acc H', Inv (cxComp X scope N' ⟨cl, s2, upd H1 l (.lst []), fp⟩) [] σ' H' s' ∧ tn i s'.heap ∧ (∀ b ∈ fp, H' b = none) ∧ W i n σ' acc H') ?_ m0 ⟨0, _, _, _, I3, st3, fun b hb => (hf2 b hb).1, w0⟩
      rintro n s3 ⟨i, σ3, acc, H3, J3, t3, f3, w3⟩
      obtain ⟨hacc, alt⟩ := turn i n σ3 acc H3 w3
      rcases alt with ⟨stop, q⟩ | ⟨go, hz, step⟩
      · refine thn (T.done (cxComp X scope N' ⟨cl, s2, upd H1 l (.lst []), fp⟩) rfl rfl rfl hc i [] s3 σ3 H3 (fun _ _ => False) J3 (fpY f3) t3 stop) fun r s4 ⟨hr, J4⟩ => ?_
        subst hr
        have IX : Inv X pins σ H3 s4 := I2.call' (ch := fp) J4.os J4.base J4.hok J4.bare fun b hb => ⟨(hf2 b hb).2.2.2.1, (hf2 b hb).2.1, (hf2 b hb).2.2.2.2.1, (hf2 b hb).2.2.2.2.2⟩
        obtain ⟨m', hn', _⟩ := J4.loc
        refine hRR l s2.heap.objs.size H3 s4 m' IX q hn' J4.free (Nat.ne_of_gt I2.lt) (fun x c e => ?_) (I2.nofs (Nat.le_refl _)) I2.sz fun p hp => Nat.ne_of_lt (Heap.lt_size (I2.pin p hp).1)
        obtain ⟨v, z⟩ := I2.cell x c e
        exact Nat.ne_of_lt z.lt
      · refine thn (T.item (cxComp X scope N' ⟨cl, s2, upd H1 l (.lst []), fp⟩) rfl rfl rfl hc i [] s3 σ3 H3 (fun _ _ => False) J3 (fpY f3) t3 go) fun r s4 ⟨u, hr, h4⟩ => ?_
        subst hr
        refine thn h4 fun _ s5 ⟨x, H5, J5, r5, y5, t5, f5⟩ => ?_
        have J5' := J5.pinned (fpY f5) (T.obj _ _ t5)
        refine thn (pg _ s5 σ3 H5 x u _ J5' r5 (step x H5 y5)) fun _ s6 ⟨σ6, H6, J6, q6⟩ => ?_
        refine thn (pif _ s6 σ6 H6 _ J6 q6) fun ok s7 ⟨H7, J7, q7⟩ => ?_
        have again : ∀ {σ8 : St} {H8 : Hp} {s8 : Shared} {acc8 : List V}, Inv (cxComp X scope N' ⟨cl, s2, upd H1 l (.lst []), fp⟩) ([] ++ pinsAt fp s5.heap) σ8 H8 s8 → (∃ m', m' < n ∧ W (i + 1) m' σ8 acc8 H8) →
            ∃ m, m < n ∧ ∃ i σ' acc H', Inv (cxComp X scope N' ⟨cl, s2, upd H1 l (.lst []), fp⟩) [] σ' H' s8 ∧ tn i s8.heap ∧ (∀ b ∈ fp, H' b = none) ∧ W i m σ' acc H' := fun {σ8 H8 s8 acc8} J8 hw => by
          obtain ⟨m', hm, w8⟩ := hw
          refine ⟨m', hm, i + 1, σ8, acc8, H8, J8.unpinned, T.keep _ _ _ t5 fun b hb o e => (J8.pin (b, o) (List.mem_append_right _ (List.mem_append_right _ (mem_pinsAt hb e)))).1, fun b hb => ?_, w8⟩
          obtain ⟨o, e, d⟩ := T.obj _ _ t5 b hb
          exact (J8.pin (b, o) (List.mem_append_right _ (List.mem_append_right _ (mem_pinsAt hb e)))).2.1
        cases ok with
        | false => exact again J7 q7
        | true =>
          refine wpAny_mono (pel _ s7 σ6 H7 _ (inv_into J7) q7) (fun xv s8 ⟨v, H8, J8, r8, hl8, m', hm, w8⟩ => ?_) (fun u s' ⟨pins', σ', H', s'', J', hx⟩ => ?_)
          rotate_left
          · have IX : Inv X pins σ H' s'' := I2.call' (ch := fp) J'.os J'.base J'.hok J'.bare fun b hb => ⟨(hf2 b hb).2.2.2.1, (hf2 b hb).2.1, (hf2 b hb).2.2.2.2.1, (hf2 b hb).2.2.2.2.2⟩
            obtain ⟨m', hn', _⟩ := J'.loc
            exact comp_fly (R := RR (.ref l) s2.heap.objs.size) pf IX hx hn' J'.free (Nat.ne_of_gt I2.lt) (I2.nofs (Nat.le_refl _)) I2.sz rfl (fun s'' z => hRX l s2.heap.objs.size u s'' z)
          have J8 := inv_out J8
          have mtq := mt_append (X := cxComp X scope N' ⟨cl, s2, upd H1 l (.lst []), fp⟩)
          unfold MtM at mtq
          refine thn (mtq _ s8 σ6 H8 (.ref l) [v] (.ref l) [xv] (fun _ H9 => H9 = upd H8 l (.lst (acc ++ [v]))) J8 rfl (.cons r8 .nil) ⟨l, acc, v, rfl, rfl, hl8, hz, rfl⟩) fun _ s9 ⟨v9, H9, J9, _, e9⟩ => ?_
          subst e9
          exact again J9 ⟨m', hm, w8⟩
    exact codeAny_compStart_list loop (T.self X.A 0 _ _ _ st3 loop)
theorem pe_compX (pf : PassF X E) (hc : X.calm = true) (hk : scope.kind = .function) (hcell : ∀ y ∈ scope.names, y.2 ≠ .cell) (hnames : ∀ y ∈ scope.names, y.2 = .local → scope.names.lookup y.1 = some .local)
    (hfree : ∀ y ∈ scope.names, y.2 = .free → (X.env.kindOf y.1 = some .cell ∨ X.env.kindOf y.1 = some .free)) (cap : Cap X scope N' js) (hi : PI X tg iter wi)
    (blk : ∀ B, PG (cxComp X scope N' B) tg (g B) ∧ PIfs (cxComp X scope N' B) ifs (tc B) ∧ PE (cxCompX X E scope N' B) elt (te B))
    (hs : ∀ x, foldedSetIterable iter X.env x = pure x := by intro _; rfl) : PE X (.ListComp elt [⟨tg, iter, ifs, 0⟩] scope pos) (tComp js wi g tc te) := by
  unfold PE; unfold PI at hi
  exact by
    intro pins s σ H Q I h
    obtain ⟨cl, hcl, c1, c2⟩ := closure_of (scope := scope) (env := X.env) fun x hx hxf => I.ok.has x.1 (hfree x hx hxf)
    rw [eval_ListComp]
    refine wpAny_comprehension_free (use := none) rfl hs hcl hk hnames (thn (hi pins s σ H _ I h) fun v s1 h1 => thn h1 fun itv s2 h2 => ?_)
    obtain ⟨it, fp, tn, J, H2, e, I2, T, st2, f2, hloop⟩ := h2
    subst e
    refine comp_blockX (RR := fun acc C => compPost (model X.prog X.w) X.A X.xe none (EP X pins σ Q) acc C) pf hc hk hcell cap blk c1 c2 I2 T st2 f2 hloop ?_ (fun l C u s'' h => h)
    intro l C H' s' m' I' q ns fC hL hcl' hfs hs0 hpin
    exact ⟨m', ns, fun h'' sb => ⟨.ref l, H', I'.turned (t' := s'.toks) (fun b o hb e => (sb.2 b hb).trans e) fC hL (.inr hs0) hcl' hpin, rfl, q⟩⟩
end
end L2
set_option maxHeartbeats 200000
namespace My
open PySem L2
local macro_rules | `(tactic| walk_at "rd") => `(tactic| repeat (first
  | refine ⟨_, rfl, ?_⟩
  | refine ⟨_, _, rfl, rfl, ?_⟩
  | refine ⟨_, _, rfl, ?_⟩
  | refine ⟨(by show (0 : Int) < _; decide), ?_⟩
  | refine ⟨(⟨by decide, by decide⟩ : CDiv _ _), ?_⟩
  | refine ⟨(⟨by decide, by decide⟩ : CDivB _ _), ?_⟩
  | refine ⟨(⟨by decide, by decide, by decide⟩ : CPow _ _), ?_⟩
  | refine ⟨(.inr ⟨by decide, by decide⟩ : CMul _ _), ?_⟩
  | refine ⟨(.inl ⟨by decide, by decide⟩ : CMul _ _), ?_⟩
  | refine ⟨Own.int, ?_⟩
  | refine ⟨Own.bl, ?_⟩
  | refine ⟨Own.str, ?_⟩
  | refine ⟨Own.non, ?_⟩
  | refine ⟨rfl, ?_⟩))
def isI : V → Bool
  | .int _ => true
  | _ => false
def inR (m : Int) : V → Bool
  | .int i => decide (1 ≤ i) && decide (i ≤ m)
  | _ => false
def spW (K : PySem.W.Frag) : Sp := fun vs H Q _ => ∃ x, vs = [x] ∧ Own K H x ∧ Q (.bl (isI x)) H
def spR (K : PySem.W.Frag) (m : Int) : Sp := fun vs H Q _ => ∃ x, vs = [x] ∧ Own K H x ∧ Q (.bl (inR m x)) H
def FrD (d : Addr) (H H' : Hp) : Prop := ∀ b u, b ≠ d → H b = some u → H' b = some u
def Seen (kvs kv' : List (Key × V)) (ns : List Int) : Prop := kv'.length = kvs.length + ns.length ∧ ∀ s : Int, valV kv' (Sum.inl s) = none ↔ valV kvs (Sum.inl s) = none ∧ s ∉ ns
structure Good (ns : List Int) : Prop where
  inn : ∀ s ∈ ns, inR 1000000000 (.int s) = true
  nd : ns.Nodup
theorem take_one {α : Type} {l : List α} {i : Nat} {x : α} (h : l[i]? = some x) : l.take (i + 1) = l.take i ++ [x] := by
  rw [List.take_succ, h]; rfl
theorem Seen.nil (kvs : List (Key × V)) : Seen kvs kvs [] := ⟨rfl, fun s => ⟨fun h => ⟨h, List.not_mem_nil⟩, fun h => h.1⟩⟩
theorem Seen.put {kvs kv' : List (Key × V)} {ns : List Int} {s : Int} {v : V} (h : Seen kvs kv' ns) (hs : valV kv' (Sum.inl s) = none) : Seen kvs (putK kv' (Sum.inl s) v) (ns ++ [s]) := by
  refine ⟨?_, fun x => ?_⟩
  · unfold putK
    rw [if_neg (by rw [valV_any, hs]; decide), List.length_append, List.length_append, h.1]
    rfl
  · rw [valV_put, List.mem_append, List.mem_singleton]
    by_cases e : x = s
    · subst e
      rw [if_pos rfl]
      exact ⟨fun z => (nomatch z), fun z => absurd (Or.inr rfl) z.2⟩
    · rw [if_neg (fun z => e (Sum.inl.inj z)), h.2 x]
      exact ⟨fun z => ⟨z.1, fun q => q.elim z.2 e⟩, fun z => ⟨z.1, fun q => z.2 (.inl q)⟩⟩
theorem Seen.more {k0 k1 k2 : List (Key × V)} {ns ms : List Int} (h : Seen k0 k1 ns) (h' : Seen k1 k2 ms) : Seen k0 k2 (ns ++ ms) := by
  refine ⟨by rw [h'.1, h.1, List.length_append, Nat.add_assoc], fun s => ?_⟩
  rw [h'.2 s, h.2 s, List.mem_append]
  exact ⟨fun z => ⟨z.1.1, fun q => q.elim z.1.2 z.2⟩, fun z => ⟨⟨z.1, fun q => z.2 (.inl q)⟩, fun q => z.2 (.inr q)⟩⟩
theorem FrD.refl (d : Addr) (H : Hp) : FrD d H H := fun b u _ h => h
theorem FrD.trans {d : Addr} {H H1 H2 : Hp} (a : FrD d H H1) (b : FrD d H1 H2) : FrD d H H2 := fun c u n h => b c u n (a c u n h)
theorem FrD.lst {d : Addr} {H H' : Hp} {kvs : List (Key × V)} (f : FrD d H H') (hd : H d = some (.dK kvs)) : ∀ a xs, H a = some (.lst xs) → H' a = some (.lst xs) := fun a xs h => f a _ (ne_of h hd (by intro z; cases z)) h
theorem FrD.some {d : Addr} {H H' : Hp} {kvs : List (Key × V)} (f : FrD d H H') (hd : H' d = some (.dK kvs)) : ∀ a, H a ≠ none → H' a ≠ none := fun a h => by
  by_cases e : a = d
  · subst e; rw [hd]; intro z; cases z
  · cases q : H a with
    | none => exact absurd q h
    | some u => rw [f a u e q]; intro z; cases z
structure Grp (n : Nat) (t : Tr n) : Prop where
  fu : full n t
  as : asc n t
  inn : ∀ s ∈ flat n t, inR 1000000000 (.int s) = true
  nd : (flat n t).Nodup
structure WF (S : Tr 4) : Prop where
  fu : ∀ g ∈ ls S, full 3 g
  as : asc 4 S
  inn : ∀ s ∈ flat 4 S, inR 1000000000 (.int s) = true
  nd : (flat 4 S).Nodup
theorem WF.grp {S : Tr 4} (h : WF S) {i : Nat} {g : Tr 3} (e : (ls S)[i]? = some g) : Grp 3 g :=
  have hm := List.mem_of_getElem? e
  ⟨h.fu g hm, h.as g hm, fun s hs => h.inn s (flat_mem hm hs), (flat_nd e h.nd).1⟩
theorem Grp.kid {n : Nat} {t : Tr (n + 2)} (h : Grp (n + 2) t) {i : Nat} {g : Tr (n + 1)} (e : (ls t)[i]? = some g) : Grp (n + 1) g :=
  have hm := List.mem_of_getElem? e
  ⟨h.fu.2 g hm, h.as g hm, fun s hs => h.inn s (flat_mem hm hs), (flat_nd e h.nd).1⟩
theorem le_k {j k n : Nat} (h : j ≤ k) : j ≤ Nat.add k n := Nat.le_trans h (Nat.le_add_right k n)
theorem flat_pos : ∀ {n : Nat} {t : Tr n}, full n t → 1 ≤ (flat n t).length
  | 0, _, _ => Nat.le_refl 1
  | n + 1, t, h => by
    obtain ⟨x, r, e⟩ := List.exists_cons_of_ne_nil h.1
    have hx := flat_pos (h.2 x (by rw [e]; exact List.mem_cons_self ..))
    have e2 : flat (n + 1) t = flat n x ++ flat (n + 1) (r : List (Tr n)) := congrArg (fun z : List (Tr n) => flat (n + 1) z) e
    rw [e2, List.length_append]
    omega
theorem flat_full {n : Nat} : ∀ {ts : List (Tr n)}, (∀ t ∈ ts, full n t) → ts.length ≤ (flat (n + 1) ts).length
  | [], _ => Nat.zero_le _
  | x :: r, h => by
    have h1 := flat_pos (h x (List.mem_cons_self ..))
    have h2 := flat_full (ts := r) fun t ht => h t (List.mem_cons_of_mem _ ht)
    have e2 : flat (n + 1) (x :: r : List (Tr n)) = flat n x ++ flat (n + 1) (r : List (Tr n)) := rfl
    rw [e2, List.length_append, List.length_cons]
    omega
theorem seqNil {K : PySem.W.Frag} {H : Hp} {n : Nat} {a b : Addr} {xs : List V} (ha : SqL K H a xs) (hb : SqL K H b []) : SeqEq K H (EqD K H n) (.ref a) (.ref b) xs.isEmpty := by
  cases xs with
  | nil => exact .list (e := fun _ => true) ha hb rfl fun i x y h => (by rw [List.getElem?_nil] at h; cases h)
  | cons x r => exact .listN ha hb (by intro z; cases z)
theorem atI_ix {α : Type} {xs : List α} {i : Int} (h0 : 0 ≤ i) (h1 : i < xs.length) : ∃ j v, j < xs.length ∧ xs[j]? = some v ∧ atI xs i = some v ∧ ixN xs.length i = some j := by
  have hj : i.toNat < xs.length := by omega
  refine ⟨i.toNat, xs[i.toNat], hj, List.getElem?_eq_getElem hj, atI_toNat h0 (List.getElem?_eq_getElem hj), ?_⟩
  unfold ixN
  rw [if_pos h0, if_pos h1]
def spDrawn (K : PySem.W.Frag) : Sp := fun vs H Q _ => ∃ (a : Addr) (k : Int) (ns : List Int), vs = [.ref a, .int k] ∧ 0 ≤ k ∧ k < ns.length ∧ ns.length ≤ 63 ∧ SqL K H a (ns.map V.int) ∧ ∀ r, 0 ≤ r → Q (.int r) H
def spSheet : Sp := fun vs H Q _ => ∃ m k, vs = [.int m, .int k] ∧ 0 ≤ k ∧ k < 64 ∧ ∀ r, (r - 1) % 64 = k → inR 1000000000 (.int r) = true → Q (.int r) H
theorem inR_int (m i : Int) : inR m (.int i) = (decide (1 ≤ i) && decide (i ≤ m)) := rfl
theorem inR_of {m i : Int} (h1 : 1 ≤ i) (h2 : i ≤ m) : inR m (.int i) = true := by rw [inR_int, decide_eq_true h1, decide_eq_true h2]; rfl
structure Put (S : Tr 4) (s : Int) (S' : Tr 4) : Prop where
  p : (flat 4 S').Perm (flat 4 S ++ [s])
  fu : (∀ g ∈ ls S, full 3 g) → ∀ g ∈ ls S', full 3 g
  as : asc 4 S → asc 4 S'
theorem Put.wf {S S' : Tr 4} {s : Int} (h : Put S s S') (w : WF S) (hs : s ∉ flat 4 S) (hr : inR 1000000000 (.int s) = true) : WF S' := by
  refine ⟨h.fu w.fu, h.as w.as, fun x hx => ?_, ?_⟩
  · rcases List.mem_append.mp (h.p.mem_iff.mp hx) with q | q
    · exact w.inn x q
    · rw [List.mem_singleton.mp q]; exact hr
  · rw [h.p.nodup_iff, List.nodup_append]
    exact ⟨w.nd, List.nodup_cons.mpr ⟨List.not_mem_nil, List.nodup_nil⟩, fun x hx y hy e => hs (by rw [← List.mem_singleton.mp hy, ← e]; exact hx)⟩
theorem full_all_set {n : Nat} {ts : List (Tr n)} {i : Nat} {t : Tr n} (h : ∀ g ∈ ts, full n g) (ht : full n t) : ∀ g ∈ ts.set i t, full n g := fun x hx => by
  rcases List.mem_or_eq_of_mem_set hx with q | q
  · exact h x q
  · rw [q]; exact ht
structure PutG (n : Nat) (t : Tr (n + 1)) (s : Int) (t' : Tr (n + 1)) : Prop where
  p : (flat (n + 1) t').Perm (flat (n + 1) t ++ [s])
  fu : full (n + 1) t → full (n + 1) t'
  as : asc (n + 1) t → asc (n + 1) t'
theorem PutG.up {n : Nat} {ts : Tr (n + 2)} {i : Nat} {t t' : Tr (n + 1)} {s : Int} (h : PutG n t s t') (e : (ls ts)[i]? = some t) : PutG (n + 1) ts s ((ls ts).set i t' : List (Tr (n + 1))) :=
  have hm := List.mem_of_getElem? e
  ⟨flat_set (n + 1) (ls ts) i t t' s e h.p, fun f => full_set f (h.fu (f.2 t hm)), fun a => asc_set a (h.as (a t hm))⟩
theorem PutG.top {S : Tr 4} {i : Nat} {t t' : Tr 3} {s : Int} (h : PutG 2 t s t') (e : (ls S)[i]? = some t) : Put S s ((ls S).set i t' : List (Tr 3)) :=
  have hm := List.mem_of_getElem? e
  ⟨flat_set 3 (ls S) i t t' s e h.p, fun f => full_all_set f (h.fu (f t hm)), fun a => asc_set a (h.as (a t hm))⟩
def solo : (n : Nat) → Int → Tr n
  | 0, s => s
  | n + 1, s => ([solo n s] : List (Tr n))
theorem solo_flat : ∀ (n : Nat) (s : Int), flat n (solo n s) = [s]
  | 0, s => rfl
  | n + 1, s => by
    show flat n (solo n s) ++ [] = [s]
    rw [solo_flat n s]
    rfl
theorem solo_full : ∀ (n : Nat) (s : Int), full n (solo n s)
  | 0, _ => trivial
  | n + 1, s => ⟨List.cons_ne_nil _ _, fun t ht => by rw [List.mem_singleton.mp ht]; exact solo_full n s⟩
theorem solo_asc : ∀ (n : Nat) (s : Int), asc n (solo n s)
  | 0, _ => trivial
  | 1, s => List.pairwise_singleton _ _
  | n + 2, s => fun t ht => by rw [List.mem_singleton.mp ht]; exact solo_asc (n + 1) s
theorem PutG.app {n : Nat} (ts : Tr (n + 2)) (s : Int) : PutG (n + 1) ts s (ls ts ++ [solo (n + 1) s] : List (Tr (n + 1))) := by
  refine ⟨?_, fun f => full_app f (solo_full _ s), fun a => asc_app a (solo_asc _ s)⟩
  rw [flat_app]
  have e : flat (n + 2) ([solo (n + 1) s] : List (Tr (n + 1))) = [s] := solo_flat (n + 2) s
  rw [e]
theorem Put.app (S : Tr 4) (s : Int) : Put S s (ls S ++ [solo 3 s] : List (Tr 3)) := by
  refine ⟨?_, fun f x hx => ?_, fun a => asc_app a (solo_asc _ s)⟩
  · rw [flat_app]
    have e : flat 4 ([solo 3 s] : List (Tr 3)) = [s] := solo_flat 4 s
    rw [e]
  · rcases List.mem_append.mp hx with q | q
    · exact f x q
    · rw [List.mem_singleton.mp q]; exact solo_full 3 s
theorem PutG.form {f f' : List Int} {s : Int} (p : f'.Perm (f ++ [s])) (hs : f'.Pairwise (· ≤ ·)) (hn : s ∉ f) : PutG 0 f s f' := by
  refine ⟨(List.Perm.of_eq (flat_ints f')).trans (p.trans (List.Perm.of_eq (congrArg (· ++ [s]) (flat_ints f).symm))), fun _ => ⟨fun z => ?_, fun t _ => trivial⟩, fun a => ?_⟩
  · have z : f' = [] := z
    rw [z] at p
    exact absurd (p.mem_iff.mpr (List.mem_append_right _ (List.mem_singleton.mpr rfl))) List.not_mem_nil
  · have a : f.Pairwise (· < ·) := a
    have nd : f.Nodup := a.imp fun h => Int.ne_of_lt h
    have nd' : f'.Nodup := by
      rw [p.nodup_iff, List.nodup_append]
      exact ⟨nd, List.nodup_cons.mpr ⟨List.not_mem_nil, List.nodup_nil⟩, fun x hx y hy e => hn (by rw [← List.mem_singleton.mp hy, ← e]; exact hx)⟩
    show f'.Pairwise (· < ·)
    exact (hs.and nd').imp fun h => by omega
def spPut : Sp := fun vs H Q _ => ∃ v s m, ∃ S : Tr 4, ∃ o : Ow, vs = [v, .int s, .int m] ∧ At o H 4 [] v S ∧ Dom o H ∧ WF S ∧ s ∉ flat 4 S ∧ (flat 4 S).length < 60 ∧
  ∀ H', ∀ S' : Tr 4, ∀ o' : Ow, (∀ b u, o b = none → H b = some u → H' b = some u) → At o' H' 4 [] v S' → Dom o' H' → (∀ b r, o' b = some r → o b = none → H b = none) → Put S s S' → Q .non H'
theorem newSolo {H H1 : Hp} {n : Nat} {w : V} {s : Int} {q : Addr} (h : New H H1 n w (solo n s)) (hq : H1 q = none) (sm : Same H H1) : New H (upd H1 q (.lst [w])) (n + 1) (.ref q) (solo (n + 1) s) := by
  have nq : H q = none := sm.free hq
  have nl : NewL H1 H1 q n [] [] := NewL.nil
  obtain ⟨o, k, d⟩ := h
  refine ⟨fun b => if b = q then some [] else (o b).map (· ++ [0]), ⟨q, [w], rfl, if_pos rfl, upd_same, rfl, fun j x t hx ht => ?_⟩, fun b r hr => ?_⟩
  · match j, hx, ht with
    | 0, hx, ht =>
      cases hx
      have ht : some (solo n s) = some t := ht
      cases ht
      refine (k.under [0]).frame fun b r xs hb _ hx => ⟨?_, ?_⟩
      · rw [upd_ne (fun z => by rw [z, hq] at hx; cases hx)]
        exact hx
      · show (if b = q then some [] else (o b).map (· ++ [0])) = some r
        rw [if_neg (fun z => by rw [z, hq] at hx; cases hx)]
        exact hb
    | j + 1, hx, ht => cases hx
  · have hr : (if b = q then some [] else (o b).map (· ++ [0])) = some r := hr
    by_cases e : b = q
    · subst e
      exact ⟨nq, by rw [upd_same]; intro z; cases z⟩
    · rw [if_neg e] at hr
      cases e2 : o b with
      | none => rw [e2] at hr; cases hr
      | some r' => exact ⟨(d b r' e2).1, by rw [upd_ne e]; exact (d b r' e2).2⟩
theorem putEnd {o o' : Ow} {G G1 : Hp} {c : Addr} {u : HO} {pc : List Nat} (x : Ext o o' G G1) (s : Same G G1) (hc : o c = some pc) : (∀ b v, o b = none → G b = some v → upd G1 c u b = some v) ∧ ∀ b r, o' b = some r → o b = none → G b = none := by
  refine ⟨fun b v hb hv => ?_, fun b r hr hb => ?_⟩
  · rw [upd_ne (fun z => by rw [z, hc] at hb; cases hb)]
    exact s b v hv
  · cases e : G b with
    | none => rfl
    | some v => rw [x.old b (by rw [e]; intro z; cases z), hb] at hr; cases hr
def spLSort (K : PySem.W.Frag) : Sp := fun vs H Q _ => ∃ (a : Addr) (ns : List Int) (mx : Int), vs = [.ref a, .int 0, .int mx] ∧ 0 ≤ mx ∧ mx ≤ 60 ∧ SqL K H a (ns.map V.int) ∧ ns.length ≤ 63 ∧
  ∀ w H', ∀ S : Tr 4, Same H H' → New H H' 4 w S → WF S → (flat 4 S).length ≤ 60 → Q w H'
def small : (n : Nat) → Tr n → Prop
  | 0, _ => True
  | n + 1, ts => (ls ts).length ≤ 1000 ∧ ∀ t ∈ ls ts, small n t
theorem small_of : ∀ {n : Nat} {t : Tr n}, full n t → (flat n t).length ≤ 1000 → small n t
  | 0, _, _, _ => trivial
  | n + 1, t, h, l => ⟨Nat.le_trans (flat_full (fun x hx => h.2 x hx) (ts := ls t)) l, fun x hx => by
    obtain ⟨i, e⟩ := List.getElem?_of_mem hx
    have := flat_len e
    exact small_of (h.2 x hx) (Nat.le_trans (Nat.le_trans (Nat.le_add_left _ _) this) l)⟩
theorem small_S {S : Tr 4} (h : ∀ g ∈ ls S, full 3 g) (l : (flat 4 S).length ≤ 1000) : small 4 S :=
  ⟨Nat.le_trans (flat_full (fun x hx => h x hx) (ts := ls S)) l, fun x hx => by
    obtain ⟨i, e⟩ := List.getElem?_of_mem hx
    have := flat_len e
    exact small_of (h x hx) (Nat.le_trans (Nat.le_trans (Nat.le_add_left _ _) this) l)⟩
def spSame (n : Nat) : Sp := fun vs H Q _ => ∃ v w, ∃ t : Tr n, vs = [v, w] ∧ AtR H n v t ∧ AtR H n w t ∧ small n t ∧ Q (.bl true) H
def spCopy : Sp := fun vs H Q _ => ∃ v, ∃ S : Tr 4, vs = [v] ∧ AtR H 4 v S ∧ (flat 4 S).length ≤ 1000 ∧ (∀ g ∈ ls S, full 3 g) ∧ ∀ w H', Same H H' → New H H' 4 w S → Q w H'
theorem WF.nil : WF ([] : List (Tr 3)) := by
  refine ⟨fun g h => ?_, fun g h => ?_, fun s h => ?_, List.nodup_nil⟩
  · exact absurd (show g ∈ ([] : List (Tr 3)) from h) List.not_mem_nil
  · exact absurd (show g ∈ ([] : List (Tr 3)) from h) List.not_mem_nil
  · exact absurd (show s ∈ ([] : List Int) from h) List.not_mem_nil
theorem nd_take {ns : List Int} {i : Nat} {s : Int} (h : ns.Nodup) (hs : ns[i]? = some s) : s ∉ ns.take i := fun z => by
  have e : ns = ns.take i ++ s :: ns.drop (i + 1) := by
    obtain ⟨hi, rfl⟩ := List.getElem?_eq_some_iff.mp hs
    rw [List.getElem_cons_drop hi, List.take_append_drop]
  rw [e, List.nodup_append] at h
  exact h.2.2 s z s (List.mem_cons_self ..) rfl
theorem atI_last {α : Type} (xs : List α) (v : α) : atI (xs ++ [v]) (-1) = some v := by
  have e : ixN (xs ++ [v]).length (-1) = some xs.length := by
    unfold ixN
    rw [List.length_append, List.length_singleton]
    simp
    omega
  unfold atI
  rw [e]
  simp
def NoListV (K : PySem.W.Frag) (H : Hp) (v : V) : Prop := ∃ n, TyOf K H v (.type n) ∧ PySem.W.kitOne K (.type n) (.type "list") = some false
def BadI (K : PySem.W.Frag) (H : Hp) (ns S : List Int) (u : V) : Prop := (Own K H u ∧ inR 1000000000 u = false) ∨ ∃ s, u = .int s ∧ inR 1000000000 (.int s) = true ∧ ((∃ l, ns.getLast? = some l ∧ s ≤ l) ∨ s ∈ S)
def EmptyV (H : Hp) (v : V) : Prop := ∃ a, v = .ref a ∧ H a = some (.lst [])
def BadG (K : PySem.W.Frag) (H : Hp) : Nat → V → List Int → Prop
  | 0, v, S => NoListV K H v ∨ EmptyV H v ∨ ∃ a us ns u, v = .ref a ∧ H a = some (.lst us) ∧ us.length ≤ 1000 ∧ us.take ns.length = ns.map V.int ∧ ns.length ≤ 300 ∧ Good ns ∧ ns.Pairwise (· < ·) ∧ (∀ s ∈ ns, s ∉ S) ∧ us[ns.length]? = some u ∧ BadI K H ns S u
  | n + 1, v, S => NoListV K H v ∨ EmptyV H v ∨ ∃ a us u, ∃ ts : List (Tr (n + 1)), v = .ref a ∧ H a = some (.lst us) ∧ us.length ≤ 1000 ∧ (∀ (j : Nat) w t, us[j]? = some w → ts[j]? = some t → AtR H (n + 1) w t ∧ Grp (n + 1) t) ∧ (flat (n + 2) ts).Nodup ∧ (flat (n + 2) ts).length ≤ 300 ∧ (∀ s ∈ flat (n + 2) ts, s ∉ S) ∧ us[ts.length]? = some u ∧ BadG K H n u (S ++ flat (n + 2) ts)
def BadS (K : PySem.W.Frag) (H : Hp) (v : V) : Prop := NoListV K H v ∨ ∃ a us u, ∃ ts : List (Tr 3), v = .ref a ∧ H a = some (.lst us) ∧ us.length ≤ 1000 ∧ (∀ (j : Nat) w t, us[j]? = some w → ts[j]? = some t → AtR H 3 w t ∧ Grp 3 t) ∧ (flat 4 ts).Nodup ∧ (flat 4 ts).length ≤ 300 ∧ us[ts.length]? = some u ∧ BadG K H 2 u (flat 4 ts)
theorem NoListV.same {K : PySem.W.Frag} {H H' : Hp} {v : V} (h : NoListV K H v) (s : Same H H') : NoListV K H' v := let ⟨n, t, k⟩ := h; ⟨n, t.same s, k⟩
theorem BadI.same {K : PySem.W.Frag} {H H' : Hp} {ns S : List Int} {u : V} (h : BadI K H ns S u) (s : Same H H') : BadI K H' ns S u := h.imp (fun ⟨a, b⟩ => ⟨a.same s, b⟩) id
theorem EmptyV.same {H H' : Hp} {v : V} (h : EmptyV H v) (s : Same H H') : EmptyV H' v := let ⟨a, e, q⟩ := h; ⟨a, e, s _ _ q⟩
theorem BadG.same {K : PySem.W.Frag} {H H' : Hp} (s : Same H H') : ∀ {n : Nat} {v : V} {S : List Int}, BadG K H n v S → BadG K H' n v S
  | 0, _, _, h => by
    rcases h with h | h | ⟨a, us, ns, u, e, h1, h2, h3, h4, h5, h6, h7, h8, h9⟩
    · exact .inl (h.same s)
    · exact .inr (.inl (h.same s))
    · exact .inr (.inr ⟨a, us, ns, u, e, s _ _ h1, h2, h3, h4, h5, h6, h7, h8, h9.same s⟩)
  | n + 1, _, _, h => by
    rcases h with h | h | ⟨a, us, u, ts, e, h1, h2, h3, h4, h5, h6, h7, h8⟩
    · exact .inl (h.same s)
    · exact .inr (.inl (h.same s))
    · exact .inr (.inr ⟨a, us, u, ts, e, s _ _ h1, h2, fun j w t a b => ⟨(h3 j w t a b).1.same s, (h3 j w t a b).2⟩, h4, h5, h6, h7, BadG.same s h8⟩)
theorem BadS.same {K : PySem.W.Frag} {H H' : Hp} {v : V} (h : BadS K H v) (s : Same H H') : BadS K H' v := by
  rcases h with h | ⟨a, us, u, ts, e, h1, h2, h3, h4, h5, h6, h7⟩
  · exact .inl (h.same s)
  · exact .inr ⟨a, us, u, ts, e, s _ _ h1, h2, fun j w t a b => ⟨(h3 j w t a b).1.same s, (h3 j w t a b).2⟩, h4, h5, h6, h7.same s⟩
def spSheetX (K : PySem.W.Frag) (NS : Addr) : Sp := fun vs H Q E => ∃ a d us ns kvs S H0, vs = [.ref a, .ref d] ∧ Same H0 H ∧ H0 d = none ∧ H0 a = some (.lst us) ∧ us.length ≤ 1000 ∧ us.take ns.length = ns.map V.int ∧ ns.length ≤ 300 ∧ Good ns ∧ ns.Pairwise (· < ·) ∧ (∀ s ∈ ns, s ∉ S) ∧ H d = some (.dK kvs) ∧ (∀ s : Int, valV kvs (Sum.inl s) = none ↔ s ∉ S) ∧ kvs.length + 300 ≤ 2000 ∧
  ((us.length = ns.length ∧ ∀ l kv' H', FrD d H H' → H l = none → H' l = some (.lst (ns.map V.int)) → H' d = some (.dK kv') → Seen kvs kv' ns → Q (.ref l) H') ∨ ∃ u, us[ns.length]? = some u ∧ BadI K H0 ns S u ∧ ∀ H', FrD d H H' → E (.ref NS) none H')
def spGroupX (K : PySem.W.Frag) (NS : Addr) (n : Nat) : Sp := fun vs H Q E => ∃ v d kvs S H0, vs = [v, .int (3 - (n : Int)), .ref d] ∧ Same H0 H ∧ H0 d = none ∧ H d = some (.dK kvs) ∧ (∀ s : Int, valV kvs (Sum.inl s) = none ↔ s ∉ S) ∧ kvs.length + 300 * (n + 1) ≤ 2000 ∧
  ((∃ t : Tr (n + 1), AtR H0 (n + 1) v t ∧ Grp (n + 1) t ∧ (∀ s ∈ flat (n + 1) t, s ∉ S) ∧ (flat (n + 1) t).length ≤ 300 ∧ ∀ w kv' H', FrD d H H' → New H H' (n + 1) w t → H' d = some (.dK kv') → Seen kvs kv' (flat (n + 1) t) → Q w H') ∨ (BadG K H0 n v S ∧ ∀ H', FrD d H H' → E (.ref NS) none H'))
def spSortX (K : PySem.W.Frag) (NS : Addr) : Sp := fun vs H Q E => ∃ v, vs = [v] ∧ ((∃ S : Tr 4, AtR H 4 v S ∧ WF S ∧ (flat 4 S).length ≤ 300 ∧ ∀ w H', Same H H' → New H H' 4 w S → Q w H') ∨ (BadS K H v ∧ ∀ H', Same H H' → E (.ref NS) none H'))
theorem FrD.same0 {d : Addr} {H0 H G : Hp} (f : FrD d H G) (s : Same H0 H) (h : H0 d = none) : Same H0 G := fun b u hb => f b u (ne_of_none hb h) (s _ _ hb)
theorem Seen.out {kvs kv' : List (Key × V)} {ns S : List Int} (h : Seen kvs kv' ns) (hs : ∀ s : Int, valV kvs (Sum.inl s) = none ↔ s ∉ S) (s : Int) : valV kv' (Sum.inl s) = none ↔ s ∉ S ++ ns := by
  rw [h.2 s, hs s, List.mem_append]
  exact ⟨fun z q => q.elim z.1 z.2, fun z => ⟨fun q => z (.inl q), fun q => z (.inr q)⟩⟩
theorem flat_cut {n : Nat} (ts : List (Tr n)) (i : Nat) : flat (n + 1) ts = flat (n + 1) (ts.take i : List (Tr n)) ++ flat (n + 1) (ts.drop i : List (Tr n)) := by
  show ts.flatMap (flat n) = (ts.take i).flatMap (flat n) ++ (ts.drop i).flatMap (flat n)
  rw [← List.flatMap_append, List.take_append_drop]
theorem flat_le {n : Nat} (ts : List (Tr n)) (i : Nat) : (flat (n + 1) (ts.take i : List (Tr n))).length ≤ (flat (n + 1) ts).length := by
  rw [flat_cut ts i, List.length_append]
  exact Nat.le_add_right ..
def spNo : Sp := fun _ _ _ _ => False
def spBad1 (K : PySem.W.Frag) (NS : Addr) : Sp := fun vs H _ E => ∃ v, vs = [v] ∧ BadS K H v ∧ ∀ H', Same H H' → E (.ref NS) none H'
def spBad2 (K : PySem.W.Frag) (NS : Addr) : Sp := fun vs H _ E => ∃ v x, vs = [v, x] ∧ BadS K H v ∧ ∀ H', Same H H' → E (.ref NS) none H'
def spBad3 (K : PySem.W.Frag) (NS : Addr) : Sp := fun vs H _ E => ∃ v x p, vs = [v, x, p] ∧ BadS K H v ∧ ∀ H', Same H H' → E (.ref NS) none H'
def spAsk (K : PySem.W.Frag) (NS : Addr) : Sp := fun vs H _ E => ∃ wy v x p, vs = [.int wy, v, x, p] ∧ BadS K H v ∧ ∀ H', Same H H' → E (.ref NS) none H'
def spRef43 (K : PySem.W.Frag) : Sp := fun vs H Q _ => ∃ wy v x p, vs = [.int wy, v, x, p] ∧ BadS K H v ∧ ∀ H', Same H H' → Q (.bl true) H'
def NoGrp (K : PySem.W.Frag) (H : Hp) (v : V) : Prop := ∀ n S, BadG K H n v S
theorem NoGrp.same {K : PySem.W.Frag} {H H' : Hp} {v : V} (h : NoGrp K H v) (s : Same H H') : NoGrp K H' v := fun n S => (h n S).same s
theorem NoGrp.nl {K : PySem.W.Frag} {H : Hp} {v : V} (h : NoListV K H v) : NoGrp K H v := fun n S => by
  cases n with
  | zero => exact .inl h
  | succ n => exact .inl h
theorem NoGrp.em {K : PySem.W.Frag} {H : Hp} {v : V} (h : EmptyV H v) : NoGrp K H v := fun n S => by
  cases n with
  | zero => exact .inr (.inl h)
  | succ n => exact .inr (.inl h)
theorem NoGrp.in {K : PySem.W.Frag} {H : Hp} {a e : Addr} (ha : H a = some (.lst [.ref e])) (he : H e = some (.lst [])) : NoGrp K H (.ref a) := fun n S => by
  cases n with
  | zero => exact .inr (.inr ⟨a, [.ref e], [], .ref e, rfl, ha, le_ble rfl, rfl, by decide, ⟨fun _ h => (nomatch h), List.nodup_nil⟩, .nil, fun _ h => (nomatch h), rfl, .inl ⟨Own.lst he, rfl⟩⟩)
  | succ n => exact .inr (.inr ⟨a, [.ref e], .ref e, [], rfl, ha, le_ble rfl, fun j w t _ h => (by rw [List.getElem?_nil] at h; cases h), List.nodup_nil, Nat.zero_le _, fun _ h => (nomatch h), rfl, NoGrp.em ⟨e, rfl, he⟩ n _⟩)
theorem flat_pre {n : Nat} {t : Tr (n + 2)} {i : Nat} {s : Int} (hs : s ∈ flat (n + 2) ((ls t).take i : List (Tr (n + 1)))) : s ∈ flat (n + 2) t := by
  show s ∈ flat (n + 1 + 1) (ls t)
  rw [flat_cut (ls t) i]
  exact List.mem_append_left _ hs
theorem BadG.up {K : PySem.W.Frag} {G : Hp} {n i : Nat} {a : Addr} {us : List V} {u : V} {t : Tr (n + 2)} {S : List Int} (hA : G a = some (.lst us)) (lu : us.length ≤ 1000) (hk : ∀ (j : Nat) w t', j < i → us[j]? = some w → (ls t)[j]? = some t' → AtR G (n + 1) w t') (hg : Grp (n + 2) t) (hS : ∀ s ∈ flat (n + 2) ((ls t).take i : List (Tr (n + 1))), s ∉ S) (f3 : (flat (n + 2) t).length ≤ 300) (hu : us[i]? = some u) (hi : i ≤ (ls t).length) (bad : BadG K G n u (S ++ flat (n + 2) ((ls t).take i : List (Tr (n + 1))))) : BadG K G (n + 1) (.ref a) S := by
  have e := flat_cut (ls t) i
  have lt : ((ls t).take i).length = i := by rw [List.length_take]; omega
  refine .inr (.inr ⟨a, us, u, (ls t).take i, rfl, hA, lu, fun j w t' hw ht' => ?_, ?_, ?_, hS, by rw [lt]; exact hu, bad⟩)
  · rw [List.getElem?_take] at ht'
    split at ht'
    · exact ⟨hk j w t' (by assumption) hw ht', hg.kid ht'⟩
    · cases ht'
  · have := hg.nd
    have q : flat (n + 2) t = flat (n + 1 + 1) (ls t) := rfl
    rw [q, e] at this
    exact (List.nodup_append.mp this).1
  · exact Nat.le_trans (flat_le (ls t) i) f3
theorem BadS.up {K : PySem.W.Frag} {G : Hp} {i : Nat} {a : Addr} {us : List V} {u : V} {t : Tr 4} (hA : G a = some (.lst us)) (lu : us.length ≤ 1000) (hk : ∀ (j : Nat) w t', j < i → us[j]? = some w → (ls t)[j]? = some t' → AtR G 3 w t') (wf : WF t) (f3 : (flat 4 t).length ≤ 300) (hu : us[i]? = some u) (hi : i ≤ (ls t).length) (bad : BadG K G 2 u (flat 4 ((ls t).take i : List (Tr 3)))) : BadS K G (.ref a) := by
  have e := flat_cut (ls t) i
  have lt : ((ls t).take i).length = i := by rw [List.length_take]; omega
  refine .inr ⟨a, us, u, (ls t).take i, rfl, hA, lu, fun j w t' hw ht' => ?_, ?_, ?_, by rw [lt]; exact hu, bad⟩
  · rw [List.getElem?_take] at ht'
    split at ht'
    · exact ⟨hk j w t' (by assumption) hw ht', wf.grp ht'⟩
    · cases ht'
  · have := wf.nd
    have q : flat 4 t = flat (3 + 1) (ls t) := rfl
    rw [q, e] at this
    exact (List.nodup_append.mp this).1
  · exact Nat.le_trans (flat_le (ls t) i) f3
theorem _root_.L2.At.off {o : Ow} {H : Hp} {n : Nat} {p : List Nat} {v : V} {t : Tr n} (h : At o H n p v t) {c : Addr} {q : List Nat} (hc : o c = some q) (hq : ¬ p <:+ q) (u : HO) : AtR (upd H c u) n v t :=
  (h.frame (o' := o) fun a r xs ho hs hx => ⟨by rw [upd_ne (fun z => by rw [z, hc] at ho; cases ho; exact hq hs)]; exact hx, ho⟩).r
theorem _root_.L2.At.older {o : Ow} {H H' : Hp} {n : Nat} {p : List Nat} {v : V} {t : Tr n} (h : At o H n p v t) (s : Same H H') : At o H' n p v t := h.frame fun a r xs ho _ hx => ⟨s _ _ hx, ho⟩
theorem suf1 {j i : Nat} {r : List Nat} (h : [j] <:+ r ++ [i]) : j = i := by
  obtain ⟨z, e⟩ := h
  have := congrArg List.getLast? e
  rw [List.getLast?_append, List.getLast?_append] at this
  exact Option.some.inj this
theorem suf2 {j' j i : Nat} {r : List Nat} (h : [j', i] <:+ r ++ [j, i]) : j' = j := by
  obtain ⟨z, e⟩ := h
  have e : (z ++ [j']) ++ [i] = (r ++ [j]) ++ [i] := by rw [List.append_assoc, List.append_assoc]; exact e
  have e := List.append_cancel_right e
  have := congrArg List.getLast? e
  rw [List.getLast?_append, List.getLast?_append] at this
  exact Option.some.inj this
theorem suf3 {k' k j i : Nat} (h : [k', j, i] <:+ [k, j, i]) : k' = k := by
  have := h.eq_of_length rfl
  cases this
  rfl
def spNoGroup (K : PySem.W.Frag) : Sp := fun vs H Q _ => ∃ m f xs, vs = [.int m, .ref f] ∧ H f = some (.lst xs) ∧ ∀ v H', Same H H' → (∀ G', (∀ b u, H b = none → H' b = some u → G' b = some u) → NoGrp K G' v) → Q v H'
def spSpoilt (K : PySem.W.Frag) : Sp := fun vs H Q _ => ∃ v m, ∃ S : Tr 4, vs = [v, .int m] ∧ AtR H 4 v S ∧ WF S ∧ ls S ≠ [] ∧ (flat 4 S).length ≤ 60 ∧ 0 ≤ m ∧ ∀ w H', Same H H' → BadS K H' w → Q w H'
def FrO (o : Ow) (G1 G : Hp) (q : List Nat) : Prop := ∀ (n : Nat) (p : List Nat) (v : V) (t : Tr n), At o G1 n p v t → ¬ p <:+ q → AtR G n v t
theorem FrO.mk {o : Ow} {G1 G2 : Hp} {q : List Nat} {c : Addr} {u : HO} (s : Same G1 G2) (hc : o c = some q) : FrO o G1 (upd G2 c u) q := fun n p v t h hq => (h.older s).off hc hq u
theorem bad_top {K : PySem.W.Frag} {o : Ow} {G1 G : Hp} {q : List Nat} {a a' : Addr} {us us' : List V} {u : V} {S : Tr 4} {i : Nat} (at0 : At o G1 4 [] (.ref a) S) (hA : G1 a = some (.lst us)) (hA' : G a' = some (.lst us')) (lu : us'.length ≤ 1000) (pre : ∀ (j : Nat) w, j < i → us'[j]? = some w → us[j]? = some w) (fr : FrO o G1 G q) (hq : ∀ j, j < i → ¬ [j] <:+ q) (wf : WF S) (hl : (flat 4 S).length ≤ 60) (hu : us'[i]? = some u) (hi : i ≤ (ls S).length) (bad : BadG K G 2 u (flat 4 ((ls S).take i : List (Tr 3)))) : BadS K G (.ref a') := by
  refine BadS.up (t := S) hA' lu (fun j w t' hj hw ht' => ?_) wf (by omega) hu hi bad
  have hw1 := pre j w hj hw
  obtain ⟨w', t2, e1, e2, h⟩ := at0.kid hA (List.getElem?_eq_some_iff.mp hw1).1
  rw [hw1] at e1
  cases e1
  rw [ht'] at e2
  cases e2
  exact fr _ _ _ _ h (hq j hj)
theorem bad_in {K : PySem.W.Frag} {o : Ow} {G1 G : Hp} {q p : List Nat} {n : Nat} {a : Addr} {us us' : List V} {u : V} {t : Tr (n + 2)} {i : Nat} {S0 : List Int} (at0 : At o G1 (n + 2) p (.ref a) t) (hA : G1 a = some (.lst us)) (hA' : G a = some (.lst us')) (lu : us'.length ≤ 1000) (pre : ∀ (j : Nat) w, j < i → us'[j]? = some w → us[j]? = some w) (fr : FrO o G1 G q) (hq : ∀ j, j < i → ¬ (j :: p) <:+ q) (hg : Grp (n + 2) t) (hS : ∀ s ∈ flat (n + 2) ((ls t).take i : List (Tr (n + 1))), s ∉ S0) (hl : (flat (n + 2) t).length ≤ 300) (hu : us'[i]? = some u) (hi : i ≤ (ls t).length) (bad : BadG K G n u (S0 ++ flat (n + 2) ((ls t).take i : List (Tr (n + 1))))) : BadG K G (n + 1) (.ref a) S0 := by
  refine BadG.up (t := t) hA' lu (fun j w t' hj hw ht' => ?_) hg hS hl hu hi bad
  have hw1 := pre j w hj hw
  obtain ⟨w', t2, e1, e2, h⟩ := at0.kid hA (List.getElem?_eq_some_iff.mp hw1).1
  rw [hw1] at e1
  cases e1
  rw [ht'] at e2
  cases e2
  exact fr _ _ _ _ h (hq j hj)
theorem nsuf1 {j i : Nat} {r : List Nat} (h : j < i) : ¬ [j] <:+ r ++ [i] := fun z => absurd (suf1 z) (by omega)
theorem nsuf2 {j' j i : Nat} {r : List Nat} (h : j' < j) : ¬ [j', i] <:+ r ++ [j, i] := fun z => absurd (suf2 z) (by omega)
theorem nsuf3 {k' k j i : Nat} (h : k' < k) : ¬ [k', j, i] <:+ [k, j, i] := fun z => absurd (suf3 z) (by omega)
theorem nsufL {a b : List Nat} (h : b.length < a.length) : ¬ a <:+ b := fun z => absurd z.length_le (by omega)
theorem ixN_nat {n i : Nat} (h : i < n) : ixN n (i : Int) = some i := by
  unfold ixN
  rw [if_pos (by omega), if_pos (by omega), Int.toNat_natCast]
theorem get_set {xs : List V} {i j : Nat} {u w : V} (h : (xs.set i u)[j]? = some w) (hj : j < i) : xs[j]? = some w := by
  rw [List.getElem?_set_ne (by omega)] at h
  exact h
def S35 : Tr 4 := ([([([([3, 5] : List Int)] : List (Tr 1))] : List (Tr 2))] : List (Tr 3))
theorem wf35 : WF S35 := by
  have p1 := Put.app ([] : List (Tr 3)) 3
  have w1 := p1.wf WF.nil (by intro z; cases z) (by decide)
  have p2 : PutG 0 ([3] : List Int) 5 ([3, 5] : List Int) := PutG.form (List.Perm.refl _) (by decide) (by decide)
  have p3 : PutG 1 ([([3] : List Int)] : List (Tr 1)) 5 ([([3, 5] : List Int)] : List (Tr 1)) := p2.up (i := 0) rfl
  have p4 : PutG 2 ([([([3] : List Int)] : List (Tr 1))] : List (Tr 2)) 5 ([([([3, 5] : List Int)] : List (Tr 1))] : List (Tr 2)) := p3.up (i := 0) rfl
  have p5 : Put ([([([([3] : List Int)] : List (Tr 1))] : List (Tr 2))] : List (Tr 3)) 5 S35 := p4.top (i := 0) rfl
  exact p5.wf w1 (show (5 : Int) ∉ ([3] : List Int) by decide) (by decide)
theorem _root_.L2.AtR.one {H : Hp} {n : Nat} {a : Addr} {v : V} {t : Tr n} (h : H a = some (.lst [v])) (hv : AtR H n v t) : AtR H (n + 1) (.ref a) ([t] : List (Tr n)) := by
  refine ⟨a, [v], rfl, h, rfl, fun j w t' hw ht => ?_⟩
  match j, hw, ht with
  | 0, hw, ht => cases hw; cases ht; exact hv
  | _ + 1, hw, _ => cases hw
theorem at35 {H : Hp} {a : Addr} (h : H a = some (.lst [V.int 3, V.int 5])) : AtR H 1 (.ref a) ([3, 5] : List Int) := by
  refine ⟨a, _, rfl, h, rfl, fun j w t' hw ht => ?_⟩
  match j, hw, ht with
  | 0, hw, ht => cases hw; cases ht; rfl
  | 1, hw, ht => cases hw; cases ht; rfl
  | _ + 2, hw, _ => cases hw
def spLaw (K : PySem.W.Frag) : Sp := fun vs H Q _ => ∃ (a : Addr) (ns : List Int), vs = [.ref a] ∧ SqL K H a (ns.map V.int) ∧ ns.length ≤ 63 ∧ ∀ H', Q (.bl true) H'
def top (i : Nat) : Stmt := PySem.Challenge.pw_rightname_k43_no_sortings.main.body.getD i (.Pass ⟨0, 0, 0, 0⟩)
abbrev s_is_whole : Stmt := top 10
abbrev s_is_number : Stmt := top 11
abbrev s_sorting_list : Stmt := top 14
abbrev s_group_list : Stmt := top 15
abbrev s_sheet_list : Stmt := top 16
abbrev s_groups : Stmt := top 17
abbrev s_groups_in : Stmt := top 18
abbrev s_sheets_of : Stmt := top 19
abbrev s_refuse_sheet : Stmt := top 20
abbrev s_path_of : Stmt := top 21
abbrev s_without : Stmt := top 22
abbrev s_taken : Stmt := top 23
abbrev s_laid : Stmt := top 24
abbrev s_is_path : Stmt := top 25
abbrev s_put_sheet : Stmt := top 26
abbrev s_new_group : Stmt := top 27
abbrev s_Ldrawn : Stmt := top 29
abbrev s_Lsheet : Stmt := top 30
abbrev s_Lput : Stmt := top 31
abbrev s_Lsorting : Stmt := top 32
abbrev s_Lcopy : Stmt := top 33
abbrev s_Lsame : Stmt := top 34
abbrev s_Lno_group : Stmt := top 35
abbrev s_Lspoilt : Stmt := top 36
abbrev s_Lasked : Stmt := top 37
abbrev s_Lrefused : Stmt := top 38
abbrev s_law : Stmt := top 39
structure Fn (K : PySem.W.Frag) (mg : Str → Option Value) (x : Str) (st : Stmt) (ps : List Str) (f : Addr) (fd : FuncData) : Prop where
  fn : Fun K x x st f fd
  mgf : mg x = some (.ref f)
  bi : Binds K fd ps []
theorem Fn.kp {K : PySem.W.Frag} {mg : Str → Option Value} {x : Str} {st : Stmt} {ps : List Str} {f : Addr} {fd : FuncData} (F : Fn K mg x st ps f fd) : PySem.W.keepIn K (.ref f) = true := F.fn.kp
set_option genInjectivity false in
set_option genSizeOfSpec false in
set_option genSizeOf false in
structure Ad where
  a_is_whole : Addr
  d_is_whole : FuncData
  a_is_number : Addr
  d_is_number : FuncData
  a_sorting_list : Addr
  d_sorting_list : FuncData
  a_group_list : Addr
  d_group_list : FuncData
  a_sheet_list : Addr
  d_sheet_list : FuncData
  a_groups : Addr
  d_groups : FuncData
  a_groups_in : Addr
  d_groups_in : FuncData
  a_sheets_of : Addr
  d_sheets_of : FuncData
  a_refuse_sheet : Addr
  d_refuse_sheet : FuncData
  a_path_of : Addr
  d_path_of : FuncData
  a_without : Addr
  d_without : FuncData
  a_taken : Addr
  d_taken : FuncData
  a_laid : Addr
  d_laid : FuncData
  a_is_path : Addr
  d_is_path : FuncData
  a_put_sheet : Addr
  d_put_sheet : FuncData
  a_new_group : Addr
  d_new_group : FuncData
  a_Ldrawn : Addr
  d_Ldrawn : FuncData
  a_Lsheet : Addr
  d_Lsheet : FuncData
  a_Lput : Addr
  d_Lput : FuncData
  a_Lsorting : Addr
  d_Lsorting : FuncData
  a_Lcopy : Addr
  d_Lcopy : FuncData
  a_Lsame : Addr
  d_Lsame : FuncData
  a_Lno_group : Addr
  d_Lno_group : FuncData
  a_Lspoilt : Addr
  d_Lspoilt : FuncData
  a_Lasked : Addr
  d_Lasked : FuncData
  a_Lrefused : Addr
  d_Lrefused : FuncData
  a_law : Addr
  d_law : FuncData
  u_LAST_NUMBER : Value
  u_FORM_DEPTH : Value
  c_NoSorting : Addr
  c_NoSheet : Addr
  c_NoPath : Addr
  c_RightError : Addr
  c_NoBook : Addr
  c_NoNumber : Addr
  c_NoRow : Addr
structure Txt (w : World) (K : PySem.W.Frag) (mg : Str → Option Value) (c : Ad) : Prop where
  is_whole : Fn K mg "is_whole" s_is_whole ["thing"] c.a_is_whole c.d_is_whole
  is_number : Fn K mg "is_number" s_is_number ["thing"] c.a_is_number c.d_is_number
  sorting_list : Fn K mg "sorting_list" s_sorting_list ["sorting"] c.a_sorting_list c.d_sorting_list
  group_list : Fn K mg "group_list" s_group_list ["group", "depth", "seen"] c.a_group_list c.d_group_list
  sheet_list : Fn K mg "sheet_list" s_sheet_list ["sheets", "seen"] c.a_sheet_list c.d_sheet_list
  groups : Fn K mg "groups" s_groups ["sorting"] c.a_groups c.d_groups
  groups_in : Fn K mg "groups_in" s_groups_in ["path", "parts"] c.a_groups_in c.d_groups_in
  sheets_of : Fn K mg "sheets_of" s_sheets_of ["told"] c.a_sheets_of c.d_sheets_of
  refuse_sheet : Fn K mg "refuse_sheet" s_refuse_sheet ["sheet"] c.a_refuse_sheet c.d_refuse_sheet
  path_of : Fn K mg "path_of" s_path_of ["sorting", "sheet"] c.a_path_of c.d_path_of
  without : Fn K mg "without" s_without ["parts", "sheet", "depth"] c.a_without c.d_without
  taken : Fn K mg "taken" s_taken ["sorting", "sheet"] c.a_taken c.d_taken
  laid : Fn K mg "laid" s_laid ["sorting", "sheet", "path"] c.a_laid c.d_laid
  is_path : Fn K mg "is_path" s_is_path ["thing"] c.a_is_path c.d_is_path
  put_sheet : Fn K mg "put_sheet" s_put_sheet ["parts", "sheet", "path"] c.a_put_sheet c.d_put_sheet
  new_group : Fn K mg "new_group" s_new_group ["sheet", "depth"] c.a_new_group c.d_new_group
  Ldrawn : Fn K mg "_law_drawn" s_Ldrawn ["_law_script", "_law_k"] c.a_Ldrawn c.d_Ldrawn
  Lsheet : Fn K mg "_law_sheet" s_Lsheet ["_law_number", "_law_k"] c.a_Lsheet c.d_Lsheet
  Lput : Fn K mg "_law_put" s_Lput ["_law_sorting_here", "_law_sheet_here", "_law_number"] c.a_Lput c.d_Lput
  Lsorting : Fn K mg "_law_sorting" s_Lsorting ["_law_script", "_law_start", "_law_most"] c.a_Lsorting c.d_Lsorting
  Lcopy : Fn K mg "_law_copy" s_Lcopy ["_law_sorting_here"] c.a_Lcopy c.d_Lcopy
  Lsame : Fn K mg "_law_same" s_Lsame ["_law_found", "_law_due"] c.a_Lsame c.d_Lsame
  Lno_group : Fn K mg "_law_no_group" s_Lno_group ["_law_number", "_law_form"] c.a_Lno_group c.d_Lno_group
  Lspoilt : Fn K mg "_law_spoilt" s_Lspoilt ["_law_sorting_here", "_law_number"] c.a_Lspoilt c.d_Lspoilt
  Lasked : Fn K mg "_law_asked" s_Lasked ["_law_way", "_law_sorting_here", "_law_sheet_here", "_law_path"] c.a_Lasked c.d_Lasked
  Lrefused : Fn K mg "_law_refused" s_Lrefused ["_law_way", "_law_sorting_here", "_law_sheet_here", "_law_path"] c.a_Lrefused c.d_Lrefused
  law : Fn K mg "law" s_law ["_law_script"] c.a_law c.d_law
  mg_LAST_NUMBER : mg "LAST_NUMBER" = some c.u_LAST_NUMBER
  rl_LAST_NUMBER : RelV (.int 1000000000) c.u_LAST_NUMBER
  mg_FORM_DEPTH : mg "FORM_DEPTH" = some c.u_FORM_DEPTH
  rl_FORM_DEPTH : RelV (.int 3) c.u_FORM_DEPTH
  mg_NoSorting : mg "NoSorting" = some (.ref c.c_NoSorting)
  mg_NoSheet : mg "NoSheet" = some (.ref c.c_NoSheet)
  mg_NoPath : mg "NoPath" = some (.ref c.c_NoPath)
  mg_RightError : mg "RightError" = some (.ref c.c_RightError)
  mg_NoBook : mg "NoBook" = some (.ref c.c_NoBook)
  mg_NoNumber : mg "NoNumber" = some (.ref c.c_NoNumber)
  mg_NoRow : mg "NoRow" = some (.ref c.c_NoRow)
  x_NoSorting : XCls K c.c_NoSorting
  q_NoSorting : XAsk K c.c_NoSorting
  i_NoSorting_NoPath : PySem.W.kitOne K (.ref c.c_NoSorting) (.ref c.c_NoPath) = some false
  i_NoSorting_NoSheet : PySem.W.kitOne K (.ref c.c_NoSorting) (.ref c.c_NoSheet) = some false
  i_NoSorting_NoBook : PySem.W.kitOne K (.ref c.c_NoSorting) (.ref c.c_NoBook) = some false
  i_NoSorting_NoSorting : PySem.W.kitOne K (.ref c.c_NoSorting) (.ref c.c_NoSorting) = some true
  i_NoSorting_ValueError : PySem.W.kitOne K (.ref c.c_NoSorting) (.type "ValueError") = some true
  i_NoSorting_NoNumber : PySem.W.kitOne K (.ref c.c_NoSorting) (.ref c.c_NoNumber) = some false
  i_NoSorting_NoRow : PySem.W.kitOne K (.ref c.c_NoSorting) (.ref c.c_NoRow) = some false
  e_NoSorting_RightError : PySem.W.exmOne K (.ref c.c_NoSorting) (.ref c.c_RightError) = some true
  x_NoSheet : XCls K c.c_NoSheet
  q_NoSheet : XAsk K c.c_NoSheet
  i_NoSheet_NoPath : PySem.W.kitOne K (.ref c.c_NoSheet) (.ref c.c_NoPath) = some false
  i_NoSheet_NoSheet : PySem.W.kitOne K (.ref c.c_NoSheet) (.ref c.c_NoSheet) = some true
  i_NoSheet_NoBook : PySem.W.kitOne K (.ref c.c_NoSheet) (.ref c.c_NoBook) = some false
  i_NoSheet_NoSorting : PySem.W.kitOne K (.ref c.c_NoSheet) (.ref c.c_NoSorting) = some false
  i_NoSheet_ValueError : PySem.W.kitOne K (.ref c.c_NoSheet) (.type "ValueError") = some true
  i_NoSheet_NoNumber : PySem.W.kitOne K (.ref c.c_NoSheet) (.ref c.c_NoNumber) = some false
  i_NoSheet_NoRow : PySem.W.kitOne K (.ref c.c_NoSheet) (.ref c.c_NoRow) = some false
  e_NoSheet_RightError : PySem.W.exmOne K (.ref c.c_NoSheet) (.ref c.c_RightError) = some true
  x_NoPath : XCls K c.c_NoPath
  q_NoPath : XAsk K c.c_NoPath
  i_NoPath_NoPath : PySem.W.kitOne K (.ref c.c_NoPath) (.ref c.c_NoPath) = some true
  i_NoPath_NoSheet : PySem.W.kitOne K (.ref c.c_NoPath) (.ref c.c_NoSheet) = some false
  i_NoPath_NoBook : PySem.W.kitOne K (.ref c.c_NoPath) (.ref c.c_NoBook) = some false
  i_NoPath_NoSorting : PySem.W.kitOne K (.ref c.c_NoPath) (.ref c.c_NoSorting) = some false
  i_NoPath_ValueError : PySem.W.kitOne K (.ref c.c_NoPath) (.type "ValueError") = some true
  i_NoPath_NoNumber : PySem.W.kitOne K (.ref c.c_NoPath) (.ref c.c_NoNumber) = some false
  i_NoPath_NoRow : PySem.W.kitOne K (.ref c.c_NoPath) (.ref c.c_NoRow) = some false
  e_NoPath_RightError : PySem.W.exmOne K (.ref c.c_NoPath) (.ref c.c_RightError) = some true
  no_len : mg "len" = none
  no_isinstance : mg "isinstance" = none
  no_int : mg "int" = none
  no_bool : mg "bool" = none
  no_list : mg "list" = none
  no_tuple : mg "tuple" = none
  no_dict : mg "dict" = none
  no_sorted : mg "sorted" = none
  no_range : mg "range" = none
  no_min : mg "min" = none
  no_all : mg "all" = none
  no_enumerate : mg "enumerate" = none
  no_ValueError : mg "ValueError" = none
theorem sc_is_whole : FnScope ["thing"] ["thing"] (defScope s_is_whole) := ⟨rfl, rfl, rfl, by decide +kernel, rfl, by decide +kernel, by decide +kernel⟩
theorem sc_is_number : FnScope ["thing"] ["thing"] (defScope s_is_number) := ⟨rfl, rfl, rfl, by decide +kernel, rfl, by decide +kernel, by decide +kernel⟩
theorem sc_sorting_list : FnScope ["sorting", "seen"] ["sorting"] (defScope s_sorting_list) := ⟨rfl, rfl, rfl, by decide +kernel, rfl, by decide +kernel, by decide +kernel⟩
theorem sc_group_list : FnScope ["group", "depth", "seen"] ["group", "depth", "seen"] (defScope s_group_list) := ⟨rfl, rfl, rfl, by decide +kernel, rfl, by decide +kernel, by decide +kernel⟩
theorem sc_sheet_list : FnScope ["sheets", "seen", "found", "sheet"] ["sheets", "seen"] (defScope s_sheet_list) := ⟨rfl, rfl, rfl, by decide +kernel, rfl, by decide +kernel, by decide +kernel⟩
theorem sc_groups : FnScope ["sorting"] ["sorting"] (defScope s_groups) := ⟨rfl, rfl, rfl, by decide +kernel, rfl, by decide +kernel, by decide +kernel⟩
theorem sc_groups_in : FnScope ["path", "parts", "found", "place", "part", "inner", "inside"] ["path", "parts"] (defScope s_groups_in) := ⟨rfl, rfl, rfl, by decide +kernel, rfl, by decide +kernel, by decide +kernel⟩
theorem sc_sheets_of : FnScope ["told", "found", "path", "sheets"] ["told"] (defScope s_sheets_of) := ⟨rfl, rfl, rfl, by decide +kernel, rfl, by decide +kernel, by decide +kernel⟩
theorem sc_refuse_sheet : FnScope ["sheet"] ["sheet"] (defScope s_refuse_sheet) := ⟨rfl, rfl, rfl, by decide +kernel, rfl, by decide +kernel, by decide +kernel⟩
theorem sc_path_of : FnScope ["sorting", "sheet", "told", "path", "sheets"] ["sorting", "sheet"] (defScope s_path_of) := ⟨rfl, rfl, rfl, by decide +kernel, rfl, by decide +kernel, by decide +kernel⟩
theorem sc_without : FnScope ["parts", "sheet", "depth", "left"] ["parts", "sheet", "depth"] (defScope s_without) := ⟨rfl, rfl, rfl, by decide +kernel, rfl, by decide +kernel, by decide +kernel⟩
theorem sc_taken : FnScope ["sorting", "sheet"] ["sorting", "sheet"] (defScope s_taken) := ⟨rfl, rfl, rfl, by decide +kernel, rfl, by decide +kernel, by decide +kernel⟩
theorem sc_laid : FnScope ["sorting", "sheet", "path", "parts", "left"] ["sorting", "sheet", "path"] (defScope s_laid) := ⟨rfl, rfl, rfl, by decide +kernel, rfl, by decide +kernel, by decide +kernel⟩
theorem sc_is_path : FnScope ["thing"] ["thing"] (defScope s_is_path) := ⟨rfl, rfl, rfl, by decide +kernel, rfl, by decide +kernel, by decide +kernel⟩
theorem sc_put_sheet : FnScope ["parts", "sheet", "path", "above", "place", "last"] ["parts", "sheet", "path"] (defScope s_put_sheet) := ⟨rfl, rfl, rfl, by decide +kernel, rfl, by decide +kernel, by decide +kernel⟩
theorem sc_new_group : FnScope ["sheet", "depth", "group", "above"] ["sheet", "depth"] (defScope s_new_group) := ⟨rfl, rfl, rfl, by decide +kernel, rfl, by decide +kernel, by decide +kernel⟩
theorem sc_Ldrawn : FnScope ["_law_script", "_law_k"] ["_law_script", "_law_k"] (defScope s_Ldrawn) := ⟨rfl, rfl, rfl, by decide +kernel, rfl, by decide +kernel, by decide +kernel⟩
theorem sc_Lsheet : FnScope ["_law_number", "_law_k"] ["_law_number", "_law_k"] (defScope s_Lsheet) := ⟨rfl, rfl, rfl, by decide +kernel, rfl, by decide +kernel, by decide +kernel⟩
theorem sc_Lput : FnScope ["_law_sorting_here", "_law_sheet_here", "_law_number", "_law_genus", "_law_clan", "_law_at"] ["_law_sorting_here", "_law_sheet_here", "_law_number"] (defScope s_Lput) := ⟨rfl, rfl, rfl, by decide +kernel, rfl, by decide +kernel, by decide +kernel⟩
theorem sc_Lsorting : FnScope ["_law_script", "_law_start", "_law_most", "_law_sorting_here", "_law_k", "_law_number"] ["_law_script", "_law_start", "_law_most"] (defScope s_Lsorting) := ⟨rfl, rfl, rfl, by decide +kernel, rfl, by decide +kernel, by decide +kernel⟩
theorem sc_Lcopy : FnScope ["_law_sorting_here", "_law_found", "_law_genus", "_law_clan"] ["_law_sorting_here"] (defScope s_Lcopy) := ⟨rfl, rfl, rfl, by decide +kernel, rfl, by decide +kernel, by decide +kernel⟩
theorem sc_Lsame : FnScope ["_law_found", "_law_due", "_law_k"] ["_law_found", "_law_due"] (defScope s_Lsame) := ⟨rfl, rfl, rfl, by decide +kernel, rfl, by decide +kernel, by decide +kernel⟩
theorem sc_Lno_group : FnScope ["_law_number", "_law_form"] ["_law_number", "_law_form"] (defScope s_Lno_group) := ⟨rfl, rfl, rfl, by decide +kernel, rfl, by decide +kernel, by decide +kernel⟩
theorem sc_Lspoilt : FnScope ["_law_sorting_here", "_law_number", "_law_found", "_law_i", "_law_j", "_law_k", "_law_form", "_law_at", "_law_way", "_law_other"] ["_law_sorting_here", "_law_number"] (defScope s_Lspoilt) := ⟨rfl, rfl, rfl, by decide +kernel, rfl, by decide +kernel, by decide +kernel⟩
theorem sc_Lasked : FnScope ["_law_way", "_law_sorting_here", "_law_sheet_here", "_law_path"] ["_law_way", "_law_sorting_here", "_law_sheet_here", "_law_path"] (defScope s_Lasked) := ⟨rfl, rfl, rfl, by decide +kernel, rfl, by decide +kernel, by decide +kernel⟩
theorem sc_Lrefused : FnScope ["_law_way", "_law_sorting_here", "_law_sheet_here", "_law_path", "_law_caught", "e", "_law_some"] ["_law_way", "_law_sorting_here", "_law_sheet_here", "_law_path"] (defScope s_Lrefused) := ⟨rfl, rfl, rfl, by decide +kernel, rfl, by decide +kernel, by decide +kernel⟩
theorem sc_law : FnScope ["_law_script", "_law_sorting_here", "_law_k", "_law_number", "_law_bad", "_law_sheet_here", "_law_path", "_law_way"] ["_law_script"] (defScope s_law) := ⟨rfl, rfl, rfl, by decide +kernel, rfl, by decide +kernel, by decide +kernel⟩
section
variable {P : Program} {w : World} {K : PySem.W.Frag} {mg : Str → Option Value} {base : Heap} {c : Ad}
set_option maxHeartbeats 4000000 in
theorem ok_is_whole (T : Txt w K mg c) : FnOk P w K mg base CX0 1 c.a_is_whole c.d_is_whole ["thing"] (spW K) := by
  refine T.is_whole.fn.ok sc_is_whole (fun vs H Q E h => ?_) (fun cdv A outer s H vs Q E hr h => ?_)
  · obtain ⟨x, rfl, _⟩ := h
    rfl
  · obtain ⟨x, rfl, ow, k⟩ := h
    refine ⟨_, (pss_one (ps_ret (pe_and (pe_callB call_isiA rfl T.no_isinstance bt_isinstance (pa_cons (pv 0) (pa_cons (pe_bltn (v := .ty "int") rfl T.no_int bt_int rfl) pa_nil))) (pe_one (pe_not (pe_callB call_isiA rfl T.no_isinstance bt_isinstance (pa_cons (pv 0) (pa_cons (pe_bltn (v := .ty "bool") rfl T.no_bool bt_bool rfl) pa_nil)))))))), ?_⟩
    refine ⟨x, rfl, rIsiA.int ow ⟨_, rfl, ?_⟩⟩
    cases x with
    | int i => exact iteT ⟨_, rfl, rIsiA.bool ow ⟨_, rfl, k⟩⟩
    | bl b => exact iteT ⟨_, rfl, rIsiA.bool ow ⟨_, rfl, k⟩⟩
    | _ => exact iteF k
set_option maxHeartbeats 4000000 in
theorem ok_is_number (T : Txt w K mg c) : FnOk P w K mg base CX0 2 c.a_is_number c.d_is_number ["thing"] (spR K 1000000000) := by
  refine T.is_number.fn.ok sc_is_number (fun vs H Q E h => ?_) (fun cdv A outer s H vs Q E hr h => ?_)
  · obtain ⟨x, rfl, _⟩ := h
    rfl
  · obtain ⟨x, rfl, ow, k⟩ := h
    refine ⟨_, (pss_one (ps_ret (pe_and (pe_call (ok_is_whole T) (hr.mono (by decide)) rfl T.is_whole.mgf T.is_whole.kp T.is_whole.bi .nil pass0 (pa_cons (pv 0) pa_nil)) (pe_one (pe_chain op_le op_le pe_int (pv 0) (pe_glob rfl T.mg_LAST_NUMBER T.rl_LAST_NUMBER)))))), ?_⟩
    refine ⟨x, rfl, x, rfl, ow, _, rfl, ?_⟩
    cases x with
    | int i =>
      refine iteT ⟨_, rfl, _, _, rfl, rfl, _, rfl, ?_⟩
      by_cases h1 : 1 ≤ i
      · rw [if_pos (decide_eq_true h1)]
        refine ⟨_, _, rfl, rfl, ?_⟩
        simpa [inR, h1] using k
      · rw [if_neg (by simp [h1])]
        simpa [inR, h1] using k
    | _ => exact iteF k
set_option maxHeartbeats 4000000 in
theorem ok_sheet_list (T : Txt w K mg c) : FnOk P w K mg base (CXx P w) 3 c.a_sheet_list c.d_sheet_list ["sheets", "seen"] (spSheetX K c.c_NoSorting) := by
  refine T.sheet_list.fn.okx sc_sheet_list (fun vs H Q E h => ?_) (fun cdv A outer s H vs Q E hr h => ?_)
  · obtain ⟨a, d, us, ns, kvs, S, H0, rfl, _⟩ := h
    rfl
  · obtain ⟨a, d, us, ns, kvs, S, H0, rfl, s0, f0, hA0, lu, tk, ln, hg, hp, hv, hD, hS, hz, h0⟩ := h
    refine ⟨_, (pss_cons (ps_set (i := 2) sc_sheet_list.nd rfl (Or.inl rfl) (pe_lst pa_nil))
      (pss_cons (ps_for own_def rfl (pi_list (pv 0)) (pg_name (i := 3) sc_sheet_list.nd rfl (Or.inl rfl))
        (pss_cons (ps_if (pt_not (pt_val (pe_call (ok_is_number T) (hr.mono (by decide)) rfl T.is_number.mgf T.is_number.kp T.is_number.bi .nil pass0 (pa_cons (pv 3) pa_nil))))
        (pss_one (ps_raise T.x_NoSorting rfl rfl T.mg_NoSorting rz_def (pa_cons pe_str pa_nil)))
        pss_nil)
      (pss_cut (ps_if (PW.pt (pw_and (pt_truth (pv 2) (fun _ => rfl)) (pw_and1 (pt_cmpR op_le (pv 3) (pe_ix ix_list (pv 2) (pe_un un_neg pe_int) (fun _ _ => rfl)) (nomark _)))))
        (pss_one (ps_raise T.x_NoSorting rfl rfl T.mg_NoSorting rz_def (pa_cons pe_str pa_nil)))
        pss_nil)
      (pss_cons (ps_if (pt_cmp (pc_din (hu_of hr) (pv 3) (pv 1)))
        (pss_one (ps_raise T.x_NoSorting rfl rfl T.mg_NoSorting rz_def (pa_cons pe_str pa_nil)))
        pss_nil)
      (pss_cons (ps_dput (hu_of hr) (pv 1) (pv 3) pe_bl rfl)
      (pss_one (ps_expr (pe_bm PySem.F.plainAttrs_list PySem.F.slot_list_append PySem.F.type_list_append (MtM.r mt_append) (pv 2) (pa_cons (pv 3) pa_nil)))))))))
      (pss_one (ps_ret (pv 2))))), ?_⟩
    have sz : 2000 < sizeLine := le_ble rfl
    have hA := s0 _ _ hA0
    refine ⟨le_ble rfl, fun l hl => ?_⟩
    have nla : a ≠ l := ne_of_none hA hl
    have nld : d ≠ l := ne_of_none hD hl
    have nad : a ≠ d := fun z => by rw [z, f0] at hA0; cases hA0
    have lus : ns.length ≤ us.length := by
      have := congrArg List.length tk
      rw [List.length_take, List.length_map] at this
      omega
    refine ⟨_, rfl, a, rfl, ⟨_, SqL.of (by rw [upd_ne nla]; exact hA)⟩, ?_⟩
    refine for_list (xs := us) (fun i σ G => i ≤ ns.length ∧ ∃ z kv', σ = [some (.ref a), some (.ref d), some (.ref l), z] ∧ G l = some (.lst ((ns.take i).map V.int)) ∧ G d = some (.dK kv') ∧ Seen kvs kv' (ns.take i) ∧ FrD d H G) ?_ ?_ ?_ ?_
    · exact ⟨Nat.zero_le _, _, kvs, rfl, upd_same, by rw [upd_ne nld]; exact hD, Seen.nil kvs, fun b u _ hb => by rw [upd_ne (ne_of_none hb hl)]; exact hb⟩
    · rintro i σ G _ ⟨_, z, kv', _, _, _, _, h⟩
      exact SqL.of (h _ _ nad hA)
    · rintro i x σ G hx ⟨hi, z, kv', rfl, h1, h3, h4, h5⟩
      have sG := h5.same0 s0 f0
      have lt : (ns.take i).length = i := by rw [List.length_take]; omega
      have e4 := h4.1
      rw [lt] at e4
      have n1 : l ≠ d := ne_of h1 h3 (by intro z; cases z)
      have nl0 : ∀ b u, b ≠ d → H b = some u → ∀ xs, upd G l (.lst xs) b = some u := fun b u nb hb xs => by rw [upd_ne (ne_of_none hb hl)]; exact h5 b u nb hb
      rcases Nat.lt_or_ge i ns.length with z | z
      rotate_left
      · -- the thing at fault
        have ei : i = ns.length := by omega
        subst ei
        rcases h0 with ⟨el, _⟩ | ⟨u, hu, hb, kE⟩
        · exact absurd (List.getElem?_eq_some_iff.mp hx).1 (by omega)
        rw [hx] at hu
        cases hu
        rw [List.take_of_length_le (Nat.le_refl _)] at h1 h4
        rcases hb with ⟨ow, hb⟩ | ⟨s, rfl, hin, hb⟩
        · refine ⟨_, rfl, _, rfl, ow.same sG, _, rfl, ?_⟩
          rw [hb]
          exact iteT ⟨le_ble rfl, kE G h5⟩
        refine ⟨_, rfl, _, rfl, Own.int, _, rfl, ?_⟩
        rw [hin]
        refine iteF ?_
        refine ⟨fun σ' G' => σ' = [some (V.ref a), some (V.ref d), some (V.ref l), some (V.int s)] ∧ G' = G ∧ s ∈ S, ?_, ?_⟩
        · refine ⟨_, rfl, _, .inl ⟨_, SqL.of h1, rfl⟩, ?_⟩
          cases hl2 : ns.getLast? with
          | none =>
            have e0 : ns = [] := List.getLast?_eq_none_iff.mp hl2
            rw [e0]
            rcases hb with ⟨p, hp, _⟩ | hb
            · rw [hl2] at hp; cases hp
            · exact iteF ⟨rfl, rfl, hb⟩
          | some p =>
            obtain ⟨ms, ems⟩ := List.getLast?_eq_some_iff.mp hl2
            rw [ems, List.map_append] at h1
            rw [ems, List.map_append]
            have ee : (!(List.map V.int ms ++ List.map V.int [p]).isEmpty) = true := by cases List.map V.int ms <;> rfl
            rw [ee]
            refine iteT ⟨_, rfl, _, rfl, _, rfl, l, _, _, _, rfl, rfl, SqL.of h1, atI_last _ _, _, _, rfl, rfl, _, rfl, ?_⟩
            by_cases hle : s ≤ p
            · rw [decide_eq_true hle]
              exact iteT ⟨le_ble rfl, kE G h5⟩
            · rw [decide_eq_false hle]
              refine iteF ⟨rfl, rfl, ?_⟩
              rcases hb with ⟨p', hp, hb⟩ | hb
              · rw [hl2] at hp; cases hp; exact absurd hb hle
              · exact hb
        rintro σ' G' ⟨rfl, rfl, hsS⟩
        refine ⟨_, rfl, _, rfl, d, _, rfl, DGet.k (k := Sum.inl s) h3, ?_⟩
        cases q : valV kv' (Sum.inl s) with
        | none => exact absurd (List.mem_append_left _ hsS) ((h4.out hS s).mp q)
        | some _ => exact ⟨_, rfl, iteT ⟨le_ble rfl, kE _ h5⟩⟩
      obtain ⟨s, hs⟩ : ∃ s, ns[i]? = some s := ⟨_, List.getElem?_eq_getElem z⟩
      have ex : x = .int s := by
        have e1 : (us.take ns.length)[i]? = some x := by rw [List.getElem?_take_of_lt z]; exact hx
        rw [tk, List.getElem?_map, hs] at e1
        exact (Option.some.inj e1).symm
      subst ex
      have hm := List.mem_of_getElem? hs
      have q : valV kv' (Sum.inl s) = none := (h4.2 s).mpr ⟨(hS s).mpr (hv s hm), nd_take hg.nd hs⟩
      refine ⟨_, rfl, _, rfl, Own.int, _, rfl, ?_⟩
      rw [hg.inn s hm]
      refine iteF ?_
      refine ⟨fun σ' G' => σ' = [some (V.ref a), some (V.ref d), some (V.ref l), some (V.int s)] ∧ G' = G, ?_, ?_⟩
      · refine ⟨_, rfl, _, .inl ⟨_, SqL.of h1, rfl⟩, ?_⟩
        match i, hs, h1 with
        | 0, _, _ => exact iteF ⟨rfl, rfl⟩
        | m + 1, hs, h1 =>
          obtain ⟨p, ep⟩ : ∃ p, ns[m]? = some p := ⟨ns[m], List.getElem?_eq_getElem (by omega)⟩
          rw [take_one ep, List.map_append] at h1
          have lt2 : p < s := by
            obtain ⟨h2', e2⟩ := List.getElem?_eq_some_iff.mp ep
            obtain ⟨h3', e3⟩ := List.getElem?_eq_some_iff.mp hs
            rw [← e2, ← e3]
            exact List.pairwise_iff_getElem.mp hp m (m + 1) h2' h3' (by omega)
          rw [take_one ep, List.map_append]
          have ee : (!(List.map V.int (ns.take m) ++ List.map V.int [p]).isEmpty) = true := by cases List.map V.int (ns.take m) <;> rfl
          rw [ee]
          refine iteT ⟨_, rfl, _, rfl, _, rfl, l, _, _, _, rfl, rfl, SqL.of h1, atI_last _ _, _, _, rfl, rfl, _, rfl, ?_⟩
          rw [decide_eq_false (by omega)]
          exact iteF ⟨rfl, rfl⟩
      rintro σ' G' ⟨rfl, rfl⟩
      refine ⟨_, rfl, _, rfl, d, _, rfl, DGet.k (k := Sum.inl s) h3, ?_⟩
      rw [q]
      refine ⟨_, rfl, iteF ?_⟩
      refine ⟨_, rfl, _, rfl, d, _, rfl, DPut.k (k := Sum.inl s) h3 (by omega), ?_⟩
      refine ⟨_, rfl, .inl ⟨rfl, _, SqL.of (by rw [upd_ne n1]; exact h1)⟩, _, rfl, l, _, _, rfl, rfl, by rw [upd_ne n1]; exact h1, by rw [List.length_map]; omega, ?_⟩
      refine ⟨by omega, _, putK kv' (Sum.inl s) (.bl true), rfl, ?_, ?_, ?_, ?_⟩
      · rw [upd_same, take_one hs, List.map_append]; rfl
      · rw [upd_ne n1.symm, upd_same]
      · rw [take_one hs]; exact h4.put q
      · intro b u nb hb
        rw [upd_ne (fun z => by rw [z, hl] at hb; cases hb), upd_ne nb]
        exact h5 b u nb hb
    · rintro σ G ⟨hi, z, kv', rfl, h1, h3, h4, h5⟩
      rcases h0 with ⟨el, k⟩ | ⟨u, hu, _⟩
      · rw [el, List.take_of_length_le (Nat.le_refl _)] at h1 h4
        exact ⟨_, rfl, k l kv' G h5 hl h1 h3 h4⟩
      · exact absurd (List.getElem?_eq_some_iff.mp hu).1 (by omega)
set_option maxHeartbeats 4000000 in
theorem ok_group_list (T : Txt w K mg c) : ∀ n : Nat, FnOk P w K mg base (CXx P w) (4 + n) c.a_group_list c.d_group_list ["group", "depth", "seen"] (spGroupX K c.c_NoSorting n)
  | 0 => by
    refine T.group_list.fn.okx sc_group_list (fun vs H Q E h => ?_) (fun cdv A outer s H vs Q E hr h => ?_)
    · obtain ⟨v, d, kvs, S, H0, rfl, _⟩ := h
      rfl
    · obtain ⟨v, d, kvs, S, H0, rfl, s0, f0, hD, hS, hz, h0⟩ := h
      refine ⟨_, (pss_cons (ps_if (PW.pt (pw_or (pt_not (pt_val (pe_callB call_isiA rfl T.no_isinstance bt_isinstance (pa_cons (pv 0) (pa_cons (pe_bltn (v := .ty "list") rfl T.no_list bt_list rfl) pa_nil))))) (pw_or1 (pt_cmpR op_eq (pe_callB call_len_seq rfl T.no_len bt_len (pa_cons (pv 0) pa_nil)) pe_int (nomark _)))))
        (pss_one (ps_raise T.x_NoSorting rfl rfl T.mg_NoSorting rz_def (pa_cons pe_str pa_nil)))
        pss_nil)
      (pss_cons (ps_if (pt_cmpR op_eq (pv 1) (pe_glob rfl T.mg_FORM_DEPTH T.rl_FORM_DEPTH) (nomark _))
        (pss_one (ps_ret (pe_callS (ok_sheet_list T) (hr.mono (by decide)) rfl T.sheet_list.mgf T.sheet_list.kp T.sheet_list.bi .nil pass_def (pa_cons (pv 0) (pa_cons (pv 2) pa_nil)))))
        pss_nil)
      (pss_one ps_never))), ?_⟩
      have sz : 2000 < sizeLine := le_ble rfl
      rcases h0 with ⟨t, hat, hg, hv, hl3, k⟩ | ⟨bad, kE⟩
      · obtain ⟨a, vs, rfl, _, _⟩ := hat.lst
        have hA0 := AtR.ints (ns := t) hat
        have hA := s0 _ _ hA0
        have hne : ls t ≠ [] := hg.fu.1
        have lt : (List.map V.int (ls t)).length = (ls t).length := List.length_map ..
        refine ⟨_, rfl, rIsiA.ty (.lst hA) rfl ⟨_, rfl, iteF ?_⟩⟩
        refine ⟨_, rfl, a, _, rfl, .inl (SqL.of hA), rfl, _, rfl, ?_⟩
        refine ite2 (fun z => ?_) (fun _ => ?_)
        · exfalso
          have z := V.int.inj (of_decide_eq_true z)
          exact hne (List.length_eq_zero_iff.mp (by have z : ((List.map V.int (ls t)).length : Int) = 0 := z; omega))
        have e1 := flat_ints t
        have hl3' : (ls t).length ≤ 300 := by rw [e1] at hl3; exact hl3
        refine ⟨_, rfl, rfl, _, rfl, iteT ?_⟩
        refine ⟨_, rfl, _, rfl, a, d, List.map V.int (ls t), t, kvs, S, H0, rfl, s0, f0, hA0, by omega, List.take_of_length_le (by rw [lt]; exact Nat.le_refl _), hl3', ⟨e1 ▸ hg.inn, e1 ▸ hg.nd⟩, hg.as, e1 ▸ hv, hD, hS, hz, .inl ⟨lt, fun l kv' H' f hl h1 h2 h3 => ?_⟩⟩
        exact k _ kv' H' f (New.ints hl h1) h2 (by rw [e1]; exact h3)
      rcases bad with nl | ⟨a, rfl, he⟩ | ⟨a, us, ns, u, rfl, hA0, lu, tk, ln, hg, hp, hv, hu, hb⟩
      · obtain ⟨m, ty, hm⟩ := nl.same s0
        exact ⟨_, rfl, rIsiA.ty ty hm ⟨_, rfl, iteT ⟨le_ble rfl, kE H (FrD.refl _ _)⟩⟩⟩
      · have he := s0 _ _ he
        refine ⟨_, rfl, rIsiA.ty (.lst he) rfl ⟨_, rfl, iteF ?_⟩⟩
        exact ⟨_, rfl, a, _, rfl, .inl (SqL.of he), rfl, _, rfl, iteT ⟨le_ble rfl, kE H (FrD.refl _ _)⟩⟩
      have hA := s0 _ _ hA0
      have lp : 0 < us.length := Nat.lt_of_le_of_lt (Nat.zero_le _) (List.getElem?_eq_some_iff.mp hu).1
      refine ⟨_, rfl, rIsiA.ty (.lst hA) rfl ⟨_, rfl, iteF ?_⟩⟩
      refine ⟨_, rfl, a, _, rfl, .inl (SqL.of hA), rfl, _, rfl, ?_⟩
      refine ite2 (fun z => ?_) (fun _ => ?_)
      · exfalso
        have z := V.int.inj (of_decide_eq_true z)
        have z : (us.length : Int) = 0 := z
        omega
      refine ⟨_, rfl, rfl, _, rfl, iteT ?_⟩
      exact ⟨_, rfl, _, rfl, a, d, us, ns, kvs, S, H0, rfl, s0, f0, hA0, lu, tk, ln, hg, hp, hv, hD, hS, hz, .inr ⟨u, hu, hb, kE⟩⟩
  | n + 1 => by
    have ih := ok_group_list T n
    refine T.group_list.fn.okx sc_group_list (fun vs H Q E h => ?_) (fun cdv A outer s H vs Q E hr h => ?_)
    · obtain ⟨v, d, kvs, S, H0, rfl, _⟩ := h
      rfl
    · obtain ⟨v, d, kvs, S, H0, rfl, s0, f0, hD, hS, hz, h0⟩ := h
      refine ⟨_, (pss_cons (ps_if (PW.pt (pw_or (pt_not (pt_val (pe_callB call_isiA rfl T.no_isinstance bt_isinstance (pa_cons (pv 0) (pa_cons (pe_bltn (v := .ty "list") rfl T.no_list bt_list rfl) pa_nil))))) (pw_or1 (pt_cmpR op_eq (pe_callB call_len_seq rfl T.no_len bt_len (pa_cons (pv 0) pa_nil)) pe_int (nomark _)))))
        (pss_one (ps_raise T.x_NoSorting rfl rfl T.mg_NoSorting rz_def (pa_cons pe_str pa_nil)))
        pss_nil)
      (pss_cons (ps_if (pt_cmpR op_eq (pv 1) (pe_glob rfl T.mg_FORM_DEPTH T.rl_FORM_DEPTH) (nomark _))
        (pss_one (ps_ret (pe_callS (ok_sheet_list T) (hr.mono (le_k (by decide))) rfl T.sheet_list.mgf T.sheet_list.kp T.sheet_list.bi .nil pass_def (pa_cons (pv 0) (pa_cons (pv 2) pa_nil)))))
        pss_nil)
      (pss_one (ps_ret (pe_compX passF_def (N' := ["part", "seen", "depth"]) (js := [none, some 2, some 1]) rfl rfl (by decide +kernel) (by decide +kernel) (free_of ["seen", "depth"] (by decide +kernel) (fm_cons (.inl rfl) (fm_cons (.inl rfl) fm_nil))) (cap_of rfl (fm_cons (fun j e => nomatch e) (fm_cons (fun j e => by cases e; exact ⟨rfl, rfl, .inl rfl⟩) (fm_cons (fun j e => by cases e; exact ⟨rfl, rfl, .inl rfl⟩) fm_nil)))) (pi_list (pv 0)) (fun B => ⟨(pg_name (i := 0) (show List.Nodup (["part", "seen", "depth"] : List Str) by decide +kernel) rfl (Or.inl rfl)), pifs_nil, (pe_callS ih (hr.mono (Nat.le_refl _)) rfl T.group_list.mgf T.group_list.kp T.group_list.bi .nil pass_comp (pa_cons (pv 0) (pa_cons (pe_op op_add (pv 2) pe_int) (pa_cons (pv 1) pa_nil))))⟩)))))), ?_⟩
      have sz : 2000 < sizeLine := le_ble rfl
      have core : (NoListV K H0 v ∧ ∀ H', FrD d H H' → E (.ref c.c_NoSorting) none H') ∨ (EmptyV H0 v ∧ ∀ H', FrD d H H' → E (.ref c.c_NoSorting) none H') ∨ ∃ a us, ∃ ts : List (Tr (n + 1)), v = .ref a ∧ H0 a = some (.lst us) ∧ us ≠ [] ∧ us.length ≤ 1000 ∧ (∀ (j : Nat) w t, us[j]? = some w → ts[j]? = some t → AtR H0 (n + 1) w t ∧ Grp (n + 1) t) ∧ (flat (n + 2) ts).Nodup ∧ (flat (n + 2) ts).length ≤ 300 ∧ (∀ s ∈ flat (n + 2) ts, s ∉ S) ∧ ((us.length = ts.length ∧ ∀ w kv' H', FrD d H H' → New H H' (n + 2) w ts → H' d = some (.dK kv') → Seen kvs kv' (flat (n + 2) ts) → Q w H') ∨ ∃ u, us[ts.length]? = some u ∧ BadG K H0 n u (S ++ flat (n + 2) ts) ∧ ∀ H', FrD d H H' → E (.ref c.c_NoSorting) none H') := by
        rcases h0 with ⟨t, hat, hg, hv, hl3, k⟩ | ⟨bad, kE⟩
        · obtain ⟨a, us, rfl, hA0, hlen⟩ := hat.lst
          have hne : ls t ≠ [] := hg.fu.1
          have lf := flat_full (fun g hg' => hg.fu.2 g hg') (ts := ls t)
          have e : (flat (n + 1 + 1) t).length = (flat (n + 1 + 1) (ls t : List (Tr (n + 1)))).length := rfl
          refine .inr (.inr ⟨a, us, ls t, rfl, hA0, fun z => hne (List.length_eq_zero_iff.mp (by rw [← hlen, z]; rfl)), by omega, fun j w t' hw ht' => ?_, hg.nd, hl3, hv, .inl ⟨hlen, k⟩⟩)
          obtain ⟨w', t2, q1, q2, q3⟩ := hat.kid hA0 (List.getElem?_eq_some_iff.mp hw).1
          rw [hw] at q1
          cases q1
          rw [ht'] at q2
          cases q2
          exact ⟨q3, hg.kid ht'⟩
        · rcases bad with nl | em | ⟨a, us, u, ts, e, h1, h2, h3, h4, h5, h6, h7, h8⟩
          · exact .inl ⟨nl, kE⟩
          · exact .inr (.inl ⟨em, kE⟩)
          · exact .inr (.inr ⟨a, us, ts, e, h1, (fun z => by rw [z] at h7; cases h7), h2, h3, h4, h5, h6, .inr ⟨u, h7, h8, kE⟩⟩)
      clear h0
      rcases core with ⟨nl, kE⟩ | ⟨⟨a, rfl, he⟩, kE⟩ | ⟨a, us, ts, rfl, hA0, hne, lz, hts, fnd, f3, hv, h0⟩
      · obtain ⟨m, ty, hm⟩ := nl.same s0
        exact ⟨_, rfl, rIsiA.ty ty hm ⟨_, rfl, iteT ⟨le_ble rfl, kE H (FrD.refl _ _)⟩⟩⟩
      · have he := s0 _ _ he
        refine ⟨_, rfl, rIsiA.ty (.lst he) rfl ⟨_, rfl, iteF ?_⟩⟩
        exact ⟨_, rfl, a, _, rfl, .inl (SqL.of he), rfl, _, rfl, iteT ⟨le_ble rfl, kE H (FrD.refl _ _)⟩⟩
      have hA := s0 _ _ hA0
      refine ⟨_, rfl, rIsiA.ty (.lst hA) rfl ⟨_, rfl, iteF ?_⟩⟩
      refine ⟨_, rfl, a, _, rfl, .inl (SqL.of hA), rfl, _, rfl, ?_⟩
      refine ite2 (fun z => ?_) (fun _ => ?_)
      · exfalso
        have z := V.int.inj (of_decide_eq_true z)
        have z : (us.length : Int) = 0 := z
        exact hne (List.length_eq_zero_iff.mp (by omega))
      refine ⟨_, rfl, rfl, _, rfl, ?_⟩
      refine ite2 (fun z => ?_) (fun _ => ?_)
      · exfalso
        have z := V.int.inj (of_decide_eq_true z)
        omega
      refine ⟨_, rfl, a, rfl, ⟨_, SqL.of hA⟩, fun l B hl => ?_⟩
      have nla : a ≠ l := ne_of_none hA hl
      have nld : d ≠ l := ne_of_none hD hl
      have nad : a ≠ d := fun z => by rw [z, f0] at hA0; cases hA0
      refine loop_lst (xs := us) (fun i σ acc G => (∃ o, σ = [o, some (.ref d), some (.int (3 - ((n + 1 : Nat) : Int)))]) ∧ i ≤ ts.length ∧ ∃ kv', G l = some (.lst acc) ∧ acc.length = i ∧ G d = some (.dK kv') ∧ Seen kvs kv' (flat (n + 1 + 1) (ts.take i : List (Tr (n + 1)))) ∧ FrD d H G ∧ NewL H G l (n + 1) acc (ts.take i)) (by omega) ?_ ?_ ?_ ?_
      · exact ⟨⟨_, rfl⟩, Nat.zero_le _, kvs, upd_same, rfl, by rw [upd_ne nld]; exact hD, Seen.nil kvs, fun b u _ hb => (by rw [upd_ne (ne_of_none hb hl)]; exact hb), NewL.nil⟩
      · rintro i σ acc G hi ⟨_, _, kv', h1, h2, h3, h4, h5, h6⟩
        exact ⟨h1, SqL.of (h5 _ _ nad hA), by omega⟩
      · rintro i x σ acc G hx ⟨⟨o, rfl⟩, hit, kv', h1, h2, h3, h4, h5, h6⟩
        have hi : i < us.length := (List.getElem?_eq_some_iff.mp hx).1
        have e4 := h4.1
        have fle := flat_le ts i
        have f3' : (flat (n + 1 + 1) ts).length ≤ 300 := f3
        have n1 : l ≠ d := ne_of h1 h3 (by intro z; cases z)
        refine ⟨_, rfl, _, rfl, _, _, rfl, rfl, _, rfl, x, d, kv', S ++ flat (n + 1 + 1) (ts.take i : List (Tr (n + 1))), H0, by show [x, V.int (3 - ((n + 1 : Nat) : Int) + 1), V.ref d] = _; rw [show (3 : Int) - ((n + 1 : Nat) : Int) + 1 = 3 - (n : Int) by omega], h5.same0 s0 f0, f0, h3, h4.out hS, by omega, ?_⟩
        rcases Nat.lt_or_ge i ts.length with z | z
        rotate_left
        · have ei : i = ts.length := by omega
          subst ei
          rcases h0 with ⟨el, _⟩ | ⟨u, hu, hb, kE⟩
          · omega
          rw [hx] at hu
          cases hu
          refine .inr ⟨?_, fun G' f => kE G' (h5.trans f)⟩
          rw [List.take_of_length_le (Nat.le_refl _)]
          exact hb
        obtain ⟨t', e2⟩ : ∃ t, ts[i]? = some t := ⟨_, List.getElem?_eq_getElem z⟩
        obtain ⟨hk, hgk⟩ := hts i x t' hx e2
        have fn := flat_nd e2 fnd
        have fl := flat_len e2
        refine .inl ⟨t', hk, hgk, fun s hs q => ?_, by omega, fun w kv'' G' f nw hd2 sn => ?_⟩
        · rcases List.mem_append.mp q with q | q
          · exact hv s (flat_mem (List.mem_of_getElem? e2) hs) q
          · exact fn.2 s hs q
        have hl2 : G' l = some (.lst acc) := f l _ n1 h1
        refine ⟨hl2, Nx.mk hi ⟨⟨_, rfl⟩, by omega, kv'', upd_same, by rw [List.length_append, h2]; rfl, by rw [upd_ne n1.symm]; exact hd2, ?_, ?_, ?_⟩⟩
        · rw [flat_take e2]
          exact h4.more sn
        · exact fun b u nb hb => by
            rw [upd_ne (ne_of_none hb hl)]
            exact f b u nb (h5 b u nb hb)
        · rw [take_one e2]
          have hln : G l ≠ none := by rw [h1]; intro z; cases z
          refine (h6.snoc hln (fun b hb => ?_) (fun b xs _ _ hb => f.lst h3 b xs hb) (f.some hd2) nw).frame (fun b xs nb _ hb => by rw [upd_ne nb]; exact hb) (fun b hb => ?_)
          · cases q : H b with
            | none => rfl
            | some u => exact absurd hb (h5.some h3 b (by rw [q]; intro z; cases z))
          · by_cases q : b = l
            · rw [q, upd_same]; intro z; cases z
            · rw [upd_ne q]; exact hb
      · rintro σ acc G ⟨_, hit, kv', h1, h2, h3, h4, h5, h6⟩
        rcases h0 with ⟨el, k⟩ | ⟨u, hu, _⟩
        · rw [el, List.take_of_length_le (Nat.le_refl _)] at h4 h6
          exact k _ kv' G h5 (h6.done hl h1) h3 h4
        · exact absurd (List.getElem?_eq_some_iff.mp hu).1 (by omega)
set_option maxHeartbeats 4000000 in
theorem ok_sorting_list (T : Txt w K mg c) : FnOk P w K mg base (CXx P w) 7 c.a_sorting_list c.d_sorting_list ["sorting"] (spSortX K c.c_NoSorting) := by
  refine T.sorting_list.fn.okx sc_sorting_list (fun vs H Q E h => ?_) (fun cdv A outer s H vs Q E hr h => ?_)
  · obtain ⟨v, rfl, _⟩ := h
    rfl
  · obtain ⟨v, rfl, h0⟩ := h
    refine ⟨_, (pss_cons (ps_if (pt_not (pt_val (pe_callB call_isiA rfl T.no_isinstance bt_isinstance (pa_cons (pv 0) (pa_cons (pe_bltn (v := .ty "list") rfl T.no_list bt_list rfl) pa_nil)))))
        (pss_one (ps_raise T.x_NoSorting rfl rfl T.mg_NoSorting rz_def (pa_cons pe_str pa_nil)))
        pss_nil)
      (pss_cons (ps_set (i := 1) sc_sorting_list.nd rfl (Or.inr rfl) pe_dnewK)
      (pss_one (ps_ret (pe_compX passF_def (N' := ["group", "seen"]) (js := [none, some 1]) rfl rfl (by decide +kernel) (by decide +kernel) (free_of ["seen"] (by decide +kernel) (fm_cons (.inl rfl) fm_nil)) (cap_of rfl (fm_cons (fun j e => nomatch e) (fm_cons (fun j e => by cases e; exact ⟨rfl, rfl, .inl rfl⟩) fm_nil))) (pi_list (pv 0)) (fun B => ⟨(pg_name (i := 0) (show List.Nodup (["group", "seen"] : List Str) by decide +kernel) rfl (Or.inl rfl)), pifs_nil, (pe_callS (ok_group_list T 2) (hr.mono (by decide)) rfl T.group_list.mgf T.group_list.kp T.group_list.bi .nil pass_comp (pa_cons (pv 0) (pa_cons pe_int (pa_cons (pv 1) pa_nil))))⟩)))))), ?_⟩
    have sz : 2000 < sizeLine := le_ble rfl
    have core : (NoListV K H v ∧ ∀ H', Same H H' → E (.ref c.c_NoSorting) none H') ∨ ∃ a us, ∃ ts : List (Tr 3), v = .ref a ∧ H a = some (.lst us) ∧ us.length ≤ 1000 ∧ (∀ (j : Nat) w t, us[j]? = some w → ts[j]? = some t → AtR H 3 w t ∧ Grp 3 t) ∧ (flat 4 ts).Nodup ∧ (flat 4 ts).length ≤ 300 ∧ ((us.length = ts.length ∧ ∀ w H', Same H H' → New H H' 4 w ts → Q w H') ∨ ∃ u, us[ts.length]? = some u ∧ BadG K H 2 u (flat 4 ts) ∧ ∀ H', Same H H' → E (.ref c.c_NoSorting) none H') := by
      rcases h0 with ⟨S, hat, wf, hl3, k⟩ | ⟨nl | ⟨a, us, u, ts, e, h1, h2, h3, h4, h5, h6, h7⟩, kE⟩
      · obtain ⟨a, us, rfl, hA0, hlen⟩ := hat.lst
        have lf := flat_full (fun g hg' => wf.fu g hg') (ts := ls S)
        have e : (flat 4 S).length = (flat (3 + 1) (ls S : List (Tr 3))).length := rfl
        refine .inr ⟨a, us, ls S, rfl, hA0, by omega, fun j w t' hw ht' => ?_, wf.nd, hl3, .inl ⟨hlen, k⟩⟩
        obtain ⟨w', t2, q1, q2, q3⟩ := hat.kid hA0 (List.getElem?_eq_some_iff.mp hw).1
        rw [hw] at q1
        cases q1
        rw [ht'] at q2
        cases q2
        exact ⟨q3, wf.grp ht'⟩
      · exact .inl ⟨nl, kE⟩
      · exact .inr ⟨a, us, ts, e, h1, h2, h3, h4, h5, .inr ⟨u, h6, h7, kE⟩⟩
    clear h0
    rcases core with ⟨⟨m, ty, hm⟩, kE⟩ | ⟨a, us, ts, rfl, hA0, lz, hts, fnd, f3, h0⟩
    · exact ⟨_, rfl, rIsiA.ty ty hm ⟨_, rfl, iteT ⟨le_ble rfl, kE H (Same.refl _)⟩⟩⟩
    refine ⟨_, rfl, rIsiA.ty (.lst hA0) rfl ⟨_, rfl, iteF ?_⟩⟩
    refine fun d f0 => ?_
    obtain ⟨H0, hH0⟩ : ∃ H0, H0 = H := ⟨_, rfl⟩
    have hD : upd H d (.dK []) d = some (.dK []) := upd_same
    have s0 : Same H0 (upd H d (.dK [])) := by rw [hH0]; exact Same.new f0
    rw [← hH0] at hA0 hts f0 h0
    have hA := s0 _ _ hA0
    generalize upd H d (.dK []) = G0 at hD s0 hA ⊢
    obtain ⟨S, hS0⟩ : ∃ S : List Int, S = [] := ⟨_, rfl⟩
    obtain ⟨kvs, hkv⟩ : ∃ kvs : List (Key × V), kvs = [] := ⟨_, rfl⟩
    have hS : ∀ s : Int, valV kvs (Sum.inl s) = none ↔ s ∉ S := fun s => by rw [hS0, hkv]; exact ⟨fun _ h => (nomatch h), fun _ => rfl⟩
    have lkv : kvs.length = 0 := by rw [hkv]; rfl
    have hv : ∀ s ∈ flat 4 ts, s ∉ S := fun s _ => by rw [hS0]; exact List.not_mem_nil
    rw [← hkv] at hD
    have h0 : ((us.length = ts.length ∧ ∀ w kv' H', FrD d G0 H' → New G0 H' 4 w ts → H' d = some (.dK kv') → Seen kvs kv' (flat 4 ts) → Q w H') ∨ ∃ u, us[ts.length]? = some u ∧ BadG K H0 2 u (S ++ flat 4 ts) ∧ ∀ H', FrD d G0 H' → E (.ref c.c_NoSorting) none H') := by
      rcases h0 with ⟨el, k⟩ | ⟨u, hu, hb, kE⟩
      · exact .inl ⟨el, fun w kv' H' f nw _ _ => k w H' (f.same0 s0 f0) (nw.older s0)⟩
      · exact .inr ⟨u, hu, by rw [hS0]; exact hb, fun H' f => kE H' (f.same0 s0 f0)⟩
    refine ⟨_, rfl, a, rfl, ⟨_, SqL.of hA⟩, fun l B hl => ?_⟩
    have nla : a ≠ l := ne_of_none hA hl
    have nld : d ≠ l := ne_of_none hD hl
    have nad : a ≠ d := fun z => by rw [z, f0] at hA0; cases hA0
    refine loop_lst (xs := us) (fun i σ acc G => (∃ o, σ = [o, some (.ref d)]) ∧ i ≤ ts.length ∧ ∃ kv', G l = some (.lst acc) ∧ acc.length = i ∧ G d = some (.dK kv') ∧ Seen kvs kv' (flat (3 + 1) (ts.take i : List (Tr (3)))) ∧ FrD d G0 G ∧ NewL G0 G l (3) acc (ts.take i)) (by omega) ?_ ?_ ?_ ?_
    · exact ⟨⟨_, rfl⟩, Nat.zero_le _, kvs, upd_same, rfl, by rw [upd_ne nld]; exact hD, Seen.nil kvs, fun b u _ hb => (by rw [upd_ne (ne_of_none hb hl)]; exact hb), NewL.nil⟩
    · rintro i σ acc G hi ⟨_, _, kv', h1, h2, h3, h4, h5, h6⟩
      exact ⟨h1, SqL.of (h5 _ _ nad hA), by omega⟩
    · rintro i x σ acc G hx ⟨⟨o, rfl⟩, hit, kv', h1, h2, h3, h4, h5, h6⟩
      have hi : i < us.length := (List.getElem?_eq_some_iff.mp hx).1
      have e4 := h4.1
      have fle := flat_le ts i
      have f3' : (flat (3 + 1) ts).length ≤ 300 := f3
      have n1 : l ≠ d := ne_of h1 h3 (by intro z; cases z)
      refine ⟨_, rfl, _, rfl, x, d, kv', S ++ flat (3 + 1) (ts.take i : List (Tr (3))), H0, by show [x, V.int 1, V.ref d] = _; rfl, h5.same0 s0 f0, f0, h3, h4.out hS, by omega, ?_⟩
      rcases Nat.lt_or_ge i ts.length with z | z
      rotate_left
      · have ei : i = ts.length := by omega
        subst ei
        rcases h0 with ⟨el, _⟩ | ⟨u, hu, hb, kE⟩
        · omega
        rw [hx] at hu
        cases hu
        refine .inr ⟨?_, fun G' f => kE G' (h5.trans f)⟩
        rw [List.take_of_length_le (Nat.le_refl _)]
        exact hb
      obtain ⟨t', e2⟩ : ∃ t, ts[i]? = some t := ⟨_, List.getElem?_eq_getElem z⟩
      obtain ⟨hk, hgk⟩ := hts i x t' hx e2
      have fn := flat_nd e2 fnd
      have fl := flat_len e2
      refine .inl ⟨t', hk, hgk, fun s hs q => ?_, by have e7 : (flat (2 + 1) t').length = (flat 3 t').length := rfl; omega, fun w kv'' G' f nw hd2 sn => ?_⟩
      · rcases List.mem_append.mp q with q | q
        · exact hv s (flat_mem (List.mem_of_getElem? e2) hs) q
        · exact fn.2 s hs q
      have hl2 : G' l = some (.lst acc) := f l _ n1 h1
      refine ⟨hl2, Nx.mk hi ⟨⟨_, rfl⟩, by omega, kv'', upd_same, by rw [List.length_append, h2]; rfl, by rw [upd_ne n1.symm]; exact hd2, ?_, ?_, ?_⟩⟩
      · rw [flat_take e2]
        exact h4.more sn
      · exact fun b u nb hb => by
          rw [upd_ne (ne_of_none hb hl)]
          exact f b u nb (h5 b u nb hb)
      · rw [take_one e2]
        have hln : G l ≠ none := by rw [h1]; intro z; cases z
        refine (h6.snoc hln (fun b hb => ?_) (fun b xs _ _ hb => f.lst h3 b xs hb) (f.some hd2) nw).frame (fun b xs nb _ hb => by rw [upd_ne nb]; exact hb) (fun b hb => ?_)
        · cases q : G0 b with
          | none => rfl
          | some u => exact absurd hb (h5.some h3 b (by rw [q]; intro z; cases z))
        · by_cases q : b = l
          · rw [q, upd_same]; intro z; cases z
          · rw [upd_ne q]; exact hb
    · rintro σ acc G ⟨_, hit, kv', h1, h2, h3, h4, h5, h6⟩
      rcases h0 with ⟨el, k⟩ | ⟨u, hu, _⟩
      · rw [el, List.take_of_length_le (Nat.le_refl _)] at h4 h6
        exact k _ kv' G h5 (h6.done hl h1) h3 h4
      · exact absurd (List.getElem?_eq_some_iff.mp hu).1 (by omega)
theorem ok_groups_in (T : Txt w K mg c) : FnOk P w K mg base CX0 2 c.a_groups_in c.d_groups_in ["path", "parts"] spNo := by
  refine T.groups_in.fn.ok sc_groups_in (fun vs H Q E h => h.elim) (fun cdv A outer s H vs Q E hr h => h.elim)
set_option maxHeartbeats 4000000 in
theorem ok_groups (T : Txt w K mg c) : FnOk P w K mg base (CXx P w) 8 c.a_groups c.d_groups ["sorting"] (spBad1 K c.c_NoSorting) := by
  refine T.groups.fn.okx sc_groups (fun vs H Q E h => ?_) (fun cdv A outer s H vs Q E hr h => ?_)
  · obtain ⟨v, rfl, _⟩ := h
    rfl
  · obtain ⟨v, rfl, bad, k⟩ := h
    refine ⟨_, (pss_one (ps_ret (pe_call (ok_groups_in T) (hr.mono (by decide)) rfl T.groups_in.mgf T.groups_in.kp T.groups_in.bi .nil pass0 (pa_cons (pe_tup pa_nil) (pa_cons (pe_callS (ok_sorting_list T) (hr.mono (by decide)) rfl T.sorting_list.mgf T.sorting_list.kp T.sorting_list.bi .nil pass_def (pa_cons (pv 0) pa_nil)) pa_nil))))), ?_⟩
    refine ⟨le_ble rfl, fun t ht => ?_⟩
    exact ⟨_, rfl, v, rfl, .inr ⟨bad.same (Same.new ht), fun G sG => k G ((Same.new ht).trans sG)⟩⟩
set_option maxHeartbeats 4000000 in
theorem ok_path_of (T : Txt w K mg c) : FnOk P w K mg base (CXx P w) 9 c.a_path_of c.d_path_of ["sorting", "sheet"] (spBad2 K c.c_NoSorting) := by
  refine T.path_of.fn.okx sc_path_of (fun vs H Q E h => ?_) (fun cdv A outer s H vs Q E hr h => ?_)
  · obtain ⟨v, x, rfl, _⟩ := h
    rfl
  · obtain ⟨v, x, rfl, bad, k⟩ := h
    refine ⟨_, (pss_cons (ps_set (i := 2) sc_path_of.nd rfl (Or.inl rfl) (pe_callS (ok_groups T) (hr.mono (by decide)) rfl T.groups.mgf T.groups.kp T.groups.bi .nil pass_def (pa_cons (pv 0) pa_nil)))
      (pss_cons ps_never
      (pss_cons ps_never
      (pss_one ps_never)))), ?_⟩
    exact ⟨_, rfl, v, rfl, bad, k⟩
set_option maxHeartbeats 4000000 in
theorem ok_taken (T : Txt w K mg c) : FnOk P w K mg base (CXx P w) 10 c.a_taken c.d_taken ["sorting", "sheet"] (spBad2 K c.c_NoSorting) := by
  refine T.taken.fn.okx sc_taken (fun vs H Q E h => ?_) (fun cdv A outer s H vs Q E hr h => ?_)
  · obtain ⟨v, x, rfl, _⟩ := h
    rfl
  · obtain ⟨v, x, rfl, bad, k⟩ := h
    refine ⟨_, (pss_cons (ps_if (pt_cmp (pc_isN (pe_callS (ok_path_of T) (hr.mono (by decide)) rfl T.path_of.mgf T.path_of.kp T.path_of.bi .nil pass_def (pa_cons (pv 0) (pa_cons (pv 1) pa_nil)))))
        (pss_one ps_never)
        pss_nil)
      (pss_one ps_never)), ?_⟩
    exact ⟨_, rfl, _, rfl, v, x, rfl, bad, k⟩
set_option maxHeartbeats 4000000 in
theorem ok_laid (T : Txt w K mg c) : FnOk P w K mg base (CXx P w) 8 c.a_laid c.d_laid ["sorting", "sheet", "path"] (spBad3 K c.c_NoSorting) := by
  refine T.laid.fn.okx sc_laid (fun vs H Q E h => ?_) (fun cdv A outer s H vs Q E hr h => ?_)
  · obtain ⟨v, x, p, rfl, _⟩ := h
    rfl
  · obtain ⟨v, x, p, rfl, bad, k⟩ := h
    refine ⟨_, (pss_cons (ps_set (i := 3) sc_laid.nd rfl (Or.inl rfl) (pe_callS (ok_sorting_list T) (hr.mono (by decide)) rfl T.sorting_list.mgf T.sorting_list.kp T.sorting_list.bi .nil pass_def (pa_cons (pv 0) pa_nil)))
      (pss_cons ps_never
      (pss_cons ps_never
      (pss_cons ps_never
      (pss_cons ps_never
      (pss_one ps_never)))))), ?_⟩
    exact ⟨_, rfl, v, rfl, .inr ⟨bad, k⟩⟩
set_option maxHeartbeats 4000000 in
theorem ok_Lasked (T : Txt w K mg c) : FnOk P w K mg base (CXx P w) 11 c.a_Lasked c.d_Lasked ["_law_way", "_law_sorting_here", "_law_sheet_here", "_law_path"] (spAsk K c.c_NoSorting) := by
  refine T.Lasked.fn.okx sc_Lasked (fun vs H Q E h => ?_) (fun cdv A outer s H vs Q E hr h => ?_)
  · obtain ⟨wy, v, x, p, rfl, _⟩ := h
    rfl
  · obtain ⟨wy, v, x, p, rfl, bad, k⟩ := h
    refine ⟨_, (pss_cons (ps_if (pt_cmpR op_eq (pv 0) pe_int (nomark _))
        (pss_one (ps_ret (pe_callS (ok_sorting_list T) (hr.mono (by decide)) rfl T.sorting_list.mgf T.sorting_list.kp T.sorting_list.bi .nil pass_def (pa_cons (pv 1) pa_nil))))
        pss_nil)
      (pss_cons (ps_if (pt_cmpR op_eq (pv 0) pe_int (nomark _))
        (pss_one (ps_ret (pe_callS (ok_groups T) (hr.mono (by decide)) rfl T.groups.mgf T.groups.kp T.groups.bi .nil pass_def (pa_cons (pv 1) pa_nil))))
        pss_nil)
      (pss_cons (ps_if (pt_cmpR op_eq (pv 0) pe_int (nomark _))
        (pss_one (ps_ret (pe_callS (ok_path_of T) (hr.mono (by decide)) rfl T.path_of.mgf T.path_of.kp T.path_of.bi .nil pass_def (pa_cons (pv 1) (pa_cons (pv 2) pa_nil)))))
        pss_nil)
      (pss_cons (ps_if (pt_cmpR op_eq (pv 0) pe_int (nomark _))
        (pss_one (ps_ret (pe_callS (ok_laid T) (hr.mono (by decide)) rfl T.laid.mgf T.laid.kp T.laid.bi .nil pass_def (pa_cons (pv 1) (pa_cons (pv 2) (pa_cons (pv 3) pa_nil))))))
        pss_nil)
      (pss_one (ps_ret (pe_callS (ok_taken T) (hr.mono (by decide)) rfl T.taken.mgf T.taken.kp T.taken.bi .nil pass_def (pa_cons (pv 1) (pa_cons (pv 2) pa_nil))))))))), ?_⟩
    refine ⟨_, rfl, rfl, _, rfl, ?_⟩
    refine ite2 (fun z => ?_) (fun z => ?_)
    · exact ⟨_, rfl, v, rfl, .inr ⟨bad, k⟩⟩
    refine ⟨_, rfl, rfl, _, rfl, ?_⟩
    refine ite2 (fun z => ?_) (fun z => ?_)
    · exact ⟨_, rfl, v, rfl, bad, k⟩
    refine ⟨_, rfl, rfl, _, rfl, ?_⟩
    refine ite2 (fun z => ?_) (fun z => ?_)
    · exact ⟨_, rfl, _, rfl, v, x, rfl, bad, k⟩
    refine ⟨_, rfl, rfl, _, rfl, ?_⟩
    refine ite2 (fun z => ?_) (fun z => ?_)
    · exact ⟨_, rfl, _, rfl, _, rfl, v, x, p, rfl, bad, k⟩
    exact ⟨_, rfl, _, rfl, v, x, rfl, bad, k⟩
set_option maxHeartbeats 4000000 in
theorem ok_Lrefused (T : Txt w K mg c) : FnOk P w K mg base CX0 12 c.a_Lrefused c.d_Lrefused ["_law_way", "_law_sorting_here", "_law_sheet_here", "_law_path"] (spRef43 K) := by
  refine T.Lrefused.fn.ok sc_Lrefused (fun vs H Q E h => ?_) (fun cdv A outer s H vs Q E hr h => ?_)
  · obtain ⟨wy, v, x, p, rfl, _⟩ := h
    rfl
  · obtain ⟨wy, v, x, p, rfl, bad, k⟩ := h
    refine ⟨_, (pss_cons (ps_set (i := 4) sc_Lrefused.nd rfl (Or.inl rfl) pe_non)
      (pss_cut (ps_try rfl rfl rfl sc_Lrefused.nd (i := 5) rfl rfl rfl T.mg_RightError (fun Ez pins W hp =>
        (pss_one (ps_expr (pe_callS (ok_Lasked T) (hr.mono (by decide)) rfl T.Lasked.mgf T.Lasked.kp T.Lasked.bi .nil hp (pa_cons (pv 0) (pa_cons (pv 1) (pa_cons (pv 2) (pa_cons (pv 3) pa_nil))))))))
        (fun e => (pss_one (ps_set (i := 4) sc_Lrefused.nd rfl (Or.inl rfl) (pv 5)))))
      (pss_cons (ps_if (PW.pt (pw_or (pt_not (pt_val (pe_callB call_isiA rfl T.no_isinstance bt_isinstance (pa_cons (pv 4) (pa_cons (pe_glob (v := .ref c.c_NoSorting) rfl T.mg_NoSorting rfl) pa_nil))))) (pw_or1 (pt_not (pt_val (pe_callB call_isiA rfl T.no_isinstance bt_isinstance (pa_cons (pv 4) (pa_cons (pe_bltn (v := .ty "ValueError") rfl T.no_ValueError bt_ValueError rfl) pa_nil))))))))
        (pss_one (ps_ret pe_bl))
        pss_nil)
      (pss_cons (ps_set (i := 6) sc_Lrefused.nd rfl (Or.inl rfl) (pe_lst (pa_cons (pe_callB call_isiA rfl T.no_isinstance bt_isinstance (pa_cons (pv 4) (pa_cons (pe_glob (v := .ref c.c_NoPath) rfl T.mg_NoPath rfl) pa_nil))) (pa_cons (pe_callB call_isiA rfl T.no_isinstance bt_isinstance (pa_cons (pv 4) (pa_cons (pe_glob (v := .ref c.c_NoSheet) rfl T.mg_NoSheet rfl) pa_nil))) (pa_cons (pe_callB call_isiA rfl T.no_isinstance bt_isinstance (pa_cons (pv 4) (pa_cons (pe_glob (v := .ref c.c_NoBook) rfl T.mg_NoBook rfl) pa_nil))) pa_nil)))))
      (pss_one (ps_ret (pe_cmpR (op_eqD (hu62 hr)) (pe_op op_cat (pv 6) (pe_lst (pa_cons (pe_callB call_isiA rfl T.no_isinstance bt_isinstance (pa_cons (pv 4) (pa_cons (pe_glob (v := .ref c.c_NoNumber) rfl T.mg_NoNumber rfl) pa_nil))) (pa_cons (pe_callB call_isiA rfl T.no_isinstance bt_isinstance (pa_cons (pv 4) (pa_cons (pe_glob (v := .ref c.c_NoRow) rfl T.mg_NoRow rfl) pa_nil))) pa_nil)))) (pe_op op_rep (pe_lst (pa_cons pe_bl pa_nil)) pe_int) (nomark _)))))))), ?_⟩
    refine ⟨fun σ G => ∃ e, σ = [some (.int wy), some v, some x, some p, some (.ref e), none, none] ∧ Same H G ∧ G e = some (exO (.ref c.c_NoSorting) none e), ?_, ?_⟩
    · refine ⟨fun σ1 C dd H1 => σ1 = [some (.int wy), some v, some x, some p, some .non, none, none] ∧ C = .ref c.c_NoSorting ∧ dd = none ∧ Same H H1, fun pins W => ?_, ?_⟩
      · exact ⟨_, rfl, _, rfl, _, rfl, _, rfl, wy, v, x, p, rfl, bad, fun G sG => ⟨rfl, rfl, rfl, sG⟩⟩
      · rintro σ1 C dd H1 ⟨rfl, rfl, rfl, sH⟩
        exact ⟨T.e_NoSorting_RightError, fun e he => ⟨_, rfl, e, rfl, sH.trans (Same.new he), upd_same⟩⟩
    rintro σ G ⟨e, rfl, sG, he⟩
    refine ⟨_, rfl, rIsiA.exc he T.q_NoSorting T.i_NoSorting_NoSorting ⟨_, rfl, iteF ?_⟩⟩
    refine ⟨_, rfl, rIsiA.excT he T.q_NoSorting T.i_NoSorting_ValueError ⟨_, rfl, iteF ?_⟩⟩
    refine ⟨_, rfl, rIsiA.exc he T.q_NoSorting T.i_NoSorting_NoPath ⟨_, rfl, rIsiA.exc he T.q_NoSorting T.i_NoSorting_NoSheet ⟨_, rfl, rIsiA.exc he T.q_NoSorting T.i_NoSorting_NoBook ?_⟩⟩⟩
    refine ⟨le_ble rfl, fun p1 hp1 => ?_⟩
    have s1 := Same.new (o := HO.lst [V.bl false, V.bl false, V.bl false]) hp1
    have k1 := upd_same (H := G) (a := p1) (o := .lst [V.bl false, V.bl false, V.bl false])
    have he := s1 _ _ he
    generalize upd G p1 (.lst [V.bl false, V.bl false, V.bl false]) = G1 at s1 k1 he ⊢
    refine ⟨_, rfl, ?_⟩
    refine ⟨_, rfl, rIsiA.exc he T.q_NoSorting T.i_NoSorting_NoNumber ⟨_, rfl, rIsiA.exc he T.q_NoSorting T.i_NoSorting_NoRow ?_⟩⟩
    refine ⟨le_ble rfl, fun p2 hp2 => ?_⟩
    have s2 := Same.new (o := HO.lst [V.bl false, V.bl false]) hp2
    have k2 := upd_same (H := G1) (a := p2) (o := .lst [V.bl false, V.bl false])
    have k1 := s2 _ _ k1
    generalize upd G1 p2 (.lst [V.bl false, V.bl false]) = G2 at s2 k1 k2 ⊢
    refine ⟨p1, p2, _, _, rfl, rfl, k1, k2, le_ble rfl, fun p3 hp3 => ?_⟩
    have s3 := Same.new (o := HO.lst ([V.bl false, V.bl false, V.bl false] ++ [V.bl false, V.bl false])) hp3
    have k3 := upd_same (H := G2) (a := p3) (o := .lst ([V.bl false, V.bl false, V.bl false] ++ [V.bl false, V.bl false]))
    generalize upd G2 p3 (.lst ([V.bl false, V.bl false, V.bl false] ++ [V.bl false, V.bl false])) = G3 at s3 k3 ⊢
    refine ⟨le_ble rfl, fun p4 hp4 => ?_⟩
    have s4 := Same.new (o := HO.lst [V.bl false]) hp4
    have k4 := upd_same (H := G3) (a := p4) (o := .lst [V.bl false])
    have k3 := s4 _ _ k3
    generalize upd G3 p4 (.lst [V.bl false]) = G4 at s4 k3 k4 ⊢
    refine ⟨p4, 5, _, rfl, rfl, k4, by decide, by decide, le_ble rfl, fun p5 hp5 => ?_⟩
    have s5 := Same.new (o := HO.lst (List.replicate (5 : Int).toNat [V.bl false]).flatten) hp5
    have hq : SeqEq K (upd G4 p5 (.lst (List.replicate (5 : Int).toNat [V.bl false]).flatten)) (EqD K (upd G4 p5 (.lst (List.replicate (5 : Int).toNat [V.bl false]).flatten)) 0) (.ref p3) (.ref p5) true := SeqEq.flatL (xs := [V.bl false, V.bl false, V.bl false] ++ [V.bl false, V.bl false]) (ys := (List.replicate (5 : Int).toNat [V.bl false]).flatten) (SqL.of (s5 _ _ k3)) (SqL.of upd_same) rfl rfl
    exact ⟨0, true, by decide, hq, k _ (sG.trans (s1.trans (s2.trans (s3.trans (s4.trans s5)))))⟩
set_option maxHeartbeats 4000000 in
theorem ok_Ldrawn (T : Txt w K mg c) : FnOk P w K mg base CX0 1 c.a_Ldrawn c.d_Ldrawn ["_law_script", "_law_k"] (spDrawn K) := by
  refine T.Ldrawn.fn.ok sc_Ldrawn (fun vs H Q E h => ?_) (fun cdv A outer s H vs Q E hr h => ?_)
  · obtain ⟨a, i, ns, rfl, _⟩ := h
    rfl
  · obtain ⟨a, i, ns, rfl, h0, h1, h2, hS, k⟩ := h
    refine ⟨_, (pss_cut (ps_if (PW.pt (pw_and (pt_cmpR op_eq (pe_op op_mod (pe_ix ix_list (pv 0) pe_int (fun _ _ => rfl)) pe_int) pe_int (nomark _)) (pw_and1 (pt_cmpR op_gt (pe_ix ix_list (pv 0) (pv 1) (fun _ _ => rfl)) (pe_op op_pow pe_int pe_int) (nomark _)))))
        (pss_one (ps_ret (pe_op op_mod (pe_ix ix_list (pv 0) (pv 1) (fun _ _ => rfl)) (pe_op op_pow pe_int pe_int))))
        pss_nil)
      (pss_one (ps_ret (pe_op op_mod (pe_op op_mul (pe_op op_add (pe_ix ix_list (pv 0) (pv 1) (fun _ _ => rfl)) pe_int) (pe_op op_add pe_int (pe_op op_mul (pe_op op_mul pe_int (pv 1)) (pv 1)))) pe_int)))), ?_⟩
    have hm : (ns.map V.int).length = ns.length := List.length_map ..
    obtain ⟨v0, hv0, hm0⟩ := atI_in (xs := ns.map V.int) (i := 0) (by omega) (by omega)
    obtain ⟨z0, _, rfl⟩ := List.mem_map.mp hm0
    obtain ⟨v1, hv1, hm1⟩ := atI_in (xs := ns.map V.int) (i := i) (by omega) (by omega)
    obtain ⟨z1, _, rfl⟩ := List.mem_map.mp hm1
    have sq : i * i ≤ 100 * 100 := Int.mul_le_mul (by omega) (by omega) (by omega) (by omega)
    have sq0 : 0 ≤ i * i := Int.mul_nonneg h0 h0
    have e3 : 7919 * i * i = 7919 * (i * i) := Int.mul_assoc _ _ _
    refine ⟨fun σ G => G = H ∧ σ = [some (.ref a), some (.int i)], ?_, ?_⟩
    · refine ⟨_, rfl, a, _, _, _, rfl, rfl, hS, hv0, ?_⟩
      walk_at "rd"
      refine ite2 (fun _ => ?_) (fun _ => ⟨rfl, rfl⟩)
      refine ⟨_, rfl, _, rfl, a, _, _, _, rfl, rfl, hS, hv1, ?_⟩
      walk_at "rd"
      refine ite2 (fun _ => ?_) (fun _ => ⟨rfl, rfl⟩)
      refine ⟨_, rfl, _, rfl, a, _, _, _, rfl, rfl, hS, hv1, ?_⟩
      walk_at "rd"
      exact k _ (Int.emod_nonneg _ (by decide))
    rintro σ G ⟨rfl, rfl⟩
    refine ⟨_, rfl, _, rfl, a, _, _, _, rfl, rfl, hS, hv1, ?_⟩
    walk_at "rd"
    refine ⟨.inl ⟨by omega, by omega⟩, ?_⟩
    walk_at "rd"
    refine ⟨.inr ⟨by rw [e3]; omega, by rw [e3]; omega⟩, ?_⟩
    walk_at "rd"
    exact k _ (Int.emod_nonneg _ (by decide))
set_option maxHeartbeats 4000000 in
theorem ok_Lsheet (T : Txt w K mg c) : FnOk P w K mg base CX0 1 c.a_Lsheet c.d_Lsheet ["_law_number", "_law_k"] (spSheet) := by
  refine T.Lsheet.fn.ok sc_Lsheet (fun vs H Q E h => ?_) (fun cdv A outer s H vs Q E hr h => ?_)
  · obtain ⟨m, i, rfl, _⟩ := h
    rfl
  · obtain ⟨m, i, rfl, h0, h1, k⟩ := h
    refine ⟨_, (pss_cons (ps_if (pt_cmpR op_eq (pe_op op_mod (pv 0) pe_int) pe_int (nomark _))
        (pss_one (ps_ret (pe_op op_add (pe_op op_add pe_int (pe_op op_mul pe_int (pe_op op_mod (pe_op op_fdiv (pv 0) pe_int) pe_int))) (pv 1))))
        pss_nil)
      (pss_one (ps_ret (pe_op op_add (pe_op op_add pe_int (pe_op op_mul pe_int (pe_op op_mod (pe_op op_fdiv (pv 0) pe_int) pe_int))) (pv 1))))), ?_⟩
    walk_at "rd"
    refine ite2 (fun _ => ?_) (fun _ => ?_)
    · walk_at "rd"
      exact k _ (by omega) (inR_of (by omega) (by omega))
    · walk_at "rd"
      exact k _ (by omega) (inR_of (by omega) (by omega))
set_option maxHeartbeats 4000000 in
theorem ok_Lput (T : Txt w K mg c) : FnOk P w K mg base CX0 1 c.a_Lput c.d_Lput ["_law_sorting_here", "_law_sheet_here", "_law_number"] (spPut) := by
  refine T.Lput.fn.ok sc_Lput (fun vs H Q E h => ?_) (fun cdv A outer s H vs Q E hr h => ?_)
  · obtain ⟨v, s', m, S, o, rfl, _⟩ := h
    rfl
  · obtain ⟨v, s', m, S, o, rfl, hat, dm, wf, hs, hz, k⟩ := h
    refine ⟨_, (pss_cut (ps_if (PW.pt (pw_or (pt_cmpR (op_eqD (hu62 hr)) (pv 0) (pe_lst pa_nil) (nomark _)) (pw_or1 (pt_cmpR op_eq (pe_op op_mod (pv 2) pe_int) pe_int (nomark _)))))
        (pss_cons (ps_expr (pe_bm PySem.F.plainAttrs_list PySem.F.slot_list_append PySem.F.type_list_append (MtM.r mt_append) (pv 0) (pa_cons (pe_lst (pa_cons (pe_lst (pa_cons (pe_lst (pa_cons (pv 1) pa_nil)) pa_nil)) pa_nil)) pa_nil)))
      (pss_one ps_retN))
        pss_nil)
      (pss_cons (ps_set (i := 3) sc_Lput.nd rfl (Or.inl rfl) (pe_ix ix_list (pv 0) (pe_op op_mod (pe_op op_fdiv (pv 2) pe_int) (pe_callB call_len_seq rfl T.no_len bt_len (pa_cons (pv 0) pa_nil))) (fun _ _ => rfl)))
      (pss_cons (ps_if (pt_cmpR op_eq (pe_op op_mod (pv 2) pe_int) pe_int (nomark _))
        (pss_cons (ps_expr (pe_bm PySem.F.plainAttrs_list PySem.F.slot_list_append PySem.F.type_list_append (MtM.r mt_append) (pv 3) (pa_cons (pe_lst (pa_cons (pe_lst (pa_cons (pv 1) pa_nil)) pa_nil)) pa_nil)))
      (pss_one ps_retN))
        pss_nil)
      (pss_cons (ps_set (i := 4) sc_Lput.nd rfl (Or.inl rfl) (pe_ix ix_list (pv 3) (pe_op op_mod (pe_op op_fdiv (pv 2) pe_int) (pe_callB call_len_seq rfl T.no_len bt_len (pa_cons (pv 3) pa_nil))) (fun _ _ => rfl)))
      (pss_cons (ps_if (pt_cmpR op_eq (pe_op op_mod (pv 2) pe_int) pe_int (nomark _))
        (pss_cons (ps_expr (pe_bm PySem.F.plainAttrs_list PySem.F.slot_list_append PySem.F.type_list_append (MtM.r mt_append) (pv 4) (pa_cons (pe_lst (pa_cons (pv 1) pa_nil)) pa_nil)))
      (pss_one ps_retN))
        pss_nil)
      (pss_cons (ps_set (i := 5) sc_Lput.nd rfl (Or.inl rfl) (pe_op op_mod (pe_op op_fdiv (pv 2) pe_int) (pe_callB call_len_seq rfl T.no_len bt_len (pa_cons (pv 4) pa_nil))))
      (pss_one (ps_asg (pe_callB (call_sorted rfl) rfl T.no_sorted bt_sorted (pa_cons (pe_op op_cat (pe_ix ix_list (pv 4) (pv 5) (fun _ _ => rfl)) (pe_lst (pa_cons (pv 1) pa_nil))) pa_nil)) (pg_sub (pv 4) (pv 5) set_list))))))))), ?_⟩
    obtain ⟨r, vs, rfl, or, hr, hlen⟩ := hat.lst
    have h64 : 64 ≤ sizeLine := le_ble rfl
    have lz : vs.length < 60 := by
      have := flat_full (fun g hg' => wf.fu g hg') (ts := ls S)
      have e : (flat 4 S).length = (flat (3 + 1) (ls S : List (Tr 3))).length := rfl
      omega
    have f0 : ∀ G : Hp, Same H G → ∀ H' : Hp, (∀ b u, o b = none → G b = some u → H' b = some u) → ∀ b u, o b = none → H b = some u → H' b = some u := fun G s0 H' f b u hb hu => f b u hb (s0 b u hu)
    have d0 : ∀ G : Hp, Same H G → ∀ o' : Ow, (∀ b r, o' b = some r → o b = none → G b = none) → ∀ b r, o' b = some r → o b = none → H b = none := fun G s0 o' f b q hq hb => s0.free (f b q hq hb)
    have hat0 : ∀ G : Hp, Same H G → At o G 4 [] (.ref r) S := fun G s0 => hat.frame fun b q xs hb _ hx => ⟨s0 b _ hx, hb⟩
    have dm0 : ∀ G : Hp, Same H G → Dom o G := fun G s0 b q hb => by
      cases e : H b with
      | none => exact absurd e (dm b q hb)
      | some u => rw [s0 b u e]; intro z; cases z
    have caseA : ∀ G, Same H G → ∀ q1 q2 q3, G q1 = none → upd G q1 (.lst [.int s']) q2 = none → upd (upd G q1 (.lst [.int s'])) q2 (.lst [.ref q1]) q3 = none →
        upd (upd (upd G q1 (.lst [.int s'])) q2 (.lst [.ref q1])) q3 (.lst [.ref q2]) r = some (.lst vs) ∧ vs.length < sizeLine ∧ Q .non (upd (upd (upd (upd G q1 (.lst [.int s'])) q2 (.lst [.ref q1])) q3 (.lst [.ref q2])) r (.lst (vs ++ [.ref q3]))) := fun G s0 q1 q2 q3 h1 h2 h3 => by
      have n1 : New G (upd G q1 (.lst [.int s'])) 1 (.ref q1) (solo 1 s') := newSolo (New.int (i := s')) h1 (Same.refl G)
      have n2 := newSolo n1 h2 (Same.new h1)
      have n3 := newSolo n2 h3 ((Same.new h1).trans (Same.new h2))
      have sm := ((Same.new (o := HO.lst [.int s']) h1).trans (Same.new (o := HO.lst [.ref q1]) h2)).trans (Same.new (o := HO.lst [.ref q2]) h3)
      obtain ⟨o', x, at'⟩ := (hat0 G s0).appN (dm0 G s0) (s0 r _ hr) sm n3
      obtain ⟨e1, e2⟩ := putEnd (u := .lst (vs ++ [.ref q3])) x sm or
      exact ⟨sm r _ (s0 r _ hr), by omega, k _ _ o' (f0 G s0 _ e1) at' (x.after (dm0 G s0) sm) (d0 G s0 _ e2) (Put.app S s')⟩
    refine ⟨fun σ' G => σ' = [some (.ref r), some (.int s'), some (.int m), none, none, none] ∧ vs ≠ [] ∧ Same H G, ?_, ?_⟩
    · refine ⟨_, rfl, le_ble rfl, fun e0 he0 => ?_⟩
      have s0 : Same H (upd H e0 (.lst [])) := Same.new he0
      have hr0 := s0 r _ hr
      refine ⟨0, _, by decide, seqNil (SqL.of hr0) (SqL.of upd_same), _, rfl, ?_⟩
      have A := caseA _ s0
      generalize upd H e0 (.lst []) = G at s0 hr0 A
      refine iteB (fun _ => ?_) (fun he => ?_)
      · refine iteT ⟨_, rfl, .inl ⟨rfl, _, SqL.of hr0⟩, _, rfl, le_ble rfl, fun q1 h1 => ⟨le_ble rfl, fun q2 h2 => ⟨le_ble rfl, fun q3 h3 => ?_⟩⟩⟩
        obtain ⟨a1, a2, a3⟩ := A q1 q2 q3 h1 h2 h3
        exact ⟨r, _, _, rfl, rfl, a1, a2, a3⟩
      · walk_at "rd"
        refine ite2 (fun _ => ?_) (fun _ => ?_)
        · refine ⟨_, rfl, .inl ⟨rfl, _, SqL.of hr0⟩, _, rfl, le_ble rfl, fun q1 h1 => ⟨le_ble rfl, fun q2 h2 => ⟨le_ble rfl, fun q3 h3 => ?_⟩⟩⟩
          obtain ⟨a1, a2, a3⟩ := A q1 q2 q3 h1 h2 h3
          exact ⟨r, _, _, rfl, rfl, a1, a2, a3⟩
        · exact ⟨rfl, fun z => (by rw [z] at he; cases he), s0⟩
    rintro σ' G ⟨rfl, hne, s0⟩
    have hr0 := s0 r _ hr
    have at0 := hat0 G s0
    have dmG := dm0 G s0
    have lp : 0 < vs.length := List.length_pos_iff.mpr hne
    walk_at "rd"
    refine ⟨r, _, rfl, .inl (SqL.of hr0), _, _, rfl, rfl, by omega, ?_⟩
    obtain ⟨i, x, hi, hx, ha, _⟩ := atI_ix (xs := vs) (i := m / 5 % (vs.length : Int)) (Int.emod_nonneg _ (by omega)) (Int.emod_lt_of_pos _ (by omega))
    refine ⟨r, _, _, x, rfl, rfl, SqL.of hr0, ha, ?_⟩
    obtain ⟨x', g, e1, eg, kg⟩ := at0.kid hr0 hi
    rw [hx] at e1
    cases e1
    obtain ⟨ga, gs, rfl, og, hg0, glen⟩ := kg.lst
    have gm := List.mem_of_getElem? eg
    have fg := wf.grp eg
    have gz : gs.length < 60 := by
      have h1 := flat_full (fun c hc => fg.fu.2 c hc) (ts := ls g)
      have h2 := flat_len eg
      have e : (flat 4 S).length = (flat (3 + 1) (ls S : List (Tr 3))).length := rfl
      have e' : (flat 3 g).length = (flat (2 + 1) (ls g : List (Tr 2))).length := rfl
      omega
    have gp : 0 < gs.length := by
      rw [glen]
      exact List.length_pos_iff.mpr fg.fu.1
    walk_at "rd"
    refine ite2 (fun _ => ?_) (fun _ => ?_)
    · refine ⟨_, rfl, .inl ⟨rfl, _, SqL.of hg0⟩, _, rfl, le_ble rfl, fun q1 h1 => ⟨le_ble rfl, fun q2 h2 => ?_⟩⟩
      have n1 : New G (upd G q1 (.lst [.int s'])) 1 (.ref q1) (solo 1 s') := newSolo (New.int (i := s')) h1 (Same.refl G)
      have n2 := newSolo n1 h2 (Same.new h1)
      have sm := (Same.new (o := HO.lst [.int s']) h1).trans (Same.new (o := HO.lst [.ref q1]) h2)
      obtain ⟨o', x, a1⟩ := kg.appN dmG hg0 sm n2
      have a2 := at0.up dmG hr0 hx sm x og (List.suffix_refl _) a1
      obtain ⟨e1, e2⟩ := putEnd (u := .lst (gs ++ [.ref q2])) x sm og
      exact ⟨ga, _, _, rfl, rfl, sm _ _ hg0, by omega, k _ _ o' (f0 G s0 _ e1) a2 (x.after dmG sm) (d0 G s0 _ e2) ((PutG.app g s').top eg)⟩
    walk_at "rd"
    refine ⟨ga, _, rfl, .inl (SqL.of hg0), _, _, rfl, rfl, by omega, ?_⟩
    obtain ⟨j, y, hj, hy, hb, _⟩ := atI_ix (xs := gs) (i := m / 500 % (gs.length : Int)) (Int.emod_nonneg _ (by omega)) (Int.emod_lt_of_pos _ (by omega))
    refine ⟨ga, _, _, y, rfl, rfl, SqL.of hg0, hb, ?_⟩
    obtain ⟨y', c', e1, ec, kc⟩ := kg.kid hg0 hj
    rw [hy] at e1
    cases e1
    obtain ⟨ca, cs, rfl, oc, hc0, clen⟩ := kc.lst
    have fc := fg.kid ec
    have cz : cs.length < 60 := by
      have h1 := flat_full (fun c hc => fc.fu.2 c hc) (ts := ls c')
      have h2 := flat_len eg
      have h3 := flat_len ec
      have e : (flat 4 S).length = (flat (3 + 1) (ls S : List (Tr 3))).length := rfl
      have e' : (flat 3 g).length = (flat (2 + 1) (ls g : List (Tr 2))).length := rfl
      have e'' : (flat 2 c').length = (flat (1 + 1) (ls c' : List (Tr 1))).length := rfl
      omega
    have cp : 0 < cs.length := by
      rw [clen]
      exact List.length_pos_iff.mpr fc.fu.1
    walk_at "rd"
    refine ite2 (fun _ => ?_) (fun _ => ?_)
    · refine ⟨_, rfl, .inl ⟨rfl, _, SqL.of hc0⟩, _, rfl, le_ble rfl, fun q1 h1 => ?_⟩
      have n1 : New G (upd G q1 (.lst [.int s'])) 1 (.ref q1) (solo 1 s') := newSolo (New.int (i := s')) h1 (Same.refl G)
      have sm := Same.new (o := HO.lst [.int s']) h1
      obtain ⟨o', x, a1⟩ := kc.appN dmG hc0 sm n1
      have a2 := kg.up dmG hg0 hy sm x oc (List.suffix_refl _) a1
      have a3 := at0.up dmG hr0 hx sm x oc (List.suffix_cons _ _) a2
      obtain ⟨e1, e2⟩ := putEnd (u := .lst (cs ++ [.ref q1])) x sm oc
      exact ⟨ca, _, _, rfl, rfl, sm _ _ hc0, by omega, k _ _ o' (f0 G s0 _ e1) a3 (x.after dmG sm) (d0 G s0 _ e2) (((PutG.app c' s').up ec).top eg)⟩
    walk_at "rd"
    refine ⟨ca, _, rfl, .inl (SqL.of hc0), _, _, rfl, rfl, by omega, ?_⟩
    obtain ⟨l, z, hl, hz', hd, hn⟩ := atI_ix (xs := cs) (i := m / 50000 % (cs.length : Int)) (Int.emod_nonneg _ (by omega)) (Int.emod_lt_of_pos _ (by omega))
    obtain ⟨z', f, e1, ef, kf⟩ := kc.kid hc0 hl
    rw [hz'] at e1
    cases e1
    obtain ⟨fl, hfl⟩ : ∃ fl : List Int, fl = f := ⟨f, rfl⟩
    subst hfl
    obtain ⟨fa, fs, rfl, of, hf0, flen⟩ := kf.lst
    have hfi := AtR.ints (ns := fl) kf.r
    refine ⟨_, rfl, _, rfl, ca, _, _, _, rfl, rfl, SqL.of hc0, hd, _, rfl, le_ble rfl, fun q1 h1 => ?_⟩
    have fz : fl.length < 60 := by
      have h2 := flat_len eg
      have h3 := flat_len ec
      have h4 := flat_len ef
      have e : (flat 4 S).length = (flat (3 + 1) (ls S : List (Tr 3))).length := rfl
      have e' : (flat 3 g).length = (flat (2 + 1) (ls g : List (Tr 2))).length := rfl
      have e'' : (flat 2 c').length = (flat (1 + 1) (ls c' : List (Tr 1))).length := rfl
      have e3 := congrArg List.length (flat_ints fl)
      omega
    have s1 : Same G (upd G q1 (.lst [.int s'])) := Same.new h1
    have e60 : (List.map V.int fl).length = fl.length := List.length_map ..
    refine ⟨fa, q1, _, _, rfl, rfl, s1 _ _ hfi, upd_same, ?_, fun q2 h2 => ?_⟩
    · have : [V.int s'].length = 1 := rfl
      omega
    have s2 : Same (upd G q1 (.lst [.int s'])) (upd (upd G q1 (.lst [.int s'])) q2 (.lst (List.map V.int fl ++ [.int s']))) := Same.new h2
    refine ⟨q2, fl ++ [s'], rfl, SqL.of (by rw [upd_same, List.map_append]; rfl), ?_, fun q3 ms h3 pm ps => ?_⟩
    · rw [List.length_append]
      have : [s'].length = 1 := rfl
      omega
    have s3 := (s1.trans s2).trans (Same.new (o := HO.lst (ms.map V.int)) h3)
    have n3 : New G (upd (upd (upd G q1 (.lst [.int s'])) q2 (.lst (List.map V.int fl ++ [.int s']))) q3 (.lst (ms.map V.int))) 1 (.ref q3) ms := New.ints ((s1.trans s2).free h3) upd_same
    obtain ⟨o', x, a1⟩ := kc.setN dmG hc0 hl s3 n3
    have a2 := kg.up dmG hg0 hy s3 x oc (List.suffix_refl _) a1
    have a3 := at0.up dmG hr0 hx s3 x oc (List.suffix_cons _ _) a2
    obtain ⟨e1, e2⟩ := putEnd (u := .lst (cs.set l (.ref q3))) x s3 oc
    have nf : s' ∉ fl := fun z => hs (flat_mem (List.mem_of_getElem? eg) (flat_mem (List.mem_of_getElem? ec) (flat_mem (List.mem_of_getElem? ef) ((List.Perm.of_eq (flat_ints fl)).mem_iff.mpr z))))
    refine ⟨_, rfl, _, rfl, ca, _, _, l, rfl, rfl, s3 _ _ hc0, hn, ?_⟩
    exact k _ _ o' (f0 G s0 _ e1) a3 (x.after dmG s3) (d0 G s0 _ e2) (((PutG.form pm ps nf).up ef |>.up ec).top eg)
set_option maxHeartbeats 4000000 in
theorem ok_Lsorting (T : Txt w K mg c) : FnOk P w K mg base CX0 2 c.a_Lsorting c.d_Lsorting ["_law_script", "_law_start", "_law_most"] (spLSort K) := by
  refine T.Lsorting.fn.ok sc_Lsorting (fun vs H Q E h => ?_) (fun cdv A outer s H vs Q E hr h => ?_)
  · obtain ⟨a, ns, mx, rfl, _⟩ := h
    rfl
  · obtain ⟨a, ns, mx, rfl, m0, m1, hS, hn, k⟩ := h
    refine ⟨_, (pss_cons (ps_set (i := 3) sc_Lsorting.nd rfl (Or.inl rfl) (pe_lst pa_nil))
      (pss_cons (ps_for PassesOwn.never rfl (pi_range2 rfl T.no_range (pa_cons (pv 1) (pa_cons (pe_callB (call_min2 rfl) rfl T.no_min bt_min (pa_cons (pe_callB call_len_seq rfl T.no_len bt_len (pa_cons (pv 0) pa_nil)) (pa_cons (pv 2) pa_nil))) pa_nil))) (pg_name (i := 4) sc_Lsorting.nd rfl (Or.inl rfl))
        (pss_cons (ps_set (i := 5) sc_Lsorting.nd rfl (Or.inl rfl) (pe_call (ok_Ldrawn T) (hr.mono (by decide)) rfl T.Ldrawn.mgf T.Ldrawn.kp T.Ldrawn.bi .nil pass0 (pa_cons (pv 0) (pa_cons (pv 4) pa_nil))))
      (pss_one (ps_expr (pe_call (ok_Lput T) (hr.mono (by decide)) rfl T.Lput.mgf T.Lput.kp T.Lput.bi .nil pass0 (pa_cons (pv 3) (pa_cons (pe_call (ok_Lsheet T) (hr.mono (by decide)) rfl T.Lsheet.mgf T.Lsheet.kp T.Lsheet.bi .nil pass0 (pa_cons (pe_op op_fdiv (pv 5) pe_int) (pa_cons (pv 4) pa_nil))) (pa_cons (pe_op op_add (pe_op op_fdiv (pv 5) pe_int) (pe_op op_fdivB (pv 5) (pe_op op_pow pe_int pe_int))) pa_nil))))))))
      (pss_one (ps_ret (pv 3))))), ?_⟩
    have h64 : 64 ≤ sizeLine := le_ble rfl
    refine ⟨le_ble rfl, fun r hr => ?_⟩
    have lm : (ns.map V.int).length = ns.length := List.length_map ..
    have s0 : Same H (upd H r (.lst [])) := Same.new hr
    walk_at "rd"
    refine ⟨a, _, rfl, .inl (s0.seq hS), ?_⟩
    walk_at "rd"
    have hm2 : (if mx < ((ns.map V.int).length : Int) then mx else ((ns.map V.int).length : Int)) ≤ ns.length ∧ (if mx < ((ns.map V.int).length : Int) then mx else ((ns.map V.int).length : Int)) ≤ mx ∧ 0 ≤ (if mx < ((ns.map V.int).length : Int) then mx else ((ns.map V.int).length : Int)) := by
      split <;> omega
    generalize (if mx < ((ns.map V.int).length : Int) then mx else ((ns.map V.int).length : Int)) = hi at hm2
    refine ⟨⟨by decide, by decide, by omega, by omega⟩, ?_⟩
    refine for_range (lo := 0) (fun i σ G => Same H G ∧ ∃ z4 z5, σ = [some (.ref a), some (.int 0), some (.int mx), some (.ref r), z4, z5] ∧ ∃ (S : Tr 4) (o : Ow), At o G 4 [] (.ref r) S ∧ Dom o G ∧ (∀ b q, o b = some q → H b = none) ∧ WF S ∧ (∀ x ∈ flat 4 S, (x - 1) % 64 < 0 + (i : Int)) ∧ (flat 4 S).length = i) ?_ ?_ ?_
    · refine ⟨s0, _, _, rfl, ([] : List (Tr 3)), fun b => if b = r then some [] else none, ⟨r, [], rfl, if_pos rfl, upd_same, rfl, fun j w t hw => ?_⟩, fun b q hb => ?_, fun b q hb => ?_, WF.nil, fun x hx => absurd (show x ∈ ([] : List Int) from hx) List.not_mem_nil, rfl⟩
      · rw [List.getElem?_nil] at hw; cases hw
      · have hb : (if b = r then some [] else none) = some q := hb
        by_cases e : b = r
        · rw [e, upd_same]; intro z; cases z
        · rw [if_neg e] at hb; cases hb
      · have hb : (if b = r then some [] else none) = some q := hb
        by_cases e : b = r
        · rw [e]; exact hr
        · rw [if_neg e] at hb; cases hb
    · rintro i σ G hi' ⟨sG, z4, z5, rfl, S, o, at0, dm, fr, wf, hx, hl⟩
      refine ⟨_, rfl, _, rfl, a, 0 + (i : Int), ns, rfl, by omega, by omega, hn, sG.seq hS, fun d d0 => ?_⟩
      walk_at "rd"
      refine ⟨by omega, by omega, fun x x1 x2 => ?_⟩
      walk_at "rd"
      have nx : x ∉ flat 4 S := fun z => by have := hx x z; omega
      refine ⟨_, _, _, S, o, rfl, at0, dm, wf, nx, by omega, fun G' S' o' f at' dm' dn pt => ?_⟩
      have sG' : Same H G' := fun b u hb => f b u (by
        cases e : o b with
        | none => rfl
        | some q => rw [fr b q e] at hb; cases hb) (sG b u hb)
      refine ⟨sG', _, _, rfl, S', o', at', dm', fun b q hq => ?_, pt.wf wf nx x2, fun y hy => ?_, ?_⟩
      · cases e : o b with
        | none => exact sG.free (dn b q hq e)
        | some q' => exact fr b q' e
      · rcases List.mem_append.mp (pt.p.mem_iff.mp hy) with z | z
        · have := hx y z; omega
        · rw [List.mem_singleton.mp z, x1]; omega
      · have := pt.p.length_eq
        rw [List.length_append] at this
        have e1 : [x].length = 1 := rfl
        omega
    · rintro σ G ⟨sG, z4, z5, rfl, S, o, at0, dm, fr, wf, hx, hl⟩
      exact ⟨_, rfl, k _ G S sG ⟨o, at0, fun b q hq => ⟨fr b q hq, dm b q hq⟩⟩ wf (by omega)⟩
set_option maxHeartbeats 4000000 in
theorem ok_Lsame (T : Txt w K mg c) : ∀ n : Nat, FnOk P w K mg base CX0 (1 + n) c.a_Lsame c.d_Lsame ["_law_found", "_law_due"] (spSame n)
  | 0 => by
    refine T.Lsame.fn.ok sc_Lsame (fun vs H Q E h => ?_) (fun cdv A outer s H vs Q E hr h => ?_)
    · obtain ⟨v, w, t, rfl, _⟩ := h
      rfl
    · obtain ⟨v, w, t, rfl, hv, hw, sm, k⟩ := h
      refine ⟨_, (pss_cons (ps_if (pt_val (pe_callB call_isiA rfl T.no_isinstance bt_isinstance (pa_cons (pv 1) (pa_cons (pe_bltn (v := .ty "list") rfl T.no_list bt_list rfl) pa_nil))))
        (pss_cons (ps_if (PW.pt (pw_or (pt_not (pt_val (pe_callB call_isiA rfl T.no_isinstance bt_isinstance (pa_cons (pv 0) (pa_cons (pe_bltn (v := .ty "list") rfl T.no_list bt_list rfl) pa_nil))))) (pw_or1 (pt_cmpR op_ne (pe_callB call_len_seq rfl T.no_len bt_len (pa_cons (pv 0) pa_nil)) (pe_callB call_len_seq rfl T.no_len bt_len (pa_cons (pv 1) pa_nil)) (nomark _)))))
        (pss_one (ps_ret pe_bl))
        pss_nil)
      (pss_cons ps_never
      (pss_one (ps_ret pe_bl))))
        pss_nil)
      (pss_one (ps_ret (pe_and (pe_callB call_isiA rfl T.no_isinstance bt_isinstance (pa_cons (pv 0) (pa_cons (pe_bltn (v := .ty "int") rfl T.no_int bt_int rfl) pa_nil))) (pe_and (pe_not (pe_callB call_isiA rfl T.no_isinstance bt_isinstance (pa_cons (pv 0) (pa_cons (pe_bltn (v := .ty "bool") rfl T.no_bool bt_bool rfl) pa_nil)))) (pe_one (pe_cmpR op_eq (pv 0) (pv 1) (nomark _)))))))), ?_⟩
      obtain rfl : v = .int t := hv
      obtain rfl : w = .int t := hw
      refine ⟨_, rfl, rIsiA.ty (.int t) rfl ⟨_, rfl, iteF ?_⟩⟩
      refine ⟨_, rfl, rIsiA.ty (.int t) rfl ⟨_, rfl, iteT ⟨_, rfl, rIsiA.ty (.int t) rfl ⟨_, rfl, _, rfl, iteT ?_⟩⟩⟩⟩
      refine ⟨_, rfl, _, rfl, rfl, ?_⟩
      show Q (V.bl (decide (V.int t = V.int t))) H
      rw [decide_eq_true rfl]
      exact k
  | n + 1 => by
    have ih := ok_Lsame T n
    refine T.Lsame.fn.ok sc_Lsame (fun vs H Q E h => ?_) (fun cdv A outer s H vs Q E hr h => ?_)
    · obtain ⟨v, w, t, rfl, _⟩ := h
      rfl
    · obtain ⟨v, w, t, rfl, hv, hw, sm, k⟩ := h
      refine ⟨_, (pss_cons (ps_if (pt_val (pe_callB call_isiA rfl T.no_isinstance bt_isinstance (pa_cons (pv 1) (pa_cons (pe_bltn (v := .ty "list") rfl T.no_list bt_list rfl) pa_nil))))
        (pss_cons (ps_if (PW.pt (pw_or (pt_not (pt_val (pe_callB call_isiA rfl T.no_isinstance bt_isinstance (pa_cons (pv 0) (pa_cons (pe_bltn (v := .ty "list") rfl T.no_list bt_list rfl) pa_nil))))) (pw_or1 (pt_cmpR op_ne (pe_callB call_len_seq rfl T.no_len bt_len (pa_cons (pv 0) pa_nil)) (pe_callB call_len_seq rfl T.no_len bt_len (pa_cons (pv 1) pa_nil)) (nomark _)))))
        (pss_one (ps_ret pe_bl))
        pss_nil)
      (pss_cons (ps_for PassesOwn.never rfl (pi_range1 rfl T.no_range (pa_cons (pe_callB call_len_seq rfl T.no_len bt_len (pa_cons (pv 1) pa_nil)) pa_nil)) (pg_name (i := 2) sc_Lsame.nd rfl (Or.inl rfl))
        (pss_one (ps_if (pt_not (pt_val (pe_call ih (hr.mono (Nat.le_refl _)) rfl T.Lsame.mgf T.Lsame.kp T.Lsame.bi .nil pass0 (pa_cons (pe_ix ix_list (pv 0) (pv 2) (fun _ _ => rfl)) (pa_cons (pe_ix ix_list (pv 1) (pv 2) (fun _ _ => rfl)) pa_nil)))))
        (pss_one (ps_ret pe_bl))
        pss_nil)))
      (pss_one (ps_ret pe_bl))))
        pss_nil)
      (pss_one (ps_ret (pe_and (pe_callB call_isiA rfl T.no_isinstance bt_isinstance (pa_cons (pv 0) (pa_cons (pe_bltn (v := .ty "int") rfl T.no_int bt_int rfl) pa_nil))) (pe_and (pe_not (pe_callB call_isiA rfl T.no_isinstance bt_isinstance (pa_cons (pv 0) (pa_cons (pe_bltn (v := .ty "bool") rfl T.no_bool bt_bool rfl) pa_nil)))) (pe_one (pe_cmpR op_eq (pv 0) (pv 1) (nomark _)))))))), ?_⟩
      obtain ⟨a, vs, rfl, hA, la⟩ := hv.lst
      obtain ⟨b, ws, rfl, hB, lb⟩ := hw.lst
      refine ⟨_, rfl, rIsiA.ty (.lst hB) rfl ⟨_, rfl, iteT ?_⟩⟩
      refine ⟨_, rfl, rIsiA.ty (.lst hA) rfl ⟨_, rfl, iteF ?_⟩⟩
      refine ⟨_, rfl, a, _, rfl, .inl (SqL.of hA), _, rfl, b, _, rfl, .inl (SqL.of hB), rfl, _, rfl, ?_⟩
      have sz : ws.length ≤ 1000 := by rw [lb]; exact sm.1
      refine ite2 (fun z => ?_) (fun _ => ?_)
      · exfalso
        rw [la, lb, decide_eq_true rfl] at z
        exact absurd z (by decide)
      refine ⟨_, rfl, b, _, rfl, .inl (SqL.of hB), _, rfl, by omega, by omega, ?_⟩
      refine for_range (lo := 0) (fun i σ G => G = H ∧ ∃ z, σ = [some (.ref a), some (.ref b), z]) ⟨rfl, _, rfl⟩ ?_ ?_
      · rintro i σ G hi ⟨rfl, z, rfl⟩
        have hi' : i < ws.length := by omega
        obtain ⟨x, t1, e1, e2, k1⟩ := hv.kid hA (j := i) (by omega)
        obtain ⟨y, t2, e3, e4, k2⟩ := hw.kid hB (j := i) (by omega)
        rw [e2] at e4
        cases e4
        have i1 : atI vs (0 + (i : Int)) = some x := by rw [Int.zero_add]; exact atI_nat e1
        have i2 : atI ws (0 + (i : Int)) = some y := by rw [Int.zero_add]; exact atI_nat e3
        refine ⟨_, rfl, _, rfl, a, _, _, _, rfl, rfl, SqL.of hA, i1, _, rfl, _, rfl, b, _, _, _, rfl, rfl, SqL.of hB, i2, x, y, t1, rfl, k1, k2, sm.2 t1 (List.mem_of_getElem? e2), ?_⟩
        exact ⟨_, rfl, iteF ⟨rfl, _, rfl⟩⟩
      · rintro σ G ⟨rfl, z, rfl⟩
        exact k
set_option maxHeartbeats 4000000 in
theorem ok_Lcopy (T : Txt w K mg c) : FnOk P w K mg base CX0 1 c.a_Lcopy c.d_Lcopy ["_law_sorting_here"] (spCopy) := by
  refine T.Lcopy.fn.ok sc_Lcopy (fun vs H Q E h => ?_) (fun cdv A outer s H vs Q E hr h => ?_)
  · obtain ⟨v, S, rfl, _⟩ := h
    rfl
  · obtain ⟨v, S, rfl, hat, hz, fu, k⟩ := h
    refine ⟨_, (pss_cons (ps_set (i := 1) sc_Lcopy.nd rfl (Or.inl rfl) (pe_lst pa_nil))
      (pss_cons (ps_for PassesOwn.never rfl (pi_list (pv 0)) (pg_name (i := 2) sc_Lcopy.nd rfl (Or.inl rfl))
        (pss_cons (ps_expr (pe_bm PySem.F.plainAttrs_list PySem.F.slot_list_append PySem.F.type_list_append (MtM.r mt_append) (pv 1) (pa_cons (pe_lst pa_nil) pa_nil)))
      (pss_one (ps_for PassesOwn.never rfl (pi_list (pv 2)) (pg_name (i := 3) sc_Lcopy.nd rfl (Or.inl rfl))
        (pss_one (ps_expr (pe_bm PySem.F.plainAttrs_list PySem.F.slot_list_append PySem.F.type_list_append (MtM.r mt_append) (pe_ix ix_list (pv 1) (pe_un un_neg pe_int) (fun _ _ => rfl)) (pa_cons (pe_comp (N' := ["_law_form"]) (js := [none]) rfl rfl (by decide +kernel) (by decide +kernel) (free_nil (by decide +kernel)) (cap_nil rfl rfl) (pi_list (pv 3)) (fun B => ⟨(pg_name (i := 0) (show List.Nodup (["_law_form"] : List Str) by decide +kernel) rfl (Or.inl rfl)), pifs_nil, (pe_callTy call_list_of rfl T.no_list bt_list (pa_cons (pv 0) pa_nil))⟩)) pa_nil))))))))
      (pss_one (ps_ret (pv 1))))), ?_⟩
    obtain ⟨a, vs, rfl, hA, hlen⟩ := hat.lst
    have sz : 1000 < sizeLine := le_ble rfl
    have sm := small_S fu hz
    have lz : vs.length ≤ 1000 := by rw [hlen]; exact sm.1
    refine ⟨le_ble rfl, fun l hl => ?_⟩
    have s0 : Same H (upd H l (.lst [])) := Same.new hl
    refine ⟨_, rfl, a, rfl, ⟨_, SqL.of (s0 _ _ hA)⟩, ?_⟩
    refine for_list (xs := vs) (fun i σ G => Same H G ∧ (∃ z2 z3, σ = [some (.ref a), some (.ref l), z2, z3]) ∧ ∃ ws, G l = some (.lst ws) ∧ ws.length = i ∧ NewL H G l 3 ws ((ls S).take i)) ?_ ?_ ?_ ?_
    · exact ⟨s0, ⟨_, _, rfl⟩, [], upd_same, rfl, NewL.nil⟩
    · rintro i σ G _ ⟨sG, _⟩
      exact SqL.of (sG _ _ hA)
    · rintro i x σ G hx ⟨sG, ⟨z2, z3, rfl⟩, ws, h1, h2, h3⟩
      have hi : i < vs.length := (List.getElem?_eq_some_iff.mp hx).1
      obtain ⟨x', t', e1, e2, hk⟩ := hat.kid hA hi
      rw [hx] at e1
      cases e1
      obtain ⟨ga, gs, rfl, hG, glen⟩ := hk.lst
      have sm1 := sm.2 t' (List.mem_of_getElem? e2)
      have gz : gs.length ≤ 1000 := by rw [glen]; exact sm1.1
      refine ⟨_, rfl, .inl ⟨rfl, _, SqL.of h1⟩, le_ble rfl, fun g hg => ?_⟩
      have ngl : l ≠ g := ne_of_none h1 hg
      refine ⟨l, _, _, rfl, rfl, by rw [upd_ne ngl]; exact h1, by omega, ?_⟩
      have hgl : l ≠ ga := fun z => by rw [← z, hl] at hG; cases hG
      have hgg : ga ≠ g := ne_of_none (sG _ _ hG) hg
      refine ⟨_, rfl, ga, rfl, ⟨_, SqL.of (by rw [upd_ne hgl.symm, upd_ne hgg]; exact sG _ _ hG)⟩, ?_⟩
      refine for_list (xs := gs) (fun j σ G3 => Same H G3 ∧ (∃ z3, σ = [some (.ref a), some (.ref l), some (.ref ga), z3]) ∧ G3 l = some (.lst (ws ++ [.ref g])) ∧ (∀ b u, b ≠ l → G b = some u → G3 b = some u) ∧ ∃ us, G3 g = some (.lst us) ∧ us.length = j ∧ NewL G G3 g 2 us ((ls t').take j)) ?_ ?_ ?_ ?_
      · refine ⟨fun b u hb => ?_, ⟨_, rfl⟩, upd_same, fun b u nb hb => ?_, [], by rw [upd_ne ngl.symm, upd_same], rfl, NewL.nil⟩
        · rw [upd_ne (ne_of_none hb hl), upd_ne (ne_of_none (sG b u hb) hg)]
          exact sG b u hb
        · rw [upd_ne nb, upd_ne (ne_of_none hb hg)]
          exact hb
      · rintro j σ G3 _ ⟨sG3, _⟩
        exact SqL.of (sG3 _ _ hG)
      · rintro j y σ G3 hy ⟨sG3, ⟨z3, rfl⟩, i1, i2, us, i3, i4, i5⟩
        have hj : j < gs.length := (List.getElem?_eq_some_iff.mp hy).1
        obtain ⟨y', c', e3, e4, hk2⟩ := hk.kid hG hj
        rw [hy] at e3
        cases e3
        obtain ⟨ca, cs, rfl, hC, clen⟩ := hk2.lst
        have sm2 := sm1.2 c' (List.mem_of_getElem? e4)
        have cz : cs.length ≤ 1000 := by rw [clen]; exact sm2.1
        refine ⟨_, rfl, _, rfl, l, _, _, _, rfl, rfl, SqL.of i1, atI_last _ _, .inl ⟨rfl, _, SqL.of i3⟩, ?_⟩
        refine ⟨_, rfl, ca, rfl, ⟨_, SqL.of (sG3 _ _ hC)⟩, fun m B hm => ?_⟩
        refine loop_lst (xs := cs) (fun q σ acc G4 => Same G3 G4 ∧ (∃ o, σ = [o]) ∧ G4 m = some (.lst acc) ∧ acc.length = q ∧ NewL G3 G4 m 1 acc ((ls c').take q)) (by omega) ?_ ?_ ?_ ?_
        · exact ⟨Same.new hm, ⟨_, rfl⟩, upd_same, rfl, NewL.nil⟩
        · rintro q σ acc G4 _ ⟨s4, _, j1, j2, _⟩
          exact ⟨j1, SqL.of (s4 _ _ (sG3 _ _ hC)), by omega⟩
        · rintro q z σ acc G4 hz' ⟨s4, ⟨o, rfl⟩, j1, j2, j3⟩
          have hq : q < cs.length := (List.getElem?_eq_some_iff.mp hz').1
          obtain ⟨z', f, e5, e6, hk3⟩ := hk2.kid hC hq
          rw [hz'] at e5
          cases e5
          obtain ⟨fa, fs, rfl, _, _⟩ := hk3.lst
          obtain ⟨fl, hfl⟩ : ∃ fl : List Int, fl = f := ⟨f, rfl⟩
          subst hfl
          have hF := AtR.ints (ns := fl) hk3
          refine ⟨_, rfl, fa, _, rfl, .inl (SqL.of (s4 _ _ (sG3 _ _ hF))), fun p hp => ?_⟩
          have npm : m ≠ p := ne_of_none j1 hp
          have s5 : Same G4 (upd G4 p (.lst (fl.map V.int))) := Same.new hp
          refine ⟨by rw [upd_ne npm]; exact j1, Nx.mk hq ⟨fun b u hb => ?_, ⟨_, rfl⟩, upd_same, by rw [List.length_append, j2]; rfl, ?_⟩⟩
          · rw [upd_ne (ne_of_none hb hm)]
            exact s5 _ _ (s4 _ _ hb)
          · rw [take_one e6]
            refine (j3.snoc (some_ne j1) (fun b hb => s4.free hb) (fun b xs _ _ hb => s5 b _ hb) (fun b hb => ?_) (New.ints hp upd_same)).frame (fun b xs nb _ hb => by rw [upd_ne nb]; exact hb) (fun b hb => ?_)
            · by_cases e : b = p
              · rw [e, upd_same]; intro z; cases z
              · rw [upd_ne e]; exact hb
            · by_cases e : b = m
              · rw [e, upd_same]; intro z; cases z
              · rw [upd_ne e]; exact hb
        · rintro σ acc G4 ⟨s4, _, j1, j2, j3⟩
          have et : (ls c').take cs.length = ls c' := List.take_of_length_le (by omega)
          rw [et] at j3
          refine ⟨g, _, _, rfl, rfl, s4 _ _ i3, by omega, ?_⟩
          refine ⟨fun b u hb => ?_, ⟨_, rfl⟩, ?_, fun b u nb hb => ?_, _, upd_same, by rw [List.length_append, i4]; rfl, ?_⟩
          · rw [upd_ne (fun z => by rw [z, sG.free hg] at hb; cases hb)]
            exact s4 _ _ (sG3 _ _ hb)
          · rw [upd_ne ngl]
            exact s4 _ _ i1
          · rw [upd_ne (ne_of_none hb hg)]
            exact s4 _ _ (i2 b u nb hb)
          · rw [take_one e4]
            have fr : ∀ b, G3 b = none → G b = none := fun b hb => by
              cases q : G b with
              | none => rfl
              | some u =>
                by_cases e : b = l
                · rw [e, i1] at hb; cases hb
                · rw [i2 b u e q] at hb; cases hb
            refine (i5.snoc (some_ne i3) fr (fun b xs _ _ hb => s4 b _ hb) (fun b hb => ?_) (j3.done hm j1)).frame (fun b xs nb _ hb => by rw [upd_ne nb]; exact hb) (fun b hb => ?_)
            · cases q : G3 b with
              | none => exact absurd q hb
              | some u => rw [s4 b u q]; intro z; cases z
            · by_cases e : b = g
              · rw [e, upd_same]; intro z; cases z
              · rw [upd_ne e]; exact hb
      · rintro σ G3 ⟨sG3, ⟨z3, rfl⟩, i1, i2, us, i3, i4, i5⟩
        have et : (ls t').take gs.length = ls t' := List.take_of_length_le (by omega)
        rw [et] at i5
        refine ⟨sG3, ⟨_, _, rfl⟩, _, i1, by rw [List.length_append, h2]; rfl, ?_⟩
        rw [take_one e2]
        refine h3.snoc (some_ne h1) (fun b hb => sG.free hb) (fun b xs nb _ hb => i2 b _ nb hb) (fun b hb => ?_) (i5.done hg i3)
        by_cases e : b = l
        · rw [e, i1]; intro z; cases z
        · cases q : G b with
          | none => exact absurd q hb
          | some u => rw [i2 b u e q]; intro z; cases z
    · rintro σ G ⟨sG, ⟨z2, z3, rfl⟩, ws, h1, h2, h3⟩
      have et : (ls S).take vs.length = ls S := List.take_of_length_le (by omega)
      rw [et] at h3
      exact ⟨_, rfl, k _ G sG (h3.done hl h1)⟩
set_option maxHeartbeats 4000000 in
theorem ok_Lno_group (T : Txt w K mg c) : FnOk P w K mg base CX0 1 c.a_Lno_group c.d_Lno_group ["_law_number", "_law_form"] (spNoGroup K) := by
  refine T.Lno_group.fn.ok sc_Lno_group (fun vs H Q E h => ?_) (fun cdv A outer s H vs Q E hr h => ?_)
  · obtain ⟨m, f, xs, rfl, _⟩ := h
    rfl
  · obtain ⟨m, f, xs, rfl, hf, k⟩ := h
    refine ⟨_, (pss_one (ps_ret (pe_ix ix_list (pe_lst (pa_cons pe_non (pa_cons (pe_lst pa_nil) (pa_cons (pe_tup (pa_cons (pv 1) pa_nil)) (pa_cons pe_dnewK (pa_cons pe_str (pa_cons pe_int (pa_cons pe_bl (pa_cons (pe_lst (pa_cons (pe_lst pa_nil) pa_nil)) (pa_cons (pe_callTy call_tuple_of rfl T.no_tuple bt_tuple (pa_cons (pv 1) pa_nil)) pa_nil)))))))))) (pe_op op_mod (pv 0) pe_int) (fun _ _ => rfl)))), ?_⟩
    refine ⟨le_ble rfl, fun p1 hp1 => ?_⟩
    have s1 := Same.new (o := HO.lst []) hp1
    have k1 := upd_same (H := H) (a := p1) (o := .lst [])
    generalize upd H p1 (.lst []) = G1 at s1 k1 ⊢
    refine ⟨_, rfl, le_ble rfl, fun p2 hp2 => ?_⟩
    have s2 := Same.new (o := HO.tup [V.ref f]) hp2
    have k2 := upd_same (H := G1) (a := p2) (o := .tup [V.ref f])
    have k1 := s2 _ _ k1
    generalize upd G1 p2 (.tup [V.ref f]) = G2 at s2 k1 k2 ⊢
    refine fun p3 hp3 => ?_
    have s3 := Same.new (o := HO.dK []) hp3
    have k3 := upd_same (H := G2) (a := p3) (o := .dK [])
    have k1 := s3 _ _ k1
    have k2 := s3 _ _ k2
    generalize upd G2 p3 (.dK []) = G3 at s3 k1 k2 k3 ⊢
    refine ⟨le_ble rfl, fun p4 hp4 => ?_⟩
    have s4 := Same.new (o := HO.lst []) hp4
    have k4 := upd_same (H := G3) (a := p4) (o := .lst [])
    generalize upd G3 p4 (.lst []) = G4 at s4 k4 ⊢
    refine ⟨le_ble rfl, fun p5 hp5 => ?_⟩
    have s5 := Same.new (o := HO.lst [V.ref p4]) hp5
    have k5 := upd_same (H := G4) (a := p5) (o := .lst [V.ref p4])
    have k4 := s5 _ _ k4
    have s45 := s4.trans s5
    generalize upd G4 p5 (.lst [V.ref p4]) = G5 at s45 k4 k5 ⊢
    have s05 := s1.trans (s2.trans (s3.trans s45))
    refine ⟨_, rfl, f, xs, rfl, .inl ⟨SqL.of (s05 _ _ hf), fun p6 hp6 => ?_⟩⟩
    have s6 := Same.new (o := HO.tup xs) hp6
    have k6 := upd_same (H := G5) (a := p6) (o := .tup xs)
    generalize upd G5 p6 (.tup xs) = G6 at s6 k6 ⊢
    refine ⟨le_ble rfl, fun p7 hp7 => ?_⟩
    have s7 := Same.new (o := HO.lst [V.non, .ref p1, .ref p2, .ref p3, .str (Str.ofString "5"), .int 5, .bl true, .ref p5, .ref p6]) hp7
    have k7 := upd_same (H := G6) (a := p7) (o := .lst [V.non, .ref p1, .ref p2, .ref p3, .str (Str.ofString "5"), .int 5, .bl true, .ref p5, .ref p6])
    have k6 := s7 _ _ k6
    have s67 := s6.trans s7
    generalize upd G6 p7 (.lst [V.non, .ref p1, .ref p2, .ref p3, .str (Str.ofString "5"), .int 5, .bl true, .ref p5, .ref p6]) = G7 at s67 k6 k7 ⊢
    have k1 := s67 _ _ (s45 _ _ k1)
    have k2 := s67 _ _ (s45 _ _ k2)
    have k3 := s67 _ _ (s45 _ _ k3)
    have k4 := s67 _ _ k4
    have k5 := s67 _ _ k5
    walk_at "rd"
    obtain ⟨y, hy, hym⟩ := atI_in (xs := [V.non, .ref p1, .ref p2, .ref p3, .str (Str.ofString "5"), .int 5, .bl true, .ref p5, .ref p6]) (i := m % 9) (Int.emod_nonneg _ (by decide)) (by show _ < (9 : Int); exact Int.emod_lt_of_pos _ (by decide))
    have g1 : H p1 = none := hp1
    have g2 : H p2 = none := s1.free hp2
    have g3 : H p3 = none := (s1.trans s2).free hp3
    have g4 : H p4 = none := (s1.trans (s2.trans s3)).free hp4
    have g5 : H p5 = none := (s1.trans (s2.trans (s3.trans s4))).free hp5
    have g6 : H p6 = none := s05.free hp6
    refine ⟨p7, _, _, y, rfl, rfl, SqL.of k7, hy, k y G7 (s05.trans s67) fun G' fr => ?_⟩
    simp only [List.mem_cons, List.not_mem_nil, or_false] at hym
    rcases hym with rfl | rfl | rfl | rfl | rfl | rfl | rfl | rfl | rfl
    · exact .nl ⟨_, .non, rfl⟩
    · exact .em ⟨p1, rfl, fr _ _ g1 k1⟩
    · exact .nl ⟨_, .tup (fr _ _ g2 k2), rfl⟩
    · exact .nl ⟨_, .dK (fr _ _ g3 k3), rfl⟩
    · exact .nl ⟨_, .str _, rfl⟩
    · exact .nl ⟨_, .int _, rfl⟩
    · exact .nl ⟨_, .bl _, rfl⟩
    · exact .in (fr _ _ g5 k5) (fr _ _ g4 k4)
    · exact .nl ⟨_, .tup (fr _ _ g6 k6), rfl⟩
set_option maxHeartbeats 4000000 in
theorem ok_Lspoilt (T : Txt w K mg c) : FnOk P w K mg base CX0 2 c.a_Lspoilt c.d_Lspoilt ["_law_sorting_here", "_law_number"] (spSpoilt K) := by
  refine T.Lspoilt.fn.ok sc_Lspoilt (fun vs H Q E h => ?_) (fun cdv A outer s H vs Q E hr h => ?_)
  · obtain ⟨v, m, S, rfl, _⟩ := h
    rfl
  · obtain ⟨v, m, S, rfl, hat, wf, hne, hl, m0, k⟩ := h
    refine ⟨_, (pss_cons (ps_set (i := 2) sc_Lspoilt.nd rfl (Or.inl rfl) (pe_call (ok_Lcopy T) (hr.mono (by decide)) rfl T.Lcopy.mgf T.Lcopy.kp T.Lcopy.bi .nil pass0 (pa_cons (pv 0) pa_nil)))
      (pss_cons (ps_set (i := 3) sc_Lspoilt.nd rfl (Or.inl rfl) (pe_op op_mod (pe_op op_fdiv (pv 1) pe_int) (pe_callB call_len_seq rfl T.no_len bt_len (pa_cons (pv 2) pa_nil))))
      (pss_cons (ps_set (i := 4) sc_Lspoilt.nd rfl (Or.inl rfl) (pe_op op_mod (pe_op op_fdiv (pv 1) pe_int) (pe_callB call_len_seq rfl T.no_len bt_len (pa_cons (pe_ix ix_list (pv 2) (pv 3) (fun _ _ => rfl)) pa_nil))))
      (pss_cons (ps_set (i := 5) sc_Lspoilt.nd rfl (Or.inl rfl) (pe_op op_mod (pe_op op_fdiv (pv 1) pe_int) (pe_callB call_len_seq rfl T.no_len bt_len (pa_cons (pe_ix ix_list (pe_ix ix_list (pv 2) (pv 3) (fun _ _ => rfl)) (pv 4) (fun _ _ => rfl)) pa_nil))))
      (pss_cons (ps_set (i := 6) sc_Lspoilt.nd rfl (Or.inl rfl) (pe_ix ix_list (pe_ix ix_list (pe_ix ix_list (pv 2) (pv 3) (fun _ _ => rfl)) (pv 4) (fun _ _ => rfl)) (pv 5) (fun _ _ => rfl)))
      (pss_cons (ps_set (i := 7) sc_Lspoilt.nd rfl (Or.inl rfl) (pe_op op_mod (pe_op op_fdiv (pv 1) pe_int) (pe_op op_add (pe_callB call_len_seq rfl T.no_len bt_len (pa_cons (pv 6) pa_nil)) pe_int)))
      (pss_cut (ps_set (i := 8) sc_Lspoilt.nd rfl (Or.inl rfl) (pe_op op_mod (pv 1) pe_int))
      (pss_cons (ps_if (pt_cmpR op_eq (pv 8) pe_int (nomark _))
        (pss_one (ps_ret (pe_ix ix_list (pe_lst (pa_cons pe_non (pa_cons (pe_callTy call_tuple_of rfl T.no_tuple bt_tuple (pa_cons (pv 2) pa_nil)) (pa_cons pe_dnewK (pa_cons pe_str (pa_cons pe_int (pa_cons pe_bl (pa_cons (pe_lst (pa_cons (pe_lst pa_nil) pa_nil)) (pa_cons (pe_op op_cat (pv 2) (pe_lst (pa_cons pe_non pa_nil))) (pa_cons (pe_op op_cat (pv 2) (pe_lst (pa_cons (pe_lst pa_nil) pa_nil))) pa_nil)))))))))) (pe_op op_mod (pe_op op_fdiv (pv 1) pe_int) pe_int) (fun _ _ => rfl))))
        pss_nil)
      (pss_cons (ps_if (pt_cmpR op_eq (pv 8) pe_int (nomark _))
        (pss_one (ps_asg (pe_call (ok_Lno_group T) (hr.mono (by decide)) rfl T.Lno_group.mgf T.Lno_group.kp T.Lno_group.bi .nil pass0 (pa_cons (pe_op op_fdiv (pv 1) pe_int) (pa_cons (pv 6) pa_nil))) (pg_sub (pv 2) (pv 3) set_list)))
        pss_nil)
      (pss_cons (ps_if (pt_cmpR op_eq (pv 8) pe_int (nomark _))
        (pss_one (ps_asg (pe_call (ok_Lno_group T) (hr.mono (by decide)) rfl T.Lno_group.mgf T.Lno_group.kp T.Lno_group.bi .nil pass0 (pa_cons (pe_op op_fdiv (pv 1) pe_int) (pa_cons (pv 6) pa_nil))) (pg_sub (pe_ix ix_list (pv 2) (pv 3) (fun _ _ => rfl)) (pv 4) set_list)))
        pss_nil)
      (pss_cons (ps_if (pt_cmpR op_eq (pv 8) pe_int (nomark _))
        (pss_one (ps_asg (pe_call (ok_Lno_group T) (hr.mono (by decide)) rfl T.Lno_group.mgf T.Lno_group.kp T.Lno_group.bi .nil pass0 (pa_cons (pe_op op_fdiv (pv 1) pe_int) (pa_cons (pv 6) pa_nil))) (pg_sub (pe_ix ix_list (pe_ix ix_list (pv 2) (pv 3) (fun _ _ => rfl)) (pv 4) (fun _ _ => rfl)) (pv 5) set_list)))
        pss_nil)
      (pss_cons (ps_if (PW.pt (pw_or (pt_cmpR op_eq (pv 8) pe_int (nomark _)) (pw_or1 (pt_cmpR op_eq (pv 8) pe_int (nomark _)))))
        (pss_one (ps_expr (pe_bm PySem.F.plainAttrs_list PySem.F.slot_list_insert PySem.F.type_list_insert (MtM.r mt_insert) (pv 6) (pa_cons (pv 7) (pa_cons (pe_ix ix_list (pe_lst (pa_cons pe_int (pa_cons (pe_un un_neg pe_int) (pa_cons (pe_op op_add (pe_op op_pow pe_int pe_int) pe_int) (pa_cons (pe_op op_add (pe_op op_add (pe_op op_pow pe_int pe_int) pe_int) (pv 1)) (pa_cons pe_bl (pa_cons pe_non (pa_cons pe_str (pa_cons (pe_lst (pa_cons pe_int pa_nil)) (pa_cons (pe_tup (pa_cons pe_int pa_nil)) pa_nil)))))))))) (pe_op op_mod (pe_op op_fdiv (pv 1) pe_int) pe_int) (fun _ _ => rfl)) pa_nil)))))
        pss_nil)
      (pss_cons (ps_if (pt_cmpR op_eq (pv 8) pe_int (nomark _))
        (pss_cons (ps_set (i := 9) sc_Lspoilt.nd rfl (Or.inl rfl) (pe_ix ix_list (pv 2) (pe_op op_mod (pe_op op_fdiv (pv 1) pe_int) (pe_callB call_len_seq rfl T.no_len bt_len (pa_cons (pv 2) pa_nil))) (fun _ _ => rfl)))
      (pss_one (ps_expr (pe_bm PySem.F.plainAttrs_list PySem.F.slot_list_append PySem.F.type_list_append (MtM.r mt_append) (pv 9) (pa_cons (pe_lst (pa_cons (pe_lst (pa_cons (pe_ix ix_list (pv 6) pe_int (fun _ _ => rfl)) pa_nil)) pa_nil)) pa_nil)))))
        pss_nil)
      (pss_cons (ps_if (PW.pt (pw_and (pt_cmpR op_eq (pv 8) pe_int (nomark _)) (pw_and1 (pt_cmpR op_gt (pe_callB call_len_seq rfl T.no_len bt_len (pa_cons (pv 6) pa_nil)) pe_int (nomark _)))))
        (pss_one (ps_expr (pe_bm0 PySem.F.plainAttrs_list PySem.F.slot_list_reverse PySem.F.type_list_reverse (MtM.r mt_reverse) (pv 6))))
        (pss_one (ps_if (pt_cmpR op_eq (pv 8) pe_int (nomark _))
        (pss_one (ps_expr (pe_bm PySem.F.plainAttrs_list PySem.F.slot_list_append PySem.F.type_list_append (MtM.r mt_append) (pv 6) (pa_cons (pe_ix ix_list (pv 6) pe_int (fun _ _ => rfl)) pa_nil))))
        pss_nil)))
      (pss_one (ps_ret (pv 2))))))))))))))))), ?_⟩
    have sz : 2000 < sizeLine := le_ble rfl
    refine ⟨_, rfl, v, S, rfl, hat, by omega, wf.fu, fun w0 G1 s1 n1 => ?_⟩
    obtain ⟨o, at0, dom⟩ := n1
    obtain ⟨a, us, rfl, oa, hA, lu⟩ := at0.lst
    have lf := flat_full (fun g hg' => wf.fu g hg') (ts := ls S)
    have e60 : (flat (3 + 1) (ls S)).length = (flat 4 S).length := rfl
    have up : 0 < us.length := by rw [lu]; exact List.length_pos_iff.mpr hne
    have m1 := Int.emod_nonneg (m / 8) (b := (us.length : Int)) (by omega)
    have m2 := Int.emod_lt_of_pos (m / 8) (b := (us.length : Int)) (by omega)
    obtain ⟨i, ei, hi⟩ : ∃ i : Nat, m / 8 % (us.length : Int) = i ∧ i < us.length := ⟨(m / 8 % (us.length : Int)).toNat, by omega, by omega⟩
    obtain ⟨vi, ti, hvi, hti, ati⟩ := at0.kid hA hi
    obtain ⟨b, vs, rfl, ob, hB, lv⟩ := ati.lst
    have gi := wf.grp hti
    have vp : 0 < vs.length := by rw [lv]; exact List.length_pos_iff.mpr gi.fu.1
    have m3 := Int.emod_nonneg (m / 80) (b := (vs.length : Int)) (by omega)
    have m4 := Int.emod_lt_of_pos (m / 80) (b := (vs.length : Int)) (by omega)
    obtain ⟨j, ej, hj⟩ : ∃ j : Nat, m / 80 % (vs.length : Int) = j ∧ j < vs.length := ⟨(m / 80 % (vs.length : Int)).toNat, by omega, by omega⟩
    obtain ⟨vj, tj, hvj, htj, atj⟩ := ati.kid hB hj
    obtain ⟨c0, xs, rfl, oc, hC, lx⟩ := atj.lst
    have gj := gi.kid htj
    have xp : 0 < xs.length := by rw [lx]; exact List.length_pos_iff.mpr gj.fu.1
    have m5 := Int.emod_nonneg (m / 800) (b := (xs.length : Int)) (by omega)
    have m6 := Int.emod_lt_of_pos (m / 800) (b := (xs.length : Int)) (by omega)
    obtain ⟨k', ek, hk⟩ : ∃ k : Nat, m / 800 % (xs.length : Int) = k ∧ k < xs.length := ⟨(m / 800 % (xs.length : Int)).toNat, by omega, by omega⟩
    obtain ⟨vk, tk, hvk, htk, atk⟩ := atj.kid hC hk
    obtain ⟨f, ys, rfl, of_, hF, ly⟩ := atk.lst
    have gk := gj.kid htk
    have hF' := AtR.ints (ns := tk) atk.r
    rw [hF] at hF'
    have eys : ys = List.map V.int (ls tk) := HO.lst.inj (Option.some.inj hF')
    have yp : 0 < ys.length := by rw [ly]; exact List.length_pos_iff.mpr gk.fu.1
    have a1 : atI us (m / 8 % (us.length : Int)) = some (.ref b) := by rw [ei]; exact atI_nat hvi
    have a2 : atI vs (m / 80 % (vs.length : Int)) = some (.ref c0) := by rw [ej]; exact atI_nat hvj
    have a3 : atI xs (m / 800 % (xs.length : Int)) = some (.ref f) := by rw [ek]; exact atI_nat hvk
    walk_at "rd"
    refine ⟨a, _, rfl, .inl (SqL.of hA), ?_⟩
    walk_at "rd"
    refine ⟨by show (0 : Int) < us.length; omega, ?_⟩
    walk_at "rd"
    refine ⟨a, _, _, _, rfl, rfl, SqL.of hA, a1, ?_⟩
    refine ⟨b, _, rfl, .inl (SqL.of hB), ?_⟩
    walk_at "rd"
    refine ⟨by show (0 : Int) < vs.length; omega, ?_⟩
    walk_at "rd"
    refine ⟨a, _, _, _, rfl, rfl, SqL.of hA, a1, ?_⟩
    refine ⟨_, rfl, b, _, _, _, rfl, rfl, SqL.of hB, a2, ?_⟩
    refine ⟨c0, _, rfl, .inl (SqL.of hC), ?_⟩
    walk_at "rd"
    refine ⟨by show (0 : Int) < xs.length; omega, ?_⟩
    walk_at "rd"
    refine ⟨a, _, _, _, rfl, rfl, SqL.of hA, a1, ?_⟩
    refine ⟨_, rfl, b, _, _, _, rfl, rfl, SqL.of hB, a2, ?_⟩
    refine ⟨_, rfl, c0, _, _, _, rfl, rfl, SqL.of hC, a3, ?_⟩
    walk_at "rd"
    refine ⟨f, _, rfl, .inl (SqL.of hF), ?_⟩
    walk_at "rd"
    refine ⟨by omega, ?_⟩
    walk_at "rd"
    obtain ⟨p, ep, hp⟩ : ∃ p : Nat, m / 8000 % ((ys.length : Int) + 1) = p ∧ p ≤ ys.length := ⟨(m / 8000 % ((ys.length : Int) + 1)).toNat, by have := Int.emod_nonneg (m / 8000) (b := (ys.length : Int) + 1) (by omega); omega, by have := Int.emod_lt_of_pos (m / 8000) (b := (ys.length : Int) + 1) (by omega); omega⟩
    obtain ⟨wy, ew, hw⟩ : ∃ wy : Nat, m % 8 = wy ∧ wy < 8 := ⟨(m % 8).toNat, by omega, by omega⟩
    refine ⟨fun σ G => G = G1 ∧ σ = [some v, some (.int m), some (.ref a), some (.int i), some (.int j), some (.int k'), some (.ref f), some (.int p), some (.int wy), none], ?_, ?_⟩
    · walk_at "rd"
      first | rw [← ei, ← ej, ← ek, ← ep, ← ew] | skip
      first | exact rfl | exact ⟨rfl, rfl⟩ | exact ⟨rfl, by rw [← ei, ← ej, ← ek, ← ep, ← ew]; rfl⟩
    clear a1 a2 a3 ei ej ek ep m1 m2 m3 m4 m5 m6
    rintro σ G ⟨rfl, rfl⟩
    have hw : wy = 0 ∨ wy = 1 ∨ wy = 2 ∨ wy = 3 ∨ wy = 4 ∨ wy = 5 ∨ wy = 6 ∨ wy = 7 := by omega
    rcases hw with rfl | rfl | rfl | rfl | rfl | rfl | rfl | rfl
    · refine ⟨_, rfl, rfl, _, rfl, ?_⟩
      refine ite2 (fun _ => ?_) (fun z => absurd (decide_eq_true rfl) z)
      have u0 : Same G G := Same.refl _
      refine ⟨_, rfl, a, us, rfl, .inl ⟨SqL.of hA, fun p1 hp1 => ?_⟩⟩
      have t1 := Same.new (o := HO.tup us) hp1
      have k1 := upd_same (H := G) (a := p1) (o := .tup us)
      have u1 := u0.trans t1
      generalize upd G p1 (.tup us) = F1 at u1  k1 ⊢
      refine fun p2 hp2 => ?_
      have t2 := Same.new (o := HO.dK []) hp2
      have k2 := upd_same (H := F1) (a := p2) (o := .dK [])
      have k1 := t2 _ _ k1
      have u2 := u1.trans t2
      generalize upd F1 p2 (.dK []) = F2 at u2 k1 k2 ⊢
      refine ⟨le_ble rfl, fun p3 hp3 => ?_⟩
      have t3 := Same.new (o := HO.lst []) hp3
      have k3 := upd_same (H := F2) (a := p3) (o := .lst [])
      have k1 := t3 _ _ k1
      have k2 := t3 _ _ k2
      have u3 := u2.trans t3
      generalize upd F2 p3 (.lst []) = F3 at u3 k1 k2 k3 ⊢
      refine ⟨le_ble rfl, fun p4 hp4 => ?_⟩
      have t4 := Same.new (o := HO.lst [V.ref p3]) hp4
      have k4 := upd_same (H := F3) (a := p4) (o := .lst [V.ref p3])
      have k1 := t4 _ _ k1
      have k2 := t4 _ _ k2
      have k3 := t4 _ _ k3
      have u4 := u3.trans t4
      generalize upd F3 p4 (.lst [V.ref p3]) = F4 at u4 k1 k2 k3 k4 ⊢
      refine ⟨_, rfl, le_ble rfl, fun p5 hp5 => ?_⟩
      have t5 := Same.new (o := HO.lst [V.non]) hp5
      have k5 := upd_same (H := F4) (a := p5) (o := .lst [V.non])
      have k1 := t5 _ _ k1
      have k2 := t5 _ _ k2
      have k3 := t5 _ _ k3
      have k4 := t5 _ _ k4
      have u5 := u4.trans t5
      generalize upd F4 p5 (.lst [V.non]) = F5 at u5 k1 k2 k3 k4 k5 ⊢
      refine ⟨a, p5, _, _, rfl, rfl, u5 _ _ hA, k5, by show us.length + 1 ≤ sizeLine; omega, fun p6 hp6 => ?_⟩
      have t6 := Same.new (o := HO.lst (us ++ [V.non])) hp6
      have k6 := upd_same (H := F5) (a := p6) (o := .lst (us ++ [V.non]))
      have k1 := t6 _ _ k1
      have k2 := t6 _ _ k2
      have k3 := t6 _ _ k3
      have k4 := t6 _ _ k4
      have u6 := u5.trans t6
      generalize upd F5 p6 (.lst (us ++ [V.non])) = F6 at u6 k1 k2 k3 k4 k6 ⊢
      refine ⟨_, rfl, le_ble rfl, fun p7 hp7 => ?_⟩
      have t7 := Same.new (o := HO.lst []) hp7
      have k7 := upd_same (H := F6) (a := p7) (o := .lst [])
      have k1 := t7 _ _ k1
      have k2 := t7 _ _ k2
      have k3 := t7 _ _ k3
      have k4 := t7 _ _ k4
      have k6 := t7 _ _ k6
      have u7 := u6.trans t7
      generalize upd F6 p7 (.lst []) = F7 at u7 k1 k2 k3 k4 k6 k7 ⊢
      refine ⟨le_ble rfl, fun p8 hp8 => ?_⟩
      have t8 := Same.new (o := HO.lst [V.ref p7]) hp8
      have k8 := upd_same (H := F7) (a := p8) (o := .lst [V.ref p7])
      have k1 := t8 _ _ k1
      have k2 := t8 _ _ k2
      have k3 := t8 _ _ k3
      have k4 := t8 _ _ k4
      have k6 := t8 _ _ k6
      have k7 := t8 _ _ k7
      have u8 := u7.trans t8
      generalize upd F7 p8 (.lst [V.ref p7]) = F8 at u8 k1 k2 k3 k4 k6 k7 k8 ⊢
      refine ⟨a, p8, _, _, rfl, rfl, u8 _ _ hA, k8, by show us.length + 1 ≤ sizeLine; omega, fun p9 hp9 => ?_⟩
      have t9 := Same.new (o := HO.lst (us ++ [V.ref p7])) hp9
      have k9 := upd_same (H := F8) (a := p9) (o := .lst (us ++ [V.ref p7]))
      have k1 := t9 _ _ k1
      have k2 := t9 _ _ k2
      have k3 := t9 _ _ k3
      have k4 := t9 _ _ k4
      have k6 := t9 _ _ k6
      have k7 := t9 _ _ k7
      have u9 := u8.trans t9
      generalize upd F8 p9 (.lst (us ++ [V.ref p7])) = F9 at u9 k1 k2 k3 k4 k6 k7 k9 ⊢
      refine ⟨le_ble rfl, fun p10 hp10 => ?_⟩
      have t10 := Same.new (o := HO.lst [V.non, .ref p1, .ref p2, .str (Str.ofString ""), .int 5, .bl true, .ref p4, .ref p6, .ref p9]) hp10
      have k10 := upd_same (H := F9) (a := p10) (o := .lst [V.non, .ref p1, .ref p2, .str (Str.ofString ""), .int 5, .bl true, .ref p4, .ref p6, .ref p9])
      have k1 := t10 _ _ k1
      have k2 := t10 _ _ k2
      have k3 := t10 _ _ k3
      have k4 := t10 _ _ k4
      have k6 := t10 _ _ k6
      have k7 := t10 _ _ k7
      have k9 := t10 _ _ k9
      have u10 := u9.trans t10
      generalize upd F9 p10 (.lst [V.non, .ref p1, .ref p2, .str (Str.ofString ""), .int 5, .bl true, .ref p4, .ref p6, .ref p9]) = F10 at u10 k1 k2 k3 k4 k6 k7 k9 k10 ⊢
      walk_at "rd"
      obtain ⟨y, hy, hym⟩ := atI_in (xs := [V.non, .ref p1, .ref p2, .str (Str.ofString ""), .int 5, .bl true, .ref p4, .ref p6, .ref p9]) (i := m / 8 % 9) (Int.emod_nonneg _ (by decide)) (by show _ < (9 : Int); exact Int.emod_lt_of_pos _ (by decide))
      refine ⟨p10, _, _, y, rfl, rfl, SqL.of k10, hy, k y F10 (s1.trans u10) ?_⟩
      have fr0 : FrO o G F10 [] := fun n p v t h _ => (h.older u10).r
      have app : ∀ (x : V) (a' : Addr), F10 a' = some (.lst (us ++ [x])) → BadG K F10 2 x (flat 4 ((ls S).take us.length : List (Tr 3))) → BadS K F10 (.ref a') := fun x a' h hb =>
        bad_top (i := us.length) at0 hA h (by rw [List.length_append]; show us.length + 1 ≤ 1000; omega) (fun j w hj hw => by rw [List.getElem?_append_left hj] at hw; exact hw) fr0 (fun j _ => nsufL (le_ble rfl)) wf hl (by rw [List.getElem?_append_right (Nat.le_refl _), Nat.sub_self]; rfl) (by omega) hb
      simp only [List.mem_cons, List.not_mem_nil, or_false] at hym
      rcases hym with rfl | rfl | rfl | rfl | rfl | rfl | rfl | rfl | rfl
      · exact .inl ⟨_, .non, rfl⟩
      · exact .inl ⟨_, .tup k1, rfl⟩
      · exact .inl ⟨_, .dK k2, rfl⟩
      · exact .inl ⟨_, .str _, rfl⟩
      · exact .inl ⟨_, .int _, rfl⟩
      · exact .inl ⟨_, .bl _, rfl⟩
      · exact .inr ⟨p4, [.ref p3], .ref p3, [], rfl, k4, le_ble rfl, fun j w t _ h => (by rw [List.getElem?_nil] at h; cases h), List.nodup_nil, Nat.zero_le _, rfl, .inr (.inl ⟨p3, rfl, k3⟩)⟩
      · exact app _ p6 k6 (.inl ⟨_, .non, rfl⟩)
      · exact app _ p9 k9 (.inr (.inl ⟨p7, rfl, k7⟩))
    · refine ⟨_, rfl, rfl, _, rfl, ?_⟩
      refine ite2 (fun z => absurd (V.int.inj (of_decide_eq_true z)) (by decide)) (fun _ => ?_)
      refine ⟨_, rfl, rfl, _, rfl, ?_⟩
      refine ite2 (fun _ => ?_) (fun z => absurd (decide_eq_true rfl) z)
      walk_at "rd"
      refine ⟨m / 8, f, ys, rfl, hF, fun v' G2 s2 ng => ?_⟩
      have ng' : ∀ (c1 : Addr) (q : List Nat) (u : HO), o c1 = some q → NoGrp K (upd G2 c1 u) v' := fun c1 q u hc1 => ng _ fun b0 u0 h0 h1 => by
        rw [upd_ne (fun z => by rw [z] at h0; exact (dom c1 q hc1).2 h0)]
        exact h1
      have sF : ∀ (c1 : Addr) (q : List Nat) (u : HO), o c1 = some q → Same H (upd G2 c1 u) := fun c1 q u hc1 b0 u0 hb0 => by
        rw [upd_ne (fun z => by rw [z, (dom c1 q hc1).1] at hb0; cases hb0)]
        exact s2 _ _ (s1 _ _ hb0)
      refine ⟨_, rfl, _, rfl, a, us, i, i, rfl, rfl, s2 _ _ hA, ixN_nat hi, ?_⟩
      have sF := sF a _ (.lst (us.set i v')) oa
      have bad : BadS K (upd G2 a (.lst (us.set i v'))) (.ref a) := bad_top (i := i) at0 hA upd_same (by rw [List.length_set]; omega) (fun j w hj hw => get_set hw hj) (FrO.mk s2 oa) (fun j hj => nsufL (le_ble rfl)) wf hl (List.getElem?_set_self hi) (by omega) (ng' a _ _ oa 2 _)
      generalize upd G2 a (.lst (us.set i v')) = Gz at sF bad ⊢
      refine ⟨_, rfl, rfl, _, rfl, ?_⟩
      refine ite2 (fun z => absurd (V.int.inj (of_decide_eq_true z)) (by decide)) (fun _ => ?_)
      refine ⟨_, rfl, rfl, _, rfl, ?_⟩
      refine ite2 (fun z => absurd (V.int.inj (of_decide_eq_true z)) (by decide)) (fun _ => ?_)
      refine ⟨_, rfl, rfl, _, rfl, ?_⟩
      refine ite2 (fun z => absurd (V.int.inj (of_decide_eq_true z)) (by decide)) (fun _ => ?_)
      refine ⟨_, rfl, rfl, _, rfl, ?_⟩
      refine ite2 (fun z => absurd (V.int.inj (of_decide_eq_true z)) (by decide)) (fun _ => ?_)
      refine ⟨_, rfl, rfl, _, rfl, ?_⟩
      refine ite2 (fun z => absurd (V.int.inj (of_decide_eq_true z)) (by decide)) (fun _ => ?_)
      refine ⟨_, rfl, rfl, _, rfl, ?_⟩
      refine ite2 (fun z => absurd (V.int.inj (of_decide_eq_true z)) (by decide)) (fun _ => ?_)
      refine iteF ?_
      refine ⟨_, rfl, rfl, _, rfl, ?_⟩
      refine ite2 (fun z => absurd (V.int.inj (of_decide_eq_true z)) (by decide)) (fun _ => ?_)
      exact ⟨_, rfl, k (.ref a) _ sF bad⟩
    · refine ⟨_, rfl, rfl, _, rfl, ?_⟩
      refine ite2 (fun z => absurd (V.int.inj (of_decide_eq_true z)) (by decide)) (fun _ => ?_)
      refine ⟨_, rfl, rfl, _, rfl, ?_⟩
      refine ite2 (fun z => absurd (V.int.inj (of_decide_eq_true z)) (by decide)) (fun _ => ?_)
      refine ⟨_, rfl, rfl, _, rfl, ?_⟩
      refine ite2 (fun _ => ?_) (fun z => absurd (decide_eq_true rfl) z)
      walk_at "rd"
      refine ⟨m / 8, f, ys, rfl, hF, fun v' G2 s2 ng => ?_⟩
      have ng' : ∀ (c1 : Addr) (q : List Nat) (u : HO), o c1 = some q → NoGrp K (upd G2 c1 u) v' := fun c1 q u hc1 => ng _ fun b0 u0 h0 h1 => by
        rw [upd_ne (fun z => by rw [z] at h0; exact (dom c1 q hc1).2 h0)]
        exact h1
      have sF : ∀ (c1 : Addr) (q : List Nat) (u : HO), o c1 = some q → Same H (upd G2 c1 u) := fun c1 q u hc1 b0 u0 hb0 => by
        rw [upd_ne (fun z => by rw [z, (dom c1 q hc1).1] at hb0; cases hb0)]
        exact s2 _ _ (s1 _ _ hb0)
      have a1 : atI us (i : Int) = some (.ref b) := atI_nat hvi
      have a2 : atI vs (j : Int) = some (.ref c0) := atI_nat hvj
      have l3 : (flat (2 + 1) ti).length ≤ 60 := by
        have := flat_len hti
        have e : (flat (3 + 1) (ls S)).length = (flat 4 S).length := rfl
        have e' : (flat (2 + 1) ti).length = (flat 3 ti).length := rfl
        omega
      have d3 : ∀ s ∈ flat (2 + 1) ti, s ∉ flat 4 ((ls S).take i : List (Tr 3)) := (flat_nd hti wf.nd).2
      have l2 : (flat (1 + 1) tj).length ≤ 60 := by
        have := flat_len htj
        have e : (flat (2 + 1) (ls ti)).length = (flat (2 + 1) ti).length := rfl
        have e' : (flat (1 + 1) tj).length = (flat 2 tj).length := rfl
        omega
      have d2 : ∀ s ∈ flat (1 + 1) tj, s ∉ flat 4 ((ls S).take i : List (Tr 3)) ++ flat 3 ((ls ti).take j : List (Tr 2)) := fun s hs q => by
        rcases List.mem_append.mp q with q | q
        · exact d3 s (flat_mem (List.mem_of_getElem? htj) hs) q
        · exact (flat_nd htj gi.nd).2 s hs q
      have lv1 : vs.length ≤ 1000 := by
        have := flat_full (fun g hg' => gi.fu.2 g hg') (ts := ls ti)
        have e : (flat (2 + 1) (ls ti)).length = (flat (2 + 1) ti).length := rfl
        omega
      have lx1 : xs.length ≤ 1000 := by
        have := flat_full (fun g hg' => gj.fu.2 g hg') (ts := ls tj)
        have e : (flat (1 + 1) (ls tj)).length = (flat (1 + 1) tj).length := rfl
        omega
      have nab : a ≠ b := fun z => by rw [z, ob] at oa; cases oa
      have nac : a ≠ c0 := fun z => by rw [z, oc] at oa; cases oa
      have nbc : b ≠ c0 := fun z => by rw [z, oc] at ob; cases ob
      refine ⟨_, rfl, _, rfl, a, _, _, _, rfl, rfl, SqL.of (s2 _ _ hA), a1, ?_⟩
      refine ⟨_, rfl, b, vs, j, j, rfl, rfl, s2 _ _ hB, ixN_nat hj, ?_⟩
      have sF := sF b _ (.lst (vs.set j v')) ob
      have bad : BadS K (upd G2 b (.lst (vs.set j v'))) (.ref a) := bad_top (i := i) at0 hA (by rw [upd_ne nab]; exact s2 _ _ hA) (by omega) (fun _ w _ hw => hw) (FrO.mk s2 ob) (fun j0 hj0 => nsuf1 (r := []) hj0) wf hl hvi (by omega) (bad_in (i := j) ati hB upd_same (by rw [List.length_set]; omega) (fun j0 w hj0 hw => get_set hw hj0) (FrO.mk s2 ob) (fun j0 hj0 => nsufL (le_ble rfl)) gi (fun s hs => d3 s (flat_pre hs)) (Nat.le_trans l3 (by decide)) (List.getElem?_set_self hj) (by omega) (ng' b _ _ ob 1 _))
      generalize upd G2 b (.lst (vs.set j v')) = Gz at sF bad ⊢
      refine ⟨_, rfl, rfl, _, rfl, ?_⟩
      refine ite2 (fun z => absurd (V.int.inj (of_decide_eq_true z)) (by decide)) (fun _ => ?_)
      refine ⟨_, rfl, rfl, _, rfl, ?_⟩
      refine ite2 (fun z => absurd (V.int.inj (of_decide_eq_true z)) (by decide)) (fun _ => ?_)
      refine ⟨_, rfl, rfl, _, rfl, ?_⟩
      refine ite2 (fun z => absurd (V.int.inj (of_decide_eq_true z)) (by decide)) (fun _ => ?_)
      refine ⟨_, rfl, rfl, _, rfl, ?_⟩
      refine ite2 (fun z => absurd (V.int.inj (of_decide_eq_true z)) (by decide)) (fun _ => ?_)
      refine ⟨_, rfl, rfl, _, rfl, ?_⟩
      refine ite2 (fun z => absurd (V.int.inj (of_decide_eq_true z)) (by decide)) (fun _ => ?_)
      refine iteF ?_
      refine ⟨_, rfl, rfl, _, rfl, ?_⟩
      refine ite2 (fun z => absurd (V.int.inj (of_decide_eq_true z)) (by decide)) (fun _ => ?_)
      exact ⟨_, rfl, k (.ref a) _ sF bad⟩
    · refine ⟨_, rfl, rfl, _, rfl, ?_⟩
      refine ite2 (fun z => absurd (V.int.inj (of_decide_eq_true z)) (by decide)) (fun _ => ?_)
      refine ⟨_, rfl, rfl, _, rfl, ?_⟩
      refine ite2 (fun z => absurd (V.int.inj (of_decide_eq_true z)) (by decide)) (fun _ => ?_)
      refine ⟨_, rfl, rfl, _, rfl, ?_⟩
      refine ite2 (fun z => absurd (V.int.inj (of_decide_eq_true z)) (by decide)) (fun _ => ?_)
      refine ⟨_, rfl, rfl, _, rfl, ?_⟩
      refine ite2 (fun _ => ?_) (fun z => absurd (decide_eq_true rfl) z)
      walk_at "rd"
      refine ⟨m / 8, f, ys, rfl, hF, fun v' G2 s2 ng => ?_⟩
      have ng' : ∀ (c1 : Addr) (q : List Nat) (u : HO), o c1 = some q → NoGrp K (upd G2 c1 u) v' := fun c1 q u hc1 => ng _ fun b0 u0 h0 h1 => by
        rw [upd_ne (fun z => by rw [z] at h0; exact (dom c1 q hc1).2 h0)]
        exact h1
      have sF : ∀ (c1 : Addr) (q : List Nat) (u : HO), o c1 = some q → Same H (upd G2 c1 u) := fun c1 q u hc1 b0 u0 hb0 => by
        rw [upd_ne (fun z => by rw [z, (dom c1 q hc1).1] at hb0; cases hb0)]
        exact s2 _ _ (s1 _ _ hb0)
      have a1 : atI us (i : Int) = some (.ref b) := atI_nat hvi
      have a2 : atI vs (j : Int) = some (.ref c0) := atI_nat hvj
      have l3 : (flat (2 + 1) ti).length ≤ 60 := by
        have := flat_len hti
        have e : (flat (3 + 1) (ls S)).length = (flat 4 S).length := rfl
        have e' : (flat (2 + 1) ti).length = (flat 3 ti).length := rfl
        omega
      have d3 : ∀ s ∈ flat (2 + 1) ti, s ∉ flat 4 ((ls S).take i : List (Tr 3)) := (flat_nd hti wf.nd).2
      have l2 : (flat (1 + 1) tj).length ≤ 60 := by
        have := flat_len htj
        have e : (flat (2 + 1) (ls ti)).length = (flat (2 + 1) ti).length := rfl
        have e' : (flat (1 + 1) tj).length = (flat 2 tj).length := rfl
        omega
      have d2 : ∀ s ∈ flat (1 + 1) tj, s ∉ flat 4 ((ls S).take i : List (Tr 3)) ++ flat 3 ((ls ti).take j : List (Tr 2)) := fun s hs q => by
        rcases List.mem_append.mp q with q | q
        · exact d3 s (flat_mem (List.mem_of_getElem? htj) hs) q
        · exact (flat_nd htj gi.nd).2 s hs q
      have lv1 : vs.length ≤ 1000 := by
        have := flat_full (fun g hg' => gi.fu.2 g hg') (ts := ls ti)
        have e : (flat (2 + 1) (ls ti)).length = (flat (2 + 1) ti).length := rfl
        omega
      have lx1 : xs.length ≤ 1000 := by
        have := flat_full (fun g hg' => gj.fu.2 g hg') (ts := ls tj)
        have e : (flat (1 + 1) (ls tj)).length = (flat (1 + 1) tj).length := rfl
        omega
      have nab : a ≠ b := fun z => by rw [z, ob] at oa; cases oa
      have nac : a ≠ c0 := fun z => by rw [z, oc] at oa; cases oa
      have nbc : b ≠ c0 := fun z => by rw [z, oc] at ob; cases ob
      refine ⟨_, rfl, _, rfl, a, _, _, _, rfl, rfl, SqL.of (s2 _ _ hA), a1, ?_⟩
      refine ⟨_, rfl, b, _, _, _, rfl, rfl, SqL.of (s2 _ _ hB), a2, ?_⟩
      refine ⟨_, rfl, c0, xs, k', k', rfl, rfl, s2 _ _ hC, ixN_nat hk, ?_⟩
      have sF := sF c0 _ (.lst (xs.set k' v')) oc
      have bad : BadS K (upd G2 c0 (.lst (xs.set k' v'))) (.ref a) := bad_top (i := i) at0 hA (by rw [upd_ne nac]; exact s2 _ _ hA) (by omega) (fun _ w _ hw => hw) (FrO.mk s2 oc) (fun j0 hj0 => nsuf1 (r := [j]) hj0) wf hl hvi (by omega) (bad_in (i := j) ati hB (by rw [upd_ne nbc]; exact s2 _ _ hB) lv1 (fun _ w _ hw => hw) (FrO.mk s2 oc) (fun j0 hj0 => nsuf2 (r := []) hj0) gi (fun s hs => d3 s (flat_pre hs)) (Nat.le_trans l3 (by decide)) hvj (by omega) (bad_in (i := k') atj hC upd_same (by rw [List.length_set]; omega) (fun j0 w hj0 hw => get_set hw hj0) (FrO.mk s2 oc) (fun j0 hj0 => nsufL (le_ble rfl)) gj (fun s hs => d2 s (flat_pre hs)) (Nat.le_trans l2 (by decide)) (List.getElem?_set_self hk) (by omega) (ng' c0 _ _ oc 0 _)))
      generalize upd G2 c0 (.lst (xs.set k' v')) = Gz at sF bad ⊢
      refine ⟨_, rfl, rfl, _, rfl, ?_⟩
      refine ite2 (fun z => absurd (V.int.inj (of_decide_eq_true z)) (by decide)) (fun _ => ?_)
      refine ⟨_, rfl, rfl, _, rfl, ?_⟩
      refine ite2 (fun z => absurd (V.int.inj (of_decide_eq_true z)) (by decide)) (fun _ => ?_)
      refine ⟨_, rfl, rfl, _, rfl, ?_⟩
      refine ite2 (fun z => absurd (V.int.inj (of_decide_eq_true z)) (by decide)) (fun _ => ?_)
      refine ⟨_, rfl, rfl, _, rfl, ?_⟩
      refine ite2 (fun z => absurd (V.int.inj (of_decide_eq_true z)) (by decide)) (fun _ => ?_)
      refine iteF ?_
      refine ⟨_, rfl, rfl, _, rfl, ?_⟩
      refine ite2 (fun z => absurd (V.int.inj (of_decide_eq_true z)) (by decide)) (fun _ => ?_)
      exact ⟨_, rfl, k (.ref a) _ sF bad⟩
    · refine ⟨_, rfl, rfl, _, rfl, ?_⟩
      refine ite2 (fun z => absurd (V.int.inj (of_decide_eq_true z)) (by decide)) (fun _ => ?_)
      refine ⟨_, rfl, rfl, _, rfl, ?_⟩
      refine ite2 (fun z => absurd (V.int.inj (of_decide_eq_true z)) (by decide)) (fun _ => ?_)
      refine ⟨_, rfl, rfl, _, rfl, ?_⟩
      refine ite2 (fun z => absurd (V.int.inj (of_decide_eq_true z)) (by decide)) (fun _ => ?_)
      refine ⟨_, rfl, rfl, _, rfl, ?_⟩
      refine ite2 (fun z => absurd (V.int.inj (of_decide_eq_true z)) (by decide)) (fun _ => ?_)
      refine ⟨_, rfl, rfl, _, rfl, ?_⟩
      refine ite2 (fun _ => ?_) (fun z => absurd (decide_eq_true rfl) z)
      refine iteT ?_
      have l3 : (flat (2 + 1) ti).length ≤ 60 := by
        have := flat_len hti
        have e : (flat (3 + 1) (ls S)).length = (flat 4 S).length := rfl
        have e' : (flat (2 + 1) ti).length = (flat 3 ti).length := rfl
        omega
      have d3 : ∀ s ∈ flat (2 + 1) ti, s ∉ flat 4 ((ls S).take i : List (Tr 3)) := (flat_nd hti wf.nd).2
      have l2 : (flat (1 + 1) tj).length ≤ 60 := by
        have := flat_len htj
        have e : (flat (2 + 1) (ls ti)).length = (flat (2 + 1) ti).length := rfl
        have e' : (flat (1 + 1) tj).length = (flat 2 tj).length := rfl
        omega
      have d2 : ∀ s ∈ flat (1 + 1) tj, s ∉ flat 4 ((ls S).take i : List (Tr 3)) ++ flat 3 ((ls ti).take j : List (Tr 2)) := fun s hs q => by
        rcases List.mem_append.mp q with q | q
        · exact d3 s (flat_mem (List.mem_of_getElem? htj) hs) q
        · exact (flat_nd htj gi.nd).2 s hs q
      have lv1 : vs.length ≤ 1000 := by
        have := flat_full (fun g hg' => gi.fu.2 g hg') (ts := ls ti)
        have e : (flat (2 + 1) (ls ti)).length = (flat (2 + 1) ti).length := rfl
        omega
      have lx1 : xs.length ≤ 1000 := by
        have := flat_full (fun g hg' => gj.fu.2 g hg') (ts := ls tj)
        have e : (flat (1 + 1) (ls tj)).length = (flat (1 + 1) tj).length := rfl
        omega
      have nab : a ≠ b := fun z => by rw [z, ob] at oa; cases oa
      have nac : a ≠ c0 := fun z => by rw [z, oc] at oa; cases oa
      have nbc : b ≠ c0 := fun z => by rw [z, oc] at ob; cases ob
      have e1 := flat_ints tk
      obtain ⟨nk, enk⟩ : ∃ nk : List Int, nk = show List Int from tk := ⟨_, rfl⟩
      have fk : flat 1 tk = nk := by rw [enk]; exact e1
      have pk : nk.Pairwise (· < ·) := by rw [enk]; exact gk.as
      have eys : ys = nk.map V.int := by rw [enk]; exact eys
      have lyk : ys.length = nk.length := by rw [eys, List.length_map]
      have d1 : ∀ s ∈ nk, s ∉ flat 4 ((ls S).take i : List (Tr 3)) ++ flat 3 ((ls ti).take j : List (Tr 2)) ++ flat 2 ((ls tj).take k' : List (Tr 1)) := fun s hs q => by
        have hs : s ∈ flat 1 tk := by rw [fk]; exact hs
        rcases List.mem_append.mp q with q | q
        · exact d2 s (flat_mem (List.mem_of_getElem? htk) hs) q
        · exact (flat_nd htk gj.nd).2 s hs q
      have gn : Good nk := ⟨fk ▸ gk.inn, fk ▸ gk.nd⟩
      have l1 : nk.length ≤ 60 := by
        have := flat_len htk
        have e : (flat (1 + 1) (ls tj)).length = (flat (1 + 1) tj).length := rfl
        have e' : (flat 1 tk).length = nk.length := by rw [fk]
        omega
      have naf : a ≠ f := fun z => by rw [z, of_] at oa; cases oa
      have nbf : b ≠ f := fun z => by rw [z, of_] at ob; cases ob
      have ncf : c0 ≠ f := fun z => by rw [z, of_] at oc; cases oc
      have chain : ∀ G2, Same G G2 → ∀ u, BadG K (upd G2 f u) 0 (.ref f) (flat 4 ((ls S).take i : List (Tr 3)) ++ flat 3 ((ls ti).take j : List (Tr 2)) ++ flat 2 ((ls tj).take k' : List (Tr 1))) → BadS K (upd G2 f u) (.ref a) := fun G2 s2 u bad =>
        bad_top (i := i) at0 hA (by rw [upd_ne naf]; exact s2 _ _ hA) (by omega) (fun _ w _ hw => hw) (FrO.mk s2 of_) (fun j0 hj0 => nsuf1 (r := [k', j]) hj0) wf hl hvi (by omega) (bad_in (i := j) ati hB (by rw [upd_ne nbf]; exact s2 _ _ hB) lv1 (fun _ w _ hw => hw) (FrO.mk s2 of_) (fun j0 hj0 => nsuf2 (r := [k']) hj0) gi (fun s hs => d3 s (flat_pre hs)) (Nat.le_trans l3 (by decide)) hvj (by omega) (bad_in (i := k') atj hC (by rw [upd_ne ncf]; exact s2 _ _ hC) lx1 (fun _ w _ hw => hw) (FrO.mk s2 of_) (fun j0 hj0 => nsuf3 hj0) gj (fun s hs => d2 s (flat_pre hs)) (Nat.le_trans l2 (by decide)) hvk (by omega) bad))
      have sF : ∀ G2, Same G G2 → ∀ u, Same H (upd G2 f u) := fun G2 s2 u b0 u0 hb0 => by
        rw [upd_ne (fun z => by rw [z, (dom f _ of_).1] at hb0; cases hb0)]
        exact s2 _ _ (s1 _ _ hb0)
      walk_at "rd"
      refine ⟨.inl ⟨rfl, _, SqL.of hF⟩, ?_⟩
      walk_at "rd"
      refine ⟨le_ble rfl, fun p1 hp1 => ?_⟩
      have t1 := Same.new (o := HO.lst [V.int 5]) hp1
      have k1 := upd_same (H := G) (a := p1) (o := .lst [V.int 5])
      have np1 : p1 ≠ f := fun z => by rw [z, hF] at hp1; cases hp1
      generalize upd G p1 (.lst [V.int 5]) = G2 at t1 k1 ⊢
      refine ⟨le_ble rfl, fun p2 hp2 => ?_⟩
      have t2 := Same.new (o := HO.tup [V.int 5]) hp2
      have k2 := upd_same (H := G2) (a := p2) (o := .tup [V.int 5])
      have np2 : p2 ≠ f := fun z => by rw [z, t1 _ _ hF] at hp2; cases hp2
      have k1 := t2 _ _ k1
      generalize upd G2 p2 (.tup [V.int 5]) = G3 at t2 k1 k2 ⊢
      refine ⟨le_ble rfl, fun p3 hp3 => ?_⟩
      have t3 := Same.new (o := HO.lst [V.int 0, .int (-1), .int (10 ^ Int.toNat 9 + 1), .int (10 ^ Int.toNat 9 + 1 + m), .bl true, .non, .str (Str.ofString "5"), .ref p1, .ref p2]) hp3
      have k3 := upd_same (H := G3) (a := p3) (o := .lst [V.int 0, .int (-1), .int (10 ^ Int.toNat 9 + 1), .int (10 ^ Int.toNat 9 + 1 + m), .bl true, .non, .str (Str.ofString "5"), .ref p1, .ref p2])
      have k1 := t3 _ _ k1
      have k2 := t3 _ _ k2
      have t03 := t1.trans (t2.trans t3)
      have eD : upd G3 p3 (.lst [V.int 0, V.int (-1), V.int (10 ^ Int.toNat 9 + 1), V.int (10 ^ Int.toNat 9 + 1 + m), V.bl true, V.non, V.str (Str.ofString "5"), V.ref p1, V.ref p2]) = upd G3 p3 (.lst [V.int 0, .int (-1), .int (10 ^ Int.toNat 9 + 1), .int (10 ^ Int.toNat 9 + 1 + m), .bl true, .non, .str (Str.ofString "5"), .ref p1, .ref p2]) := rfl
      generalize upd G3 p3 (.lst [V.int 0, .int (-1), .int (10 ^ Int.toNat 9 + 1), .int (10 ^ Int.toNat 9 + 1 + m), .bl true, .non, .str (Str.ofString "5"), .ref p1, .ref p2]) = G4 at t03 k1 k2 k3 eD ⊢
      walk_at "rd"
      obtain ⟨y, hy, hym⟩ := atI_in (xs := [V.int 0, .int (-1), .int (10 ^ Int.toNat 9 + 1), .int (10 ^ Int.toNat 9 + 1 + m), .bl true, .non, .str (Str.ofString "5"), .ref p1, .ref p2]) (i := m / 100 % 9) (Int.emod_nonneg _ (by decide)) (by show _ < (9 : Int); exact Int.emod_lt_of_pos _ (by decide))
      refine ⟨p3, _, _, y, rfl, rfl, SqL.of k3, hy, ?_⟩
      refine ⟨f, ys, p, p, y, rfl, rfl, rfl, t03 _ _ hF, hp, by omega, ?_⟩
      have ltk : (nk.take p).length = p := by rw [List.length_take]; omega
      have tke : ys.take p = (nk.take p).map V.int := by rw [eys, List.map_take]
      have ltp : (ys.take p).length = p := by rw [List.length_take]; omega
      have ow : ∀ u, Own K (upd G4 f u) y ∧ inR 1000000000 y = false := fun u => by
        have e9 : (10 : Int) ^ Int.toNat 9 = 1000000000 := by decide
        rw [e9] at hym
        have big : ∀ z : Int, 1000000000 < z → inR 1000000000 (.int z) = false := fun z hz => by rw [inR_int, decide_eq_false (p := z ≤ 1000000000) (by omega), Bool.and_false]
        simp only [List.mem_cons, List.not_mem_nil, or_false] at hym
        rcases hym with rfl | rfl | rfl | rfl | rfl | rfl | rfl | rfl | rfl
        · exact ⟨Own.int, by decide⟩
        · exact ⟨Own.int, by decide⟩
        · exact ⟨Own.int, big _ (by omega)⟩
        · exact ⟨Own.int, big _ (by omega)⟩
        · exact ⟨Own.bl, rfl⟩
        · exact ⟨Own.non, rfl⟩
        · exact ⟨Own.str, rfl⟩
        · exact ⟨Own.lst (by rw [upd_ne np1]; exact k1), rfl⟩
        · exact ⟨Own.tup (by rw [upd_ne np2]; exact k2), rfl⟩
      have bad := chain G4 t03 (.lst (ys.take p ++ y :: ys.drop p)) (.inr (.inr ⟨f, ys.take p ++ y :: ys.drop p, nk.take p, y, rfl, upd_same, by rw [List.length_append, List.length_cons, List.length_drop, ltp]; omega, by rw [ltk, List.take_left' ltp, tke], by omega, ⟨fun s hs => gn.inn s (List.mem_of_mem_take hs), gn.nd.sublist (List.take_sublist ..)⟩, List.Pairwise.sublist (List.take_sublist ..) pk, fun s hs => d1 s (List.mem_of_mem_take hs), by rw [ltk, List.getElem?_append_right (by omega), ltp, Nat.sub_self]; rfl, .inl (ow _)⟩))
      have sF := sF G4 t03 (.lst (ys.take p ++ y :: ys.drop p))
      generalize upd G4 f (.lst (ys.take p ++ y :: ys.drop p)) = Gz at sF bad ⊢
      refine ⟨_, rfl, rfl, _, rfl, ?_⟩
      refine ite2 (fun z => absurd (V.int.inj (of_decide_eq_true z)) (by decide)) (fun _ => ?_)
      refine ⟨_, rfl, rfl, _, rfl, ?_⟩
      refine ite2 (fun z => absurd (V.int.inj (of_decide_eq_true z)) (by decide)) (fun _ => ?_)
      refine iteF ?_
      refine ⟨_, rfl, rfl, _, rfl, ?_⟩
      refine ite2 (fun z => absurd (V.int.inj (of_decide_eq_true z)) (by decide)) (fun _ => ?_)
      exact ⟨_, rfl, k (.ref a) _ sF bad⟩
    · refine ⟨_, rfl, rfl, _, rfl, ?_⟩
      refine ite2 (fun z => absurd (V.int.inj (of_decide_eq_true z)) (by decide)) (fun _ => ?_)
      refine ⟨_, rfl, rfl, _, rfl, ?_⟩
      refine ite2 (fun z => absurd (V.int.inj (of_decide_eq_true z)) (by decide)) (fun _ => ?_)
      refine ⟨_, rfl, rfl, _, rfl, ?_⟩
      refine ite2 (fun z => absurd (V.int.inj (of_decide_eq_true z)) (by decide)) (fun _ => ?_)
      refine ⟨_, rfl, rfl, _, rfl, ?_⟩
      refine ite2 (fun z => absurd (V.int.inj (of_decide_eq_true z)) (by decide)) (fun _ => ?_)
      refine ⟨_, rfl, rfl, _, rfl, ?_⟩
      refine ite2 (fun z => absurd (V.int.inj (of_decide_eq_true z)) (by decide)) (fun _ => ?_)
      refine ⟨_, rfl, rfl, _, rfl, ?_⟩
      refine ite2 (fun _ => ?_) (fun z => absurd (decide_eq_true rfl) z)
      have l3 : (flat (2 + 1) ti).length ≤ 60 := by
        have := flat_len hti
        have e : (flat (3 + 1) (ls S)).length = (flat 4 S).length := rfl
        have e' : (flat (2 + 1) ti).length = (flat 3 ti).length := rfl
        omega
      have d3 : ∀ s ∈ flat (2 + 1) ti, s ∉ flat 4 ((ls S).take i : List (Tr 3)) := (flat_nd hti wf.nd).2
      have l2 : (flat (1 + 1) tj).length ≤ 60 := by
        have := flat_len htj
        have e : (flat (2 + 1) (ls ti)).length = (flat (2 + 1) ti).length := rfl
        have e' : (flat (1 + 1) tj).length = (flat 2 tj).length := rfl
        omega
      have d2 : ∀ s ∈ flat (1 + 1) tj, s ∉ flat 4 ((ls S).take i : List (Tr 3)) ++ flat 3 ((ls ti).take j : List (Tr 2)) := fun s hs q => by
        rcases List.mem_append.mp q with q | q
        · exact d3 s (flat_mem (List.mem_of_getElem? htj) hs) q
        · exact (flat_nd htj gi.nd).2 s hs q
      have lv1 : vs.length ≤ 1000 := by
        have := flat_full (fun g hg' => gi.fu.2 g hg') (ts := ls ti)
        have e : (flat (2 + 1) (ls ti)).length = (flat (2 + 1) ti).length := rfl
        omega
      have lx1 : xs.length ≤ 1000 := by
        have := flat_full (fun g hg' => gj.fu.2 g hg') (ts := ls tj)
        have e : (flat (1 + 1) (ls tj)).length = (flat (1 + 1) tj).length := rfl
        omega
      have nab : a ≠ b := fun z => by rw [z, ob] at oa; cases oa
      have nac : a ≠ c0 := fun z => by rw [z, oc] at oa; cases oa
      have nbc : b ≠ c0 := fun z => by rw [z, oc] at ob; cases ob
      have e1 := flat_ints tk
      obtain ⟨nk, enk⟩ : ∃ nk : List Int, nk = show List Int from tk := ⟨_, rfl⟩
      have fk : flat 1 tk = nk := by rw [enk]; exact e1
      have pk : nk.Pairwise (· < ·) := by rw [enk]; exact gk.as
      have eys : ys = nk.map V.int := by rw [enk]; exact eys
      have lyk : ys.length = nk.length := by rw [eys, List.length_map]
      have d1 : ∀ s ∈ nk, s ∉ flat 4 ((ls S).take i : List (Tr 3)) ++ flat 3 ((ls ti).take j : List (Tr 2)) ++ flat 2 ((ls tj).take k' : List (Tr 1)) := fun s hs q => by
        have hs : s ∈ flat 1 tk := by rw [fk]; exact hs
        rcases List.mem_append.mp q with q | q
        · exact d2 s (flat_mem (List.mem_of_getElem? htk) hs) q
        · exact (flat_nd htk gj.nd).2 s hs q
      have gn : Good nk := ⟨fk ▸ gk.inn, fk ▸ gk.nd⟩
      have l1 : nk.length ≤ 60 := by
        have := flat_len htk
        have e : (flat (1 + 1) (ls tj)).length = (flat (1 + 1) tj).length := rfl
        have e' : (flat 1 tk).length = nk.length := by rw [fk]
        omega
      have naf : a ≠ f := fun z => by rw [z, of_] at oa; cases oa
      have nbf : b ≠ f := fun z => by rw [z, of_] at ob; cases ob
      have ncf : c0 ≠ f := fun z => by rw [z, of_] at oc; cases oc
      have chain : ∀ G2, Same G G2 → ∀ u, BadG K (upd G2 f u) 0 (.ref f) (flat 4 ((ls S).take i : List (Tr 3)) ++ flat 3 ((ls ti).take j : List (Tr 2)) ++ flat 2 ((ls tj).take k' : List (Tr 1))) → BadS K (upd G2 f u) (.ref a) := fun G2 s2 u bad =>
        bad_top (i := i) at0 hA (by rw [upd_ne naf]; exact s2 _ _ hA) (by omega) (fun _ w _ hw => hw) (FrO.mk s2 of_) (fun j0 hj0 => nsuf1 (r := [k', j]) hj0) wf hl hvi (by omega) (bad_in (i := j) ati hB (by rw [upd_ne nbf]; exact s2 _ _ hB) lv1 (fun _ w _ hw => hw) (FrO.mk s2 of_) (fun j0 hj0 => nsuf2 (r := [k']) hj0) gi (fun s hs => d3 s (flat_pre hs)) (Nat.le_trans l3 (by decide)) hvj (by omega) (bad_in (i := k') atj hC (by rw [upd_ne ncf]; exact s2 _ _ hC) lx1 (fun _ w _ hw => hw) (FrO.mk s2 of_) (fun j0 hj0 => nsuf3 hj0) gj (fun s hs => d2 s (flat_pre hs)) (Nat.le_trans l2 (by decide)) hvk (by omega) bad))
      have sF : ∀ G2, Same G G2 → ∀ u, Same H (upd G2 f u) := fun G2 s2 u b0 u0 hb0 => by
        rw [upd_ne (fun z => by rw [z, (dom f _ of_).1] at hb0; cases hb0)]
        exact s2 _ _ (s1 _ _ hb0)
      walk_at "rd"
      refine ⟨.inl ⟨rfl, _, SqL.of hF⟩, ?_⟩
      walk_at "rd"
      refine ⟨le_ble rfl, fun p1 hp1 => ?_⟩
      have t1 := Same.new (o := HO.lst [V.int 5]) hp1
      have k1 := upd_same (H := G) (a := p1) (o := .lst [V.int 5])
      have np1 : p1 ≠ f := fun z => by rw [z, hF] at hp1; cases hp1
      generalize upd G p1 (.lst [V.int 5]) = G2 at t1 k1 ⊢
      refine ⟨le_ble rfl, fun p2 hp2 => ?_⟩
      have t2 := Same.new (o := HO.tup [V.int 5]) hp2
      have k2 := upd_same (H := G2) (a := p2) (o := .tup [V.int 5])
      have np2 : p2 ≠ f := fun z => by rw [z, t1 _ _ hF] at hp2; cases hp2
      have k1 := t2 _ _ k1
      generalize upd G2 p2 (.tup [V.int 5]) = G3 at t2 k1 k2 ⊢
      refine ⟨le_ble rfl, fun p3 hp3 => ?_⟩
      have t3 := Same.new (o := HO.lst [V.int 0, .int (-1), .int (10 ^ Int.toNat 9 + 1), .int (10 ^ Int.toNat 9 + 1 + m), .bl true, .non, .str (Str.ofString "5"), .ref p1, .ref p2]) hp3
      have k3 := upd_same (H := G3) (a := p3) (o := .lst [V.int 0, .int (-1), .int (10 ^ Int.toNat 9 + 1), .int (10 ^ Int.toNat 9 + 1 + m), .bl true, .non, .str (Str.ofString "5"), .ref p1, .ref p2])
      have k1 := t3 _ _ k1
      have k2 := t3 _ _ k2
      have t03 := t1.trans (t2.trans t3)
      have eD : upd G3 p3 (.lst [V.int 0, V.int (-1), V.int (10 ^ Int.toNat 9 + 1), V.int (10 ^ Int.toNat 9 + 1 + m), V.bl true, V.non, V.str (Str.ofString "5"), V.ref p1, V.ref p2]) = upd G3 p3 (.lst [V.int 0, .int (-1), .int (10 ^ Int.toNat 9 + 1), .int (10 ^ Int.toNat 9 + 1 + m), .bl true, .non, .str (Str.ofString "5"), .ref p1, .ref p2]) := rfl
      generalize upd G3 p3 (.lst [V.int 0, .int (-1), .int (10 ^ Int.toNat 9 + 1), .int (10 ^ Int.toNat 9 + 1 + m), .bl true, .non, .str (Str.ofString "5"), .ref p1, .ref p2]) = G4 at t03 k1 k2 k3 eD ⊢
      walk_at "rd"
      obtain ⟨y, hy, hym⟩ := atI_in (xs := [V.int 0, .int (-1), .int (10 ^ Int.toNat 9 + 1), .int (10 ^ Int.toNat 9 + 1 + m), .bl true, .non, .str (Str.ofString "5"), .ref p1, .ref p2]) (i := m / 100 % 9) (Int.emod_nonneg _ (by decide)) (by show _ < (9 : Int); exact Int.emod_lt_of_pos _ (by decide))
      refine ⟨p3, _, _, y, rfl, rfl, SqL.of k3, hy, ?_⟩
      refine ⟨f, ys, p, p, y, rfl, rfl, rfl, t03 _ _ hF, hp, by omega, ?_⟩
      have ltk : (nk.take p).length = p := by rw [List.length_take]; omega
      have tke : ys.take p = (nk.take p).map V.int := by rw [eys, List.map_take]
      have ltp : (ys.take p).length = p := by rw [List.length_take]; omega
      have ow : ∀ u, Own K (upd G4 f u) y ∧ inR 1000000000 y = false := fun u => by
        have e9 : (10 : Int) ^ Int.toNat 9 = 1000000000 := by decide
        rw [e9] at hym
        have big : ∀ z : Int, 1000000000 < z → inR 1000000000 (.int z) = false := fun z hz => by rw [inR_int, decide_eq_false (p := z ≤ 1000000000) (by omega), Bool.and_false]
        simp only [List.mem_cons, List.not_mem_nil, or_false] at hym
        rcases hym with rfl | rfl | rfl | rfl | rfl | rfl | rfl | rfl | rfl
        · exact ⟨Own.int, by decide⟩
        · exact ⟨Own.int, by decide⟩
        · exact ⟨Own.int, big _ (by omega)⟩
        · exact ⟨Own.int, big _ (by omega)⟩
        · exact ⟨Own.bl, rfl⟩
        · exact ⟨Own.non, rfl⟩
        · exact ⟨Own.str, rfl⟩
        · exact ⟨Own.lst (by rw [upd_ne np1]; exact k1), rfl⟩
        · exact ⟨Own.tup (by rw [upd_ne np2]; exact k2), rfl⟩
      have bad := chain G4 t03 (.lst (ys.take p ++ y :: ys.drop p)) (.inr (.inr ⟨f, ys.take p ++ y :: ys.drop p, nk.take p, y, rfl, upd_same, by rw [List.length_append, List.length_cons, List.length_drop, ltp]; omega, by rw [ltk, List.take_left' ltp, tke], by omega, ⟨fun s hs => gn.inn s (List.mem_of_mem_take hs), gn.nd.sublist (List.take_sublist ..)⟩, List.Pairwise.sublist (List.take_sublist ..) pk, fun s hs => d1 s (List.mem_of_mem_take hs), by rw [ltk, List.getElem?_append_right (by omega), ltp, Nat.sub_self]; rfl, .inl (ow _)⟩))
      have sF := sF G4 t03 (.lst (ys.take p ++ y :: ys.drop p))
      generalize upd G4 f (.lst (ys.take p ++ y :: ys.drop p)) = Gz at sF bad ⊢
      refine ⟨_, rfl, rfl, _, rfl, ?_⟩
      refine ite2 (fun z => absurd (V.int.inj (of_decide_eq_true z)) (by decide)) (fun _ => ?_)
      refine ⟨_, rfl, rfl, _, rfl, ?_⟩
      refine ite2 (fun z => absurd (V.int.inj (of_decide_eq_true z)) (by decide)) (fun _ => ?_)
      refine iteF ?_
      refine ⟨_, rfl, rfl, _, rfl, ?_⟩
      refine ite2 (fun z => absurd (V.int.inj (of_decide_eq_true z)) (by decide)) (fun _ => ?_)
      exact ⟨_, rfl, k (.ref a) _ sF bad⟩
    · refine ⟨_, rfl, rfl, _, rfl, ?_⟩
      refine ite2 (fun z => absurd (V.int.inj (of_decide_eq_true z)) (by decide)) (fun _ => ?_)
      refine ⟨_, rfl, rfl, _, rfl, ?_⟩
      refine ite2 (fun z => absurd (V.int.inj (of_decide_eq_true z)) (by decide)) (fun _ => ?_)
      refine ⟨_, rfl, rfl, _, rfl, ?_⟩
      refine ite2 (fun z => absurd (V.int.inj (of_decide_eq_true z)) (by decide)) (fun _ => ?_)
      refine ⟨_, rfl, rfl, _, rfl, ?_⟩
      refine ite2 (fun z => absurd (V.int.inj (of_decide_eq_true z)) (by decide)) (fun _ => ?_)
      refine ⟨_, rfl, rfl, _, rfl, ?_⟩
      refine ite2 (fun z => absurd (V.int.inj (of_decide_eq_true z)) (by decide)) (fun _ => ?_)
      refine ⟨_, rfl, rfl, _, rfl, ?_⟩
      refine ite2 (fun z => absurd (V.int.inj (of_decide_eq_true z)) (by decide)) (fun _ => ?_)
      refine ⟨_, rfl, rfl, _, rfl, ?_⟩
      refine ite2 (fun _ => ?_) (fun z => absurd (decide_eq_true rfl) z)
      have l3 : (flat (2 + 1) ti).length ≤ 60 := by
        have := flat_len hti
        have e : (flat (3 + 1) (ls S)).length = (flat 4 S).length := rfl
        have e' : (flat (2 + 1) ti).length = (flat 3 ti).length := rfl
        omega
      have d3 : ∀ s ∈ flat (2 + 1) ti, s ∉ flat 4 ((ls S).take i : List (Tr 3)) := (flat_nd hti wf.nd).2
      have l2 : (flat (1 + 1) tj).length ≤ 60 := by
        have := flat_len htj
        have e : (flat (2 + 1) (ls ti)).length = (flat (2 + 1) ti).length := rfl
        have e' : (flat (1 + 1) tj).length = (flat 2 tj).length := rfl
        omega
      have d2 : ∀ s ∈ flat (1 + 1) tj, s ∉ flat 4 ((ls S).take i : List (Tr 3)) ++ flat 3 ((ls ti).take j : List (Tr 2)) := fun s hs q => by
        rcases List.mem_append.mp q with q | q
        · exact d3 s (flat_mem (List.mem_of_getElem? htj) hs) q
        · exact (flat_nd htj gi.nd).2 s hs q
      have lv1 : vs.length ≤ 1000 := by
        have := flat_full (fun g hg' => gi.fu.2 g hg') (ts := ls ti)
        have e : (flat (2 + 1) (ls ti)).length = (flat (2 + 1) ti).length := rfl
        omega
      have lx1 : xs.length ≤ 1000 := by
        have := flat_full (fun g hg' => gj.fu.2 g hg') (ts := ls tj)
        have e : (flat (1 + 1) (ls tj)).length = (flat (1 + 1) tj).length := rfl
        omega
      have nab : a ≠ b := fun z => by rw [z, ob] at oa; cases oa
      have nac : a ≠ c0 := fun z => by rw [z, oc] at oa; cases oa
      have nbc : b ≠ c0 := fun z => by rw [z, oc] at ob; cases ob
      have e1 := flat_ints tk
      obtain ⟨nk, enk⟩ : ∃ nk : List Int, nk = show List Int from tk := ⟨_, rfl⟩
      have fk : flat 1 tk = nk := by rw [enk]; exact e1
      have pk : nk.Pairwise (· < ·) := by rw [enk]; exact gk.as
      have eys : ys = nk.map V.int := by rw [enk]; exact eys
      have lyk : ys.length = nk.length := by rw [eys, List.length_map]
      have d1 : ∀ s ∈ nk, s ∉ flat 4 ((ls S).take i : List (Tr 3)) ++ flat 3 ((ls ti).take j : List (Tr 2)) ++ flat 2 ((ls tj).take k' : List (Tr 1)) := fun s hs q => by
        have hs : s ∈ flat 1 tk := by rw [fk]; exact hs
        rcases List.mem_append.mp q with q | q
        · exact d2 s (flat_mem (List.mem_of_getElem? htk) hs) q
        · exact (flat_nd htk gj.nd).2 s hs q
      have gn : Good nk := ⟨fk ▸ gk.inn, fk ▸ gk.nd⟩
      have l1 : nk.length ≤ 60 := by
        have := flat_len htk
        have e : (flat (1 + 1) (ls tj)).length = (flat (1 + 1) tj).length := rfl
        have e' : (flat 1 tk).length = nk.length := by rw [fk]
        omega
      have naf : a ≠ f := fun z => by rw [z, of_] at oa; cases oa
      have nbf : b ≠ f := fun z => by rw [z, of_] at ob; cases ob
      have ncf : c0 ≠ f := fun z => by rw [z, of_] at oc; cases oc
      have chain : ∀ G2, Same G G2 → ∀ u, BadG K (upd G2 f u) 0 (.ref f) (flat 4 ((ls S).take i : List (Tr 3)) ++ flat 3 ((ls ti).take j : List (Tr 2)) ++ flat 2 ((ls tj).take k' : List (Tr 1))) → BadS K (upd G2 f u) (.ref a) := fun G2 s2 u bad =>
        bad_top (i := i) at0 hA (by rw [upd_ne naf]; exact s2 _ _ hA) (by omega) (fun _ w _ hw => hw) (FrO.mk s2 of_) (fun j0 hj0 => nsuf1 (r := [k', j]) hj0) wf hl hvi (by omega) (bad_in (i := j) ati hB (by rw [upd_ne nbf]; exact s2 _ _ hB) lv1 (fun _ w _ hw => hw) (FrO.mk s2 of_) (fun j0 hj0 => nsuf2 (r := [k']) hj0) gi (fun s hs => d3 s (flat_pre hs)) (Nat.le_trans l3 (by decide)) hvj (by omega) (bad_in (i := k') atj hC (by rw [upd_ne ncf]; exact s2 _ _ hC) lx1 (fun _ w _ hw => hw) (FrO.mk s2 of_) (fun j0 hj0 => nsuf3 hj0) gj (fun s hs => d2 s (flat_pre hs)) (Nat.le_trans l2 (by decide)) hvk (by omega) bad))
      have sF : ∀ G2, Same G G2 → ∀ u, Same H (upd G2 f u) := fun G2 s2 u b0 u0 hb0 => by
        rw [upd_ne (fun z => by rw [z, (dom f _ of_).1] at hb0; cases hb0)]
        exact s2 _ _ (s1 _ _ hb0)
      obtain ⟨s0, rk, enk0⟩ : ∃ s0 rk, nk = s0 :: rk := by
        cases hnk : nk with
        | nil => exfalso; rw [hnk] at lyk; have : ys.length = 0 := lyk; omega
        | cons s0 rk => exact ⟨s0, rk, rfl⟩
      have s0k : s0 ∈ nk := by rw [enk0]; exact List.mem_cons_self ..
      have s0j : s0 ∈ flat 2 tj := flat_mem (List.mem_of_getElem? htk) (by rw [fk]; exact s0k)
      have s0i : s0 ∈ flat 3 ti := flat_mem (List.mem_of_getElem? htj) s0j
      have in0 := gn.inn s0 s0k
      have ay0 : atI ys 0 = some (.int s0) := atI_nat (j := 0) (by rw [eys, enk0]; rfl)
      obtain ⟨q, eq, hq⟩ : ∃ q : Nat, m / 16 % (us.length : Int) = q ∧ q < us.length := ⟨(m / 16 % (us.length : Int)).toNat, by have := Int.emod_nonneg (m / 16) (b := (us.length : Int)) (by omega); omega, by have := Int.emod_lt_of_pos (m / 16) (b := (us.length : Int)) (by omega); have := Int.emod_nonneg (m / 16) (b := (us.length : Int)) (by omega); omega⟩
      obtain ⟨vq, tq, hvq, htq, atq⟩ := at0.kid hA hq
      obtain ⟨bo, ws, rfl, obo, hW, lw⟩ := atq.lst
      have gq := wf.grp htq
      have aq : atI us (m / 16 % (us.length : Int)) = some (.ref bo) := by rw [eq]; exact atI_nat hvq
      have lq : (flat (2 + 1) tq).length ≤ 60 := by
        have := flat_len htq
        have e : (flat (3 + 1) (ls S)).length = (flat 4 S).length := rfl
        have e' : (flat (2 + 1) tq).length = (flat 3 tq).length := rfl
        omega
      have lw1 : ws.length ≤ 60 := by
        have := flat_full (fun g hg' => gq.fu.2 g hg') (ts := ls tq)
        have e : (flat (2 + 1) (ls tq)).length = (flat (2 + 1) tq).length := rfl
        omega
      have nao : a ≠ bo := fun z => by rw [z, obo] at oa; cases oa
      have nco : c0 ≠ bo := fun z => by rw [z, obo] at oc; cases oc
      have nfo : f ≠ bo := fun z => by rw [z, obo] at of_; cases of_
      walk_at "rd"
      refine ⟨a, _, rfl, .inl (SqL.of hA), ?_⟩
      walk_at "rd"
      refine ⟨by show (0 : Int) < us.length; omega, ?_⟩
      refine ⟨a, _, _, _, rfl, rfl, SqL.of hA, aq, ?_⟩
      walk_at "rd"
      refine ⟨.inl ⟨rfl, _, SqL.of hW⟩, ?_⟩
      refine ⟨_, rfl, f, _, _, _, rfl, rfl, SqL.of hF, ay0, le_ble rfl, fun p1 hp1 => ?_⟩
      have t1 := Same.new (o := HO.lst [V.int s0]) hp1
      have k1 := upd_same (H := G) (a := p1) (o := .lst [V.int s0])
      have np1 : p1 ≠ bo := fun z => by rw [z, hW] at hp1; cases hp1
      generalize upd G p1 (.lst [V.int s0]) = F1 at t1 k1 ⊢
      refine ⟨le_ble rfl, fun p2 hp2 => ?_⟩
      have t2 := Same.new (o := HO.lst [V.ref p1]) hp2
      have k2 := upd_same (H := F1) (a := p2) (o := .lst [V.ref p1])
      have np2 : p2 ≠ bo := fun z => by rw [z, t1 _ _ hW] at hp2; cases hp2
      have k1 := t2 _ _ k1
      have u2 := t1.trans t2
      generalize upd F1 p2 (.lst [V.ref p1]) = F2 at u2 k1 k2 ⊢
      refine ⟨bo, _, _, rfl, rfl, u2 _ _ hW, by omega, ?_⟩
      have sF : Same H (upd F2 bo (.lst (ws ++ [.ref p2]))) := fun b0 u0 hb0 => by
        rw [upd_ne (fun z => by rw [z, (dom bo _ obo).1] at hb0; cases hb0)]
        exact u2 _ _ (s1 _ _ hb0)
      have fr : FrO o G (upd F2 bo (.lst (ws ++ [.ref p2]))) [q] := FrO.mk u2 obo
      have kA : upd F2 bo (.lst (ws ++ [.ref p2])) a = some (.lst us) := by rw [upd_ne nao]; exact u2 _ _ hA
      have kO : upd F2 bo (.lst (ws ++ [.ref p2])) bo = some (.lst (ws ++ [.ref p2])) := upd_same
      have kC : upd F2 bo (.lst (ws ++ [.ref p2])) c0 = some (.lst xs) := by rw [upd_ne nco]; exact u2 _ _ hC
      have kF : upd F2 bo (.lst (ws ++ [.ref p2])) f = some (.lst ys) := by rw [upd_ne nfo]; exact u2 _ _ hF
      have kB : bo ≠ b → upd F2 bo (.lst (ws ++ [.ref p2])) b = some (.lst vs) := fun z => by rw [upd_ne (fun w => z w.symm)]; exact u2 _ _ hB
      have k1 : upd F2 bo (.lst (ws ++ [.ref p2])) p1 = some (.lst [V.int s0]) := by rw [upd_ne np1]; exact k1
      have k2 : upd F2 bo (.lst (ws ++ [.ref p2])) p2 = some (.lst [V.ref p1]) := by rw [upd_ne np2]; exact k2
      generalize upd F2 bo (.lst (ws ++ [.ref p2])) = Gz at sF fr kA kO kC kF kB k1 k2 ⊢
      have bad : BadS K Gz (.ref a) := by
        rcases Nat.lt_or_ge q i with hqi | hqi
        rotate_left
        · have low : ∀ S' : List Int, s0 ∈ S' → BadG K Gz 1 (.ref p2) S' := fun S' hm =>
            .inr (.inr ⟨p2, [.ref p1], .ref p1, [], rfl, k2, le_ble rfl, fun j w t _ h => (by rw [List.getElem?_nil] at h; cases h), List.nodup_nil, Nat.zero_le _, fun _ h => (nomatch h), rfl, .inr (.inr ⟨p1, [.int s0], [], .int s0, rfl, k1, le_ble rfl, rfl, Nat.zero_le _, ⟨fun _ h => (nomatch h), List.nodup_nil⟩, .nil, fun _ h => (nomatch h), rfl, .inr ⟨s0, rfl, in0, .inr (List.mem_append_left _ hm)⟩⟩)⟩)
          refine bad_top (i := q) at0 hA kA (by omega) (fun _ w _ hw => hw) fr (fun j0 hj0 => nsuf1 (r := []) hj0) wf hl hvq (by omega) ?_
          refine bad_in (n := 1) (i := ws.length) atq hW kO (by rw [List.length_append]; show ws.length + 1 ≤ 1000; omega) (fun j0 w hj0 hw => by rw [List.getElem?_append_left hj0] at hw; exact hw) fr (fun j0 hj0 => nsufL (le_ble rfl)) gq (fun s hs => (flat_nd htq wf.nd).2 s (flat_pre (n := 1) hs)) (Nat.le_trans lq (by decide)) (by rw [List.getElem?_append_right (Nat.le_refl _), Nat.sub_self]; rfl) (by omega) (low _ ?_)
          rw [List.take_of_length_le (Nat.le_of_eq lw.symm)]
          rcases Nat.lt_or_ge i q with z | z
          · refine List.mem_append_left _ (flat_mem (t := ti) (List.mem_of_getElem? (i := i) ?_) s0i)
            rw [List.getElem?_take_of_lt z]
            exact hti
          · have e : i = q := by omega
            subst e
            rw [hti] at htq
            cases htq
            exact List.mem_append_right _ s0i
        · have nb : bo ≠ b := fun z => by rw [z, ob] at obo; cases obo; omega
          have kB := kB nb
          have wf1 : WF ((ls S).take i : List (Tr 3)) := by
            have e := flat_cut (ls S) i
            have q1 : flat 4 S = flat (3 + 1) (ls S) := rfl
            have nd1 := wf.nd
            rw [q1, e] at nd1
            exact ⟨fun g hg => wf.fu g (List.mem_of_mem_take hg), fun g hg => wf.as g (List.mem_of_mem_take hg), fun s hs => wf.inn s (flat_pre (n := 2) hs), (List.nodup_append.mp nd1).1⟩
          have htq1 : ((ls S).take i)[q]? = some tq := by rw [List.getElem?_take_of_lt hqi]; exact htq
          have s0n : s0 ∉ flat 4 ((ls S).take i : List (Tr 3)) := (flat_nd hti wf.nd).2 s0 s0i
          obtain ⟨t3, et3⟩ : ∃ t3 : Tr 3, t3 = show Tr 3 from (ls tq ++ [solo 2 s0] : List (Tr 2)) := ⟨_, rfl⟩
          have pt : Put ((ls S).take i : List (Tr 3)) s0 (((ls S).take i).set q t3 : List (Tr 3)) := by rw [et3]; exact (PutG.app tq s0).top htq1
          have wf2 := pt.wf wf1 s0n in0
          have lt1 : ((ls S).take i).length = i := by rw [List.length_take]; omega
          have lt2 : (((ls S).take i).set q t3).length = i := by rw [List.length_set]; exact lt1
          have mem2 : ∀ s, s ∈ flat 4 (((ls S).take i).set q t3 : List (Tr 3)) ↔ s ∈ flat 4 ((ls S).take i : List (Tr 3)) ∨ s = s0 := fun s => by
            rw [pt.p.mem_iff, List.mem_append, List.mem_singleton]
          have lf2 : (flat 4 (((ls S).take i).set q t3 : List (Tr 3))).length ≤ 300 := by
            have h1 := pt.p.length_eq
            rw [List.length_append] at h1
            have h2 := flat_le (ls S) i
            have e : (flat (3 + 1) (ls S)).length = (flat 4 S).length := rfl
            have e' : (flat (3 + 1) ((ls S).take i : List (Tr 3))).length = (flat 4 ((ls S).take i : List (Tr 3))).length := rfl
            have e'' : [s0].length = 1 := rfl
            omega
          refine .inr ⟨a, us, .ref b, ((ls S).take i).set q t3, rfl, kA, by omega, fun j0 w t hw ht => ?_, wf2.nd, lf2, by rw [lt2]; exact hvi, ?_⟩
          · refine ⟨?_, wf2.grp ht⟩
            by_cases ej : j0 = q
            · subst ej
              rw [hvq] at hw
              cases hw
              rw [List.getElem?_set_self (by omega)] at ht
              cases ht
              rw [et3]
              refine ⟨bo, ws ++ [.ref p2], rfl, kO, by rw [List.length_append]; show ws.length + 1 = (ls tq ++ [solo 2 s0]).length; rw [List.length_append, lw]; rfl, fun j1 w1 t1 hw1 ht1 => ?_⟩
              have ht1 : (ls tq ++ [solo 2 s0])[j1]? = some t1 := ht1
              rcases Nat.lt_or_ge j1 ws.length with z | z
              · rw [List.getElem?_append_left z] at hw1
                rw [List.getElem?_append_left (by omega)] at ht1
                obtain ⟨w', t', e1, e2, h⟩ := atq.kid hW z
                rw [hw1] at e1
                cases e1
                rw [ht1] at e2
                cases e2
                exact fr _ _ _ _ h (nsufL (le_ble rfl))
              · have hj1 := (List.getElem?_eq_some_iff.mp hw1).1
                rw [List.length_append] at hj1
                have hj1 : j1 < ws.length + 1 := hj1
                have e : j1 = ws.length := by omega
                subst e
                rw [List.getElem?_append_right (Nat.le_refl _), Nat.sub_self] at hw1
                cases hw1
                rw [List.getElem?_append_right (by omega), show ws.length - (ls tq).length = 0 by omega] at ht1
                cases ht1
                refine ⟨p2, [.ref p1], rfl, k2, rfl, fun j2 w2 t2 hw2 ht2 => ?_⟩
                match j2, hw2, ht2 with
                | 0, hw2, ht2 =>
                  cases hw2
                  cases ht2
                  refine ⟨p1, [.int s0], rfl, k1, rfl, fun j3 w3 t3 hw3 ht3 => ?_⟩
                  match j3, hw3, ht3 with
                  | 0, hw3, ht3 => cases hw3; cases ht3; rfl
                  | _ + 1, hw3, _ => cases hw3
                | _ + 1, hw2, _ => cases hw2
            · rw [List.getElem?_set_ne (fun z => ej z.symm)] at ht
              have hji : j0 < i := by
                have := (List.getElem?_eq_some_iff.mp ht).1
                omega
              rw [List.getElem?_take_of_lt hji] at ht
              obtain ⟨w', t', e1, e2, h⟩ := at0.kid hA (List.getElem?_eq_some_iff.mp hw).1
              rw [hw] at e1
              cases e1
              rw [ht] at e2
              cases e2
              exact fr _ _ _ _ h (fun z => ej (suf1 (r := []) z))
          · refine bad_in (n := 1) (i := j) ati hB kB lv1 (fun _ w _ hw => hw) fr (fun j0 hj0 => nsufL (le_ble rfl)) gi (fun s hs q' => ?_) (Nat.le_trans l3 (by decide)) hvj (by omega) ?_
            · rcases (mem2 s).mp q' with z | z
              · exact d3 s (flat_pre (n := 1) hs) z
              · rw [z] at hs
                exact (flat_nd htj gi.nd).2 s0 s0j hs
            · refine bad_in (n := 0) (i := k') atj hC kC lx1 (fun _ w _ hw => hw) fr (fun j0 hj0 => nsufL (le_ble rfl)) gj (fun s hs q' => ?_) (Nat.le_trans l2 (by decide)) hvk (by omega) ?_
              · rcases List.mem_append.mp q' with z | z
                · rcases (mem2 s).mp z with z | z
                  · exact d2 s (flat_pre (n := 0) hs) (List.mem_append_left _ z)
                  · rw [z] at hs
                    exact (flat_nd htk gj.nd).2 s0 (by rw [fk]; exact s0k) hs
                · exact d2 s (flat_pre (n := 0) hs) (List.mem_append_right _ z)
              · exact .inr (.inr ⟨f, ys, [], .int s0, rfl, kF, by omega, rfl, Nat.zero_le _, ⟨fun _ h => (nomatch h), List.nodup_nil⟩, .nil, fun _ h => (nomatch h), (by rw [eys, enk0]; rfl), .inr ⟨s0, rfl, in0, .inr (List.mem_append_left _ (List.mem_append_left _ ((mem2 s0).mpr (.inr rfl))))⟩⟩)
      refine ⟨_, rfl, rfl, _, rfl, ?_⟩
      refine ite2 (fun z => absurd (V.int.inj (of_decide_eq_true z)) (by decide)) (fun _ => ?_)
      refine iteF ?_
      refine ⟨_, rfl, rfl, _, rfl, ?_⟩
      refine ite2 (fun z => absurd (V.int.inj (of_decide_eq_true z)) (by decide)) (fun _ => ?_)
      exact ⟨_, rfl, k (.ref a) _ sF bad⟩
    · refine ⟨_, rfl, rfl, _, rfl, ?_⟩
      refine ite2 (fun z => absurd (V.int.inj (of_decide_eq_true z)) (by decide)) (fun _ => ?_)
      refine ⟨_, rfl, rfl, _, rfl, ?_⟩
      refine ite2 (fun z => absurd (V.int.inj (of_decide_eq_true z)) (by decide)) (fun _ => ?_)
      refine ⟨_, rfl, rfl, _, rfl, ?_⟩
      refine ite2 (fun z => absurd (V.int.inj (of_decide_eq_true z)) (by decide)) (fun _ => ?_)
      refine ⟨_, rfl, rfl, _, rfl, ?_⟩
      refine ite2 (fun z => absurd (V.int.inj (of_decide_eq_true z)) (by decide)) (fun _ => ?_)
      refine ⟨_, rfl, rfl, _, rfl, ?_⟩
      refine ite2 (fun z => absurd (V.int.inj (of_decide_eq_true z)) (by decide)) (fun _ => ?_)
      refine ⟨_, rfl, rfl, _, rfl, ?_⟩
      refine ite2 (fun z => absurd (V.int.inj (of_decide_eq_true z)) (by decide)) (fun _ => ?_)
      refine ⟨_, rfl, rfl, _, rfl, ?_⟩
      refine ite2 (fun z => absurd (V.int.inj (of_decide_eq_true z)) (by decide)) (fun _ => ?_)
      refine ⟨_, rfl, rfl, _, rfl, ?_⟩
      refine ite2 (fun _ => ?_) (fun z => absurd (decide_eq_true rfl) z)
      have l3 : (flat (2 + 1) ti).length ≤ 60 := by
        have := flat_len hti
        have e : (flat (3 + 1) (ls S)).length = (flat 4 S).length := rfl
        have e' : (flat (2 + 1) ti).length = (flat 3 ti).length := rfl
        omega
      have d3 : ∀ s ∈ flat (2 + 1) ti, s ∉ flat 4 ((ls S).take i : List (Tr 3)) := (flat_nd hti wf.nd).2
      have l2 : (flat (1 + 1) tj).length ≤ 60 := by
        have := flat_len htj
        have e : (flat (2 + 1) (ls ti)).length = (flat (2 + 1) ti).length := rfl
        have e' : (flat (1 + 1) tj).length = (flat 2 tj).length := rfl
        omega
      have d2 : ∀ s ∈ flat (1 + 1) tj, s ∉ flat 4 ((ls S).take i : List (Tr 3)) ++ flat 3 ((ls ti).take j : List (Tr 2)) := fun s hs q => by
        rcases List.mem_append.mp q with q | q
        · exact d3 s (flat_mem (List.mem_of_getElem? htj) hs) q
        · exact (flat_nd htj gi.nd).2 s hs q
      have lv1 : vs.length ≤ 1000 := by
        have := flat_full (fun g hg' => gi.fu.2 g hg') (ts := ls ti)
        have e : (flat (2 + 1) (ls ti)).length = (flat (2 + 1) ti).length := rfl
        omega
      have lx1 : xs.length ≤ 1000 := by
        have := flat_full (fun g hg' => gj.fu.2 g hg') (ts := ls tj)
        have e : (flat (1 + 1) (ls tj)).length = (flat (1 + 1) tj).length := rfl
        omega
      have nab : a ≠ b := fun z => by rw [z, ob] at oa; cases oa
      have nac : a ≠ c0 := fun z => by rw [z, oc] at oa; cases oa
      have nbc : b ≠ c0 := fun z => by rw [z, oc] at ob; cases ob
      have e1 := flat_ints tk
      obtain ⟨nk, enk⟩ : ∃ nk : List Int, nk = show List Int from tk := ⟨_, rfl⟩
      have fk : flat 1 tk = nk := by rw [enk]; exact e1
      have pk : nk.Pairwise (· < ·) := by rw [enk]; exact gk.as
      have eys : ys = nk.map V.int := by rw [enk]; exact eys
      have lyk : ys.length = nk.length := by rw [eys, List.length_map]
      have d1 : ∀ s ∈ nk, s ∉ flat 4 ((ls S).take i : List (Tr 3)) ++ flat 3 ((ls ti).take j : List (Tr 2)) ++ flat 2 ((ls tj).take k' : List (Tr 1)) := fun s hs q => by
        have hs : s ∈ flat 1 tk := by rw [fk]; exact hs
        rcases List.mem_append.mp q with q | q
        · exact d2 s (flat_mem (List.mem_of_getElem? htk) hs) q
        · exact (flat_nd htk gj.nd).2 s hs q
      have gn : Good nk := ⟨fk ▸ gk.inn, fk ▸ gk.nd⟩
      have l1 : nk.length ≤ 60 := by
        have := flat_len htk
        have e : (flat (1 + 1) (ls tj)).length = (flat (1 + 1) tj).length := rfl
        have e' : (flat 1 tk).length = nk.length := by rw [fk]
        omega
      have naf : a ≠ f := fun z => by rw [z, of_] at oa; cases oa
      have nbf : b ≠ f := fun z => by rw [z, of_] at ob; cases ob
      have ncf : c0 ≠ f := fun z => by rw [z, of_] at oc; cases oc
      have chain : ∀ G2, Same G G2 → ∀ u, BadG K (upd G2 f u) 0 (.ref f) (flat 4 ((ls S).take i : List (Tr 3)) ++ flat 3 ((ls ti).take j : List (Tr 2)) ++ flat 2 ((ls tj).take k' : List (Tr 1))) → BadS K (upd G2 f u) (.ref a) := fun G2 s2 u bad =>
        bad_top (i := i) at0 hA (by rw [upd_ne naf]; exact s2 _ _ hA) (by omega) (fun _ w _ hw => hw) (FrO.mk s2 of_) (fun j0 hj0 => nsuf1 (r := [k', j]) hj0) wf hl hvi (by omega) (bad_in (i := j) ati hB (by rw [upd_ne nbf]; exact s2 _ _ hB) lv1 (fun _ w _ hw => hw) (FrO.mk s2 of_) (fun j0 hj0 => nsuf2 (r := [k']) hj0) gi (fun s hs => d3 s (flat_pre hs)) (Nat.le_trans l3 (by decide)) hvj (by omega) (bad_in (i := k') atj hC (by rw [upd_ne ncf]; exact s2 _ _ hC) lx1 (fun _ w _ hw => hw) (FrO.mk s2 of_) (fun j0 hj0 => nsuf3 hj0) gj (fun s hs => d2 s (flat_pre hs)) (Nat.le_trans l2 (by decide)) hvk (by omega) bad))
      have sF : ∀ G2, Same G G2 → ∀ u, Same H (upd G2 f u) := fun G2 s2 u b0 u0 hb0 => by
        rw [upd_ne (fun z => by rw [z, (dom f _ of_).1] at hb0; cases hb0)]
        exact s2 _ _ (s1 _ _ hb0)
      refine ⟨_, rfl, f, _, rfl, .inl (SqL.of hF), ?_⟩
      walk_at "rd"
      refine ite2 (fun z => ?_) (fun z => ?_)
      · have z := of_decide_eq_true z
        have ly2 : 1 < nk.length := by omega
        obtain ⟨x0, x1, r, er⟩ : ∃ x0 x1 r, nk.reverse = x0 :: x1 :: r := by
          match h : nk.reverse with
          | [] => have := congrArg List.length h; rw [List.length_reverse] at this; have : nk.length = 0 := this; omega
          | [_] => have := congrArg List.length h; rw [List.length_reverse] at this; have : nk.length = 1 := this; omega
          | x0 :: x1 :: r => exact ⟨x0, x1, r, rfl⟩
        have pw : (nk.reverse).Pairwise fun a b => b < a := List.pairwise_reverse.mpr pk
        rw [er, List.pairwise_cons] at pw
        have lt := pw.1 x1 (List.mem_cons_self ..)
        have mr : ∀ s, s ∈ nk.reverse → s ∈ nk := fun s hs => List.mem_reverse.mp hs
        rw [er] at mr
        have ey : ys.reverse = V.int x0 :: V.int x1 :: r.map V.int := by rw [eys, ← List.map_reverse, er]; rfl
        refine ⟨_, rfl, .inl ⟨rfl, _, SqL.of hF⟩, f, ys, rfl, rfl, hF, ?_⟩
        rw [ey]
        have lyr : (V.int x0 :: V.int x1 :: r.map V.int).length = ys.length := by rw [← ey, List.length_reverse]
        exact ⟨_, rfl, k (.ref a) _ (sF G (Same.refl _) _) (chain G (Same.refl _) _ (.inr (.inr ⟨f, _, [x0], .int x1, rfl, upd_same, by rw [lyr]; omega, rfl, le_ble rfl, ⟨fun s hs => by rw [List.mem_singleton.mp hs]; exact gn.inn x0 (mr x0 (List.mem_cons_self ..)), List.nodup_cons.mpr ⟨List.not_mem_nil, List.nodup_nil⟩⟩, List.pairwise_singleton .., fun s hs => by rw [List.mem_singleton.mp hs]; exact d1 x0 (mr x0 (List.mem_cons_self ..)), rfl, .inr ⟨x1, rfl, gn.inn x1 (mr x1 (List.mem_cons_of_mem _ (List.mem_cons_self ..))), .inl ⟨x0, rfl, by omega⟩⟩⟩)))⟩
      · have z : ¬ (ys.length : Int) > 1 := fun w => z (decide_eq_true w)
        obtain ⟨x0, er⟩ : ∃ x0, nk = [x0] := by
          match h : nk with
          | [] => have := congrArg List.length h; have : nk.length = 0 := this; omega
          | [x0] => exact ⟨x0, rfl⟩
          | _ :: _ :: r => have := congrArg List.length h; have : nk.length = r.length + 2 := this; omega
        have ey : ys = [V.int x0] := by rw [eys, er]; rfl
        subst ey
        refine ⟨_, rfl, rfl, _, rfl, ?_⟩
        refine ite2 (fun _ => ?_) (fun z => absurd (decide_eq_true rfl) z)
        refine ⟨_, rfl, .inl ⟨rfl, _, SqL.of hF⟩, _, rfl, f, _, _, _, rfl, rfl, SqL.of hF, atI_nat (j := 0) rfl, f, _, _, rfl, rfl, hF, le_ble rfl, ?_⟩
        have mr : x0 ∈ nk := by rw [er]; exact List.mem_singleton.mpr rfl
        exact ⟨_, rfl, k (.ref a) _ (sF G (Same.refl _) _) (chain G (Same.refl _) _ (.inr (.inr ⟨f, _, [x0], .int x0, rfl, upd_same, le_ble rfl, rfl, le_ble rfl, ⟨fun s hs => by rw [List.mem_singleton.mp hs]; exact gn.inn x0 mr, List.nodup_cons.mpr ⟨List.not_mem_nil, List.nodup_nil⟩⟩, List.pairwise_singleton .., fun s hs => by rw [List.mem_singleton.mp hs]; exact d1 x0 mr, rfl, .inr ⟨x0, rfl, gn.inn x0 mr, .inl ⟨x0, rfl, Int.le_refl _⟩⟩⟩)))⟩
set_option maxHeartbeats 4000000 in
theorem ok_law (T : Txt w K mg c) : FnOk P w K mg base CX0 13 c.a_law c.d_law ["_law_script"] (spLaw K) := by
  refine T.law.fn.ok sc_law (fun vs H Q E h => ?_) (fun cdv A outer s H vs Q E hr h => ?_)
  · obtain ⟨a, ns, rfl, _⟩ := h
    rfl
  · obtain ⟨a, ns, rfl, hS, hn, k⟩ := h
    refine ⟨_, (pss_cons (ps_set (i := 1) sc_law.nd rfl (Or.inl rfl) (pe_call (ok_Lsorting T) (hr.mono (by decide)) rfl T.Lsorting.mgf T.Lsorting.kp T.Lsorting.bi .nil pass0 (pa_cons (pv 0) (pa_cons pe_int (pa_cons pe_int pa_nil)))))
      (pss_cut (ps_if (pt_cmpR (op_eqD (hu62 hr)) (pv 1) (pe_lst pa_nil) (nomark _))
        (pss_one (ps_set (i := 1) sc_law.nd rfl (Or.inl rfl) (pe_lst (pa_cons (pe_lst (pa_cons (pe_lst (pa_cons (pe_lst (pa_cons pe_int (pa_cons pe_int pa_nil))) pa_nil)) pa_nil)) pa_nil))))
        pss_nil)
      (pss_cut (ps_for PassesOwn.never rfl (pi_range1 rfl T.no_range (pa_cons (pe_callB (call_min2 rfl) rfl T.no_min bt_min (pa_cons (pe_callB call_len_seq rfl T.no_len bt_len (pa_cons (pv 0) pa_nil)) (pa_cons pe_int pa_nil))) pa_nil)) (pg_name (i := 2) sc_law.nd rfl (Or.inl rfl))
        (pss_cons (ps_set (i := 3) sc_law.nd rfl (Or.inl rfl) (pe_op op_mod (pe_op op_mul (pe_call (ok_Ldrawn T) (hr.mono (by decide)) rfl T.Ldrawn.mgf T.Ldrawn.kp T.Ldrawn.bi .nil pass0 (pa_cons (pv 0) (pa_cons (pv 2) pa_nil))) pe_int) pe_int))
      (pss_cons (ps_set (i := 4) sc_law.nd rfl (Or.inl rfl) (pe_call (ok_Lspoilt T) (hr.mono (by decide)) rfl T.Lspoilt.mgf T.Lspoilt.kp T.Lspoilt.bi .nil pass0 (pa_cons (pv 1) (pa_cons (pv 3) pa_nil))))
      (pss_cons (ps_set (i := 5) sc_law.nd rfl (Or.inl rfl) (pe_ix ix_list (pe_lst (pa_cons pe_int (pa_cons pe_non (pa_cons (pe_ix ix_list (pe_ix ix_list (pe_ix ix_list (pe_ix ix_list (pv 1) pe_int (fun _ _ => rfl)) pe_int (fun _ _ => rfl)) pe_int (fun _ _ => rfl)) pe_int (fun _ _ => rfl)) (pa_cons pe_int pa_nil))))) (pe_op op_mod (pe_op op_fdiv (pv 3) pe_int) pe_int) (fun _ _ => rfl)))
      (pss_cons (ps_set (i := 6) sc_law.nd rfl (Or.inl rfl) (pe_ix ix_list (pe_lst (pa_cons (pe_tup (pa_cons pe_int pa_nil)) (pa_cons (pe_tup (pa_cons pe_int (pa_cons pe_int (pa_cons pe_int pa_nil)))) (pa_cons pe_non (pa_cons (pe_tup (pa_cons (pe_callB call_len_seq rfl T.no_len bt_len (pa_cons (pv 1) pa_nil)) pa_nil)) pa_nil))))) (pe_op op_mod (pe_op op_fdiv (pv 3) pe_int) pe_int) (fun _ _ => rfl)))
      (pss_one (ps_for PassesOwn.never rfl (pi_range1 rfl T.no_range (pa_cons pe_int pa_nil)) (pg_name (i := 7) sc_law.nd rfl (Or.inl rfl))
        (pss_one (ps_if (pt_not (pt_val (pe_call (ok_Lrefused T) (hr.mono (by decide)) rfl T.Lrefused.mgf T.Lrefused.kp T.Lrefused.bi .nil pass0 (pa_cons (pv 7) (pa_cons (pv 4) (pa_cons (pv 5) (pa_cons (pv 6) pa_nil)))))))
        (pss_one (ps_ret pe_bl))
        pss_nil)))))))))
      (pss_one (ps_ret (pe_call (ok_Lsame T 4) (hr.mono (by decide)) rfl T.Lsame.mgf T.Lsame.kp T.Lsame.bi .nil pass0 (pa_cons (pe_callS (ok_sorting_list T) (hr.mono (by decide)) rfl T.sorting_list.mgf T.sorting_list.kp T.sorting_list.bi .nil passE0 (pa_cons (pe_call (ok_Lcopy T) (hr.mono (by decide)) rfl T.Lcopy.mgf T.Lcopy.kp T.Lcopy.bi .nil pass0 (pa_cons (pv 1) pa_nil)) pa_nil)) (pa_cons (pv 1) pa_nil)))))))), ?_⟩
    have sz : 2000 < sizeLine := le_ble rfl
    have lm : (ns.map V.int).length = ns.length := List.length_map ..
    refine ⟨_, rfl, a, ns, 40, rfl, by decide, by decide, hS, hn, fun v0 G0 S0 sG0 nw0 wf0 hl0 => ?_⟩
    refine ⟨fun σ G => Same H G ∧ ∃ v, ∃ S : Tr 4, σ = [some (.ref a), some v, none, none, none, none, none, none] ∧ AtR G 4 v S ∧ WF S ∧ ls S ≠ [] ∧ (flat 4 S).length ≤ 60, ?_, ?_⟩
    · obtain ⟨r, us, rfl, hr, lu⟩ := nw0.r.lst
      refine ⟨_, rfl, le_ble rfl, fun e he => ?_⟩
      have t0 := Same.new (o := HO.lst []) he
      refine ⟨0, _, by decide, seqNil (SqL.of (t0 _ _ hr)) (SqL.of upd_same), _, rfl, ?_⟩
      generalize upd G0 e (.lst []) = G1 at t0 ⊢
      refine iteB (fun z => ?_) (fun z => ?_)
      · refine ⟨le_ble rfl, fun q1 h1 => ?_⟩
        have t1 := Same.new (o := HO.lst [V.int 3, V.int 5]) h1
        have k1 := at35 (upd_same (H := G1) (a := q1) (o := .lst [V.int 3, V.int 5]))
        generalize upd G1 q1 (.lst [V.int 3, V.int 5]) = F1 at t1 k1 ⊢
        refine ⟨le_ble rfl, fun q2 h2 => ?_⟩
        have t2 := Same.new (o := HO.lst [V.ref q1]) h2
        have k2 := AtR.one (upd_same (H := F1) (a := q2) (o := .lst [V.ref q1])) (k1.same t2)
        generalize upd F1 q2 (.lst [V.ref q1]) = F2 at t2 k2 ⊢
        refine ⟨le_ble rfl, fun q3 h3 => ?_⟩
        have t3 := Same.new (o := HO.lst [V.ref q2]) h3
        have k3 := AtR.one (upd_same (H := F2) (a := q3) (o := .lst [V.ref q2])) (k2.same t3)
        generalize upd F2 q3 (.lst [V.ref q2]) = F3 at t3 k3 ⊢
        refine ⟨le_ble rfl, fun q4 h4 => ?_⟩
        have t4 := Same.new (o := HO.lst [V.ref q3]) h4
        have k4 := AtR.one (upd_same (H := F3) (a := q4) (o := .lst [V.ref q3])) (k3.same t4)
        exact ⟨sG0.trans (t0.trans (t1.trans (t2.trans (t3.trans t4)))), .ref q4, S35, rfl, k4, wf35, (by intro z; cases z), (by decide)⟩
      · exact ⟨sG0.trans t0, .ref r, S0, rfl, nw0.r.same t0, wf0, (fun q => by rw [q] at lu; have e : us = [] := List.length_eq_zero_iff.mp lu; rw [e] at z; cases z), hl0⟩
    rintro σ G ⟨sG, v, S, rfl, hat, wf, hne, hl⟩
    clear nw0 wf0 hl0 sG0
    have sm := small_S wf.fu (by omega : (flat 4 S).length ≤ 1000)
    refine ⟨fun σ G' => Same G G' ∧ ∃ z2 z3 z4 z5 z6 z7, σ = [some (.ref a), some v, z2, z3, z4, z5, z6, z7], ?_, ?_⟩
    rotate_left
    · rintro σ G' ⟨s', z2, z3, z4, z5, z6, z7, rfl⟩
      refine ⟨_, rfl, v, S, rfl, hat.same s', by omega, wf.fu, fun h G1 s1 n1 => ?_⟩
      refine ⟨h, rfl, .inl ⟨S, n1.r, wf, by omega, fun f G2 s2 n2 => ?_⟩⟩
      exact ⟨_, rfl, f, v, S, rfl, n2.r, hat.same (s'.trans (s1.trans s2)), sm, k _⟩
    obtain ⟨a0, u0, rfl, hA, lA⟩ := hat.lst
    have zA : 0 < u0.length := by rw [lA]; exact List.length_pos_iff.mpr hne
    obtain ⟨w1, g1, x1, y1, at1⟩ := hat.kid hA zA
    have f1 := wf.grp y1
    obtain ⟨b0, u1, rfl, hB, lB⟩ := at1.lst
    obtain ⟨w2, g2, x2, y2, at2⟩ := at1.kid hB (by rw [lB]; exact List.length_pos_iff.mpr f1.fu.1)
    have f2 := f1.kid y2
    obtain ⟨c0, u2, rfl, hC, lC⟩ := at2.lst
    obtain ⟨w3, g3, x3, y3, at3⟩ := at2.kid hC (by rw [lC]; exact List.length_pos_iff.mpr f2.fu.1)
    have f3 := f2.kid y3
    obtain ⟨d0, u3, rfl, hD, lD⟩ := at3.lst
    obtain ⟨w4, g4, x4, y4, at4⟩ := at3.kid hD (by rw [lD]; exact List.length_pos_iff.mpr f3.fu.1)
    have i1 : atI u0 0 = some (.ref b0) := atI_nat (j := 0) x1
    have i2 : atI u1 0 = some (.ref c0) := atI_nat (j := 0) x2
    have i3 : atI u2 0 = some (.ref d0) := atI_nat (j := 0) x3
    have i4 : atI u3 0 = some w4 := atI_nat (j := 0) x4
    walk_at "rd"
    refine ⟨a, _, rfl, .inl (sG.seq hS), ?_⟩
    walk_at "rd"
    have hm2 : (if (20 : Int) < ((ns.map V.int).length : Int) then (20 : Int) else ((ns.map V.int).length : Int)) ≤ ns.length ∧ (if (20 : Int) < ((ns.map V.int).length : Int) then (20 : Int) else ((ns.map V.int).length : Int)) ≤ 20 ∧ 0 ≤ (if (20 : Int) < ((ns.map V.int).length : Int) then (20 : Int) else ((ns.map V.int).length : Int)) := by
      split <;> omega
    generalize (if (20 : Int) < ((ns.map V.int).length : Int) then (20 : Int) else ((ns.map V.int).length : Int)) = hi at hm2 ⊢
    refine ⟨by omega, by omega, ?_⟩
    refine for_range (lo := 0) (fun i σ G' => Same G G' ∧ ∃ z2 z3 z4 z5 z6 z7, σ = [some (.ref a), some (.ref a0), z2, z3, z4, z5, z6, z7]) ?_ ?_ ?_
    · exact ⟨Same.refl _, _, _, _, _, _, _, rfl⟩
    rotate_left
    · rintro σ G' h
      exact h
    rintro i σ G' hi' ⟨s', z2, z3, z4, z5, z6, z7, rfl⟩
    refine ⟨_, rfl, _, rfl, a, 0 + (i : Int), ns, rfl, by omega, by omega, hn, (sG.trans s').seq hS, fun d d0' => ?_⟩
    walk_at "rd"
    have nb0 := Int.emod_nonneg (d * 48271) (b := 2147483647) (by decide)
    refine ⟨.ref a0, d * 48271 % 2147483647, S, rfl, hat.same s', wf, hne, hl, nb0, fun bw G2 s2 bad => ?_⟩
    have s02 := s'.trans s2
    obtain ⟨nb, enb⟩ : ∃ nb, nb = d * 48271 % 2147483647 := ⟨_, rfl⟩
    walk_at "rd"
    refine ⟨a0, _, _, _, rfl, rfl, SqL.of (s02 _ _ hA), i1, ?_⟩
    refine ⟨b0, _, _, _, rfl, rfl, SqL.of (s02 _ _ hB), i2, ?_⟩
    refine ⟨c0, _, _, _, rfl, rfl, SqL.of (s02 _ _ hC), i3, ?_⟩
    refine ⟨d0, _, _, _, rfl, rfl, SqL.of (s02 _ _ hD), i4, ?_⟩
    refine ⟨le_ble rfl, fun q1 h1 => ?_⟩
    have t1 := Same.new (o := HO.lst [V.int 6, .non, w4, .int 0]) h1
    have k1 := upd_same (H := G2) (a := q1) (o := .lst [V.int 6, .non, w4, .int 0])
    generalize upd G2 q1 (.lst [V.int 6, .non, w4, .int 0]) = F1 at t1 k1 ⊢
    walk_at "rd"
    obtain ⟨x, hx, _⟩ := atI_in (xs := [V.int 6, .non, w4, .int 0]) (i := nb / 7 % 4) (Int.emod_nonneg _ (by decide)) (by show _ < (4 : Int); exact Int.emod_lt_of_pos _ (by decide))
    rw [enb] at hx
    refine ⟨q1, _, _, x, rfl, rfl, SqL.of k1, hx, ?_⟩
    refine ⟨le_ble rfl, fun q2 h2 => ?_⟩
    have t2 := Same.new (o := HO.tup [V.int 0]) h2
    generalize upd F1 q2 (.tup [V.int 0]) = F2 at t2 ⊢
    refine ⟨le_ble rfl, fun q3 h3 => ?_⟩
    have t3 := Same.new (o := HO.tup [V.int 5, .int 5, .int 5]) h3
    generalize upd F2 q3 (.tup [V.int 5, .int 5, .int 5]) = F3 at t3 ⊢
    have s03 := s02.trans (t1.trans (t2.trans t3))
    refine ⟨_, rfl, a0, _, rfl, .inl (SqL.of (s03 _ _ hA)), le_ble rfl, fun q4 h4 => ?_⟩
    have t4 := Same.new (o := HO.tup [V.int (u0.length : Int)]) h4
    generalize upd F3 q4 (.tup [V.int (u0.length : Int)]) = F4 at t4 ⊢
    refine ⟨le_ble rfl, fun q5 h5 => ?_⟩
    have t5 := Same.new (o := HO.lst [V.ref q2, .ref q3, .non, .ref q4]) h5
    have k5 := upd_same (H := F4) (a := q5) (o := .lst [V.ref q2, .ref q3, .non, .ref q4])
    generalize upd F4 q5 (.lst [V.ref q2, .ref q3, .non, .ref q4]) = F5 at t5 k5 ⊢
    walk_at "rd"
    obtain ⟨p, hp, _⟩ := atI_in (xs := [V.ref q2, .ref q3, .non, .ref q4]) (i := nb / 28 % 4) (Int.emod_nonneg _ (by decide)) (by show _ < (4 : Int); exact Int.emod_lt_of_pos _ (by decide))
    rw [enb] at hp
    refine ⟨q5, _, _, p, rfl, rfl, SqL.of k5, hp, ?_⟩
    have s25 := t1.trans (t2.trans (t3.trans (t4.trans t5)))
    have bad5 := bad.same s25
    walk_at "rd"
    refine ⟨by decide, by decide, ?_⟩
    refine for_range (n := (5 : Int).toNat) (lo := 0) (fun j σ G' => Same F5 G' ∧ ∃ z2 z3 z7, σ = [some (.ref a), some (.ref a0), z2, z3, some bw, some x, some p, z7]) ?_ ?_ ?_
    · exact ⟨Same.refl _, _, _, _, rfl⟩
    · rintro j σ G6 hj ⟨s6, z2, z3, z7, rfl⟩
      exact ⟨_, rfl, _, rfl, _, rfl, _, rfl, _, bw, x, p, rfl, bad5.same s6, fun G7 s7 => ⟨_, rfl, iteF ⟨s6.trans s7, _, _, _, rfl⟩⟩⟩
    · rintro σ G6 ⟨s6, z2, z3, z7, rfl⟩
      exact ⟨s02.trans (s25.trans s6), _, _, _, _, _, _, rfl⟩
end
theorem fnM {K : PySem.W.Frag} {h : Heap} {mg : Str → Option Value} {x : Str} {st : Stmt} {ps : List Str} {f : Addr} {oc : Value} {od an : Option Addr} {osl : Array (Option Value)} {kV doc pm cdv ct : Value} (X : K.In h) (G : h.Ns mainGlobals mg) (a : PySem.W.nsIn K mainGlobals x = some (some (.ref f)))
    (l : K.lookup f = some ⟨oc, od, .func (PySem.W.fnOf x x (defArgs st) (defBody st) (defScope st) .none kV doc pm an cdv ct), osl⟩) (c : PySem.W.codeIn K cdv x = true) (k : PySem.W.keepIn K (.ref f) = true)
    (b : ∀ (kV doc pm : Value) (an : Option Addr) (cdv ct : Value) (us : List Value), us.length = ps.length → bindArgs (PySem.W.fnOf x x (defArgs st) (defBody st) (defScope st) .none kV doc pm an cdv ct) ⟨us, []⟩ = pure (ps.zip us)) : Fn K mg x st ps f (PySem.W.fnOf x x (defArgs st) (defBody st) (defScope st) .none kV doc pm an cdv ct) := ⟨fun_mk l c k, PySem.W.mg_of X G a, (fun_mk l c k).binds b⟩
theorem kdM {w : World} {K : PySem.W.Frag} {u : Addr} {kvs : List (Str × V)} {e : List DictEntry} {n : Nat} (h1 : K.lookup u = some ⟨.type "dict", none, .dict e.toArray n, #[]⟩) (h2 : Paired (EntryIs w) kvs e) (h3 : (kvs.map (·.1)).Nodup) : KDict w K u kvs := ⟨⟨_, _, h1, h2⟩, h3⟩
theorem naM {K : PySem.W.Frag} {a : Addr} {n : Str} (h : PySem.W.findIn K (.ref a) n = some none) : NoAttr K a n := h
theorem sqM {K : PySem.W.Frag} {a : Addr} {o : Obj} {xs : List V} {i : List Value} {n : Nat} (hk : K.lookup a = some o) (hc : o.cls = .type "tuple") (hd : o.data = .seq i.toArray n) (hv : Vals xs i) (hz : xs.length ≤ sizeLine) : ∀ H, SqT K H a xs := fun H => sqT_of hk hc hd (by rw [List.size_toArray, ← hv.length]; exact hz) (by simpa using hv)
theorem all_mk {l : PySem.W.OpenLaw} {w : World} {K : PySem.W.Frag} {mg : Str → Option Value} {fa : Addr} {x0 x2 x4 x6 x8 x10 x12 x14 x16 x18 x20 x22 x24 x26 x28 x30 x32 x34 x36 x38 x40 x42 x44 x46 x48 x50 x52 x56 x57 x58 x59 x60 x61 x62 : Addr} {x1 x3 x5 x7 x9 x11 x13 x15 x17 x19 x21 x23 x25 x27 x29 x31 x33 x35 x37 x39 x41 x43 x45 x47 x49 x51 x53 : FuncData} {x54 x55 : Value}
    (hfa : mg "law" = some (.ref fa)) (T : Txt w K mg ⟨x0,x1,x2,x3,x4,x5,x6,x7,x8,x9,x10,x11,x12,x13,x14,x15,x16,x17,x18,x19,x20,x21,x22,x23,x24,x25,x26,x27,x28,x29,x30,x31,x32,x33,x34,x35,x36,x37,x38,x39,x40,x41,x42,x43,x44,x45,x46,x47,x48,x49,x50,x51,x52,x53,x54,x55,x56,x57,x58,x59,x60,x61,x62⟩) : ∃ fd : FuncData, (∀ (s : Shared) (v : Value), BindsTo s fd ⟨[v], []⟩ [("_law_script", v)]) ∧ ∀ base : Heap, K.In base → base.Ns mainGlobals mg → FnOk l.prog w K mg base CX0 13 fa fd ["_law_script"] (spLaw K) := by
  cases hfa.symm.trans T.law.mgf
  obtain ⟨_, _, _, _, _, _, _, _, _, e, _⟩ := T.law.fn.ex
  exact ⟨_, fun s v => by rw [e]; exact .of_eq rfl, fun base _ _ => ok_law T⟩
end My
namespace PySem.W.Fast
def tw860239388396378320:=0
def tw10410934542942943052:=0
def tw3472396855906305046:=0
def tw10012892169049004292:=0
def tw11939341273151891869:=0
def tw15550950141656699021:=0
def tw2030228727251197441:=0
def tw1622969382842640624:=0
def tw4101859027721472091:=0
def tw17455936610620397529:=0
def tw1105020382061750735:=0
def tw16315998364453796426:=0
def tw14310992662525272501:=0
def tw9384409425890702359:=0
def tw14512102071291282213:=0
def tw4142971880619898733:=0
def tw10100232038277551659:=0
def tw16603083621616322619:=0
def tw3551836264149400580:=0
def tw14847731602163006607:=0
def tw3337658114318951171:=0
def tw6771982759221729310:=0
def tw14868949232234321302:=0
def tw10484140750496436842:=0
def tw8133723342054657458:=0
def tw2565878867896494576:=0
def tw12631495722027627803:=0
def tw12896198926105958769:=0
def tw8346892998697703223:=0
def tw1499091561965281516:=0
def tw76075376543647912:=0
def tw15310288206425559853:=0
def tw1028716997511192425:=0
def tw4453911729075677839:=0
def tw3492104519342963727:=0
def tw12186493655175368848:=0
def tw2583470951889854447:=0
def tw2078519410715103266:=0
def tw11338984720343741027:=0
def tw2866851672149247877:=0
def tw16297391685832210389:=0
def tw5825373695207847292:=0
def tw13469827669071419036:=0
def tw4959559659965538598:=0
def tw2085431988158390059:=0
def tw6432595585427950025:=0
def tw6701450926697144387:=0
def tw14219385448438800484:=0
def tw2339850161486399146:=0
def tw13272525540832257705:=0
def tw15385165624597455843:=0
def tw8189815993053940004:=0
def tw16828122888264523212:=0
def tw12558369162633481936:=0
def tw12152501936794078203:=0
def tw7514314077175143138:=0
def tw6647269027235960781:=0
def tw3721300190414034355:=0
def tw17481935518103278918:=0
def tw16606896434098492368:=0
def tw13472908242076226778:=0
def tw3049540364600677646:=0
def tw9625553049171305047:=0
def tw5270990963257357676:=0
def tw8007750415279005940:=0
def tw9268858980541684070:=0
def tw5504012392491467347:=0
def tw10124081754798757149:=0
def tw4305087223828089790:=0
def tw16797770124720347269:=0
def tw18149736311838263164:=0
def tw4969588578397976272:=0
def tw8394730493478378387:=0
def tw15073644010962593819:=0
def tw14079537526378308548:=0
def tw1389209878041592385:=0
def tw7901595519399076316:=0
def tw5029365479924891757:=0
def tw12207890939963322769:=0
def tw874632107035764669:=0
def tw6041081297434787837:=0
def tw11647197827872271305:=0
def tw12434121480977408238:=0
def tw4201078738774131079:=0
def tw16059155817320929034:=0
def tw10583002003552420745:=0
def tw18307799953521396673:=0
def tw1699100614194224132:=0
def tw1055676287413120761:=0
def tw3088187069275074143:=0
def tw5340801948737699668:=0
def tw7433523861877718160:=0
def tw17001256667615642820:=0
def tw5336921203263820450:=0
def tw13297979950450607275:=0
def tw2690566112037167681:=0
def tw1193780934081174473:=0
def tw16709964027737008228:=0
def tw1512139399067666932:=0
def tw13198111302216640040:=0
def tw10420514635549545357:=0
def tw6038661162220657062:=0
def tw6785449365445115818:=0
def tw5482813993053939898:=0
def tw5876032850846921092:=0
def tw17787517732578612779:=0
def tw6548025778479216736:=0
def tw2076381545228560023:=0
def tw6922821194015390612:=0
def tw5678139706195521412:=0
def tw9140430316469344976:=0
def tw1697982709587146449:=0
def tw13773778932218590326:=0
def tw10669349814115004671:=0
def tw18129018336577762154:=0
def tw11545197439598984184:=0
def tw8547959334559851959:=0
def tw15344241115430339306:=0
def tw8325460983875857298:=0
def tw11128571212497413661:=0
def tw15826285400548139381:=0
def tw8296388629445987995:=0
def tw7894764153621020273:=0
def tw14847408491330687018:=0
def tw5443333597147592623:=0
def tw14258009755486209701:=0
def tw18278530251114164246:=0
def tw8345048602309516519:=0
def tw15624480201849065828:=0
def tw4297828497367130849:=0
def tw511823753894798029:=0
def tw17039605240277605287:=0
def tw2535582930211408205:=0
def tw13032752745501231085:=0
def tw4920164221410046349:=0
def tw3631989367364856691:=0
def tw1228868206824046646:=0
def tw96029835693116791:=0
def tw5814915567433427589:=0
def tw906336378183681999:=0
def tw3260268038954015798:=0
def tw1702500423803067006:=0
def tw12532455520622029367:=0
def tw7881038131398796182:=0
def tw927020378655881529:=0
def tw30898997014272550:=0
def tw5992456287569356224:=0
def tw9158152889089708601:=0
def tw12044530426403522380:=0
def tw12772135062217099026:=0
def tw15110032245809969365:=0
def tw290081552896055577:=0
def tw10583235441999686884:=0
def tw16297924415142598735:=0
def tw16535812903247668315:=0
def tw17905597068300287464:=0
def tw12166429749652322104:=0
def tw8602916038219800473:=0
def tw4298504287602920896:=0
def tw14173019631002096367:=0
def tw3828694693915155729:=0
def tw4918907970384298279:=0
def tw11889386313430130108:=0
def tw18255751675259292251:=0
def tw4160186569477098420:=0
def tw9425707545516106256:=0
def tw12847674151781440402:=0
def tw3892972001341890650:=0
def tw6675583972476266661:=0
def tw6876133329840741599:=0
def tw4637532236291005180:=0
def tw9056084566440878570:=0
def tw14855846235943930986:=0
def tw6662251211887011764:=0
def tw7026002708145724100:=0
def tw5289263817022586034:=0
def tw5063651439828187426:=0
def tw3724479281450226926:=0
def tw12862677557393212057:=0
def tw133643496615535296:=0
def tw13367071294989645853:=0
def tw6121945515528428026:=0
def tw7633119592394842496:=0
def tw14767953863906437224:=0
def tw16799147950403315610:=0
def tw9850414923109405778:=0
def tw15600595754955494028:=0
def tw9978510014809028905:=0
def tw17126629202806936412:=0
def tw5792508134738075277:=0
def tw6173670337494043088:=0
def tw9985194815846629279:=0
def tw1313093809370563575:=0
def tw11608469796815257726:=0
def tw5184713804061493789:=0
def tw10285916002659920777:=0
def tw7293220216475588807:=0
def tw4927990962710524009:=0
def tw12440609890568192228:=0
def tw2138195060999745954:=0
def tw10591178135517524925:=0
def tw16170304613272904522:=0
def tw9473141044030409358:=0
def tw7665860812254449578:=0
def tw3836315192180905839:=0
def tw12587085790539032393:=0
def tw6273186377378175327:=0
def tw14136513259312624325:=0
def tw17312758326800528545:=0
def tw11956877798604579534:=0
def tw13394193804294555596:=0
def tw1665115812621674290:=0
def tw6632079517323998849:=0
def tw2823915799082663126:=0
def tw5277232683252758757:=0
def tw8206615982869371568:=0
def tw12924444065253036431:=0
def tw14309989735539783910:=0
def tw7243692779536651932:=0
def tw15236143645657684853:=0
def tw15039670913684438078:=0
def tw5956755312921037222:=0
def tw18369987412641034741:=0
def tw6129296840885295530:=0
def tw17184992229773837871:=0
def tw11396403716592444358:=0
def tw5486672420681080005:=0
def tw16308449042110081552:=0
def tw10516855183786981237:=0
def tw10894523668791301942:=0
def tw5756173983142944609:=0
def tw2050160392965717758:=0
def tw10065066592165198391:=0
def tw8252996335607991987:=0
def tw17747536275511346827:=0
def tw5739059877491485649:=0
def tw13208560908628431460:=0
def tw14681973111146775908:=0
def tw18236010451432160547:=0
def tw15312224085861106573:=0
def tw16440089631764029905:=0
def tw13673627742074215626:=0
def tw11432238171426921117:=0
def tw14740302109292834728:=0
def tw354541474292984326:=0
def tw4942130664211118601:=0
def tw14139770695350880703:=0
def tw3570822494695826135:=0
def tw15906046324086847609:=0
def tw16294140523482266306:=0
def tw9792523116913538602:=0
def tw18372689459058363006:=0
def tw12506913122039453204:=0
def tw7490237608606673145:=0
def tw11352570126456173583:=0
def tw14969807188671876649:=0
def tw9907223905516871364:=0
def tw2437653360752039518:=0
def tw13948717109365225755:=0
def tw9601233086469407075:=0
def tw7425844448096820804:=0
def tw5757771012343083565:=0
def tw11197886811534965138:=0
def tw13287731881110183196:=0
def tw17934993125071224721:=0
def tw13426915608404120325:=0
def tw5835354189743620235:=0
def tw15323033764333687480:=0
def tw13350371143346385107:=0
def tw4944704864643096005:=0
def tw5136394137904673476:=0
def tw6202868230702386971:=0
def tw7518116555830646649:=0
def tw3079022232142292437:=0
def tw1372169406000999772:=0
def tw8531079102948928688:=0
def tw5182921294093993025:=0
def tw13764098659250822586:=0
def tw8638587215385043614:=0
def tw6161385573257256688:=0
def tw14547804966945330650:=0
def tw15425425349947441181:=0
def tw14896377770490486909:=0
def tw6203952288344223689:=0
def tw13171656074444145343:=0
def tw7557101019339443692:=0
def tw10451206796686237864:=0
def tw2901569614833769290:=0
def tw907632741476822369:=0
def tw11557370480642868254:=0
def tw4267282871223286730:=0
def tw1785781743269072933:=0
def tw15753595333460042906:=0
def tw2122004140956161357:=0
def tw14993448272966622908:=0
def tw17614341850458109762:=0
def tw12634361213917960990:=0
def tw16374866810530042743:=0
def tw18285696541725466899:=0
def tw4888008016249384876:=0
def tw17025550115060241838:=0
def tw6424276600662991171:=0
def tw1410596920529836079:=0
def tw15993800571193361685:=0
def tw2553396584649475724:=0
def tw10288908836807154493:=0
def tw3171600805253637200:=0
def tw7173868554116221366:=0
def tw14862067247459093731:=0
def tw3887606399150124550:=0
def tw17408174597371159045:=0
def tw8637061790081819922:=0
def tw2028543798755154394:=0
def tw207813503417474547:=0
def tw7167573162485825039:=0
def tw16717883025007302760:=0
def tw8401900411928114111:=0
def tw6117221949670748998:=0
end PySem.W.Fast
open PySem PySem.W PyProof.Rows
set_option maxRecDepth 100000 in
set_option maxHeartbeats 0 in
theorem PySem.Challenge.cw_rightname_k43_no_sortings_holds : PySem.Challenge.rw_rightname_k43_no_sortings.Holds := by
  w_on; o_law; k_head; (case hw => w_witness2)
  k_fill
  refine L2.walk_ofK (l := PySem.Challenge.rw_rightname_k43_no_sortings) (n := 63) (k := 13) (x := "_law_script") (CX := L2.CX0) (sp := My.spLaw) rfl (by decide) rfl ⟨rfl, by decide, by decide⟩ (fun w h Y => PySem.W.kIn_of Y) ?F ?S ?C
  case F =>
    intro w mg fa h KX G hmg
    refine' My.all_mk hmg ⟨My.fnM KX G ?h0 ?h1 ?h2 ?h3 ?n0, My.fnM KX G ?h4 ?h5 ?h6 ?h7 ?n1, My.fnM KX G ?h8 ?h9 ?h10 ?h11 ?n2, My.fnM KX G ?h12 ?h13 ?h14 ?h15 ?n3, My.fnM KX G ?h16 ?h17 ?h18 ?h19 ?n4, My.fnM KX G ?h20 ?h21 ?h22 ?h23 ?n5, My.fnM KX G ?h24 ?h25 ?h26 ?h27 ?n6, My.fnM KX G ?h28 ?h29 ?h30 ?h31 ?n7, My.fnM KX G ?h32 ?h33 ?h34 ?h35 ?n8, My.fnM KX G ?h36 ?h37 ?h38 ?h39 ?n9, My.fnM KX G ?h40 ?h41 ?h42 ?h43 ?n10, My.fnM KX G ?h44 ?h45 ?h46 ?h47 ?n11, My.fnM KX G ?h48 ?h49 ?h50 ?h51 ?n12, My.fnM KX G ?h52 ?h53 ?h54 ?h55 ?n13, My.fnM KX G ?h56 ?h57 ?h58 ?h59 ?n14, My.fnM KX G ?h60 ?h61 ?h62 ?h63 ?n15, My.fnM KX G ?h64 ?h65 ?h66 ?h67 ?n16, My.fnM KX G ?h68 ?h69 ?h70 ?h71 ?n17, My.fnM KX G ?h72 ?h73 ?h74 ?h75 ?n18, My.fnM KX G ?h76 ?h77 ?h78 ?h79 ?n19, My.fnM KX G ?h80 ?h81 ?h82 ?h83 ?n20, My.fnM KX G ?h84 ?h85 ?h86 ?h87 ?n21, My.fnM KX G ?h88 ?h89 ?h90 ?h91 ?n22, My.fnM KX G ?h92 ?h93 ?h94 ?h95 ?n23, My.fnM KX G ?h96 ?h97 ?h98 ?h99 ?n24, My.fnM KX G ?h100 ?h101 ?h102 ?h103 ?n25, My.fnM KX G ?h104 ?h105 ?h106 ?h107 ?n26, PySem.W.mg_of KX G ?h108, ?h109, PySem.W.mg_of KX G ?h110, ?h111, PySem.W.mg_of KX G ?h112, PySem.W.mg_of KX G ?h113, PySem.W.mg_of KX G ?h114, PySem.W.mg_of KX G ?h115, PySem.W.mg_of KX G ?h116, PySem.W.mg_of KX G ?h117, PySem.W.mg_of KX G ?h118, L2.XCls.mk2 ?h119 ?h120 ?h121 ?h122 ?h123 ?h124 ?h125 ?h126, ⟨?h127, ?h128, ?h129, ?h130, ?h131, ?h132, ?h133, ?h134⟩, ?h135, ?h136, ?h137, ?h138, ?h139, ?h140, ?h141, ?h142, L2.XCls.mk2 ?h143 ?h144 ?h145 ?h146 ?h147 ?h148 ?h149 ?h150, ⟨?h151, ?h152, ?h153, ?h154, ?h155, ?h156, ?h157, ?h158⟩, ?h159, ?h160, ?h161, ?h162, ?h163, ?h164, ?h165, ?h166, L2.XCls.mk2 ?h167 ?h168 ?h169 ?h170 ?h171 ?h172 ?h173 ?h174, ⟨?h175, ?h176, ?h177, ?h178, ?h179, ?h180, ?h181, ?h182⟩, ?h183, ?h184, ?h185, ?h186, ?h187, ?h188, ?h189, ?h190, PySem.W.mg_none_of KX G ?h191, PySem.W.mg_none_of KX G ?h192, PySem.W.mg_none_of KX G ?h193, PySem.W.mg_none_of KX G ?h194, PySem.W.mg_none_of KX G ?h195, PySem.W.mg_none_of KX G ?h196, PySem.W.mg_none_of KX G ?h197, PySem.W.mg_none_of KX G ?h198, PySem.W.mg_none_of KX G ?h199, PySem.W.mg_none_of KX G ?h200, PySem.W.mg_none_of KX G ?h201, PySem.W.mg_none_of KX G ?h202, PySem.W.mg_none_of KX G ?h203⟩
    case h0|h1|h2|h3|h4|h5|h6|h7|h8|h9|h10|h11|h12|h13|h14|h15|h16|h17|h18|h19|h20|h21|h22|h23|h24|h25|h26|h27|h28|h29|h30|h31|h32|h33|h34|h35|h36|h37|h38|h39|h40|h41|h42|h43|h44|h45|h46|h47|h48|h49|h50|h51|h52|h53|h54|h55|h56|h57|h58|h59|h60|h61|h62|h63|h64|h65|h66|h67|h68|h69|h70|h71|h72|h73|h74|h75|h76|h77|h78|h79|h80|h81|h82|h83|h84|h85|h86|h87|h88|h89|h90|h91|h92|h93|h94|h95|h96|h97|h98|h99|h100|h101|h102|h103|h104|h105|h106|h107|h108 => (try dsimp only) <;> k_is
    case h109 => (try dsimp only) <;> (first | exact L2.rel_int | exact L2.rel_str | exact rfl)
    case h110 => (try dsimp only) <;> k_is
    case h111 => (try dsimp only) <;> (first | exact L2.rel_int | exact L2.rel_str | exact rfl)
    case h112|h113|h114|h115|h116|h117|h118|h119|h120 => (try dsimp only) <;> k_is
    case h121|h122 => (try dsimp only) <;> kernel_rfl
    case h123|h124 => (try dsimp only) <;> k_is
    case h125|h126|h127 => (try dsimp only) <;> kernel_rfl
    case h128|h129|h130|h131|h132|h133|h134 => (try dsimp only) <;> k_is
    case h135|h136|h137|h138|h139|h140|h141|h142 => (try dsimp only) <;> kernel_rfl
    case h143|h144 => (try dsimp only) <;> k_is
    case h145|h146 => (try dsimp only) <;> kernel_rfl
    case h147|h148 => (try dsimp only) <;> k_is
    case h149|h150|h151 => (try dsimp only) <;> kernel_rfl
    case h152|h153|h154|h155|h156|h157|h158 => (try dsimp only) <;> k_is
    case h159|h160|h161|h162|h163|h164|h165|h166 => (try dsimp only) <;> kernel_rfl
    case h167|h168 => (try dsimp only) <;> k_is
    case h169|h170 => (try dsimp only) <;> kernel_rfl
    case h171|h172 => (try dsimp only) <;> k_is
    case h173|h174|h175 => (try dsimp only) <;> kernel_rfl
    case h176|h177|h178|h179|h180|h181|h182 => (try dsimp only) <;> k_is
    case h183|h184|h185|h186|h187|h188|h189|h190 => (try dsimp only) <;> kernel_rfl
    case h191|h192|h193|h194|h195|h196|h197|h198|h199|h200|h201|h202|h203 => (try dsimp only) <;> k_is
    case n0|n1|n2|n3|n4|n5|n6|n7|n8|n9|n10|n11|n12|n13|n14|n15|n16|n17|n18|n19|n20|n21|n22|n23|n24|n25|n26 => intro _ _ _ _ _ _ us hl; (repeat (replace hl := L2.lenS hl; obtain ⟨_, us, rfl, hl⟩ := hl)); obtain rfl := L2.len0 hl; rfl
  case S => exact fun K H a ns hl hO hS => ⟨a, ns, rfl, hS, hl, fun _ => rfl⟩
  case C => exact fun _ _ _ _ z => z
#print axioms PySem.Challenge.cw_rightname_k43_no_sortings_holds
