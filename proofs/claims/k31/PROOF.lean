import PyProof.Rows.All
import Wide.All
import OpenK.AllK
import Wide.FinOn
import Lean
import PyProof.EqAt
import PyProof.EqKinds
import PyProof.TupleCall
import PySem.Challenge.RW_rightname_k31_an_act
set_option Elab.async false
set_option linter.all false
set_option maxRecDepth 100000
namespace L2
open PySem PySem.Spec PyProof.Rows
abbrev Key := Sum Int Str
def keyIs : Key → Value → Bool
  | .inl k, v => Value.isInt k v
  | .inr x, v => Value.isStrOf x v
def keyH (w : World) : Key → Int
  | .inl k => hashInt k
  | .inr x => hashStr w x
theorem keyIs_shape : ∀ {k : Key} {v : Value}, keyIs k v = true → (∃ i t, k = Sum.inl i ∧ v = Value.int i t) ∨ (∃ x t, k = Sum.inr x ∧ v = Value.str x t)
  | .inl i, v, h => by
    obtain ⟨t, e⟩ := Value.isInt_shape (k := i) (v := v) h
    exact .inl ⟨i, t, rfl, e⟩
  | .inr x, v, h => by
    obtain ⟨t, e⟩ := Value.isStrOf_shape (x := x) (v := v) h
    exact .inr ⟨x, t, rfl, e⟩
theorem key_ll (a b : Int) : decide ((Sum.inl a : Key) = Sum.inl b) = (a == b) := by
  by_cases e : a = b
  · subst e; simp
  · have h : ¬ (Sum.inl a : Key) = Sum.inl b := fun q => e (Sum.inl.inj q)
    rw [decide_eq_false h]
    exact (beq_eq_false_iff_ne.mpr e).symm
theorem key_rr (a b : Str) : decide ((Sum.inr a : Key) = Sum.inr b) = decide (a = b) := by
  by_cases e : a = b
  · subst e; simp
  · have h : ¬ (Sum.inr a : Key) = Sum.inr b := fun q => e (Sum.inr.inj q)
    rw [decide_eq_false h, decide_eq_false e]
theorem key_lr (a : Int) (b : Str) : decide ((Sum.inl a : Key) = Sum.inr b) = false := decide_eq_false (fun q => nomatch q)
theorem key_rl (a : Str) (b : Int) : decide ((Sum.inr a : Key) = Sum.inl b) = false := decide_eq_false (fun q => nomatch q)
def mixKind (prog : Program) (w : World) : PySem.KeyKind prog w Key where
  is := keyIs
  hash := keyH w
  inj := fun v a b ha hb => by
    rcases keyIs_shape ha with ⟨i, t, rfl, rfl⟩ | ⟨x, t, rfl, rfl⟩
    · rcases keyIs_shape hb with ⟨j, u, rfl, e⟩ | ⟨y, u, rfl, e⟩
      · injection e with e1 _; rw [e1]
      · exact nomatch e
    · rcases keyIs_shape hb with ⟨j, u, rfl, e⟩ | ⟨y, u, rfl, e⟩
      · exact nomatch e
      · injection e with e1 _; rw [e1]
  byValue := fun k v h => by
    rcases keyIs_shape h with ⟨i, t, rfl, rfl⟩ | ⟨x, t, rfl, rfl⟩ <;> rfl
  pyHash := fun hv h => by
    rcases keyIs_shape hv with ⟨i, t, rfl, rfl⟩ | ⟨x, t, rfl, rfl⟩
    · exact wpAny_pyHash_int h
    · exact wpAny_pyHash_str h
  eqBool := fun hu hv h => by
    rcases keyIs_shape hu with ⟨i, t, rfl, rfl⟩ | ⟨x, t, rfl, rfl⟩
    · rcases keyIs_shape hv with ⟨j, u, rfl, rfl⟩ | ⟨y, u, rfl, rfl⟩
      · rw [key_ll] at h; exact wpAny_eqBool_int h
      · rw [key_lr] at h; exact SeqAt.EqAt.int_str i t y u _ _ _ _ h
    · rcases keyIs_shape hv with ⟨j, u, rfl, rfl⟩ | ⟨y, u, rfl, rfl⟩
      · rw [key_rl] at h; exact SeqAt.EqAt.str_int x t j u _ _ _ _ h
      · rw [key_rr] at h; exact wpAny_eqBool_str h
  «strs» := fun k x t v h => by
    rcases keyIs_shape h with ⟨i, u, rfl, e⟩ | ⟨y, u, rfl, e⟩
    · exact nomatch e
    · injection e with e1 _
      subst e1
      cases v <;> rfl
end L2
namespace L2
open PySem PySem.Spec PyProof.Rows
inductive V where
  | non | bl (b : Bool) | int (i : Int) | str (x : Str) | byt (b : Array UInt8) | flt (b : UInt64) | ref (a : Addr) | ty (n : String)
  deriving DecidableEq
def RelV : V → Value → Prop
  | .non, u => u = Value.none
  | .bl b, u => u = Value.bool b
  | .int i, u => ∃ t, u = Value.int i t
  | .str x, u => ∃ t, u = Value.str x t
  | .byt b, u => ∃ t, u = Value.bytes b t
  | .flt b, u => ∃ t, u = Value.float b t
  | .ref a, u => u = Value.ref a
  | .ty n, u => u = Value.type n
abbrev Vals : List V → List Value → Prop := Paired RelV
theorem Vals.length {xs : List V} {us : List Value} (r : Vals xs us) : xs.length = us.length := Paired.length r
theorem Vals.get : ∀ {xs : List V} {us : List Value} {i : Nat} {x : V}, Vals xs us → xs[i]? = some x → ∃ u, us[i]? = some u ∧ RelV x u
  | _, _, _, _, .nil, e => by simp at e
  | _, _, 0, _, .cons r _, e => by simp at e; subst e; exact ⟨_, rfl, r⟩
  | _, _, i + 1, x, .cons _ t, e => by
    obtain ⟨u, h1, h2⟩ := Vals.get (i := i) (x := x) t (by simpa using e)
    exact ⟨u, by simpa using h1, h2⟩
theorem Vals.set {x : V} {u : Value} (r : RelV x u) : ∀ {xs : List V} {us : List Value} (i : Nat), Vals xs us → Vals (xs.set i x) (us.set i u)
  | _, _, _, .nil => .nil
  | _, _, 0, .cons _ t => .cons r t
  | _, _, i + 1, .cons q t => .cons q (Vals.set r i t)
theorem Vals.append : ∀ {xs ys : List V} {us ws : List Value}, Vals xs us → Vals ys ws → Vals (xs ++ ys) (us ++ ws)
  | _, _, _, _, .nil, s => s
  | _, _, _, _, .cons r t, s => .cons r (Vals.append t s)
theorem Vals.take : ∀ {xs : List V} {us : List Value} (n : Nat), Vals xs us → Vals (xs.take n) (us.take n)
  | _, _, 0, _ => .nil
  | _, _, _ + 1, .nil => .nil
  | _, _, n + 1, .cons r t => .cons r (Vals.take n t)
theorem Vals.drop : ∀ {xs : List V} {us : List Value} (n : Nat), Vals xs us → Vals (xs.drop n) (us.drop n)
  | _, _, 0, r => r
  | _, _, _ + 1, .nil => .nil
  | _, _, n + 1, .cons _ t => Vals.drop n t
def RelO : Option V → Option Value → Prop
  | some v, some u => RelV v u
  | none, none => True
  | _, _ => False
def KV {κ : Type} : List (κ × V) → List (κ × Value) → Prop := Paired fun (p : κ × V) (q : κ × Value) => p.1 = q.1 ∧ RelV p.2 q.2
def kV : Key → V
  | .inl i => .int i
  | .inr x => .str x
inductive HO where
    | lst (xs : List V)
    | tup (xs : List V)
    | dK (kvs : List (Key × V)) | dT (kvs : List (List Key × V))
    | set (S : Int → Bool) (n : Nat)
    | ins (C dx : Addr) (fs : List (Str × V))
    | own (x : Addr)
    | xd (fs : List (Str × V))
    | met (f x : Addr)
    | rng (lo hi : Int)
    | frz (o : Obj) (u : HO)
    | tbl (ps : Array Value)
    | ext (φ : Heap → Prop)
abbrev Hp := Addr → Option HO
def upd (H : Hp) (a : Addr) (o : HO) : Hp := fun b => if b = a then some o else H b
theorem upd_same {H : Hp} {a : Addr} {o : HO} : upd H a o a = some o := by unfold upd; rw [if_pos rfl]
theorem upd_ne {H : Hp} {a b : Addr} {o : HO} (h : b ≠ a) : upd H a o b = H b := by unfold upd; rw [if_neg h]
theorem ne_of {H : Hp} {a b : Addr} {o u : HO} (h : H a = some o) (h' : H b = some u) (d : o ≠ u) : a ≠ b := by
  intro e; subst e; rw [h] at h'; exact d (Option.some.inj h')
theorem ne_of_none {H : Hp} {a b : Addr} {o : HO} (h : H a = some o) (h' : H b = none) : a ≠ b := by
  intro e; subst e; rw [h] at h'; cases h'
section
variable (P : Program) (w : World)
def ObjOk (H : Hp) (h : Heap) (a : Addr) : HO → Prop
  | .lst xs => xs.length ≤ sizeLine ∧ ∃ (its : List Value) (n : Nat), Vals xs its ∧ h.get? a = some { cls := .type "list", data := .seq its.toArray n }
  | .tup xs => xs.length ≤ sizeLine ∧ ∃ its : List Value, Vals xs its ∧ IsTup h a its.toArray
  | .dK kvs => kvs.length ≤ sizeLine ∧ (a == sysModules) = false ∧ ∃ vs, KV kvs vs ∧ h.DictOf (mixKind P w) a vs
  | .dT kvs => kvs.length ≤ sizeLine ∧ (a == sysModules) = false ∧ ∃ xs : List (List Key × Addr × Value),
      Paired (fun (p : List Key × V) (q : List Key × Addr × Value) => p.1 = q.1 ∧ H q.2.1 = some (.tup (p.1.map kV)) ∧ RelV p.2 q.2.2) kvs xs ∧
      ∃ o es ep, h.get? a = some o ∧ o.ExactDict ∧ o.data = .dict es ep ∧ es.toList = xs.map (entryOfKey (tupleKind (mixKind P w))) ∧ (xs.map (·.1)).Nodup
  | .set S n => h.SetOf (intKind P w) a S n
  | .ins C dx fs => H dx = some (.own a) ∧ fs.length ≤ 1000 ∧ dx ≠ a ∧ h.get? a = some (PySem.W.instObj C dx) ∧
      ∃ mA, h.Ns1 dx mA ∧ (∀ f, RelO (fs.lookup f) (mA f)) ∧ PySem.Within mA (fs.map (·.1))
  | .own _ => ∃ o, h.get? a = some o
  | .xd fs => ∃ mA, h.Ns1 a mA ∧ ∀ f, RelO (fs.lookup f) (mA f)
  | .rng lo hi => ∃ t u v, h.get? a = some { cls := .type "range", data := .fields #[.int lo t, .int hi u, .int 1 v] }
  | .frz o u => h.get? a = some o ∧ ObjOk H h a u
  | .tbl ps => h.get? a = some { cls := .none, data := .fields ps }
  | .met f x => h.get? a = some (PySem.W.methodObj (.ref f) (.ref x))
  | .ext φ => φ h ∧ (∃ o, h.get? a = some o) ∧ ∀ h1 h2 : Heap, φ h1 → (∀ o, h1.get? a = some o → h2.get? a = some o) → φ h2
def HOk (H : Hp) (h : Heap) : Prop := ∀ a o, H a = some o → ObjOk P w H h a o
end
section
variable {P : Program} {w : World} {H H' : Hp} {h h' : Heap} {a : Addr} {o : HO}
theorem ObjOk.lt (x : ObjOk P w H h a o) : a < h.objs.size := by
  cases o with
  | lst xs => obtain ⟨_, _, _, _, e⟩ := x; exact Heap.lt_size e
  | tup xs => obtain ⟨_, _, _, p⟩ := x; exact p.lt
  | dK kvs => obtain ⟨_, _, _, _, o, _, _, e, _⟩ := x; exact Heap.lt_size e
  | dT kvs => obtain ⟨_, _, _, _, o, _, _, e, _⟩ := x; exact Heap.lt_size e
  | set S n => obtain ⟨o, _, _, _, e, _⟩ := x; exact Heap.lt_size e
  | ins C dx fs => obtain ⟨_, _, _, e, _⟩ := x; exact Heap.lt_size e
  | own y => obtain ⟨_, e⟩ := x; exact Heap.lt_size e
  | xd fs => obtain ⟨_, ⟨_, _, _, e, _⟩, _⟩ := x; exact Heap.lt_size e
  | rng lo hi => obtain ⟨_, _, _, e⟩ := x; exact Heap.lt_size e
  | frz ob u => obtain ⟨e, _⟩ := x; exact Heap.lt_size e
  | tbl ps => exact Heap.lt_size (show h.get? a = some _ from x)
  | met f y => exact Heap.lt_size (show h.get? a = some _ from x)
  | ext φ => obtain ⟨_, ⟨_, e⟩, _⟩ := x; exact Heap.lt_size e
theorem Paired.mapP {α β : Type} {F G : α → β → Prop} : ∀ {l₁ : List α} {l₂ : List β}, Paired F l₁ l₂ → (∀ a b, F a b → G a b) → Paired G l₁ l₂
  | _, _, .nil, _ => .nil
  | _, _, .cons r t, f => .cons (f _ _ r) (Paired.mapP t f)
theorem ObjOk.stay (x : ObjOk P w H h a o) (k : ∀ b u, (b = a ∨ H b = some (.own a)) → h.get? b = some u → h'.get? b = some u)
    (ho : ∀ b, H b = some (.own a) → H' b = some (.own a)) (ht : ∀ b xs, H b = some (.tup xs) → H' b = some (.tup xs)) : ObjOk P w H' h' a o := by
  induction o with
  | lst xs => obtain ⟨z, its, n, r, e⟩ := x; exact ⟨z, its, n, r, k _ _ (.inl rfl) e⟩
  | tup xs => obtain ⟨z, its, r, ob, e, c⟩ := x; exact ⟨z, its, r, ob, k _ _ (.inl rfl) e, c⟩
  | dK kvs => obtain ⟨z, y, vs, r, ob, es, ep, e, c⟩ := x; exact ⟨z, y, vs, r, ob, es, ep, k _ _ (.inl rfl) e, c⟩
  | dT kvs =>
    obtain ⟨z, y, xs, r, ob, es, ep, e, c⟩ := x
    exact ⟨z, y, xs, Paired.mapP r fun p q z => ⟨z.1, ht _ _ z.2.1, z.2.2⟩, ob, es, ep, k _ _ (.inl rfl) e, c⟩
  | set S n => obtain ⟨ob, es, ep, t, e, c⟩ := x; exact ⟨ob, es, ep, t, k _ _ (.inl rfl) e, c⟩
  | ins C dx fs =>
    obtain ⟨d, z, ne, e, mA, ⟨od, es, ep, e2, c⟩, r⟩ := x
    exact ⟨ho _ d, z, ne, k _ _ (.inl rfl) e, mA, ⟨od, es, ep, k _ _ (.inr d) e2, c⟩, r⟩
  | own y => obtain ⟨ob, e⟩ := x; exact ⟨ob, k _ _ (.inl rfl) e⟩
  | xd fs => obtain ⟨mA, ⟨od, es, ep, e, c⟩, r⟩ := x; exact ⟨mA, ⟨od, es, ep, k _ _ (.inl rfl) e, c⟩, r⟩
  | rng lo hi => obtain ⟨t, u, v, e⟩ := x; exact ⟨t, u, v, k _ _ (.inl rfl) e⟩
  | frz ob u ih => obtain ⟨e, q⟩ := x; exact ⟨k _ _ (.inl rfl) e, ih q⟩
  | tbl ps =>
    have e : h.get? a = some { cls := .none, data := .fields ps } := x
    show h'.get? a = some { cls := .none, data := .fields ps }
    exact k a _ (.inl rfl) e
  | met f y =>
    have e : h.get? a = some (PySem.W.methodObj (.ref f) (.ref y)) := x
    show h'.get? a = some (PySem.W.methodObj (.ref f) (.ref y))
    exact k a _ (.inl rfl) e
  | ext φ => obtain ⟨p, ⟨o, e⟩, st⟩ := x; exact ⟨st _ _ p fun o q => k _ _ (.inl rfl) q, ⟨o, k _ _ (.inl rfl) e⟩, st⟩
theorem HOk.lt (x : HOk P w H h) (e : H a = some o) : a < h.objs.size := (x a o e).lt
theorem HOk.fresh (x : HOk P w H h) (e : h.objs.size ≤ a) : H a = none := by
  cases q : H a with
  | none => rfl
  | some u => exact absurd (Nat.lt_of_lt_of_le (x.lt q) e) (Nat.lt_irrefl _)
theorem HOk.kept (x : HOk P w H h) (k : ∀ b u, h.get? b = some u → h'.get? b = some u) : HOk P w H h' := fun a o e =>
  (x a o e).stay (fun b u _ q => k b u q) (fun _ q => q) fun _ _ q => q
theorem HOk.laid (x : HOk P w H h) (k : ∀ b u, h.get? b = some u → h'.get? b = some u) (hp : h.objs.size ≤ a) (new : ObjOk P w (upd H a o) h' a o) : HOk P w (upd H a o) h' := fun b u e => by
  have hn := x.fresh hp
  by_cases hb : b = a
  · subst hb; rw [upd_same] at e; cases e; exact new
  · rw [upd_ne hb] at e
    exact (x b u e).stay (fun c v _ q => k c v q) (fun c q => by rw [upd_ne (ne_of_none q hn)]; exact q) fun c xs q => by rw [upd_ne (ne_of_none q hn)]; exact q
end
def Rd (H : Hp) (a : Addr) (u : HO) : Prop := H a = some u ∨ ∃ o, H a = some (.frz o u)
theorem Rd.of {H : Hp} {a : Addr} {u : HO} (h : H a = some u) : Rd H a u := .inl h
theorem Rd.ok {P : Program} {w : World} {H : Hp} {h : Heap} {a : Addr} {u : HO} (r : Rd H a u) (x : HOk P w H h) : ObjOk P w H h a u := by
  rcases r with r | ⟨o, r⟩
  · exact x a u r
  · obtain ⟨_, q⟩ := x a _ r
    exact q
def Mut : Option HO → Prop
  | some (.lst _) => True
  | some (.dK _) => True
  | some (.dT _) => True
  | some (.set _ _) => True
  | some (.ins _ _ _) => True
  | some (.ext _) => True
  | _ => False
section
variable {P : Program} {w : World} {H : Hp} {h h' : Heap} {x e : Addr} {o' : HO}
theorem HOk.write (ok : HOk P w H h) (mu : Mut (H x)) (he : e = x ∨ H e = some (.own x)) (k : ∀ b u, b ≠ e → h.get? b = some u → h'.get? b = some u) (heo : ∃ u, h'.get? e = some u)
    (new : ObjOk P w (upd H x o') h' x o') : HOk P w (upd H x o') h' := fun b u q => by
  have nown : ∀ c y, H c = some (.own y) → c ≠ x := fun c y r z => by subst z; rw [r] at mu; exact mu
  have ntup : ∀ c xs, H c = some (.tup xs) → c ≠ x := fun c xs r z => by subst z; rw [r] at mu; exact mu
  by_cases hb : b = x
  · subst hb; rw [upd_same] at q; cases q; exact new
  · rw [upd_ne hb] at q
    by_cases hbe : b = e
    · have q' : H b = some (.own x) := by
        rcases he with z | z
        · exact absurd (hbe.trans z) hb
        · rw [hbe]; exact z
      rw [q] at q'; cases q'
      obtain ⟨v, hv⟩ := heo
      exact ⟨v, by rw [hbe]; exact hv⟩
    · refine (ok b u q).stay (fun c v hc r => k c v ?_ r) (fun c r => by rw [upd_ne (nown c b r)]; exact r) fun c xs r => by rw [upd_ne (ntup c xs r)]; exact r
      rcases hc with rfl | hc
      · exact hbe
      · rintro rfl
        rcases he with z | z
        · exact nown c b hc z
        · rw [hc] at z; cases z; exact hb rfl
end
structure Un (fs ex : List Addr) (H H' : Hp) (h h' : Heap) : Prop where
  keep : ∀ b o, h.get? b = some o → H b = none → b ∉ fs → b ∉ ex → h'.get? b = some o
  slot : ∀ b o, h.get? b = some o → H b = none → b ∈ fs → b ∉ ex → ∃ sl, h'.get? b = some { o with slots := sl }
  free : ∀ b o, h.get? b = some o → H b = none → b ∉ ex → H' b = none
  there : ∀ b o, h.get? b = some o → b ∉ ex → ∃ o', h'.get? b = some o'
  tups : ∀ b xs, H b = some (.tup xs) → H' b = some (.tup xs)
  frzs : ∀ b o u, H b = some (.frz o u) → H' b = some (.frz o u)
  tbls : ∀ b ps, H b = some (.tbl ps) → ∃ more, H' b = some (.tbl (ps ++ more))
section
variable {fs fs' ex ex' : List Addr} {H H1 H2 : Hp} {h h1 h2 h' : Heap} {a x e : Addr} {o : HO}
theorem Un.any (u : Un fs ex H H1 h h1) {b : Addr} {ob : Obj} (q : h.get? b = some ob) (n : H b = none) (hx : b ∉ ex) : ∃ sl, h1.get? b = some { ob with slots := sl } := by
  by_cases hb : b ∈ fs
  · exact u.slot b ob q n hb hx
  · exact ⟨ob.slots, u.keep b ob q n hb hx⟩
theorem Un.trans (a : Un fs ex H H1 h h1) (b : Un fs ex H1 H2 h1 h2) : Un fs ex H H2 h h2 where
  keep := fun c ob q n hc hx => b.keep c ob (a.keep c ob q n hc hx) (a.free c ob q n hx) hc hx
  slot := fun c ob q n hc hx => by
    obtain ⟨sl, e1⟩ := a.slot c ob q n hc hx
    obtain ⟨sl', e2⟩ := b.slot c _ e1 (a.free c ob q n hx) hc hx
    exact ⟨sl', e2⟩
  free := fun c ob q n hx => by
    obtain ⟨o', e1⟩ := a.there c ob q hx
    exact b.free c o' e1 (a.free c ob q n hx) hx
  there := fun c ob q hx => by
    obtain ⟨o', e1⟩ := a.there c ob q hx
    exact b.there c o' e1 hx
  tups := fun c xs q => b.tups c xs (a.tups c xs q)
  frzs := fun c ob xs q => b.frzs c ob xs (a.frzs c ob xs q)
  tbls := fun c ps q => by
    obtain ⟨m1, e1⟩ := a.tbls c ps q
    obtain ⟨m2, e2⟩ := b.tbls c _ e1
    exact ⟨m1 ++ m2, by rw [e2, Array.append_assoc]⟩
theorem Un.kept (k : ∀ b u, h.get? b = some u → h'.get? b = some u) : Un fs ex H H h h' :=
  ⟨fun b ob q _ _ _ => k b ob q, fun b ob q _ _ _ => ⟨ob.slots, k b ob q⟩, fun _ _ _ n _ => n, fun b ob q _ => ⟨ob, k b ob q⟩, fun _ _ q => q, fun _ _ _ q => q, fun _ ps q => ⟨#[], by rw [q]; simp⟩⟩
theorem Un.refl : Un fs ex H H h h := Un.kept fun _ _ q => q
theorem Un.laid (k : ∀ b u, h.get? b = some u → h'.get? b = some u) (hp : h.objs.size ≤ a) (hn : H a = none) : Un fs ex H (upd H a o) h h' where
  keep := fun b u q _ _ _ => k b u q
  slot := fun b u q _ _ _ => ⟨u.slots, k b u q⟩
  free := fun b u q n _ => by rw [upd_ne (Nat.ne_of_lt (Nat.lt_of_lt_of_le (Heap.lt_size q) hp))]; exact n
  there := fun b u q _ => ⟨u, k b u q⟩
  tups := fun b xs q => by rw [upd_ne (ne_of_none q hn)]; exact q
  frzs := fun b u xs q => by rw [upd_ne (ne_of_none q hn)]; exact q
  tbls := fun b ps q => ⟨#[], by rw [upd_ne (ne_of_none q hn), q]; simp⟩
theorem Un.write (mu : Mut (H x)) (he : e = x ∨ H e = some (.own x)) (k : ∀ b u, b ≠ e → h.get? b = some u → h'.get? b = some u) (heo : ∃ u, h'.get? e = some u) : Un fs ex H (upd H x o) h h' := by
  have hx : ∀ b, H b = none → b ≠ x := fun b n z => by subst z; rw [n] at mu; exact mu
  have hb : ∀ b, H b = none → b ≠ e := fun b n z => by
    subst z
    rcases he with r | r
    · exact hx b n r
    · rw [n] at r; cases r
  have hm : ∀ b u, H b = some u → ¬ Mut (some u) → b ≠ x := fun b u q nm z => by subst z; rw [q] at mu; exact nm mu
  refine ⟨fun b u q n _ _ => k b u (hb b n) q, fun b u q n _ _ => ⟨u.slots, k b u (hb b n) q⟩, fun b u q n _ => by rw [upd_ne (hx b n)]; exact n, fun b u q _ => ?_,
    fun b xs q => by rw [upd_ne (hm b _ q fun z => z)]; exact q, fun b u xs q => by rw [upd_ne (hm b _ q fun z => z)]; exact q, fun b ps q => ⟨#[], by rw [upd_ne (hm b _ q fun z => z), q]; simp⟩⟩
  by_cases hbe : b = e
  · subst hbe; exact heo
  · exact ⟨u, k b u hbe q⟩
theorem Un.mono (u : Un fs ex H H1 h h1) (hs : ∀ b ∈ fs, b ∈ fs') (hx : ∀ b ∈ ex, b ∈ ex') : Un fs' ex' H H1 h h1 :=
  ⟨fun b ob q n hb he => u.keep b ob q n (fun z => hb (hs b z)) fun z => he (hx b z), fun _ _ q n _ he => u.any q n fun z => he (hx _ z), fun b ob q n he => u.free b ob q n fun z => he (hx b z), fun b ob q he => u.there b ob q fun z => he (hx b z), u.tups, u.frzs, u.tbls⟩
end
def trk (h : Heap) (H : Hp) : List Addr := (List.range h.objs.size).filter fun a => (H a).isSome
def hidT (h : Heap) (H : Hp) : Heap := PySem.W.hideAll h (trk h H)
theorem hidT_size (h : Heap) (H : Hp) : (hidT h H).objs.size = h.objs.size := PySem.W.hideAll_size _ _
theorem hidT_get {h : Heap} {H : Hp} {b : Addr} {o : Obj} (e : h.get? b = some o) (n : H b = none) : (hidT h H).get? b = some o :=
  PySem.W.hideAll_get _ e fun hm => by
    have q : (H b).isSome = true := (List.mem_filter.mp hm).2
    rw [n] at q; simp at q
theorem of_hidT {h : Heap} {H : Hp} {b : Addr} {o : Obj} (e : (hidT h H).get? b = some o) : h.get? b = some o ∧ H b = none := by
  have e' : h.get? b = some o := PySem.W.of_hideAll (trk h H) e
  refine ⟨e', ?_⟩
  cases q : H b with
  | none => rfl
  | some x =>
    have hm : b ∈ trk h H := List.mem_filter.mpr ⟨List.mem_range.mpr (Heap.lt_size e'), by simp [q]⟩
    have z : (hidT h H).get? b = none := PySem.W.hideAll_none (trk h H) hm
    rw [z] at e; cases e
def allNews (g h : Heap) (L : Addr) : List (Addr × Obj) := (List.range h.objs.size).filterMap fun a => if a = L ∨ (g.get? a).isSome = true then none else (h.get? a).map fun o => (a, o)
def rest (g h : Heap) (L d : Addr) : List (Addr × Obj) := (allNews g h L).filter fun p => decide (p.1 ≠ d)
end L2
namespace L2
open PySem PySem.Spec PyProof.Rows
structure Mod (K : PySem.W.Frag) (mg : Str → Option Value) (base : Heap) : Prop where
  kin : K.In base
  glob : base.Ns mainGlobals mg
  blt : ∃ mb, base.Ns builtinsNs mb ∧ ∀ x : Str, x ≠ "__name__" → mb x = bootBuiltins x
  nolimit : base.NoLimit
/- the context: a def's body (or a comprehension's block) running. base: fixed through the whole law; s₀, H₀: the entry; outer: the frames whose slots others may change (a def's callers); stack: all frames that run;
   ex: iterators that were made ahead of the entry and are walked here (a comprehension's); fn: the names whose cells were made at the entry (a def: all; a comprehension's block: its own); calm: not within an except suite; pn: pins that every state bears; xe: what is wanted of an exception that leaves the code -/
set_option genInjectivity false in
set_option genSizeOfSpec false in
set_option genSizeOf false in
structure Cx where
  prog : Program
  w : World
  K : PySem.W.Frag
  mg : Str → Option Value
  base : Heap
  A : Around
  N : List Str
  s₀ : Shared
  H₀ : Hp
  env : Env
  outer : List Env
  stack : List Env
  ex : List Addr
  fn : Str → Bool
  calm : Bool
  pn : List (Addr × Obj)
  xe : Value → Shared → Prop
def frs (l : List Env) : List Addr := l.filterMap (·.frame)
abbrev Cx.fs (X : Cx) : List Addr := frs X.outer
def Vis (sc : Scope) (x : Str) : Prop := sc.names.lookup x = some .local ∨ sc.names.lookup x = some .cell ∨ sc.names.lookup x = some .free
def Loc (sc : Scope) (x : Str) : Prop := sc.names.lookup x = some .local ∨ sc.names.lookup x = some .cell
def Look (env : Env) (h : Heap) (m : Str → Option Value) (x : Str) (u : Value) : Prop :=
  (env.kindOf x = some .local ∧ m x = some u) ∨ ((env.kindOf x = some .cell ∨ env.kindOf x = some .free) ∧ ∃ c, env.cells.lookup x = some c ∧ h.IsCell c (some u))
structure Cx.Ok (X : Cx) : Prop where
  mod : Mod X.K X.mg X.base
  kind : X.env.scope.kind = .function
  glob : X.env.globals = mainGlobals
  blt : X.env.builtins = builtinsNs
  above : X.s₀.heap.objs.size ≤ X.env.locals
  inj : ∀ x y c, X.env.cells.lookup x = some c → X.env.cells.lookup y = some c → x = y
  has : ∀ x, (X.env.kindOf x = some .cell ∨ X.env.kindOf x = some .free) → ∃ c, X.env.cells.lookup x = some c
  cab : ∀ x c, X.fn x = true → X.env.cells.lookup x = some c → X.s₀.heap.objs.size ≤ c
  hd : X.calm = true → X.A.handled = none
  frames : X.A.frames = some X.stack
  stk : X.stack = X.outer ∨ (X.stack = X.env :: X.outer ∧ X.env.frame = some X.env.locals)
  exf : ∀ b ∈ X.ex, b ≠ X.env.locals ∧ ∀ x c, X.env.cells.lookup x = some c → c ≠ b
  bs : ∀ b o, X.base.get? b = some o → X.s₀.heap.get? b = some o ∧ X.H₀ b = none
  bsz : X.base.objs.size ≤ X.s₀.heap.objs.size
  noex : ∀ b o, X.base.get? b = some o → b ∉ X.ex
  exfs : ∀ b ∈ X.ex, b ∉ X.fs
  funs : X.s₀.heap.FunFrames X.base X.outer
  frf : ∀ b ∈ X.fs, X.H₀ b = none
structure Inv (X : Cx) (pins : List (Addr × Obj)) (σ : List (Option V)) (H : Hp) (s : Shared) : Prop where
  ok : X.Ok
  os : s.os = X.s₀.os
  bare : AllBare s.gens
  base : Un X.fs X.ex X.H₀ H X.s₀.heap s.heap
  loc : ∃ m, s.heap.Ns X.env.locals m ∧ ∀ (i : Nat) (x : Str) (v : V), X.N[i]? = some x → σ[i]? = some (some v) → Vis X.env.scope x → ∃ u, RelV v u ∧ Look X.env s.heap m x u
  cell : ∀ x c, X.env.cells.lookup x = some c → ∃ v, s.heap.IsCell c v
  free : H X.env.locals = none
  freeC : ∀ x c, X.env.cells.lookup x = some c → H c = none
  pin : ∀ p ∈ X.pn ++ pins, s.heap.get? p.1 = some p.2 ∧ H p.1 = none ∧ p.1 ≠ X.env.locals ∧ p.1 ∉ X.fs ∧ ∀ v, p.2.data ≠ .cell v
  hok : HOk X.prog X.w H s.heap
  len : σ.length = X.N.length
section
variable {X : Cx} {pins : List (Addr × Obj)} {σ : List (Option V)} {H H' : Hp} {s : Shared} {h' : Heap}
theorem Cx.Ok.nofr (ok : X.Ok) {b : Addr} {o : Obj} (e : X.base.get? b = some o) : b ∉ X.fs := fun hb => by
  have := (ok.funs.mem hb).1
  rw [e] at this; cases this
theorem Inv.bs (I : Inv X pins σ H s) : ∀ b o, X.base.get? b = some o → s.heap.get? b = some o ∧ H b = none := fun b o e =>
  ⟨I.base.keep b o (I.ok.bs b o e).1 (I.ok.bs b o e).2 (I.ok.nofr e) (I.ok.noex b o e), I.base.free b o (I.ok.bs b o e).1 (I.ok.bs b o e).2 (I.ok.noex b o e)⟩
theorem Inv.bk (I : Inv X pins σ H s) : ∀ b o, X.base.get? b = some o → s.heap.get? b = some o := fun b o e => (I.bs b o e).1
theorem Inv.mod (I : Inv X pins σ H s) : Mod X.K X.mg X.base := I.ok.mod
theorem Inv.kIn (I : Inv X pins σ H s) : X.K.In s.heap := I.ok.mod.kin.keeps I.bk
theorem Inv.nolimit (I : Inv X pins σ H s) : s.heap.NoLimit := I.ok.mod.nolimit.keeps I.bk
theorem Inv.lt (I : Inv X pins σ H s) : X.env.locals < s.heap.objs.size := let ⟨_, hn, _⟩ := I.loc; hn.lt
theorem Inv.sz (I : Inv X pins σ H s) : X.s₀.heap.objs.size ≤ s.heap.objs.size := Nat.le_trans I.ok.above (Nat.le_of_lt I.lt)
theorem Inv.nofs (I : Inv X pins σ H s) {a : Addr} (h : s.heap.objs.size ≤ a) : a ∉ X.fs := fun hb => by
  obtain ⟨_, o, ho, _⟩ := I.ok.funs.mem hb
  exact absurd (Nat.lt_of_lt_of_le (Heap.lt_size ho) (Nat.le_trans I.sz h)) (Nat.lt_irrefl _)
theorem Inv.cne (I : Inv X pins σ H s) : ∀ x c, X.env.cells.lookup x = some c → c ≠ X.env.locals := fun x c e z => by
  obtain ⟨v, o, ho, hd⟩ := I.cell x c e
  obtain ⟨m, ⟨o', es, ep, ho', hd', _⟩, _⟩ := I.loc
  rw [z, ho'] at ho; cases ho; rw [hd'] at hd; cases hd
theorem Inv.funs (I : Inv X pins σ H s) : s.heap.FunFrames X.base X.outer := by
  have all : ∀ (l : List Env), (∀ b ∈ frs l, b ∈ X.fs) → X.s₀.heap.FunFrames X.base l → s.heap.FunFrames X.base l := by
    intro l
    induction l with
    | nil => intro _ _; trivial
    | cons env r ih =>
      intro hs hl
      obtain ⟨hk, ⟨L, o, hf, hn, ho, hd⟩, hr⟩ := hl
      have hL : L ∈ X.fs := hs L (by unfold frs; rw [List.filterMap_cons, hf]; exact List.mem_cons_self)
      obtain ⟨sl, e⟩ := I.base.slot L o ho (I.ok.frf L hL) hL fun z => I.ok.exfs L z hL
      exact ⟨hk, ⟨L, _, hf, hn, e, hd⟩, ih (fun b hb => hs b (by unfold frs; rw [List.filterMap_cons, hf]; exact List.mem_cons_of_mem _ hb)) hr⟩
  exact all X.outer (fun _ hb => hb) I.ok.funs
theorem Inv.stack (I : Inv X pins σ H s) : s.heap.FunFrames X.base X.stack := by
  rcases I.ok.stk with e | ⟨e, hf⟩
  · rw [e]; exact I.funs
  · rw [e]
    obtain ⟨m, hn, _⟩ := I.loc
    refine .cons (by rw [I.ok.kind]; decide) hf hn ?_ I.funs
    exact Heap.get?_none_of_le (Nat.le_trans I.ok.bsz I.ok.above)
theorem Inv.stkSub (I : Inv X pins σ H s) : ∀ b ∈ frs X.stack, b ∈ X.env.locals :: X.fs := fun b hb => by
  rcases I.ok.stk with e | ⟨e, hf⟩
  · rw [e] at hb; exact List.mem_cons_of_mem _ hb
  · rw [e] at hb
    unfold frs at hb
    rw [List.filterMap_cons, hf] at hb
    exact hb
theorem Inv.stkFree (I : Inv X pins σ H s) : ∀ b ∈ frs X.stack, H b = none := fun b hb => by
  rcases List.mem_cons.mp (I.stkSub b hb) with e | hb
  · rw [e]; exact I.free
  · obtain ⟨_, o, ho, _⟩ := I.ok.funs.mem hb
    exact I.base.free b o ho (I.ok.frf b hb) fun z => I.ok.exfs b z hb
theorem Inv.step {g' : Array GenState} {t' : Nat} {d' : Drawn} {ch : List Addr} (I : Inv X pins σ H s)
    (hch : ∀ b ∈ ch, (b ∈ X.ex ∨ X.s₀.heap.objs.size ≤ b) ∧ b ≠ X.env.locals ∧ (∀ x c, X.env.cells.lookup x = some c → c ≠ b) ∧ ∀ p ∈ X.pn ++ pins, p.1 ≠ b)
    (keep : ∀ b o, b ≠ X.env.locals → b ∉ X.fs → b ∉ ch → s.heap.get? b = some o → H b = none → h'.get? b = some o)
    (slot : ∀ b o, b ≠ X.env.locals → b ∈ X.fs → b ∉ ch → s.heap.get? b = some o → H b = none → ∃ sl, h'.get? b = some { o with slots := sl }) (free : ∀ b o, b ∉ ch → s.heap.get? b = some o → H b = none → H' b = none)
    (there : ∀ b o, b ∉ ch → s.heap.get? b = some o → ∃ o', h'.get? b = some o')
    (tups : ∀ b xs, H b = some (.tup xs) → H' b = some (.tup xs)) (frzs : ∀ b o u, H b = some (.frz o u) → H' b = some (.frz o u)) (tbls : ∀ b ps, H b = some (.tbl ps) → ∃ more, H' b = some (.tbl (ps ++ more)))
    (ns : ∀ m, s.heap.Ns X.env.locals m → h'.Ns X.env.locals m) (hok : HOk X.prog X.w H' h') (hg : AllBare g') :
    Inv X pins σ H' { s with heap := h', gens := g', drawn := d', toks := t' } := by
  have neL : ∀ b o, X.s₀.heap.get? b = some o → b ≠ X.env.locals := fun b o e => Nat.ne_of_lt (Nat.lt_of_lt_of_le (Heap.lt_size e) I.ok.above)
  have neC : ∀ b o, X.s₀.heap.get? b = some o → b ∉ X.ex → b ∉ ch := fun b o e hx hb => by
    rcases (hch b hb).1 with z | z
    · exact hx z
    · exact absurd (Nat.lt_of_lt_of_le (Heap.lt_size e) z) (Nat.lt_irrefl _)
  have cellK : ∀ x c, X.env.cells.lookup x = some c → ∀ v, s.heap.IsCell c v → h'.IsCell c v := fun x c e v ⟨o, ho, hd⟩ => by
    have nch : c ∉ ch := fun z => (hch c z).2.2.1 x c e rfl
    by_cases hc : c ∈ X.fs
    · obtain ⟨sl, q⟩ := slot c o (I.cne x c e) hc nch ho (I.freeC x c e)
      exact ⟨_, q, hd⟩
    · exact ⟨o, keep c o (I.cne x c e) hc nch ho (I.freeC x c e), hd⟩
  refine ⟨I.ok, I.os, hg, ⟨fun b o e n hb hx => ?_, fun b o e n hb hx => ?_, fun b o e n hx => ?_, fun b o e hx => ?_, fun b xs e => tups b xs (I.base.tups b xs e), fun b o xs e => frzs b o xs (I.base.frzs b o xs e), fun b ps e => ?_⟩, ?_, fun x c e => ?_, ?_, fun x c e => ?_, fun p hp => ?_, hok, I.len⟩
  · exact keep b o (neL b o e) hb (neC b o e hx) (I.base.keep b o e n hb hx) (I.base.free b o e n hx)
  · obtain ⟨sl, e1⟩ := I.base.slot b o e n hb hx
    obtain ⟨sl', e2⟩ := slot b _ (neL b o e) hb (neC b o e hx) e1 (I.base.free b o e n hx)
    exact ⟨sl', e2⟩
  · obtain ⟨o', e1⟩ := I.base.there b o e hx
    exact free b o' (neC b o e hx) e1 (I.base.free b o e n hx)
  · obtain ⟨o', e1⟩ := I.base.there b o e hx
    exact there b o' (neC b o e hx) e1
  · obtain ⟨m1, e1⟩ := I.base.tbls b ps e
    obtain ⟨m2, e2⟩ := tbls b _ e1
    exact ⟨m1 ++ m2, by rw [e2, Array.append_assoc]⟩
  · obtain ⟨m, hn, hl⟩ := I.loc
    refine ⟨m, ns m hn, fun i x v e1 e2 e3 => ?_⟩
    obtain ⟨u, r, l⟩ := hl i x v e1 e2 e3
    refine ⟨u, r, ?_⟩
    rcases l with l | ⟨k, c, e, z⟩
    · exact .inl l
    · exact .inr ⟨k, c, e, cellK x c e _ z⟩
  · obtain ⟨v, z⟩ := I.cell x c e
    exact ⟨v, cellK x c e v z⟩
  · obtain ⟨m, ⟨o, _, _, ho, _⟩, _⟩ := I.loc
    exact free _ o (fun z => (hch _ z).2.1 rfl) ho I.free
  · obtain ⟨v, o, ho, hd⟩ := I.cell x c e
    exact free c o (fun z => (hch c z).2.2.1 x c e rfl) ho (I.freeC x c e)
  · obtain ⟨e, n, ne, nf, d⟩ := I.pin p hp
    have nch : p.1 ∉ ch := fun z => (hch p.1 z).2.2.2 p hp rfl
    exact ⟨keep p.1 p.2 ne nf nch e n, free p.1 p.2 nch e n, ne, nf, d⟩
theorem Inv.un {t' : Nat} (I : Inv X pins σ H s) (u : Un X.fs [] H H' s.heap h') (hok : HOk X.prog X.w H' h') : Inv X pins σ H' { s with heap := h', toks := t' } := by
  obtain ⟨m, ⟨o, es, ep, ho, r⟩, _⟩ := id I.loc
  obtain ⟨sl, hL⟩ := u.any ho I.free (by simp)
  exact I.step (g' := s.gens) (d' := s.drawn) (ch := []) (fun _ z => nomatch z) (fun b o _ hb _ e n => u.keep b o e n hb (by simp)) (fun b o _ hb _ e n => u.slot b o e n hb (by simp)) (fun b o _ e n => u.free b o e n (by simp)) (fun b o _ e => u.there b o e (by simp)) u.tups u.frzs u.tbls (fun m' hm => by
    obtain ⟨o', es', ep', ho', r'⟩ := hm
    rw [ho] at ho'; cases ho'
    exact ⟨_, es', ep', hL, r'⟩) hok I.bare
theorem Inv.call {g' : Array GenState} {t' : Nat} {d' : Drawn} {ch : List Addr} (I : Inv X pins σ H s) (u : Un (frs X.stack) ch H H' s.heap h') (hok : HOk X.prog X.w H' h') (hg : AllBare g')
    (hch : ∀ b ∈ ch, (b ∈ X.ex ∨ X.s₀.heap.objs.size ≤ b) ∧ b ≠ X.env.locals ∧ (∀ x c, X.env.cells.lookup x = some c → c ≠ b) ∧ ∀ p ∈ X.pn ++ pins, p.1 ≠ b) :
    Inv X pins σ H' { s with heap := h', gens := g', drawn := d', toks := t' } := by
  obtain ⟨m, ⟨o, es, ep, ho, r⟩, _⟩ := id I.loc
  obtain ⟨sl, hL⟩ := u.any ho I.free fun z => (hch _ z).2.1 rfl
  exact I.step (ch := ch) hch (fun b o hL hb hc e n => u.keep b o e n (fun z => (List.mem_cons.mp (I.stkSub b z)).elim hL hb) hc) (fun b o _ _ hc e n => u.any e n hc) (fun b o hc e n => u.free b o e n hc) (fun b o hc e => u.there b o e hc) u.tups u.frzs u.tbls (fun m' hm => by
    obtain ⟨o', es', ep', ho', r'⟩ := hm
    rw [ho] at ho'; cases ho'
    exact ⟨_, es', ep', hL, r'⟩) hok hg
theorem Inv.turned {t' : Nat} {it : Addr} (I : Inv X pins σ H s) (k : ∀ b o, b ≠ it → s.heap.get? b = some o → h'.get? b = some o) (hn : H it = none) (hL : it ≠ X.env.locals)
    (h1 : it ∈ X.ex ∨ X.s₀.heap.objs.size ≤ it) (h2 : ∀ x c, X.env.cells.lookup x = some c → c ≠ it) (h3 : ∀ p ∈ X.pn ++ pins, p.1 ≠ it) : Inv X pins σ H { s with heap := h', toks := t' } := by
  have nit : ∀ b u, H b = some u → b ≠ it := fun b u e z => by rw [z, hn] at e; cases e
  refine I.step (g' := s.gens) (d' := s.drawn) (ch := [it]) (fun b hb => ?_) (fun b o _ _ hc e _ => k b o (fun z => hc (by simp [z])) e) (fun b o _ _ hc e _ => ⟨o.slots, k b o (fun z => hc (by simp [z])) e⟩) (fun _ _ _ _ n => n)
    (fun b o hc e => ⟨o, k b o (fun z => hc (by simp [z])) e⟩) (fun _ _ e => e) (fun _ _ _ e => e) (fun b ps e => ⟨#[], by rw [e]; simp⟩) (fun m hm => ?_) (fun b u e => ?_) I.bare
  · have e : b = it := by simpa using hb
    subst e
    exact ⟨h1, hL, h2, h3⟩
  · obtain ⟨o, es, ep, ho, r⟩ := hm
    exact ⟨o, es, ep, k _ o (Ne.symm hL) ho, r⟩
  · refine (I.hok b u e).stay (fun c v hc q => k c v ?_ q) (fun _ q => q) fun _ _ q => q
    rcases hc with z | z
    · rw [z]; exact nit b u e
    · exact nit c _ z
theorem Inv.tok (I : Inv X pins σ H s) (t : Nat) : Inv X pins σ H { s with toks := t } := I.un (h' := s.heap) (t' := t) Un.refl I.hok
theorem Inv.kept {t' : Nat} (I : Inv X pins σ H s) (k : ∀ b u, s.heap.get? b = some u → h'.get? b = some u) : Inv X pins σ H { s with heap := h', toks := t' } := I.un (Un.kept k) (I.hok.kept k)
theorem Inv.laid {a : Addr} {o : HO} {t' : Nat} (I : Inv X pins σ H s) (k : ∀ b u, s.heap.get? b = some u → h'.get? b = some u) (hp : s.heap.objs.size ≤ a) (new : ObjOk X.prog X.w (upd H a o) h' a o) :
    Inv X pins σ (upd H a o) { s with heap := h', toks := t' } := I.un (Un.laid k hp (I.hok.fresh hp)) (I.hok.laid k hp new)
theorem Inv.write {x e : Addr} {o : HO} {t' : Nat} (I : Inv X pins σ H s) (mu : Mut (H x)) (he : e = x ∨ H e = some (.own x)) (k : ∀ b u, b ≠ e → s.heap.get? b = some u → h'.get? b = some u) (heo : ∃ u, h'.get? e = some u)
    (new : ObjOk X.prog X.w (upd H x o) h' x o) : Inv X pins σ (upd H x o) { s with heap := h', toks := t' } := I.un (Un.write mu he k heo) (I.hok.write mu he k heo new)
theorem Inv.pins_of {pins' : List (Addr × Obj)} (I : Inv X pins σ H s) (h : ∀ p ∈ pins', s.heap.get? p.1 = some p.2 ∧ H p.1 = none ∧ p.1 ≠ X.env.locals ∧ p.1 ∉ X.fs ∧ ∀ v, p.2.data ≠ .cell v) : Inv X pins' σ H s :=
  ⟨I.ok, I.os, I.bare, I.base, I.loc, I.cell, I.free, I.freeC, fun p hp => (List.mem_append.mp hp).elim (fun z => I.pin p (List.mem_append_left _ z)) (h p), I.hok, I.len⟩
theorem nodup_ix {N : List Str} (hN : N.Nodup) {i j : Nat} {x : Str} (a : N[i]? = some x) (b : N[j]? = some x) : i = j := by
  obtain ⟨h1, e1⟩ := List.getElem?_eq_some_iff.mp a
  obtain ⟨h2, e2⟩ := List.getElem?_eq_some_iff.mp b
  exact (List.getElem_inj hN).mp (e1.trans e2.symm)
theorem store_ok2 {M : Model} {A : Around} {E : Value → Shared → Prop} {i : Nat} {x : Str} {v : V} {u : Value} {Q : Unit → Shared → Prop} (I : Inv X pins σ H s) (hN : X.N.Nodup) (hi : X.N[i]? = some x) (hx : Loc X.env.scope x) (r : RelV v u)
    (h : ∀ s', Inv X pins (σ.set i (some v)) H s' → (∃ a, Heap.SameBut a s.heap s'.heap ∧ (a = X.env.locals ∨ X.env.cells.lookup x = some a)) → Q () s') (hf : X.fn x = true ∨ X.env.scope.names.lookup x = some .local := by first | exact .inl rfl | exact .inr rfl | assumption) : wpAny M A (storeName X.env x u) Q E s := by
  obtain ⟨m, hn, hl⟩ := id I.loc
  have hcls : (X.env.scope.kind == .class || (X.env.scope.kind == .module && X.env.locals != X.env.globals)) = false := by rw [I.ok.kind]; rfl
  have hiσ : i < σ.length := by rw [I.len]; exact (List.getElem?_eq_some_iff.mp hi).1
  have cne := I.cne
  have tracked : ∀ {a : Addr} {h' : Heap}, (∃ o, s.heap.get? a = some o ∧ H a = none) → Heap.SameBut a s.heap h' → HOk X.prog X.w H h' := fun {a h'} ha hs b ob e => by
    obtain ⟨_, _, hfree⟩ := ha
    refine (I.hok b ob e).stay (fun c w' hc q => (hs.2 c ?_).trans q) (fun _ q => q) fun _ _ q => q
    rintro rfl
    rcases hc with rfl | hc
    · rw [hfree] at e; cases e
    · rw [hfree] at hc; cases hc
  rcases hx with hk | hk
  · refine wpAny_storeName_local hk hn (fun h' hn' hs => ?_) hcls
    obtain ⟨oL, _, _, hoL, _⟩ := id hn
    refine h _ ⟨I.ok, I.os, I.bare, ⟨fun b o e n hb hx => ?_, fun b o e n hb hx => ?_, I.base.free, fun b o e hx => ?_, I.base.tups, I.base.frzs, I.base.tbls⟩, ⟨_, hn', fun j y v' e1 e2 e3 => ?_⟩, fun y c e => ?_, I.free, I.freeC, fun p hp => ?_, tracked ⟨oL, hoL, I.free⟩ hs, by simpa using I.len⟩ ⟨_, hs, .inl rfl⟩
    · exact (hs.2 b (Nat.ne_of_lt (Nat.lt_of_lt_of_le (Heap.lt_size e) I.ok.above))).trans (I.base.keep b o e n hb hx)
    · obtain ⟨sl, e1⟩ := I.base.slot b o e n hb hx
      exact ⟨sl, (hs.2 b (Nat.ne_of_lt (Nat.lt_of_lt_of_le (Heap.lt_size e) I.ok.above))).trans e1⟩
    · obtain ⟨o', e1⟩ := I.base.there b o e hx
      exact ⟨o', (hs.2 b (Nat.ne_of_lt (Nat.lt_of_lt_of_le (Heap.lt_size e) I.ok.above))).trans e1⟩
    · by_cases hj : j = i
      · subst hj
        rw [hi] at e1; cases e1
        rw [List.getElem?_set_self hiσ] at e2
        cases e2
        exact ⟨u, r, .inl ⟨hk, by simp⟩⟩
      · rw [List.getElem?_set_ne (Ne.symm hj)] at e2
        obtain ⟨u', r', q⟩ := hl j y v' e1 e2 e3
        refine ⟨u', r', ?_⟩
        rcases q with ⟨k, e⟩ | ⟨k, c, e, z⟩
        · refine .inl ⟨k, ?_⟩
          have : y ≠ x := fun e => hj (nodup_ix hN e1 (e ▸ hi))
          simp [this, e]
        · exact .inr ⟨k, c, e, z.sameBut hs (cne y c e)⟩
    · obtain ⟨w', z⟩ := I.cell y c e
      exact ⟨w', z.sameBut hs (cne y c e)⟩
    · obtain ⟨e, n, ne, nf, d⟩ := I.pin p hp
      exact ⟨(hs.2 p.1 ne).trans e, n, ne, nf, d⟩
  · have hfn : X.fn x = true := by
      rcases hf with z | z
      · exact z
      · rw [z] at hk; cases hk
    obtain ⟨c, hc⟩ := I.ok.has x (.inl hk)
    obtain ⟨w', z⟩ := I.cell x c hc
    refine wpAny_storeName_cell I.ok.kind hk hc z (fun h' hc' hs => ?_)
    obtain ⟨oc, hoc, hocd⟩ := id z
    refine h { s with heap := h' } ⟨I.ok, I.os, I.bare, ⟨fun b o e n hb hx => ?_, fun b o e n hb hx => ?_, I.base.free, fun b o e hx => ?_, I.base.tups, I.base.frzs, I.base.tbls⟩, ⟨m, hn.sameBut hs (Ne.symm (cne x c hc)), fun j y v' e1 e2 e3 => ?_⟩, fun y c' e => ?_, I.free, I.freeC, fun p hp => ?_, tracked ⟨oc, hoc, I.freeC x c hc⟩ hs, by simpa using I.len⟩ ⟨c, hs, .inr hc⟩
    · exact (hs.2 b (Nat.ne_of_lt (Nat.lt_of_lt_of_le (Heap.lt_size e) (I.ok.cab x c hfn hc)))).trans (I.base.keep b o e n hb hx)
    · obtain ⟨sl, e1⟩ := I.base.slot b o e n hb hx
      exact ⟨sl, (hs.2 b (Nat.ne_of_lt (Nat.lt_of_lt_of_le (Heap.lt_size e) (I.ok.cab x c hfn hc)))).trans e1⟩
    · obtain ⟨o', e1⟩ := I.base.there b o e hx
      exact ⟨o', (hs.2 b (Nat.ne_of_lt (Nat.lt_of_lt_of_le (Heap.lt_size e) (I.ok.cab x c hfn hc)))).trans e1⟩
    · by_cases hj : j = i
      · subst hj
        rw [hi] at e1; cases e1
        rw [List.getElem?_set_self hiσ] at e2
        cases e2
        exact ⟨u, r, .inr ⟨.inl hk, c, hc, hc'⟩⟩
      · rw [List.getElem?_set_ne (Ne.symm hj)] at e2
        obtain ⟨u', r', q⟩ := hl j y v' e1 e2 e3
        refine ⟨u', r', ?_⟩
        rcases q with q | ⟨k, c', e, z'⟩
        · exact .inl q
        · refine .inr ⟨k, c', e, z'.sameBut hs ?_⟩
          rintro rfl
          exact hj (nodup_ix hN e1 (I.ok.inj _ _ _ e hc ▸ hi))
    · by_cases hcc : c' = c
      · subst hcc; exact ⟨_, hc'⟩
      · obtain ⟨w2, z2⟩ := I.cell y c' e
        exact ⟨w2, z2.sameBut hs hcc⟩
    · obtain ⟨e, n, ne, nf, d⟩ := I.pin p hp
      refine ⟨(hs.2 p.1 ?_).trans e, n, ne, nf, d⟩
      intro q
      rw [q, hoc] at e
      have q' : oc = p.2 := Option.some.inj e
      exact d w' (by rw [← q']; exact hocd)
theorem store_ok {M : Model} {A : Around} {E : Value → Shared → Prop} {i : Nat} {x : Str} {v : V} {u : Value} {Q : Unit → Shared → Prop} (I : Inv X pins σ H s) (hN : X.N.Nodup) (hi : X.N[i]? = some x) (hx : Loc X.env.scope x) (r : RelV v u)
    (h : ∀ s', Inv X pins (σ.set i (some v)) H s' → Q () s') (hf : X.fn x = true ∨ X.env.scope.names.lookup x = some .local := by first | exact .inl rfl | exact .inr rfl | assumption) : wpAny M A (storeName X.env x u) Q E s :=
  store_ok2 I hN hi hx r (fun s' I' _ => h s' I') hf
theorem Inv.call' {s' : Shared} {ch : List Addr} (I : Inv X pins σ H s) (ho : s'.os = s.os) (u : Un (frs X.stack) ch H H' s.heap s'.heap) (hok : HOk X.prog X.w H' s'.heap) (hg : AllBare s'.gens)
    (hch : ∀ b ∈ ch, (b ∈ X.ex ∨ X.s₀.heap.objs.size ≤ b) ∧ b ≠ X.env.locals ∧ (∀ x c, X.env.cells.lookup x = some c → c ≠ b) ∧ ∀ p ∈ X.pn ++ pins, p.1 ≠ b) : Inv X pins σ H' s' := by
  obtain ⟨h', g', d', t', o'⟩ := s'
  have e : o' = s.os := ho
  subst e
  exact I.call (g' := g') (t' := t') (d' := d') u hok hg hch
end
abbrev XK := Value → Option Addr → Hp → Prop
abbrev St := List (Option V)
abbrev VK := V → Hp → Prop
abbrev TE := St → Hp → VK → Prop
abbrev TT := St → Hp → (Bool → Hp → Prop) → Prop
abbrev TA := St → Hp → (List V → Hp → Prop) → Prop
/- what is wanted behind a statement -/
set_option genInjectivity false in
set_option genSizeOfSpec false in
set_option genSizeOf false in
structure Ends where
  nx : St → Hp → Prop
  rt : VK
  bk : St → Hp → Prop := fun _ _ => False
  ct : St → Hp → Prop := fun _ _ => False
abbrev TS := Ends → St → Hp → Prop
def EP (X : Cx) (pins : List (Addr × Obj)) (σ : St) (Q : VK) (u : Value) (s' : Shared) : Prop := ∃ v H', Inv X pins σ H' s' ∧ RelV v u ∧ Q v H'
def TP (X : Cx) (pins : List (Addr × Obj)) (σ : St) (Q : Bool → Hp → Prop) (b : Bool) (s' : Shared) : Prop := ∃ H', Inv X pins σ H' s' ∧ Q b H'
def AP (X : Cx) (pins : List (Addr × Obj)) (σ : St) (Q : List V → Hp → Prop) (us : List Value) (s' : Shared) : Prop := ∃ vs H', Inv X pins σ H' s' ∧ Vals vs us ∧ Q vs H'
def SP (X : Cx) (pins : List (Addr × Obj)) (D : Ends) (f : Flow) (s' : Shared) : Prop :=
  match f with
  | .next => ∃ σ' H', Inv X pins σ' H' s' ∧ D.nx σ' H'
  | .brk => ∃ σ' H', Inv X pins σ' H' s' ∧ D.bk σ' H'
  | .cont => ∃ σ' H', Inv X pins σ' H' s' ∧ D.ct σ' H'
  | .ret u => ∃ v σ' H', Inv X pins σ' H' s' ∧ RelV v u ∧ D.rt v H'
@[irreducible] def PE (X : Cx) (e : Expr) (t : TE) : Prop :=
  ∀ (pins : List (Addr × Obj)) (s : Shared) (σ : St) (H : Hp) (Q : VK), Inv X pins σ H s → t σ H Q → wpAny (model X.prog X.w) X.A (eval e X.env) (EP X pins σ Q) X.xe s
@[irreducible] def PT (X : Cx) (e : Expr) (t : TT) : Prop :=
  ∀ (pins : List (Addr × Obj)) (s : Shared) (σ : St) (H : Hp) (Q : Bool → Hp → Prop), Inv X pins σ H s → t σ H Q → wpAny (model X.prog X.w) X.A (isTrue e X.env (eval e X.env)) (TP X pins σ Q) X.xe s
@[irreducible] def PW (X : Cx) (e : Expr) (t : TT) : Prop :=
  ∀ (whole : Sem Value) (pins : List (Addr × Obj)) (s : Shared) (σ : St) (H : Hp) (Q : Bool → Hp → Prop), Inv X pins σ H s → t σ H Q → wpAny (model X.prog X.w) X.A (isTrue e X.env whole) (TP X pins σ Q) X.xe s
theorem PW.pt {X : Cx} {e : Expr} {t : TT} (h : PW X e t) : PT X e t := by
  first
  | exact (h _)
  | (unfold PT at *; unfold PW at *; exact (h _))
@[irreducible] def PA (X : Cx) (es : List Expr) (t : TA) : Prop :=
  ∀ (pos : Pos) (pins : List (Addr × Obj)) (s : Shared) (σ : St) (H : Hp) (Q : List V → Hp → Prop), Inv X pins σ H s → t σ H Q → wpAny (model X.prog X.w) X.A (spliced (backTo pos (starEach es X.env))) (AP X pins σ Q) X.xe s
@[irreducible] def PS (X : Cx) (st : Stmt) (t : TS) : Prop :=
  ∀ (pins : List (Addr × Obj)) (s : Shared) (σ : St) (H : Hp) (D : Ends), Inv X pins σ H s → t D σ H → wpAny (model X.prog X.w) X.A (exec st X.env) (SP X pins D) X.xe s
@[irreducible] def PSs (X : Cx) (st : List Stmt) (t : TS) : Prop :=
  ∀ (pins : List (Addr × Obj)) (s : Shared) (σ : St) (H : Hp) (D : Ends), Inv X pins σ H s → t D σ H → wpAny (model X.prog X.w) X.A (execs st X.env) (SP X pins D) X.xe s
theorem thn {α : Type} {t : Sem α} {Q Q' : α → Shared → Prop} {M : Model} {A : Around} {E : Value → Shared → Prop} {s : Shared} (h : wpAny M A t Q E s) (hQ : ∀ a s, Q a s → Q' a s) : wpAny M A t Q' E s := wpAny_mono h hQ fun _ _ x => x
end L2
namespace L2
open PySem PySem.Spec PyProof.Rows
section
variable {X : Cx}
def tVar (i : Nat) : TE := fun σ H Q => ∃ v, σ[i]? = some (some v) ∧ Q v H
def tC (v : V) : TE := fun _ H Q => Q v H
theorem pe_var {i : Nat} {x : Str} {pos : Pos} (hN : X.N[i]? = some x) (hv : Vis X.env.scope x) (hd : (x == ("__debug__" : Str)) = false := by decide) (hcd : (x == ("__classdict__" : Str)) = false := by decide) : PE X (.Name x pos) (tVar i) := by
  unfold PE at *
  exact by
    intro pins s σ H Q I h
    obtain ⟨v, e, h⟩ := h
    obtain ⟨m, hn, hl⟩ := I.loc
    obtain ⟨u, r, l⟩ := hl i x v hN e hv
    have fin : EP X pins σ Q u s := ⟨v, H, I, r, h⟩
    rcases l with ⟨hk, hm⟩ | ⟨hk, c, hc, hcell⟩
    · exact wpAny_Name (wpAny_loadName_local I.ok.kind hk hn hm fin) hd
    · rcases hk with hk | hk
      · exact wpAny_Name (wpAny_loadName_cell I.ok.kind hk hc hcell fin) hd
      · exact wpAny_Name (wpAny_loadName_free I.ok.kind hk hc hcell fin hcd) hd
theorem pe_int {i j pos} : PE X (.Constant (.int i) j pos) (tC (.int i)) := by
  first
  | exact (fun _ _ _ H _ I h => wpAny_Constant_int ⟨.int i, H, I.tok _, ⟨_, rfl⟩, h⟩)
  | (unfold PE at *; exact (fun _ _ _ H _ I h => wpAny_Constant_int ⟨.int i, H, I.tok _, ⟨_, rfl⟩, h⟩))
theorem pe_bl {b j pos} : PE X (.Constant (.bool b) j pos) (tC (.bl b)) := by
  first
  | exact (fun _ _ _ H _ I h => Constant_bool ⟨.bl b, H, I, rfl, h⟩)
  | (unfold PE at *; exact (fun _ _ _ H _ I h => Constant_bool ⟨.bl b, H, I, rfl, h⟩))
theorem pe_non {j pos} : PE X (.Constant .none j pos) (tC .non) := by
  first
  | exact (fun _ _ _ H _ I h => Constant_none ⟨.non, H, I, rfl, h⟩)
  | (unfold PE at *; exact (fun _ _ _ H _ I h => Constant_none ⟨.non, H, I, rfl, h⟩))
theorem pe_str {x j pos} : PE X (.Constant (.str x) j pos) (tC (.str x)) := by
  first
  | exact (fun _ _ _ H _ I h => Calls.Constant_str ⟨.str x, H, I.tok _, ⟨_, rfl⟩, h⟩)
  | (unfold PE at *; exact (fun _ _ _ H _ I h => Calls.Constant_str ⟨.str x, H, I.tok _, ⟨_, rfl⟩, h⟩))
def Gl (X : Cx) (x : Str) : Prop := X.env.kindOf x = some .globalImplicit
theorem ld_glob {E : Value → Shared → Prop} {pins : List (Addr × Obj)} {s : Shared} {σ : St} {H : Hp} {x : Str} {u : Value} {pos : Pos} {Q : Value → Shared → Prop} (I : Inv X pins σ H s) (hg : Gl X x) (hm : X.mg x = some u) (h : Q u s)
    (hd : (x == ("__debug__" : Str)) = false := by decide) : wpAny (model X.prog X.w) X.A (eval (.Name x pos) X.env) Q E s :=
  Calls.Name_function_global I.ok.kind hg (Calls.loadGlobal_global (by rw [I.ok.glob]; exact I.mod.glob.keeps I.bk) hm h) hd
theorem ld_blt {E : Value → Shared → Prop} {pins : List (Addr × Obj)} {s : Shared} {σ : St} {H : Hp} {x : Str} {u : Value} {pos : Pos} {Q : Value → Shared → Prop} (I : Inv X pins σ H s) (hg : Gl X x) (hm : X.mg x = none) (hv : bootBuiltins x = some u) (h : Q u s)
    (hn : x ≠ "__name__" := by decide) (hd : (x == ("__debug__" : Str)) = false := by decide) : wpAny (model X.prog X.w) X.A (eval (.Name x pos) X.env) Q E s := by
  obtain ⟨mb, h1, h2⟩ := I.mod.blt
  exact Calls.Name_function_global I.ok.kind hg (Calls.loadGlobal_builtin (by rw [I.ok.glob]; exact I.mod.glob.keeps I.bk) hm (by rw [I.ok.blt]; exact h1.keeps I.bk) ((h2 x hn).trans hv) h) hd
theorem pe_glob {x : Str} {v : V} {u : Value} {pos : Pos} (hg : Gl X x) (hm : X.mg x = some u) (r : RelV v u) (hd : (x == ("__debug__" : Str)) = false := by decide) : PE X (.Name x pos) (tC v) := by
  first
  | exact (fun _ _ _ H _ I h => ld_glob I hg hm ⟨v, H, I, r, h⟩ hd)
  | (unfold PE at *; exact (fun _ _ _ H _ I h => ld_glob I hg hm ⟨v, H, I, r, h⟩ hd))
theorem pe_bltn {x : Str} {v : V} {u : Value} {pos : Pos} (hg : Gl X x) (hm : X.mg x = none) (hv : bootBuiltins x = some u) (r : RelV v u) (hn : x ≠ "__name__" := by decide) (hd : (x == ("__debug__" : Str)) = false := by decide) : PE X (.Name x pos) (tC v) := by
  first
  | exact (fun _ _ _ H _ I h => ld_blt I hg hm hv ⟨v, H, I, r, h⟩ hn hd)
  | (unfold PE at *; exact (fun _ _ _ H _ I h => ld_blt I hg hm hv ⟨v, H, I, r, h⟩ hn hd))
variable {a b : Expr} {ta tb : TE} {pos : Pos}
def tB (t : TE) : TT := fun σ H Q => t σ H fun x H1 => ∃ c, x = .bl c ∧ Q c H1
theorem pt_val {e : Expr} {t : TE} (h : PE X e t) (he : ∀ whole, isTrue e X.env whole = (do let v ← whole; standAt e.pos; holding [v] (truthy v)) := by intro _; rfl) : PT X e (tB t) := by
  unfold PE at *; unfold PT at *
  exact by
    intro pins s σ H Q I hw
    refine isTrue_plain (thn (h pins s σ H _ I hw) fun v s1 ⟨x, H1, I1, r1, q1⟩ => ?_) (he _)
    obtain ⟨d, rfl, q⟩ := q1
    cases r1
    exact wpAny_truthy_bool ⟨H1, I1, q⟩
variable {tA tB' : TT} {rest : List Expr}
def tAnd (t u : TT) : TT := fun σ H Q => t σ H fun c H1 => if c = true then u σ H1 Q else Q false H1
def tOr (t u : TT) : TT := fun σ H Q => t σ H fun c H1 => if c = true then Q true H1 else u σ H1 Q
def tNot (t : TT) : TT := fun σ H Q => t σ H fun c H1 => Q (!c) H1
theorem pw_and1 (ha : PT X a tA) : PW X (.BoolOp .And [a] pos) tA := by
  unfold PT at *; unfold PW at *
  exact by
    intro wh pins s σ H Q I h
    refine isTrue_and (thn (ha pins s σ H Q I h) fun c s1 e => ?_)
    cases c with
    | true => exact isTrue_and_nil e
    | false => exact e
theorem pw_or1 (ha : PT X a tA) : PW X (.BoolOp .Or [a] pos) tA := by
  unfold PT at *; unfold PW at *
  exact by
    intro wh pins s σ H Q I h
    refine isTrue_or (thn (ha pins s σ H Q I h) fun c s1 e => ?_)
    cases c with
    | false => exact isTrue_or_nil e
    | true => exact e
theorem pw_and (ha : PT X a tA) (hb : PW X (.BoolOp .And (b :: rest) pos) tB') : PW X (.BoolOp .And (a :: b :: rest) pos) (tAnd tA tB') := by
  unfold PT at *; unfold PW at *
  exact by
    intro wh pins s σ H Q I h
    refine isTrue_and (thn (ha pins s σ H _ I h) fun c s1 ⟨H1, I1, q1⟩ => ?_)
    cases c with
    | true => exact hb wh pins s1 σ H1 Q I1 q1
    | false => exact ⟨H1, I1, q1⟩
theorem pw_or (ha : PT X a tA) (hb : PW X (.BoolOp .Or (b :: rest) pos) tB') : PW X (.BoolOp .Or (a :: b :: rest) pos) (tOr tA tB') := by
  unfold PT at *; unfold PW at *
  exact by
    intro wh pins s σ H Q I h
    refine isTrue_or (thn (ha pins s σ H _ I h) fun c s1 ⟨H1, I1, q1⟩ => ?_)
    cases c with
    | true => exact ⟨H1, I1, q1⟩
    | false => exact hb wh pins s1 σ H1 Q I1 q1
theorem pt_not (ha : PT X a tA) : PT X (.UnaryOp .Not a pos) (tNot tA) := by
  unfold PT at *
  exact by
    intro pins s σ H Q I h
    exact isTrue_not (ha pins s σ H (fun c H1 => Q (!c) H1) I h)
def tAndV (ta tb : TE) : TE := fun σ H Q => ta σ H fun x H1 => ∃ c, x = .bl c ∧ if c = true then tb σ H1 Q else Q (.bl false) H1
def tOrV (ta tb : TE) : TE := fun σ H Q => ta σ H fun x H1 => ∃ c, x = .bl c ∧ if c = true then Q (.bl true) H1 else tb σ H1 Q
def tNotV (ta : TE) : TE := fun σ H Q => ta σ H fun x H1 => ∃ c, x = .bl c ∧ Q (.bl (!c)) H1
theorem pe_one {op} {t : TE} (h : PE X a t) : PE X (.BoolOp op [a] pos) t := by
  first
  | exact (fun pins s σ H Q I hw => BoolOp_one (h pins s σ H Q I hw))
  | (unfold PE at *; exact (fun pins s σ H Q I hw => BoolOp_one (h pins s σ H Q I hw)))
theorem pe_and (ha : PE X a ta) (hb : PE X (.BoolOp .And (b :: rest) pos) tb) : PE X (.BoolOp .And (a :: b :: rest) pos) (tAndV ta tb) := by
  unfold PE at *
  exact by
    intro pins s σ H Q I h
    refine BoolOp_and (thn (ha pins s σ H _ I h) fun v s1 ⟨x, H1, I1, r1, q1⟩ => ?_)
    obtain ⟨c, rfl, q1⟩ := q1
    cases r1
    refine wpAny_truthy_bool ?_
    cases c with
    | true => exact hb pins s1 σ H1 Q I1 q1
    | false => exact ⟨.bl false, H1, I1, rfl, q1⟩
theorem pe_or (ha : PE X a ta) (hb : PE X (.BoolOp .Or (b :: rest) pos) tb) : PE X (.BoolOp .Or (a :: b :: rest) pos) (tOrV ta tb) := by
  unfold PE at *
  exact by
    intro pins s σ H Q I h
    refine BoolOp_or (thn (ha pins s σ H _ I h) fun v s1 ⟨x, H1, I1, r1, q1⟩ => ?_)
    obtain ⟨c, rfl, q1⟩ := q1
    cases r1
    refine wpAny_truthy_bool ?_
    cases c with
    | false => exact hb pins s1 σ H1 Q I1 q1
    | true => exact ⟨.bl true, H1, I1, rfl, q1⟩
theorem pe_not (ha : PE X a ta) : PE X (.UnaryOp .Not a pos) (tNotV ta) := by
  unfold PE at *
  exact by
    intro pins s σ H Q I h
    refine UnaryOp_ (thn (ha pins s σ H _ I h) fun v s1 ⟨x, H1, I1, r1, q1⟩ => ?_)
    obtain ⟨c, rfl, q1⟩ := q1
    cases r1
    exact not_of (wpAny_truthy_bool ⟨.bl (!c), H1, I1, rfl, q1⟩)
end
end L2
namespace L2
open PySem PySem.Spec PyProof.Rows
def SqL (K : PySem.W.Frag) (H : Hp) (a : Addr) (xs : List V) : Prop :=
  Rd H a (.lst xs) ∨
    ∃ (o : Obj) (its : Array Value) (n : Nat), K.lookup a = some o ∧ o.cls = .type "list" ∧ o.dict = none ∧ o.data = .seq its n ∧ its.size ≤ sizeLine ∧ Vals xs its.toList
def SqT (K : PySem.W.Frag) (H : Hp) (a : Addr) (xs : List V) : Prop :=
  Rd H a (.tup xs) ∨
    ∃ (o : Obj) (its : Array Value) (n : Nat), K.lookup a = some o ∧ o.cls = .type "tuple" ∧ o.data = .seq its n ∧ its.size ≤ sizeLine ∧ Vals xs its.toList
def absV : Value → Option V
  | .none => some .non
  | .bool b => some (.bl b)
  | .int i _ => some (.int i)
  | .str x _ => some (.str x)
  | .bytes b _ => some (.byt b)
  | .float b _ => some (.flt b)
  | .ref a => some (.ref a)
  | .type n => some (.ty n)
  | _ => none
theorem RelV.abs {x : V} {u : Value} (r : RelV x u) : absV u = some x := by
  cases x with
  | non => cases r; rfl
  | bl _ => cases r; rfl
  | int _ => obtain ⟨t, rfl⟩ := r; rfl
  | str _ => obtain ⟨t, rfl⟩ := r; rfl
  | byt _ => obtain ⟨t, rfl⟩ := r; rfl
  | flt _ => obtain ⟨t, rfl⟩ := r; rfl
  | ref _ => cases r; rfl
  | ty _ => cases r; rfl
theorem RelV.inj {x y : V} {u : Value} (r : RelV x u) (q : RelV y u) : x = y := Option.some.inj (r.abs.symm.trans q.abs)
theorem Vals.inj : ∀ {xs ys : List V} {us : List Value}, Vals xs us → Vals ys us → xs = ys
  | _, _, _, .nil, .nil => rfl
  | _, _, _, .cons r t, .cons r' t' => by rw [r.inj r', Vals.inj t t']
section
variable {X : Cx} {pins : List (Addr × Obj)} {σ : St} {H : Hp} {s : Shared} {a : Addr} {xs ys : List V}
theorem SqL.of {K : PySem.W.Frag} (h : H a = some (.lst xs)) : SqL K H a xs := .inl (.inl h)
theorem SqT.of {K : PySem.W.Frag} (h : H a = some (.tup xs)) : SqT K H a xs := .inl (.inl h)
theorem Inv.list (I : Inv X pins σ H s) (h : SqL X.K H a xs) : ∃ its : List Value, Vals xs its ∧ PlainL s.heap a its.toArray ∧ xs.length ≤ sizeLine := by
  rcases h with h | ⟨o, its, n, hk, hc, hd, hs, hz, r⟩
  · obtain ⟨z, its, n, r, e⟩ := h.ok I.hok
    exact ⟨its, r, ⟨_, n, e, rfl, rfl, rfl⟩, z⟩
  · refine ⟨its.toList, r, ⟨o, n, I.kIn a o hk, hc, hd, by simpa using hs⟩, ?_⟩
    have e := r.length
    simp only [Array.length_toList] at e
    omega
theorem Inv.tuple (I : Inv X pins σ H s) (h : SqT X.K H a xs) : ∃ its : List Value, Vals xs its ∧ IsTup s.heap a its.toArray ∧ xs.length ≤ sizeLine := by
  rcases h with h | ⟨o, its, n, hk, hc, hs, hz, r⟩
  · obtain ⟨z, its, r, p⟩ := h.ok I.hok
    exact ⟨its, r, p, z⟩
  · refine ⟨its.toList, r, ⟨o, I.kIn a o hk, hc, n, by simpa using hs⟩, ?_⟩
    have e := r.length
    simp only [Array.length_toList] at e
    omega
theorem Inv.list_inj (I : Inv X pins σ H s) (h : SqL X.K H a xs) (h' : SqL X.K H a ys) : xs = ys := by
  obtain ⟨its, r, ⟨o, n, e, _, _, d⟩, _⟩ := I.list h
  obtain ⟨its', r', ⟨o', n', e', _, _, d'⟩, _⟩ := I.list h'
  rw [e] at e'; cases e'
  rw [d] at d'
  injection d' with d1 _
  have : its = its' := by simpa using congrArg Array.toList d1
  subst this
  exact r.inj r'
theorem Inv.tuple_inj (I : Inv X pins σ H s) (h : SqT X.K H a xs) (h' : SqT X.K H a ys) : xs = ys := by
  obtain ⟨its, r, ⟨o, e, _, n, d⟩, _⟩ := I.tuple h
  obtain ⟨its', r', ⟨o', e', _, n', d'⟩, _⟩ := I.tuple h'
  rw [e] at e'; cases e'
  rw [d] at d'
  injection d' with d1 _
  have : its = its' := by simpa using congrArg Array.toList d1
  subst this
  exact r.inj r'
end
abbrev Cx.wish (X : Cx) (E : Value → Shared → Prop) : Cx := { X with xe := E }
abbrev Cx.nox (X : Cx) : Cx := X.wish fun _ _ => False
theorem Cx.Ok.wish {X : Cx} (ok : X.Ok) (E : Value → Shared → Prop) : (X.wish E).Ok :=
  ⟨ok.mod, ok.kind, ok.glob, ok.blt, ok.above, ok.inj, ok.has, ok.cab, ok.hd, ok.frames, ok.stk, ok.exf, ok.bs, ok.bsz, ok.noex, ok.exfs, ok.funs, ok.frf⟩
theorem Cx.Ok.unwish {X : Cx} {E : Value → Shared → Prop} (ok : (X.wish E).Ok) : X.Ok :=
  ⟨ok.mod, ok.kind, ok.glob, ok.blt, ok.above, ok.inj, ok.has, ok.cab, ok.hd, ok.frames, ok.stk, ok.exf, ok.bs, ok.bsz, ok.noex, ok.exfs, ok.funs, ok.frf⟩
section
variable {X : Cx} {pins : List (Addr × Obj)} {σ : St} {H : Hp} {s : Shared} {E : Value → Shared → Prop}
theorem Inv.wish (I : Inv X pins σ H s) (E : Value → Shared → Prop) : Inv (X.wish E) pins σ H s := ⟨I.ok.wish E, I.os, I.bare, I.base, I.loc, I.cell, I.free, I.freeC, I.pin, I.hok, I.len⟩
theorem Inv.unwish (I : Inv (X.wish E) pins σ H s) : Inv X pins σ H s := ⟨I.ok.unwish, I.os, I.bare, I.base, I.loc, I.cell, I.free, I.freeC, I.pin, I.hok, I.len⟩
theorem SP.unwish {D : Ends} {f : Flow} {s' : Shared} (h : SP (X.wish E) pins D f s') : SP X pins D f s' := by
  cases f with
  | next => obtain ⟨σ', H', I, q⟩ := h; exact ⟨σ', H', I.unwish, q⟩
  | brk => obtain ⟨σ', H', I, q⟩ := h; exact ⟨σ', H', I.unwish, q⟩
  | cont => obtain ⟨σ', H', I, q⟩ := h; exact ⟨σ', H', I.unwish, q⟩
  | ret u => obtain ⟨v, σ', H', I, r, q⟩ := h; exact ⟨v, σ', H', I.unwish, r, q⟩
theorem PE.nox {e : Expr} {t : TE} (h : PE X.nox e t) : PE X e t := by
  unfold PE at *
  exact (fun pins s σ H Q I hw =>
    wpAny_mono (h pins s σ H Q (I.wish _) hw) (fun _ _ ⟨v, H', I', r, q⟩ => ⟨v, H', I'.unwish, r, q⟩) fun _ _ z => False.elim z)
theorem PT.nox {e : Expr} {t : TT} (h : PT X.nox e t) : PT X e t := by
  unfold PT at *
  exact (fun pins s σ H Q I hw =>
    wpAny_mono (h pins s σ H Q (I.wish _) hw) (fun _ _ ⟨H', I', q⟩ => ⟨H', I'.unwish, q⟩) fun _ _ z => False.elim z)
theorem PSs.nox {st : List Stmt} {t : TS} (h : PSs X.nox st t) : PSs X st t := by
  unfold PSs at *
  exact (fun pins s σ H D I hw =>
    wpAny_mono (h pins s σ H D (I.wish _) hw) (fun _ _ q => q.unwish) fun _ _ z => False.elim z)
end
section
variable {X : Cx} {st : Stmt} {rest : List Stmt} {t u : TS} {e : Expr} {te : TE} {pos : Pos}
def tNext : TS := fun D σ H => D.nx σ H
def tSeq (t u : TS) : TS := fun D σ H => t { D with nx := u D } σ H
theorem pss_nil : PSs X [] tNext := by
  first
  | exact (fun _ _ σ H _ I h => wpAny_execs_nil ⟨σ, H, I, h⟩)
  | (unfold PSs at *; exact (fun _ _ σ H _ I h => wpAny_execs_nil ⟨σ, H, I, h⟩))
theorem pss_cons (h1 : PS X st t) (h2 : PSs X rest u) : PSs X (st :: rest) (tSeq t u) := by
  unfold PS at *; unfold PSs at *
  exact by
    intro pins s σ H D I h
    refine wpAny_execs_cons (thn (h1 pins s σ H { D with nx := u D } I h) fun f s1 q => ?_)
    cases f with
    | next =>
      obtain ⟨σ', H', I', q⟩ := q
      exact h2 pins s1 σ' H' D I' q
    | ret v => exact q
    | brk => exact q
    | cont => exact q
theorem pss_one (h1 : PS X st t) : PSs X [st] t := by
  unfold PS at *; unfold PSs at *
  exact by
    intro pins s σ H D I h
    refine wpAny_execs_cons (thn (h1 pins s σ H D I h) fun f s1 q => ?_)
    cases f with
    | next => exact wpAny_execs_nil q
    | ret v => exact q
    | brk => exact q
    | cont => exact q
theorem Inv.quiet {pins : List (Addr × Obj)} {σ : St} {H : Hp} {s : Shared} (I : Inv X pins σ H s) : interactive X.env = false := by simp [interactive, I.ok.kind]
def tDrop (te : TE) : TS := fun D σ H => te σ H fun _ H1 => D.nx σ H1
theorem ps_expr (he : PE X e te) (hs : swapsWith e none pos.line X.env = pure false := by rfl) : PS X (.Expr e pos) (tDrop te) := by
  unfold PE at *; unfold PS at *
  exact by
    intro pins s σ H D I h
    exact wpAny_Expr_any (thn (he pins s σ H _ I h) fun v s1 ⟨x, H1, I1, r1, q1⟩ => ⟨σ, H1, I1, q1⟩) I.quiet hs
def tRet (te : TE) : TS := fun D σ H => te σ H D.rt
theorem ps_ret (he : PE X e te) : PS X (.Return (some e) pos) (tRet te) := by
  unfold PE at *; unfold PS at *
  exact by
    intro pins s σ H D I h
    exact wpAny_Return_some (thn (he pins s σ H _ I h) fun v s1 ⟨x, H1, I1, r1, q1⟩ => ⟨x, σ, H1, I1, r1, q1⟩)
def tIfS (c : TT) (t u : TS) : TS := fun D σ H => c σ H fun b H1 => if b = true then t D σ H1 else u D σ H1
theorem ps_if {c : Expr} {a b : List Stmt} {tc : TT} (hc : PT X c tc) (ha : PSs X a t) (hb : PSs X b u) : PS X (.If c a b pos) (tIfS tc t u) := by
  unfold PT at *; unfold PS at *; unfold PSs at *
  exact by
    intro pins s σ H D I h
    refine wpAny_If (thn (hc pins s σ H _ I h) fun d s1 ⟨H1, I1, q1⟩ => ?_)
    cases d with
    | true => exact ha pins s1 σ H1 D I1 q1
    | false => exact hb pins s1 σ H1 D I1 q1
end
abbrev TG := V → St → Hp → (St → Hp → Prop) → Prop
@[irreducible] def PG (X : Cx) (target : Expr) (t : TG) : Prop :=
  ∀ (pins : List (Addr × Obj)) (s : Shared) (σ : St) (H : Hp) (v : V) (u : Value) (Q : St → Hp → Prop), Inv X pins σ H s → RelV v u → t v σ H Q →
    wpAny (model X.prog X.w) X.A (assign target X.env u) (fun _ s' => ∃ σ' H', Inv X pins σ' H' s' ∧ Q σ' H') X.xe s
section
variable {X : Cx} {pos : Pos}
def gName (i : Nat) : TG := fun v σ H Q => Q (σ.set i (some v)) H
theorem pg_name {i : Nat} {x : Str} (hN : X.N.Nodup) (hi : X.N[i]? = some x) (hx : Loc X.env.scope x) (hf : X.fn x = true ∨ X.env.scope.names.lookup x = some .local := by first | exact .inl rfl | exact .inr rfl | assumption) : PG X (.Name x pos) (gName i) := by
  unfold PG at *
  exact by
    intro pins s σ H v u Q I r h
    exact wpAny_assign_Name (store_ok I hN hi hx r (fun s' I' => ⟨_, H, I', h⟩) hf)
def tAsg (te : TE) (g : TG) : TS := fun D σ H => te σ H fun x H1 => g x σ H1 D.nx
theorem ps_set {i : Nat} {x : Str} {e : Expr} {te : TE} {pos' : Pos} (hN : X.N.Nodup) (hi : X.N[i]? = some x) (hx : Loc X.env.scope x) (he : PE X e te) (hs : swapsWith e (some (.Name x pos')) pos.line X.env = pure false := by rfl) (hf : X.fn x = true ∨ X.env.scope.names.lookup x = some .local := by first | exact .inl rfl | exact .inr rfl | assumption) :
    PS X (.Assign [.Name x pos'] e pos) (tAsg te (gName i)) := by
  unfold PE at *; unfold PS at *
  exact by
    intro pins s σ H D I h
    refine wpAny_Assign_Name (thn (he pins s σ H _ I h) fun v s1 ⟨y, H1, I1, r1, q1⟩ => ?_) hs
    exact store_ok I1 hN hi hx r1 (fun s2 I2 => ⟨_, H1, I2, q1⟩) hf
end
section
variable {X : Cx} {pos : Pos}
end
/- at turn i: it yields x (the heap may grow), or it stops -/
set_option genInjectivity false in
set_option genSizeOfSpec false in
set_option genSizeOf false in
structure It where
  go : Nat → Hp → Prop
  yld : Nat → Hp → V → Hp → Prop
  stop : Nat → Hp → Prop
def FpOk (X : Cx) (pins : List (Addr × Obj)) (H : Hp) (b : Addr) : Prop :=
  H b = none ∧ b ≠ X.env.locals ∧ b ∉ X.fs ∧ (b ∈ X.ex ∨ X.s₀.heap.objs.size ≤ b) ∧ (∀ x c, X.env.cells.lookup x = some c → c ≠ b) ∧ ∀ p ∈ X.pn ++ pins, p.1 ≠ b
theorem Inv.fpOk {X : Cx} {pins : List (Addr × Obj)} {σ : St} {H H' : Hp} {s : Shared} {b : Addr} (I : Inv X pins σ H s) (hb : s.heap.objs.size ≤ b) (hn : H' b = none) : FpOk X pins H' b := by
  refine ⟨hn, Nat.ne_of_gt (Nat.lt_of_lt_of_le I.lt hb), I.nofs hb, .inr (Nat.le_trans I.sz hb), fun x c e z => ?_, fun p hp z => ?_⟩
  · obtain ⟨v, q⟩ := I.cell x c e
    exact absurd (Nat.lt_of_lt_of_le q.lt (by rw [z]; exact hb)) (Nat.lt_irrefl _)
  · exact absurd (Nat.lt_of_lt_of_le (Heap.lt_size (I.pin p hp).1) (by rw [z]; exact hb)) (Nat.lt_irrefl _)
structure Turn (P : Program) (w : World) (K : PySem.W.Frag) (tg : Expr) (J : It) (fp : List Addr) (it : Addr) (tn : Nat → Heap → Prop) : Prop where
  mem : it ∈ fp
  obj : ∀ i h, tn i h → ∀ b ∈ fp, ∃ o, h.get? b = some o ∧ ∀ v, o.data ≠ .cell v
  keep : ∀ i h h', tn i h → (∀ b ∈ fp, ∀ o, h.get? b = some o → h'.get? b = some o) → tn i h'
  item : ∀ (X : Cx), X.prog = P → X.w = w → X.K = K → X.calm = true → ∀ (i : Nat) (pins : List (Addr × Obj)) (s : Shared) (σ : St) (H : Hp) (E : Value → Shared → Prop), Inv X pins σ H s → (∀ b ∈ fp, FpOk X pins H b) → tn i s.heap → J.go i H →
    wpAny (model P w) X.A (pyNext (.ref it)) (fun r s1 => ∃ u, r = some u ∧
      wpAny (model P w) X.A (letOwnedTupleGo tg (.ref it) u) (fun _ s2 => ∃ x H', Inv X pins σ H' s2 ∧ RelV x u ∧ J.yld i H x H' ∧ tn (i + 1) s2.heap ∧ ∀ b ∈ fp, H' b = none) E s1) E s
  done : ∀ (X : Cx), X.prog = P → X.w = w → X.K = K → X.calm = true → ∀ (i : Nat) (pins : List (Addr × Obj)) (s : Shared) (σ : St) (H : Hp) (E : Value → Shared → Prop), Inv X pins σ H s → (∀ b ∈ fp, FpOk X pins H b) → tn i s.heap → J.stop i H →
    wpAny (model P w) X.A (pyNext (.ref it)) (fun r s1 => r = none ∧ Inv X pins σ H s1) E s
  self : ∀ (A : Around) (i : Nat) (s : Shared) (Q : Value → Shared → Prop) (E : Value → Shared → Prop), tn i s.heap → Q (.ref it) s → wpAny (model P w) A (pyIter (.ref it)) Q E s
abbrev TI := St → Hp → (It → Hp → Prop) → Prop
def PIE (X : Cx) (pins : List (Addr × Obj)) (σ : St) (tg : Expr) (R : It → Hp → Prop) (itv : Value) (s2 : Shared) : Prop :=
  ∃ (it : Addr) (fp : List Addr) (tn : Nat → Heap → Prop) (J : It) (H' : Hp), itv = .ref it ∧ Inv X pins σ H' s2 ∧ Turn X.prog X.w X.K tg J fp it tn ∧ tn 0 s2.heap ∧ (∀ b ∈ fp, FpOk X pins H' b) ∧ R J H'
@[irreducible] def PI (X : Cx) (tg iter : Expr) (wi : TI) : Prop :=
  ∀ (pins : List (Addr × Obj)) (s : Shared) (σ : St) (H : Hp) (R : It → Hp → Prop), Inv X pins σ H s → wi σ H R →
    wpAny (model X.prog X.w) X.A (eval iter X.env) (fun v s1 => wpAny (model X.prog X.w) X.A (pyIter v) (PIE X pins σ tg R) X.xe s1) X.xe s
theorem go_of {M : Model} {A : Around} {E : Value → Shared → Prop} {s : Shared} {tg : Expr} {it : Addr} {u : Value} {o : Obj} {n : String} {vs : Array Value} {Q : Unit → Shared → Prop} (ho : s.heap.get? it = some o) (hc : o.cls = .type n) (hd : o.data = .fields vs)
    (hn : ["enumerate", "zip", "dict_itemiterator", "dict_reverseitemiterator", "odict_iterator", "itertools.zip_longest", "itertools.pairwise"].contains n = false) (hQ : Q () s) : wpAny M A (letOwnedTupleGo tg (.ref it) u) Q E s := by
  unfold letOwnedTupleGo
  cases tg <;> first
    | exact wpAny_pure hQ
    | (cases u <;> first
        | exact wpAny_pure hQ
        | (refine wpAny_bind (wpAny_load ho ?_)
           rw [hc, hd]
           show wpAny M A (if (["enumerate", "zip", "dict_itemiterator", "dict_reverseitemiterator", "odict_iterator", "itertools.zip_longest", "itertools.pairwise"].contains n && vs[0]? == some (rawInt _)) = true then _ else _) Q E s
           rw [if_neg (by intro h; rw [hn, Bool.false_and] at h; cases h)]
           exact wpAny_pure hQ))
def Itl (K : PySem.W.Frag) (a : Addr) : It :=
  ⟨fun i H => ∃ xs x, SqL K H a xs ∧ xs[i]? = some x, fun i H x H' => H' = H ∧ ∀ xs, SqL K H a xs → xs[i]? = some x, fun i H => ∃ xs, SqL K H a xs ∧ xs.length ≤ i⟩
def Itr (lo : Int) (n : Nat) : It := ⟨fun i _ => i < n, fun i H x H' => H' = H ∧ x = .int (lo + i), fun i _ => n ≤ i⟩
theorem turn_list {P : Program} {w : World} {K : PySem.W.Frag} {tg : Expr} (a it : Addr) : Turn P w K tg (Itl K a) [it] it (fun i h => h.IsListIter it a i) where
  mem := by simp
  obj := fun i h st b hb => by
    have e : b = it := by simpa using hb
    subst e
    obtain ⟨o, e, c, d⟩ := st
    exact ⟨o, e, fun v z => by rw [d] at z; cases z⟩
  keep := fun i h h' st k => st.at fun o e => k it (by simp) o e
  item := by
    intro X hP hw hK hc i pins s σ H E I hf st hg
    subst hP hw hK
    obtain ⟨xs, x, hq, hx⟩ := hg
    obtain ⟨its, rv, p, hz⟩ := I.list hq
    obtain ⟨u, hu, ru⟩ := rv.get hx
    obtain ⟨f0, f1, f2, f3, f4, f5⟩ := hf it (by simp)
    refine wpAny_pyNext_list_item st p.isList (x := u) (by simpa using hu) fun h' st' sb => ?_
    have I1 : Inv X pins σ H { s with heap := h' } := I.turned (t' := s.toks) (fun b o hb e => (sb.2 b hb).trans e) f0 f1 f3 f4 f5
    obtain ⟨o, e, c, d⟩ := id st'
    exact ⟨u, rfl, go_of (s := { s with heap := h' }) e c d (by decide) ⟨x, H, I1, ru, ⟨rfl, fun ys hy => by rw [I.list_inj hy hq]; exact hx⟩, st', fun b hb => (hf b hb).1⟩⟩
  done := by
    intro X hP hw hK hc i pins s σ H E I hf st hg
    subst hP hw hK
    obtain ⟨xs, hq, hx⟩ := hg
    obtain ⟨its, rv, p, hz⟩ := I.list hq
    obtain ⟨f0, f1, f2, f3, f4, f5⟩ := hf it (by simp)
    have hl := rv.length
    exact wpAny_pyNext_list_end (I.ok.hd hc) st p.isList (by simp; omega) fun h' eb => ⟨rfl, I.turned (t' := s.toks) (fun b o hb e => eb b o hb e) f0 f1 f3 f4 f5⟩
  self := fun _ _ _ _ _ st h => wpAny_pyIter_listiter st h
theorem turn_range {P : Program} {w : World} {K : PySem.W.Frag} {tg : Expr} (it : Addr) (lo : Int) (n : Nat) : Turn P w K tg (Itr lo n) [it] it (fun i h => IsRangeIter h it (lo + (i : Nat) * 1) ((n : Int) - (i : Nat)) 1) where
  mem := by simp
  obj := fun i h st b hb => by
    have e : b = it := by simpa using hb
    subst e
    exact ⟨_, st, fun v z => by
      have z' : Data.fields _ = Data.cell v := z
      cases z'⟩
  keep := fun i h h' st k => k it (by simp) _ st
  item := by
    intro X hP hw hK hc i pins s σ H E I hf st hg
    subst hP hw hK
    obtain ⟨f0, f1, f2, f3, f4, f5⟩ := hf it (by simp)
    have W := Walks.range (prog := X.prog) (w := X.w) (I.ok.hd hc) it lo 1 n
    refine W.item i s _ _ hg st fun v h' tk hv st' kk => ?_
    obtain ⟨t, rfl⟩ := hv
    have I1 : Inv X pins σ H { s with heap := h', toks := tk } := I.turned (fun b o hb e => kk b o (by simpa using hb) e) f0 f1 f3 f4 f5
    refine ⟨_, rfl, go_of (s := { s with heap := h', toks := tk }) (n := "range_iterator") st' rfl rfl (by decide) ⟨.int (lo + i), H, I1, ⟨t, ?_⟩, ⟨rfl, rfl⟩, st', fun b hb => (hf b hb).1⟩⟩
    rw [Int.mul_one]
  done := by
    intro X hP hw hK hc i pins s σ H E I hf st hg
    subst hP hw hK
    obtain ⟨f0, f1, f2, f3, f4, f5⟩ := hf it (by simp)
    exact wpAny_pyNext_range_end (I.ok.hd hc) st (by have : n ≤ i := hg; omega) fun h' eb => ⟨rfl, I.turned (t' := s.toks) (fun b o hb e => eb b o hb e) f0 f1 f3 f4 f5⟩
  self := fun _ _ _ _ _ st h => wpAny_pyIter_rangeiter st h
end L2
namespace L2
open PySem PySem.Spec PyProof.Rows
section
variable {X : Cx} {tg : Expr}
def iList (K : PySem.W.Frag) (tl : TE) : TI := fun σ H R => tl σ H fun x H1 => ∃ a, x = .ref a ∧ (∃ xs, SqL K H1 a xs) ∧ R (Itl K a) H1
theorem pi_list {l : Expr} {tl : TE} (hl : PE X l tl) : PI X tg l (iList X.K tl) := by
  unfold PE at *; unfold PI at *
  exact by
    intro pins s σ H R I h
    refine thn (hl pins s σ H _ I h) fun v s1 ⟨x, H1, I1, r1, q1⟩ => ?_
    obtain ⟨a, e, ⟨xs, hq⟩, q⟩ := q1
    subst e
    cases r1
    obtain ⟨its, rv, p, hz⟩ := I1.list hq
    refine wpAny_pyIter_list p.isList ?_
    refine ⟨s1.heap.objs.size, [s1.heap.objs.size], _, _, H1, rfl, I1.kept (t' := s1.toks) fun b o e => Heap.get?_push_of_some _ e, turn_list a _, ⟨_, Heap.get?_push_size _ rfl, rfl, rfl⟩, fun b hb => ?_, q⟩
    have e : b = s1.heap.objs.size := by simpa using hb
    subst e
    exact I1.fpOk (Nat.le_refl _) (I1.hok.fresh (Nat.le_refl _))
theorem range_it {pins : List (Addr × Obj)} {σ : St} {H : Hp} {s : Shared} {R : It → Hp → Prop} {E : Value → Shared → Prop} {lo hi : Int} {t u v : Tok} {tk : Nat} (I : Inv X pins σ H s) (h1 : -(2 ^ 62) ≤ lo) (h2 : lo < 2 ^ 62) (h3 : -(2 ^ 62) ≤ hi) (h4 : hi < 2 ^ 62)
    (q : R (Itr lo (hi - lo).toNat) H) : wpAny (model X.prog X.w) X.A (pyIter (.ref s.heap.objs.size)) (PIE X pins σ tg R) E { s with heap := s.heap.push { cls := .type "range", data := .fields #[.int lo t, .int hi u, .int 1 v] }, toks := tk } := by
  refine wpAny_pyIter_range (IsRange.new ..) (small_one h1 h2 h3 h4) ?_
  have I1 : Inv X pins σ H { s with heap := s.heap.push { cls := .type "range", data := .fields #[.int lo t, .int hi u, .int 1 v] }, toks := tk } := I.kept fun b o e => Heap.get?_push_of_some _ e
  refine ⟨(s.heap.push { cls := .type "range", data := .fields #[.int lo t, .int hi u, .int 1 v] }).objs.size, [(s.heap.push { cls := .type "range", data := .fields #[.int lo t, .int hi u, .int 1 v] }).objs.size], _, _, H, rfl,
    I1.kept (t' := tk) fun b o e => Heap.get?_push_of_some _ e, turn_range _ lo (hi - lo).toNat, ?_, fun b hb => ?_, q⟩
  · have e1 : lo + ((0 : Nat) : Int) * 1 = lo := by simp
    have e2 : (((hi - lo).toNat : Nat) : Int) - ((0 : Nat) : Int) = Builtin.Range.rangeSize lo hi 1 := by rw [rangeSize_one]; split <;> omega
    show IsRangeIter _ _ (lo + ((0 : Nat) : Int) * 1) ((((hi - lo).toNat : Nat) : Int) - ((0 : Nat) : Int)) 1
    rw [e1, e2]
    exact Heap.get?_push_size _ rfl
  · have e : b = (s.heap.push { cls := .type "range", data := .fields #[.int lo t, .int hi u, .int 1 v] }).objs.size := by simpa using hb
    subst e
    exact I1.fpOk (Nat.le_refl _) (I1.hok.fresh (Nat.le_refl _))
def iRng1 (ta : TA) : TI := fun σ H R => ta σ H fun vs H1 => ∃ j : Int, vs = [.int j] ∧ -(2 ^ 62) ≤ j ∧ j < 2 ^ 62 ∧ R (Itr 0 j.toNat) H1
theorem pi_range1 {a : Expr} {ta : TA} {p pos : Pos} (hg : Gl X "range") (hm : X.mg "range" = none) (ha : PA X [a] ta) (hs : starEach [a] X.env = [(false, eval a X.env)] := by rfl) : PI X tg (.Call (.Name "range" p) [a] [] pos) (iRng1 ta) := by
  unfold PA at *; unfold PI at *
  exact by
    intro pins s σ H R I h
    refine Call_ (ld_blt I hg hm boot_range (PyProof.Rows.callWith_type1 (thn (ha pos pins s σ H _ I h) fun us s1 ⟨vs, H1, I1, r1, q1⟩ => ?_) hs rfl))
    obtain ⟨j, e, q1, q2, q⟩ := q1
    subst e
    cases r1 with
    | cons r rr =>
      cases rr
      obtain ⟨t, rfl⟩ := r
      exact call_range_1 (range_it I1 (by omega) (by omega) q1 q2 (by simpa using q))
def tFor (wi : TI) (g : TG) (tb : TS) : TS := fun D σ H => wi σ H fun J H1 => ∃ W : Nat → Nat → St → Hp → Prop, (∃ m, W 0 m σ H1) ∧ ∀ i m σ H, W i m σ H →
  (J.stop i H ∧ D.nx σ H) ∨ (J.go i H ∧ ∃ N : St → Hp → Prop, (∀ σ' H', N σ' H' → ∃ m', m' < m ∧ W (i + 1) m' σ' H') ∧ ∀ x H', J.yld i H x H' → g x σ H' fun σ2 H2 => tb { D with nx := N, ct := N, bk := D.nx } σ2 H2)
def pinsAt (fp : List Addr) (h : Heap) : List (Addr × Obj) := fp.filterMap fun b => (h.get? b).map fun o => (b, o)
theorem mem_pinsAt {fp : List Addr} {h : Heap} {b : Addr} {o : Obj} (hb : b ∈ fp) (e : h.get? b = some o) : (b, o) ∈ pinsAt fp h := List.mem_filterMap.mpr ⟨b, hb, by rw [e]; rfl⟩
theorem of_pinsAt {fp : List Addr} {h : Heap} {p : Addr × Obj} (hp : p ∈ pinsAt fp h) : p.1 ∈ fp ∧ h.get? p.1 = some p.2 := by
  obtain ⟨b, hb, e⟩ := List.mem_filterMap.mp hp
  cases q : h.get? b with
  | none => rw [q] at e; cases e
  | some o =>
    rw [q] at e
    have e' : (b, o) = p := Option.some.inj e
    subst e'
    exact ⟨hb, q⟩
theorem Inv.pinned {pins : List (Addr × Obj)} {σ : St} {H : Hp} {s : Shared} {fp : List Addr} (I : Inv X pins σ H s) (hf : ∀ b ∈ fp, FpOk X pins H b) (ho : ∀ b ∈ fp, ∃ o, s.heap.get? b = some o ∧ ∀ v, o.data ≠ .cell v) : Inv X (pins ++ pinsAt fp s.heap) σ H s :=
  I.pins_of fun p hp => (List.mem_append.mp hp).elim (fun z => I.pin p (List.mem_append_right _ z)) fun z => by
    obtain ⟨hb, e⟩ := of_pinsAt z
    obtain ⟨f0, f1, f2, _⟩ := hf p.1 hb
    obtain ⟨o, e', d⟩ := ho p.1 hb
    rw [e] at e'; cases e'
    exact ⟨e, f0, f1, f2, d⟩
theorem Inv.unpinned {pins pl : List (Addr × Obj)} {σ : St} {H : Hp} {s : Shared} (I : Inv X (pins ++ pl) σ H s) : Inv X pins σ H s := I.pins_of fun p hp => I.pin p (List.mem_append_right _ (List.mem_append_left _ hp))
theorem ps_for {iter : Expr} {body : List Stmt} {wi : TI} {g : TG} {tb : TS} {pos : Pos} (hp : PassesOwn (model X.prog X.w) X.A X.env X.xe) (hc : X.calm = true) (hi : PI X tg iter wi) (hg : PG X tg g) (hb : PSs X body tb)
    (hs : ∀ x, foldedSetIterable iter X.env x = pure x := by intro _; rfl) : PS X (.For tg iter body [] pos) (tFor wi g tb) := by
  unfold PS at *; unfold PSs at *; unfold PG at *; unfold PI at *
  exact by
    intro pins s σ H D I h
    refine wpAny_For (thn (hi pins s σ H _ I h) fun v s1 h1 => thn h1 fun itv s2 h2 => ?_) hs
    obtain ⟨it, fp, tn, J, H2, e, I2, T, st2, f2, W, ⟨m0, w0⟩, turn⟩ := h2
    subst e
    -- what stays true of the iterator's objects through the loop
    have stat : ∀ {H' : Hp}, (∀ b ∈ fp, H' b = none) → ∀ b ∈ fp, FpOk X pins H' b := fun hn b hb => ⟨hn b hb, (f2 b hb).2⟩
    refine codeAny_forLoop_any (fun n s' => ∃ i σ' H', Inv X pins σ' H' s' ∧ tn i s'.heap ∧ (∀ b ∈ fp, H' b = none) ∧ W i n σ' H') ?_ m0 ⟨0, σ, H2, I2, st2, fun b hb => (f2 b hb).1, w0⟩
    rintro n s3 ⟨i, σ3, H3, I3, st3, fr3, w3⟩
    rcases turn i n σ3 H3 w3 with ⟨stop, qn⟩ | ⟨go, N, hN, step⟩
    · refine wpAny_passesOwn hp (thn (T.done X rfl rfl rfl hc i pins s3 σ3 H3 X.xe I3 (stat fr3) st3 stop) fun r s4 ⟨hr, I4⟩ => ?_)
      subst hr
      exact wpAny_execs_nil ⟨σ3, H3, I4, qn⟩
    · refine wpAny_passesOwn hp (thn (T.item X rfl rfl rfl hc i pins s3 σ3 H3 X.xe I3 (stat fr3) st3 go) fun r s4 ⟨u, hr, h4⟩ => ?_)
      subst hr
      refine wpAny_passesOwn hp (thn h4 fun _ s5 ⟨x, H5, I5, r5, y5, st5, fr5⟩ => ?_)
      have I5' := I5.pinned (stat fr5) (T.obj _ _ st5)
      refine wpAny_passesOwn hp (thn (hg _ s5 σ3 H5 x u _ I5' r5 (step x H5 y5)) fun _ s6 ⟨σ6, H6, I6, q6⟩ => ?_)
      refine wpAny_passesOwn hp (thn (hb _ s6 σ6 H6 _ I6 q6) fun f s7 q7 => ?_)
      have again : ∀ {σ7 : St} {H7 : Hp}, Inv X (pins ++ pinsAt fp s5.heap) σ7 H7 s7 → N σ7 H7 → ∃ m, m < n ∧ ∃ i σ' H', Inv X pins σ' H' s7 ∧ tn i s7.heap ∧ (∀ b ∈ fp, H' b = none) ∧ W i m σ' H' := fun {σ7 H7} I7 n7 => by
        obtain ⟨m', hm, w7⟩ := hN σ7 H7 n7
        refine ⟨m', hm, i + 1, σ7, H7, I7.unpinned, T.keep _ _ _ st5 fun b hb o e => (I7.pin (b, o) (List.mem_append_right _ (List.mem_append_right _ (mem_pinsAt hb e)))).1, fun b hb => ?_, w7⟩
        obtain ⟨o, e, d⟩ := T.obj _ _ st5 b hb
        exact (I7.pin (b, o) (List.mem_append_right _ (List.mem_append_right _ (mem_pinsAt hb e)))).2.1
      cases f with
      | next => obtain ⟨σ7, H7, I7, n7⟩ := q7; exact again I7 n7
      | cont => obtain ⟨σ7, H7, I7, n7⟩ := q7; exact again I7 n7
      | brk => obtain ⟨σ7, H7, I7, q7⟩ := q7; exact ⟨σ7, H7, I7.unpinned, q7⟩
      | ret v => obtain ⟨x7, σ7, H7, I7, r7, q7⟩ := q7; exact ⟨x7, σ7, H7, I7.unpinned, r7, q7⟩
end
theorem for_range {lo : Int} {n : Nat} {g : TG} {tb : TS} {D : Ends} {σ : St} {H : Hp} (Pv : Nat → St → Hp → Prop) (h0 : Pv 0 σ H)
    (hs : ∀ i σ H, i < n → Pv i σ H → g (.int (lo + i)) σ H fun σ2 H2 => tb { D with nx := Pv (i + 1), ct := Pv (i + 1), bk := D.nx } σ2 H2) (hd : ∀ σ H, Pv n σ H → D.nx σ H) :
    ∃ W : Nat → Nat → St → Hp → Prop, (∃ m, W 0 m σ H) ∧ ∀ i m σ H, W i m σ H →
      ((Itr lo n).stop i H ∧ D.nx σ H) ∨ ((Itr lo n).go i H ∧ ∃ N : St → Hp → Prop, (∀ σ' H', N σ' H' → ∃ m', m' < m ∧ W (i + 1) m' σ' H') ∧ ∀ x H', (Itr lo n).yld i H x H' → g x σ H' fun σ2 H2 => tb { D with nx := N, ct := N, bk := D.nx } σ2 H2) := by
  refine ⟨fun i m σ H => m = n - i ∧ i ≤ n ∧ Pv i σ H, ⟨n, by simp, Nat.zero_le _, h0⟩, ?_⟩
  rintro i m σ H ⟨rfl, hi, p⟩
  by_cases hlt : i < n
  · refine .inr ⟨hlt, Pv (i + 1), fun σ' H' p' => ⟨n - (i + 1), by omega, rfl, hlt, p'⟩, fun x H' y => ?_⟩
    obtain ⟨e, y⟩ := y
    subst e y
    exact hs i σ _ hlt p
  · have e : i = n := by omega
    subst e
    exact .inl ⟨Nat.le_refl _, hd σ H p⟩
end L2
namespace L2
open PySem PySem.Spec PyProof.Rows
abbrev R2 := V → V → Hp → VK → Prop
@[irreducible] def OpR (X : Cx) (f : Value → Value → Sem Value) (r : R2) : Prop :=
  ∀ (pins : List (Addr × Obj)) (s : Shared) (σ : St) (H : Hp) (x y : V) (v u : Value) (Q : VK), Inv X pins σ H s → RelV x v → RelV y u → r x y H Q →
    wpAny (model X.prog X.w) X.A (f v u) (EP X pins σ Q) X.xe s
@[irreducible] def UnR (X : Cx) (f : Value → Sem Value) (r : V → Hp → VK → Prop) : Prop :=
  ∀ (pins : List (Addr × Obj)) (s : Shared) (σ : St) (H : Hp) (x : V) (v : Value) (Q : VK), Inv X pins σ H s → RelV x v → r x H Q →
    wpAny (model X.prog X.w) X.A (f v) (EP X pins σ Q) X.xe s
@[irreducible] def CallR (X : Cx) (f : Value) (r : List V → Hp → VK → Prop) : Prop :=
  ∀ (pins : List (Addr × Obj)) (s : Shared) (σ : St) (H : Hp) (xs : List V) (us : List Value) (Q : VK), Inv X pins σ H s → Vals xs us → r xs H Q →
    wpAny (model X.prog X.w) X.A (call f us) (EP X pins σ Q) X.xe s
def tOp (r : R2) (ta tb : TE) : TE := fun σ H Q => ta σ H fun x H1 => tb σ H1 fun y H2 => r x y H2 Q
def tUn (r : V → Hp → VK → Prop) (ta : TE) : TE := fun σ H Q => ta σ H fun x H1 => r x H1 Q
def rI (C : Int → Int → Prop) (g : Int → Int → V) : R2 := fun x y H Q => ∃ i j, x = .int i ∧ y = .int j ∧ C i j ∧ Q (g i j) H
def rI0 (g : Int → Int → V) : R2 := fun x y H Q => ∃ i j, x = .int i ∧ y = .int j ∧ Q (g i j) H
def rU (g : Int → V) : V → Hp → VK → Prop := fun x H Q => ∃ i, x = .int i ∧ Q (g i) H
section
variable {X : Cx} {a b c : Expr} {ta tb tc : TE} {pos : Pos}
theorem binT (ha : PE X a ta) (hb : PE X b tb) {pins : List (Addr × Obj)} {s : Shared} {σ : St} {H : Hp} {R : V → V → Hp → Prop} (I : Inv X pins σ H s)
    (h : ta σ H fun x H1 => tb σ H1 fun y H2 => R x y H2) {Q : Value → Shared → Prop} {f : Value → Value → Sem Value}
    (hf : ∀ v u s2 x y H2, Inv X pins σ H2 s2 → RelV x v → RelV y u → R x y H2 → wpAny (model X.prog X.w) X.A (f v u) Q X.xe s2) :
    wpAny (model X.prog X.w) X.A (eval a X.env) (fun v s₁ => wpAny (model X.prog X.w) X.A (eval b X.env) (fun u s₂ => wpAny (model X.prog X.w) X.A (f v u) Q X.xe s₂) X.xe s₁) X.xe s := by
  unfold PE at *
  exact by
    refine thn (ha pins s σ H _ I h) fun v s1 ⟨x, H1, I1, r1, q1⟩ => ?_
    refine thn (hb pins s1 σ H1 _ I1 q1) fun u s2 ⟨y, H2, I2, r2, q2⟩ => ?_
    exact hf v u s2 x y H2 I2 r1 r2 q2
theorem pe_op {op : Operator} {r : R2} (ho : OpR X (binaryOp op) r) (ha : PE X a ta) (hb : PE X b tb) : PE X (.BinOp a op b pos) (tOp r ta tb) := by
  unfold PE; unfold OpR at ho
  exact by
    intro pins s σ H Q I h
    exact wpAny_BinOp (binT ha hb I h fun v u s2 x y H2 I2 rx ry q => ho pins s2 σ H2 x y v u Q I2 rx ry q)
theorem pe_un {op : UnaryOp} {r : V → Hp → VK → Prop} (ho : UnR X (unaryOp op) r) (ha : PE X a ta) : PE X (.UnaryOp op a pos) (tUn r ta) := by
  unfold PE at *; unfold UnR at *
  exact by
    intro pins s σ H Q I h
    exact UnaryOp_ (thn (ha pins s σ H _ I h) fun v s1 ⟨x, H1, I1, r1, q1⟩ => ho pins s1 σ H1 x v Q I1 r1 q1)
theorem opI {f : Value → Value → Sem Value} {C : Int → Int → Prop} {g : Int → Int → Int}
    (rule : ∀ (i j : Int) (t u : Tok) (s : Shared) (Q : Value → Shared → Prop) (E : Value → Shared → Prop), C i j → Q (.int (g i j) s.toks) { s with toks := s.toks + 1 } → wpAny (model X.prog X.w) X.A (f (.int i t) (.int j u)) Q E s) :
    OpR X f (rI C fun i j => .int (g i j)) := by
  unfold OpR at *
  exact by
    intro pins s σ H x y v u Q I rx ry h
    obtain ⟨i, j, rfl, rfl, hc, q⟩ := h
    obtain ⟨t, rfl⟩ := rx
    obtain ⟨t', rfl⟩ := ry
    exact rule i j t t' s _ _ hc ⟨.int (g i j), H, I.tok _, ⟨_, rfl⟩, q⟩
theorem opI0 {f : Value → Value → Sem Value} {g : Int → Int → Int}
    (rule : ∀ (i j : Int) (t u : Tok) (s : Shared) (Q : Value → Shared → Prop) (E : Value → Shared → Prop), Q (.int (g i j) s.toks) { s with toks := s.toks + 1 } → wpAny (model X.prog X.w) X.A (f (.int i t) (.int j u)) Q E s) :
    OpR X f (rI0 fun i j => .int (g i j)) := by
  unfold OpR at *
  exact by
    intro pins s σ H x y v u Q I rx ry h
    obtain ⟨i, j, rfl, rfl, q⟩ := h
    obtain ⟨t, rfl⟩ := rx
    obtain ⟨t', rfl⟩ := ry
    exact rule i j t t' s _ _ ⟨.int (g i j), H, I.tok _, ⟨_, rfl⟩, q⟩
theorem opB0 {f : Value → Value → Sem Value} {g : Int → Int → Bool}
    (rule : ∀ (i j : Int) (t u : Tok) (s : Shared) (Q : Value → Shared → Prop) (E : Value → Shared → Prop), Q (.bool (g i j)) s → wpAny (model X.prog X.w) X.A (f (.int i t) (.int j u)) Q E s) :
    OpR X f (rI0 fun i j => .bl (g i j)) := by
  unfold OpR at *
  exact by
    intro pins s σ H x y v u Q I rx ry h
    obtain ⟨i, j, rfl, rfl, q⟩ := h
    obtain ⟨t, rfl⟩ := rx
    obtain ⟨t', rfl⟩ := ry
    exact rule i j t t' s _ _ ⟨.bl (g i j), H, I, rfl, q⟩
def CDiv (i j : Int) : Prop := 0 < j ∧ j < 1073741824
def CPow (i j : Int) : Prop := 0 ≤ j ∧ j ≤ 1000000 ∧ i.natAbs < 2 ^ 64
def CMul (i j : Int) : Prop := (-(2 ^ 64) < i ∧ i < 2 ^ 64) ∨ (-(2 ^ 64) < j ∧ j < 2 ^ 64)
theorem CMul.ok {i j : Int} (h : CMul i j) : IntMulOk i j := by
  rcases h with ⟨h1, h2⟩ | ⟨h1, h2⟩
  · exact .of_left (intBits_le_64 h1 h2)
  · exact .of_right (intBits_le_64 h1 h2)
theorem two_pow_nn (k : Nat) : (0 : Int) ≤ 2 ^ k := by
  rw [two_pow_cast]
  exact Int.natCast_nonneg _
theorem op_add : OpR X (binaryOp .Add) (rI0 fun i j => .int (i + j)) := by
  first
  | exact (opI0 fun _ _ _ _ _ _ _ q => add_int q)
  | (unfold OpR at *; exact (opI0 fun _ _ _ _ _ _ _ q => add_int q))
theorem op_sub : OpR X (binaryOp .Sub) (rI0 fun i j => .int (i - j)) := by
  first
  | exact (opI0 fun _ _ _ _ _ _ _ q => sub_int q)
  | (unfold OpR at *; exact (opI0 fun _ _ _ _ _ _ _ q => sub_int q))
theorem op_mul : OpR X (binaryOp .Mult) (rI CMul fun i j => .int (i * j)) := by
  first
  | exact (opI fun _ _ _ _ _ _ _ hc q => mul_int q hc.ok)
  | (unfold OpR at *; exact (opI fun _ _ _ _ _ _ _ hc q => mul_int q hc.ok))
theorem op_fdiv : OpR X (binaryOp .FloorDiv) (rI CDiv fun i j => .int (i / j)) := opI fun i j _ _ _ _ _ hc q => by
  have h1 : (0 : Int) < j := hc.1
  have h2 : j < 1073741824 := hc.2
  exact floordiv_int (by omega) (by rw [Int.fdiv_eq_ediv_of_nonneg i (by omega)]; exact q) (.inl (PyProof.noPylong_small (by omega)))
theorem op_mod : OpR X (binaryOp .Mod) (rI (fun _ j => 0 < j) fun i j => .int (i % j)) := opI fun i j _ _ _ _ _ hc q => by
  have h1 : (0 : Int) < j := hc
  exact mod_int' (by omega) (by rw [Int.fmod_eq_emod_of_nonneg i (by omega)]; exact q)
theorem op_pow : OpR X (binaryOp .Pow) (rI CPow fun i j => .int (i ^ j.toNat)) := by
  first
  | exact (opI fun _ _ _ _ _ _ _ hc q => pow_int_small hc.1 hc.2.1 hc.2.2 q)
  | (unfold OpR at *; exact (opI fun _ _ _ _ _ _ _ hc q => pow_int_small hc.1 hc.2.1 hc.2.2 q))
theorem op_shr : OpR X (binaryOp .RShift) (rI (fun _ j => 0 ≤ j) fun i j => .int (i / 2 ^ j.toNat)) := opI fun i j _ _ _ _ _ hc q =>
  rshift_int hc (by rw [Int.fdiv_eq_ediv_of_nonneg i (two_pow_nn _)]; exact q)
theorem unI {f : Value → Sem Value} {g : Int → Int}
    (rule : ∀ (i : Int) (t : Tok) (s : Shared) (Q : Value → Shared → Prop) (E : Value → Shared → Prop), Q (.int (g i) s.toks) { s with toks := s.toks + 1 } → wpAny (model X.prog X.w) X.A (f (.int i t)) Q E s) :
    UnR X f (rU fun i => .int (g i)) := by
  unfold UnR at *
  exact by
    intro pins s σ H x v Q I rx h
    obtain ⟨i, rfl, q⟩ := h
    obtain ⟨t, rfl⟩ := rx
    exact rule i t s _ _ ⟨.int (g i), H, I.tok _, ⟨_, rfl⟩, q⟩
theorem un_neg : UnR X (unaryOp .USub) (rU fun i => .int (-i)) := by
  first
  | exact (unI fun _ _ _ _ _ q => neg_int q)
  | (unfold UnR at *; exact (unI fun _ _ _ _ _ q => neg_int q))
end
def scal : V → V → Bool
  | .non, .non => true | .non, .int _ => true | .int _, .non => true | .non, .bl _ => true | .bl _, .non => true | .non, .str _ => true | .str _, .non => true
  | .int _, .int _ => true | .bl _, .bl _ => true | .str _, .str _ => true | .byt _, .byt _ => true
  | .int _, .str _ => true | .str _, .int _ => true | .bl _, .str _ => true | .str _, .bl _ => true
  | _, _ => false
def rEq : R2 := fun x y H Q => scal x y = true ∧ Q (.bl (decide (x = y))) H
def rNe : R2 := fun x y H Q => scal x y = true ∧ Q (.bl (!decide (x = y))) H
theorem dec_int {i j : Int} : decide (V.int i = V.int j) = (i == j) := by
  rw [Bool.eq_iff_iff]
  simp
theorem dec_bl {i j : Bool} : decide (V.bl i = V.bl j) = (i == j) := by
  rw [Bool.eq_iff_iff]
  simp
theorem dec_str {i j : Str} : decide (V.str i = V.str j) = (i == j) := by
  rw [Bool.eq_iff_iff]
  simp
theorem dec_byt {i j : Array UInt8} : decide (V.byt i = V.byt j) = (i.toList == j.toList) := by
  rw [Bool.eq_iff_iff]
  cases i
  cases j
  simp
section
variable {X : Cx} {a b c : Expr} {ta tb tc : TE} {pos : Pos}
theorem fin_bl {pins : List (Addr × Obj)} {σ : St} {H : Hp} {s : Shared} {Q : VK} {k k' : Bool} (I : Inv X pins σ H s) (q : Q (.bl k) H) (e : k = k') : EP X pins σ Q (.bool k') s := by
  subst e
  exact ⟨.bl k, H, I, rfl, q⟩
theorem op_eq : OpR X (compareOp .Eq) rEq := by
  unfold OpR at *
  exact by
    intro pins s σ H x y v u Q I rx ry h
    obtain ⟨hs, q⟩ := h
    cases x with
    | non =>
      cases rx
      cases y with
      | non => cases ry; exact PySem.EqNone.eq_none_none (fin_bl I q (by simp))
      | bl j => cases ry; exact PySem.EqNone.eq_none_bool (fin_bl I q (by simp))
      | int j => obtain ⟨t', rfl⟩ := ry; exact PySem.EqNone.eq_none_int (fin_bl I q (by simp))
      | str j => obtain ⟨t', rfl⟩ := ry; exact PySem.EqNone.eq_none_str (fin_bl I q (by simp))
      | _ => exact absurd (show false = true from hs) Bool.false_ne_true
    | bl i =>
      cases rx
      cases y with
      | non => cases ry; exact PySem.EqNone.eq_bool_none (fin_bl I q (by simp))
      | bl j => cases ry; exact eq_bool (fin_bl I q dec_bl)
      | str j => obtain ⟨t', rfl⟩ := ry; exact PySem.EqMixed.eq_bool_str (fin_bl I q (by simp))
      | _ => exact absurd (show false = true from hs) Bool.false_ne_true
    | int i =>
      obtain ⟨t, rfl⟩ := rx
      cases y with
      | non => cases ry; exact PySem.EqNone.eq_int_none (fin_bl I q (by simp))
      | int j => obtain ⟨t', rfl⟩ := ry; exact eq_int (fin_bl I q dec_int)
      | str j => obtain ⟨t', rfl⟩ := ry; exact PySem.EqMixed.eq_int_str (fin_bl I q (by simp))
      | _ => exact absurd (show false = true from hs) Bool.false_ne_true
    | str i =>
      obtain ⟨t, rfl⟩ := rx
      cases y with
      | non => cases ry; exact PySem.EqNone.eq_str_none (fin_bl I q (by simp))
      | bl j => cases ry; exact PySem.EqMixed.eq_str_bool (fin_bl I q (by simp))
      | int j => obtain ⟨t', rfl⟩ := ry; exact PySem.EqMixed.eq_str_int (fin_bl I q (by simp))
      | str j => obtain ⟨t', rfl⟩ := ry; exact eq_str (fin_bl I q dec_str)
      | _ => exact absurd (show false = true from hs) Bool.false_ne_true
    | byt i =>
      obtain ⟨t, rfl⟩ := rx
      cases y with
      | byt j => obtain ⟨t', rfl⟩ := ry; exact PySem.W.eq_bytes (fin_bl I q dec_byt)
      | _ => exact absurd (show false = true from hs) Bool.false_ne_true
    | _ => cases y <;> exact absurd (show false = true from hs) Bool.false_ne_true
theorem op_ne : OpR X (compareOp .NotEq) rNe := by
  unfold OpR at *
  exact by
    intro pins s σ H x y v u Q I rx ry h
    obtain ⟨hs, q⟩ := h
    cases x with
    | non =>
      cases rx
      cases y with
      | non => cases ry; exact PySem.EqNone.ne_none_none (fin_bl I q (by simp))
      | bl j => cases ry; exact PySem.EqNone.ne_none_bool (fin_bl I q (by simp))
      | int j => obtain ⟨t', rfl⟩ := ry; exact PySem.EqNone.ne_none_int (fin_bl I q (by simp))
      | str j => obtain ⟨t', rfl⟩ := ry; exact PySem.EqNone.ne_none_str (fin_bl I q (by simp))
      | _ => exact absurd (show false = true from hs) Bool.false_ne_true
    | bl i =>
      cases rx
      cases y with
      | non => cases ry; exact PySem.EqNone.ne_bool_none (fin_bl I q (by simp))
      | bl j => cases ry; exact ne_bool (fin_bl I q (congrArg not dec_bl))
      | str j => obtain ⟨t', rfl⟩ := ry; exact PySem.EqMixed.ne_bool_str (fin_bl I q (by simp))
      | _ => exact absurd (show false = true from hs) Bool.false_ne_true
    | int i =>
      obtain ⟨t, rfl⟩ := rx
      cases y with
      | non => cases ry; exact PySem.EqNone.ne_int_none (fin_bl I q (by simp))
      | int j => obtain ⟨t', rfl⟩ := ry; exact ne_int (fin_bl I q (congrArg not dec_int))
      | str j => obtain ⟨t', rfl⟩ := ry; exact PySem.EqMixed.ne_int_str (fin_bl I q (by simp))
      | _ => exact absurd (show false = true from hs) Bool.false_ne_true
    | str i =>
      obtain ⟨t, rfl⟩ := rx
      cases y with
      | non => cases ry; exact PySem.EqNone.ne_str_none (fin_bl I q (by simp))
      | bl j => cases ry; exact PySem.EqMixed.ne_str_bool (fin_bl I q (by simp))
      | int j => obtain ⟨t', rfl⟩ := ry; exact PySem.EqMixed.ne_str_int (fin_bl I q (by simp))
      | str j => obtain ⟨t', rfl⟩ := ry; exact ne_str (fin_bl I q (congrArg not dec_str))
      | _ => exact absurd (show false = true from hs) Bool.false_ne_true
    | byt i =>
      obtain ⟨t, rfl⟩ := rx
      cases y with
      | byt j => obtain ⟨t', rfl⟩ := ry; exact PySem.W.ne_bytes (fin_bl I q (congrArg not dec_byt))
      | _ => exact absurd (show false = true from hs) Bool.false_ne_true
    | _ => cases y <;> exact absurd (show false = true from hs) Bool.false_ne_true
theorem op_lt : OpR X (compareOp .Lt) (rI0 fun i j => .bl (decide (i < j))) := by
  first
  | exact (opB0 fun _ _ _ _ _ _ _ q => lt_int q)
  | (unfold OpR at *; exact (opB0 fun _ _ _ _ _ _ _ q => lt_int q))
theorem op_le : OpR X (compareOp .LtE) (rI0 fun i j => .bl (decide (i ≤ j))) := by
  first
  | exact (opB0 fun _ _ _ _ _ _ _ q => le_int q)
  | (unfold OpR at *; exact (opB0 fun _ _ _ _ _ _ _ q => le_int q))
theorem OpR.or {f : Value → Value → Sem Value} {r r' : R2} (h : OpR X f r) (h' : OpR X f r') : OpR X f (fun x y H Q => r x y H Q ∨ r' x y H Q) := by
  unfold OpR at *
  exact by
    intro pins s σ H x y v u Q I rx ry q
    rcases q with q | q
    · exact h pins s σ H x y v u Q I rx ry q
    · exact h' pins s σ H x y v u Q I rx ry q
theorem nomark (b : Expr) {op : CmpOp} (h : op ≠ .In := by decide) (h2 : op ≠ .NotIn := by decide) : behindInMarks op b = false := by
  have e1 : (op == CmpOp.In) = false := by cases op <;> first | rfl | exact absurd rfl h
  have e2 : (op == CmpOp.NotIn) = false := by cases op <;> first | rfl | exact absurd rfl h2
  cases b <;> simp [behindInMarks, e1, e2]
theorem pe_cmpR {op : CmpOp} {r : R2} (ho : OpR X (compareOp op) r) (ha : PE X a ta) (hb : PE X b tb) (hm : behindInMarks op b = false) : PE X (.Compare a [op] [b] pos) (tOp r ta tb) := by
  unfold PE; unfold OpR at ho
  exact by
    intro pins s σ H Q I h
    exact wpAny_Compare1 (binT ha hb I h fun v u s2 x y H2 I2 rx ry q => ho pins s2 σ H2 x y v u Q I2 rx ry q) hm
def tTest (t : TE) : TT := fun σ H Q => t σ H fun x H' => ∃ k, x = .bl k ∧ Q k H'
theorem pt_cmpR {op : CmpOp} {r : R2} (ho : OpR X (compareOp op) r) (ha : PE X a ta) (hb : PE X b tb) (hm : behindInMarks op b = false) : PT X (.Compare a [op] [b] pos) (tTest (tOp r ta tb)) := by
  unfold PE at *; unfold PT at *; unfold OpR at *
  exact by
    intro pins s σ H Q I h
    refine wpAny_isTrue_Compare1 (thn (ha pins s σ H _ I h) fun v s1 ⟨x, H1, I1, r1, q1⟩ => thn (hb pins s1 σ H1 _ I1 q1) fun u s2 ⟨y, H2, I2, r2, q2⟩ =>
      thn (ho pins s2 σ H2 x y v u _ I2 r1 r2 q2) fun c s3 ⟨z, H3, I3, r3, k, e, q3⟩ => ?_) hm
    subst e
    cases r3
    exact wpAny_truthy_bool ⟨H3, I3, q3⟩
def tChain (r r' : R2) (ta tb tc : TE) : TE := fun σ H Q => ta σ H fun x H1 => tb σ H1 fun y H2 => r x y H2 fun z H3 => ∃ k, z = .bl k ∧
  (if k = true then tc σ H3 fun w' H4 => r' y w' H4 Q else Q (.bl false) H3)
theorem pe_chain {op op' : CmpOp} {r r' : R2} (ho : OpR X (compareOp op) r) (ho' : OpR X (compareOp op') r') (ha : PE X a ta) (hb : PE X b tb) (hc : PE X c tc)
    (hm : lastMarks [op, op'] [b, c] = false := by with_unfolding_all rfl) : PE X (.Compare a [op, op'] [b, c] pos) (tChain r r' ta tb tc) := by
  unfold PE at *; unfold OpR at *
  exact by
    intro pins s σ H Q I h
    refine Compare_chain (thn (ha pins s σ H _ I h) fun v s1 ⟨x, H1, I1, r1, q1⟩ => chain_link (thn (hb pins s1 σ H1 _ I1 q1) fun u s2 ⟨y, H2, I2, r2, q2⟩ =>
      thn (ho pins s2 σ H2 x y v u _ I2 r1 r2 q2) fun d s3 ⟨z, H3, I3, r3, k, e, q3⟩ => ?_)) hm
    subst e
    cases r3
    refine wpAny_truthy_bool ?_
    cases k with
    | false => exact ite_ff ⟨.bl false, H3, I3, rfl, q3⟩
    | true => exact ite_tt (chain_last (thn (hc pins s3 σ H3 _ I3 q3) fun w' s4 ⟨z', H4, I4, r4, q4⟩ => ho' pins s4 σ H4 y z' u w' Q I4 r2 r4 q4))
theorem line63 : (sizeLine : Nat) < 2 ^ 63 := by rw [sizeLine_eq]; decide
theorem vals1 {x : V} {us : List Value} (r : Vals [x] us) : ∃ u, us = [u] ∧ RelV x u := by
  cases r with
  | cons r1 r2 => cases r2; exact ⟨_, rfl, r1⟩
end
end L2
namespace L2
open PySem PySem.Spec PyProof.Rows
structure ObjM (h : Heap) (x dx C : Addr) (mA : Str → Option Value) : Prop where
  obj : h.get? x = some (PySem.W.instObj C dx)
  ns : h.Ns1 dx mA
  ne : dx ≠ x
theorem lookIn_ns {h : Heap} {dx : Addr} {mA : Str → Option Value} (n : h.Ns1 dx mA) : ∃ od, h.get? dx = some od ∧ ∀ name, PySem.W.lookIn name od = some (mA name) := by
  obtain ⟨o, es, ep, ho, hd, hk, _, hm⟩ := n
  refine ⟨o, ho, fun name => ?_⟩
  have e := hm name
  unfold nsFind findBy at e
  rw [← Array.find?_toList] at e
  unfold PySem.W.lookIn
  rw [hd]
  dsimp only
  split
  · rename_i y q
    rw [q] at e
    exact congrArg some e
  · rename_i q
    rw [q] at e
    have a : es.toList.any (·.refKey) = false := by
      rw [List.any_eq_false]
      intro y hy
      obtain ⟨z, t, hkey⟩ := hk y (Array.mem_toList_iff.mp hy)
      simp [DictEntry.refKey, hkey]
    have a' : ¬ es.toList.any (·.refKey) = true := by rw [a]; exact Bool.false_ne_true
    rw [if_neg a']
    exact congrArg some e
theorem ObjM.look {h : Heap} {x dx C : Addr} {mA : Str → Option Value} (I : ObjM h x dx C mA) : ∃ od, PySem.W.InstAt h x (PySem.W.instObj C dx) C (some od) ∧ ∀ name, PySem.W.lookIn name od = some (mA name) :=
  let ⟨od, ho, hl⟩ := lookIn_ns I.ns
  ⟨od, ⟨I.obj, rfl, rfl, ho⟩, hl⟩
section
variable {prog : Program} {w : World} {A : Around} {E : Value → Shared → Prop} {s : Shared} {K : PySem.W.Frag} {x dx C f : Addr} {mA : Str → Option Value} {name : Str} {v : Value}
theorem get_map {expr : Bool} {Q : Value → Shared → Prop} (X : K.In s.heap) (I : ObjM s.heap x dx C mA) (hg : PySem.W.plainGet K C name = true) (hh : PySem.W.hasDictIn K C = true)
    (ha : PySem.W.findIn K (.ref C) name = some none) (hv : mA name = some v) (hv' : PySem.W.handedIn v = true) (h : Q v { s with toks := s.toks + 1 }) :
    wpAny (model prog w) A (getAttr (.ref x) name expr) Q E s := by
  obtain ⟨od, J, hl⟩ := I.look
  exact PySem.W.get_value X J (PySem.W.plainGet_of hg).1 (PySem.W.findObj_own hh ha rfl (by rw [hl, hv])) hv' h
theorem set_map {ns : List Str} {Q : Unit → Shared → Prop} (X : K.In s.heap) (I : ObjM s.heap x dx C mA)
    (hs : PySem.W.findIn K (.ref C) "__setattr__" = some (some (.builtin "object.__setattr__"))) (hp : PySem.W.plainOver K C = true) (ht : PySem.W.takerIn K C name = some none) (hh : PySem.W.hasDictIn K C = true)
    (hw : PySem.Within mA ns) (hsz : ns.length ≤ sizeLine)
    (h : ∀ h', ObjM h' x dx C (fun y => if y = name then some v else mA y) → Heap.SameBut dx s.heap h' → Q () { s with heap := h', toks := s.toks + 2 }) :
    wpAny (model prog w) A (setAttr (.ref x) name v) Q E s := by
  obtain ⟨od, J, hl⟩ := I.look
  refine PySem.W.set_plain X J hs (PySem.W.osa_open (s := { s with toks := s.toks + 1 }) (r := none) X J hp ht fun b => ?_)
  obtain ⟨cd, hc, hd'⟩ := PySem.W.any_some hh
  have hx : s.heap.get? x = some ⟨.ref C, some dx, .plain, #[]⟩ := I.obj
  refine wpAny_bind (wpAny_pure (wpAny_bind (wpAny_bind (wpAny_loadPart hx (wpAny_bind (PySem.W.Looks.here (s := { s with toks := s.toks + 1 }) (PySem.W.looks_clsIn X hc) ?_))))))
  rw [hd']
  refine wpAny_pure (a := some dx) (wpAny_bind (wpAny_pure (wpAny_bind ?_)))
  refine wpAny_nsSet1 (s := { s with toks := s.toks + 1 }) I.ns fun h' hn2 hs2 => ?_
  obtain ⟨oD, esD, epD, hoD, hdD, hcD⟩ := hn2.count (PySem.Within.cons name v hw)
  refine wpAny_bind (wpAny_lookBehind hoD (by rw [hdD]; exact pastItsLine_dict (Nat.le_trans hcD (by rw [List.length_cons]; omega))) ?_)
  exact wpAny_pure (h _ ⟨(hs2.2 _ (Ne.symm I.ne)).trans I.obj, hn2, I.ne⟩ hs2)
theorem make_map {R : Result → Shared → Prop} {vs : List Value} {kw : List (Str × Value)} (X : K.In s.heap) (hm : PySem.W.makesIn K C = true)
    (hi : PySem.W.findIn K (.ref C) "__init__" = some (some (.ref f))) (hf : PySem.W.typeIn K (.ref f) = some (.type "function"))
    (h : codeAny (model prog w) (A.under (.builtin "type.__call__" ⟨.ref C :: vs, kw⟩)) (.call (.ref f) ⟨.ref (s.heap.objs.size + 1) :: vs, kw⟩) (PySem.W.InitBack (s.heap.objs.size + 1) R)
      { s with heap := (s.heap.push PySem.W.emptyDict).push (PySem.W.instObj C s.heap.objs.size) }) :
    codeAny (model prog w) A (.call (.ref C) ⟨vs, kw⟩) R s := by
  obtain ⟨hh, g, d, t, os⟩ := s
  exact PySem.W.make_core (PySem.W.makes_of X hm) (PySem.W.looks_findIn X hi) (fun self => PySem.W.bind_fn X self hf) (.inl rfl) h
end
def putF (f : Str) (v : V) : List (Str × V) → List (Str × V)
  | [] => [(f, v)]
  | (g, x) :: r => if g = f then (g, v) :: r else (g, x) :: putF f v r
theorem lookup_putF (f g : Str) (v : V) : ∀ fs : List (Str × V), (putF f v fs).lookup g = if g = f then some v else fs.lookup g
  | [] => by
    show List.lookup g [(f, v)] = _
    by_cases h : g = f
    · have hb : (g == f) = true := beq_iff_eq.mpr h
      simp only [List.lookup, hb, if_pos h]
    · have hb : (g == f) = false := beq_eq_false_iff_ne.mpr h
      simp only [List.lookup, hb, if_neg h]
  | (k, x) :: r => by
    have ih := lookup_putF f g v r
    rw [show putF f v ((k, x) :: r) = (if k = f then (k, v) :: r else (k, x) :: putF f v r) from rfl]
    by_cases hk : k = f
    · rw [if_pos hk]
      by_cases h : g = k
      · have hb : (g == k) = true := beq_iff_eq.mpr h
        simp only [List.lookup, hb, if_pos (h.trans hk)]
      · have hb : (g == k) = false := beq_eq_false_iff_ne.mpr h
        simp only [List.lookup, hb, if_neg (fun e : g = f => h (e.trans hk.symm))]
    · rw [if_neg hk]
      by_cases h : g = k
      · have hb : (g == k) = true := beq_iff_eq.mpr h
        simp only [List.lookup, hb, if_neg (fun e : g = f => hk (h.symm.trans e))]
      · have hb : (g == k) = false := beq_eq_false_iff_ne.mpr h
        simp only [List.lookup, hb]
        exact ih
theorem keys_putF (f : Str) (v : V) : ∀ fs : List (Str × V), f ∈ (putF f v fs).map (·.1) ∧ ∀ g, g ∈ fs.map (·.1) → g ∈ (putF f v fs).map (·.1)
  | [] => ⟨by simp [putF], fun g h => by simp at h⟩
  | (k, x) :: r => by
    obtain ⟨i1, i2⟩ := keys_putF f v r
    rw [show putF f v ((k, x) :: r) = (if k = f then (k, v) :: r else (k, x) :: putF f v r) from rfl]
    by_cases hk : k = f
    · rw [if_pos hk]
      subst hk
      exact ⟨by simp, fun g h => by simpa using h⟩
    · rw [if_neg hk]
      refine ⟨?_, fun g h => ?_⟩
      · rw [List.map_cons]
        exact List.mem_cons_of_mem _ i1
      · rw [List.map_cons] at h ⊢
        rcases List.mem_cons.mp h with e | e
        · exact List.mem_cons.mpr (.inl e)
        · exact List.mem_cons_of_mem _ (i2 g e)
theorem length_putF (f : Str) (v : V) : ∀ fs : List (Str × V), (putF f v fs).length ≤ fs.length + 1
  | [] => by simp [putF]
  | (k, x) :: r => by
    have ih := length_putF f v r
    rw [show putF f v ((k, x) :: r) = (if k = f then (k, v) :: r else (k, x) :: putF f v r) from rfl]
    by_cases hk : k = f
    · rw [if_pos hk, List.length_cons, List.length_cons]; omega
    · rw [if_neg hk, List.length_cons, List.length_cons]; omega
theorem RelO.some_of {v : V} {o : Option Value} (r : RelO (some v) o) : ∃ u, o = some u ∧ RelV v u := by
  cases o with
  | none => exact (show False from r).elim
  | some u => exact ⟨u, rfl, r⟩
theorem handed_of {v : V} {u : Value} (r : RelV v u) : PySem.W.handedIn u = true := by
  cases v with
  | non => cases (show u = Value.none from r); rfl
  | bl b => cases (show u = Value.bool b from r); rfl
  | int i => obtain ⟨t, e⟩ := (show ∃ t, u = Value.int i t from r); cases e; rfl
  | str x => obtain ⟨t, e⟩ := (show ∃ t, u = Value.str x t from r); cases e; rfl
  | byt b => obtain ⟨t, e⟩ := (show ∃ t, u = Value.bytes b t from r); cases e; rfl
  | flt b => obtain ⟨t, e⟩ := (show ∃ t, u = Value.float b t from r); cases e; rfl
  | ref a => cases (show u = Value.ref a from r); rfl
  | ty n => cases (show u = Value.type n from r); rfl
section
variable {P : Program} {w : World} {H H' : Hp} {h h' : Heap} {a C dx : Addr} {fs fs' : List (Str × V)}
theorem ins_get (hok : HOk P w H h) (e : H a = some (.ins C dx fs)) : ∃ mA, ObjM h a dx C mA ∧ (∀ f, RelO (fs.lookup f) (mA f)) ∧ PySem.Within mA (fs.map (·.1)) ∧ fs.length ≤ 1000 ∧ H dx = some (.own a) := by
  obtain ⟨d, z, ne, ob, mA, n, r, q⟩ := (show ObjOk P w H h a (.ins C dx fs) from hok a _ e)
  exact ⟨mA, ⟨ob, n, ne⟩, r, q, z, d⟩
end
structure Cls (K : PySem.W.Frag) (C : Addr) : Prop where
  pg : PySem.W.plainGet K C Str.empty = true
  hd : PySem.W.hasDictIn K C = true
  po : PySem.W.plainOver K C = true
  sa : PySem.W.findIn K (.ref C) "__setattr__" = some (some (.builtin "object.__setattr__"))
theorem Cls.get {K : PySem.W.Frag} {C : Addr} (c : Cls K C) (f : Str) : PySem.W.plainGet K C f = true := c.pg
def NoAttr (K : PySem.W.Frag) (C : Addr) (f : Str) : Prop := PySem.W.findIn K (.ref C) f = some none
theorem NoAttr.taker {K : PySem.W.Frag} {C : Addr} {f : Str} (n : NoAttr K C f) : PySem.W.takerIn K C f = some none := by
  unfold PySem.W.takerIn
  rw [show PySem.W.findIn K (.ref C) f = some none from n]
  rfl
section
variable {X : Cx} {pins : List (Addr × Obj)} {σ : St} {H : Hp} {s : Shared} {a C dx : Addr} {fs : List (Str × V)} {f : Str} {v : V} {A : Around} {E : Value → Shared → Prop}
theorem getattr_ok {b : Bool} {Q : Value → Shared → Prop} (I : Inv X pins σ H s) (e : H a = some (.ins C dx fs)) (c : Cls X.K C) (n : NoAttr X.K C f) (l : fs.lookup f = some v)
    (h : ∀ u s', Inv X pins σ H s' → RelV v u → Q u s') : wpAny (model X.prog X.w) A (getAttr (.ref a) f b) Q E s := by
  obtain ⟨mA, O, r, _, _, _⟩ := ins_get I.hok e
  obtain ⟨u, hu, ru⟩ := RelO.some_of (v := v) (o := mA f) (by rw [← l]; exact r f)
  exact get_map I.kIn O (c.get f) c.hd n hu (handed_of ru) (h u _ (I.tok _) ru)
theorem setattr_ok {y : V} {u : Value} {Q : Unit → Shared → Prop} (I : Inv X pins σ H s) (e : H a = some (.ins C dx fs)) (c : Cls X.K C) (n : NoAttr X.K C f) (hl : fs.length < 1000) (ry : RelV y u)
    (h : ∀ s', Inv X pins σ (upd H a (.ins C dx (putF f y fs))) s' → Q () s') : wpAny (model X.prog X.w) A (setAttr (.ref a) f u) Q E s := by
  obtain ⟨mA, O, r, wi, _, ho⟩ := ins_get I.hok e
  have hz : (fs.map (·.1)).length ≤ sizeLine := by rw [List.length_map, sizeLine_eq]; omega
  refine set_map I.kIn O c.sa c.po n.taker c.hd wi hz fun h' O' sb => h _ ?_
  have hd : ∃ o, h'.get? dx = some o := let ⟨o, _, _, e', _⟩ := O'.ns; ⟨o, e'⟩
  refine I.write (x := a) (e := dx) (by rw [e]; exact True.intro) (.inr ho) (fun b q hb z => (sb.2 b hb).trans z) hd ?_
  refine ⟨by rw [upd_ne O.ne]; exact ho, ?_, O.ne, O'.obj, _, O'.ns, fun g => ?_, fun g hg => ?_⟩
  · have := length_putF f y fs; omega
  · show RelO ((putF f y fs).lookup g) (if g = f then some u else mA g)
    rw [lookup_putF]
    by_cases q : g = f
    · rw [if_pos q, if_pos q]; exact ry
    · rw [if_neg q, if_neg q]; exact r g
  · by_cases q : g = f
    · rw [q]; exact (keys_putF f y fs).1
    · refine (keys_putF f y fs).2 g (wi g fun z => hg ?_)
      show (if g = f then some u else mA g) = none
      rw [if_neg q]; exact z
theorem Inv.made (I : Inv X pins σ H s) : Inv X pins σ (upd (upd H s.heap.objs.size (.own (s.heap.objs.size + 1))) (s.heap.objs.size + 1) (.ins C s.heap.objs.size []))
    { s with heap := (s.heap.push PySem.W.emptyDict).push (PySem.W.instObj C s.heap.objs.size) } := by
  have e1 : (s.heap.push PySem.W.emptyDict).get? s.heap.objs.size = some PySem.W.emptyDict := Heap.get?_push_size s.heap rfl
  have e2 : ((s.heap.push PySem.W.emptyDict).push (PySem.W.instObj C s.heap.objs.size)).get? (s.heap.objs.size + 1) = some (PySem.W.instObj C s.heap.objs.size) := by
    have := Heap.get?_push_size (s.heap.push PySem.W.emptyDict) (o := PySem.W.instObj C s.heap.objs.size) rfl
    rwa [Heap.size_push] at this
  have e3 : (s.heap.push PySem.W.emptyDict).Ns s.heap.objs.size (fun _ => none) := ⟨PySem.W.emptyDict, #[], _, e1, rfl, (fun e he => absurd he (by simp)), fun _ => rfl⟩
  have I1 := I.laid (a := s.heap.objs.size) (o := .own (s.heap.objs.size + 1)) (h' := s.heap.push PySem.W.emptyDict) (t' := s.toks) (fun b u q => Heap.get?_push_of_some _ q) (Nat.le_refl _) ⟨_, e1⟩
  refine I1.laid (a := s.heap.objs.size + 1) (o := .ins C s.heap.objs.size []) (t' := s.toks) (fun b u q => Heap.get?_push_of_some _ q) (Nat.le_of_eq (Heap.size_push _ _)) ?_
  have ne : s.heap.objs.size ≠ s.heap.objs.size + 1 := Nat.ne_of_lt (Nat.lt_succ_self _)
  refine ⟨by rw [upd_ne ne, upd_same], Nat.zero_le _, ne, e2, fun _ => none, (Heap.Ns1.of_empty e3).at fun o q => Heap.get?_push_of_some _ q, fun _ => True.intro, fun y hy => absurd rfl hy⟩
theorem attr_of {prog : Program} {w : World} {env : Env} {e : Expr} {f : Str} {pos : Pos} {s : Shared} {Q : Value → Shared → Prop} (hb : attributeBase e f env (eval e env) = eval e env)
    (h : wpAny (model prog w) A (eval e env) (fun o s₁ => wpAny (model prog w) A (getAttr o f true) Q E s₁) E s) : wpAny (model prog w) A (eval (.Attribute e f pos) env) Q E s :=
  Attribute_any_ h (by rw [arm_eval_Attribute, hb])
end
def tFld (K : PySem.W.Frag) (ta : TE) (f : Str) : TE := fun σ H Q => ta σ H fun x H1 => ∃ a C dx fs v, x = .ref a ∧ H1 a = some (.ins C dx fs) ∧ Cls K C ∧ NoAttr K C f ∧ fs.lookup f = some v ∧ Q v H1
def sFld (K : PySem.W.Frag) (ta tv : TE) (f : Str) : TS := fun D σ H => tv σ H fun y H1 => ta σ H1 fun x H2 => ∃ a C dx fs, x = .ref a ∧ H2 a = some (.ins C dx fs) ∧ Cls K C ∧ NoAttr K C f ∧ fs.length < 1000 ∧
  D.nx σ (upd H2 a (.ins C dx (putF f y fs)))
section
variable {X : Cx} {o e value : Expr} {f : Str} {pos pos' tpos : Pos} {ta tv : TE}
theorem pe_fld (he : PE X e ta) (hb : attributeBase e f X.env (eval e X.env) = eval e X.env) : PE X (.Attribute e f pos) (tFld X.K ta f) := by
  unfold PE at *
  exact by
    intro pins s σ H Q I h
    refine attr_of hb (thn (he pins s σ H _ I h) fun u s1 ⟨x, H1, I1, rx, a, C, dx, fs, v, ex, ea, c, n, l, q⟩ => ?_)
    subst ex
    obtain rfl : u = Value.ref a := rx
    exact getattr_ok I1 ea c n l fun u' s2 I2 ru => ⟨v, H1, I2, ru, q⟩
theorem ps_fld (ha : PE X o ta) (hv : PE X value tv) (hs : swapsWith value (some (.Attribute o f pos')) pos.line X.env = pure false) : PS X (.Assign [.Attribute o f pos'] value pos) (sFld X.K ta tv f) := by
  unfold PE at *; unfold PS at *
  exact by
    intro pins s σ H D I h
    refine plainObj_wpAny_Assign_Attribute (thn (hv pins s σ H _ I h) fun u s1 ⟨y, H1, I1, ry, q⟩ => thn (ha pins s1 σ H1 _ I1 q) fun ov s2 ⟨x, H2, I2, rx, a, C, dx, fs, ex, ea, c, n, l, q2⟩ => ?_) hs
    subst ex
    obtain rfl : ov = Value.ref a := rx
    exact setattr_ok I2 ea c n l ry fun s3 I3 => ⟨σ, _, I3, q2⟩
end
section
variable {X : Cx} {pins : List (Addr × Obj)} {σ : St} {H : Hp} {s : Shared} {A : Around} {E : Value → Shared → Prop} {Q : Value → Shared → Prop} {c : Value} {b : Bool}
inductive TyOf (K : PySem.W.Frag) (H : Hp) : V → Value → Prop where
  | non : TyOf K H .non (.type "NoneType")
  | bl (x : Bool) : TyOf K H (.bl x) (.type "bool")
  | int (i : Int) : TyOf K H (.int i) (.type "int")
  | str (x : Str) : TyOf K H (.str x) (.type "str")
  | flt (x : UInt64) : TyOf K H (.flt x) (.type "float")
  | lst {a : Addr} {xs : List V} (e : H a = some (.lst xs)) : TyOf K H (.ref a) (.type "list")
  | frz {a : Addr} {o : Obj} {xs : List V} (e : H a = some (.frz o (.lst xs))) : TyOf K H (.ref a) (.type "list")
  | tup {a : Addr} {xs : List V} (e : H a = some (.tup xs)) : TyOf K H (.ref a) (.type "tuple")
  | dK {a : Addr} {kvs : List (Key × V)} (e : H a = some (.dK kvs)) : TyOf K H (.ref a) (.type "dict")
  | dT {a : Addr} {kvs : List (List Key × V)} (e : H a = some (.dT kvs)) : TyOf K H (.ref a) (.type "dict")
  | ins {a C dx : Addr} {fs : List (Str × V)} (e : H a = some (.ins C dx fs)) (cl : Cls K C) (ha : PySem.W.findIn K (.ref C) "__class__" = some (some (.builtin "object.__class__")))
      (hn : PySem.W.specialIn K (.builtin "object.__class__") "__get__" = some (some (.builtin "getset_descriptor.__get__"))) (htk : PySem.W.takesIn K (.builtin "object.__class__") = some true)
      (hm : PySem.W.mroIn K C (.type "object") = some true) : TyOf K H (.ref a) (.ref C)
theorem isinst_ok {x : V} {u t : Value} (I : Inv X pins σ H s) (rx : RelV x u) (ty : TyOf X.K H x t) (e : PySem.W.kitOne X.K t c = some b) (h : ∀ tk, Q (.bool b) { s with toks := tk }) :
    wpAny (model X.prog X.w) A (call (.builtin "isinstance") [u, c]) Q E s := by
  cases ty with
  | non => cases (show u = Value.none from rx); exact PySem.W.kia_one PySem.W.kitx_none I.kIn True.intro e (fun z => nomatch z) h
  | bl y => cases (show u = Value.bool y from rx); exact PySem.W.kia_one PySem.W.kitx_bool I.kIn True.intro e (fun z => nomatch z) h
  | int i => obtain ⟨t, q⟩ := (show ∃ t, u = Value.int i t from rx); cases q; exact PySem.W.kia_one PySem.W.kitx_int I.kIn True.intro e (fun z => nomatch z) h
  | str y => obtain ⟨t, q⟩ := (show ∃ t, u = Value.str y t from rx); cases q; exact PySem.W.kia_one PySem.W.kitx_str I.kIn True.intro e (fun z => nomatch z) h
  | flt y => obtain ⟨t, q⟩ := (show ∃ t, u = Value.float y t from rx); cases q; exact PySem.W.kia_one PySem.W.kitx_float I.kIn True.intro e (fun z => nomatch z) h
  | @lst a xs ea =>
    cases (show u = Value.ref a from rx)
    obtain ⟨_, _, n, _, h1⟩ := (show ObjOk X.prog X.w H s.heap a (.lst xs) from I.hok a _ ea)
    exact PySem.W.kia_one PySem.W.kitx_list I.kIn ⟨_, h1, rfl⟩ e (fun z => nomatch z) h
  | @frz a ob xs ea =>
    cases (show u = Value.ref a from rx)
    obtain ⟨_, _, _, n, _, h1⟩ := (show ObjOk X.prog X.w H s.heap a (.frz ob (.lst xs)) from I.hok a _ ea)
    exact PySem.W.kia_one PySem.W.kitx_list I.kIn ⟨_, h1, rfl⟩ e (fun z => nomatch z) h
  | @tup a xs ea =>
    cases (show u = Value.ref a from rx)
    obtain ⟨_, _, _, p⟩ := (show ObjOk X.prog X.w H s.heap a (.tup xs) from I.hok a _ ea)
    obtain ⟨o, h1, h2, _⟩ := p
    exact PySem.W.kia_one PySem.W.kitx_tuple I.kIn ⟨o, h1, h2⟩ e (fun z => nomatch z) h
  | @dK a kvs ea =>
    cases (show u = Value.ref a from rx)
    obtain ⟨_, _, vs, _, p⟩ := (show ObjOk X.prog X.w H s.heap a (.dK kvs) from I.hok a _ ea)
    obtain ⟨o, es, ep, h1, h2, _⟩ := p
    exact PySem.W.kia_one PySem.W.kitx_dict I.kIn ⟨o, h1, h2.1⟩ e (fun z => nomatch z) h
  | @dT a kvs ea =>
    cases (show u = Value.ref a from rx)
    obtain ⟨_, _, xs, _, o, es, ep, h1, h2, _⟩ := (show ObjOk X.prog X.w H s.heap a (.dT kvs) from I.hok a _ ea)
    exact PySem.W.kia_one PySem.W.kitx_dict I.kIn ⟨o, h1, h2.1⟩ e (fun z => nomatch z) h
  | @ins a C dx fs ea cl ha hn htk hm =>
    cases (show u = Value.ref a from rx)
    obtain ⟨mA, O, _⟩ := ins_get I.hok ea
    obtain ⟨od, J, _⟩ := O.look
    exact PySem.W.kia_one (PySem.W.kitx_own (cl.get _) cl.hd ha hn htk hm) I.kIn J e (fun z => nomatch z) h
end
end L2
namespace L2
open PySem PySem.Spec PyProof.Rows
structure Room (k : Nat) (A : Around) : Prop where
  hd : A.handled = none
  dp : A.depth + 3 * k + 5 < recursionLimit
  un : A.units + 16 * k + 200 < cLine
theorem Room.mono {j k : Nat} {A : Around} (r : Room k A) (h : j ≤ k) : Room j A := ⟨r.hd, by have := r.dp; omega, by have := r.un; omega⟩
theorem Room.deeper {k : Nat} {A : Around} (r : Room (k + 1) A) (env : Env) : Room k (A.deeper env) :=
  ⟨r.hd, by have := r.dp; show A.depth + 1 + 3 * k + 5 < _; omega, by have := r.un; show A.units + 3 + 16 * k + 200 < _; omega⟩
theorem Room.in1 {k : Nat} {A : Around} (r : Room (k + 1) A) : Room k A.in1 :=
  ⟨r.hd, by have := r.dp; show A.depth + 3 * k + 5 < _; omega, by have := r.un; show A.units + 1 + 16 * k + 200 < _; omega⟩
theorem make_depth {A : Around} {C : Addr} {us : List Value} {kw : List (Str × Value)} : (A.under (.builtin "type.__call__" ⟨.ref C :: us, kw⟩)).depth = A.depth + 1 := by
  first | rfl | simp [Around.under, Code.weight, Code.isCreation, Code.isGuard, Code.isCaller, Code.frames, Code.isFrame, guardIds]
theorem make_units {A : Around} {C : Addr} {us : List Value} {kw : List (Str × Value)} : (A.under (.builtin "type.__call__" ⟨.ref C :: us, kw⟩)).units = A.units + 1 := by
  first | rfl | simp [Around.under, Code.cUnits, Code.frames, Code.isFrame]
theorem Room.make {k : Nat} {A : Around} (r : Room (k + 1) A) (C : Addr) (us : List Value) (kw : List (Str × Value)) : Room k (A.under (.builtin "type.__call__" ⟨.ref C :: us, kw⟩)) :=
  ⟨r.hd, by have := r.dp; rw [make_depth]; omega, by have := r.un; rw [make_units]; omega⟩
theorem Room.depth {k : Nat} {A : Around} (r : Room k A) : A.depth < recursionLimit := by have := r.dp; omega
theorem Room.units {k : Nat} {A : Around} (r : Room k A) : A.units + 64 < cLine := by have := r.un; omega
def tNil : TA := fun _ H Q => Q [] H
def tCons (ta : TE) (tr : TA) : TA := fun σ H Q => ta σ H fun x H1 => tr σ H1 fun xs H2 => Q (x :: xs) H2
section
variable {X : Cx} {e : Expr} {es : List Expr} {te : TE} {t : TA} {pos : Pos}
theorem pa_nil : PA X [] tNil := by
  first
  | exact (fun _ _ _ _ H Q I h => Calls.spliced_nil ⟨[], H, I, .nil, h⟩)
  | (unfold PA at *; exact (fun _ _ _ _ H Q I h => Calls.spliced_nil ⟨[], H, I, .nil, h⟩))
theorem pa_cons (ha : PE X e te) (hr : PA X es t) (hs : starEach (e :: es) X.env = (false, eval e X.env) :: starEach es X.env := by rfl) : PA X (e :: es) (tCons te t) := by
  unfold PE at *; unfold PA at *
  exact by
    intro pos pins s σ H Q I h
    rw [hs]
    show wpAny _ _ (spliced ((false, eval e X.env) :: backTo pos (starEach es X.env))) _ _ s
    refine Calls.spliced_cons (thn (ha pins s σ H _ I h) fun u s1 ⟨x, H1, I1, r1, q1⟩ => ?_)
    exact thn (hr pos pins s1 σ H1 _ I1 q1) fun us s2 ⟨xs, H2, I2, r2, q2⟩ => ⟨x :: xs, H2, I2, .cons r1 r2, q2⟩
def tLst (t : TA) : TE := fun σ H Q => t σ H fun xs H1 => xs.length ≤ sizeLine ∧ ∀ p, H1 p = none → Q (.ref p) (upd H1 p (.lst xs))
theorem pe_lst (h : PA X es t) : PE X (.List es pos) (tLst t) := by
  unfold PE at *; unfold PA at *
  exact by
    intro pins s σ H Q I hq
    refine wpAny_List_spliced (thn (h pos pins s σ H _ I hq) fun us s1 ⟨xs, H1, I1, r, z, q⟩ => ⟨by rw [← r.length]; exact z, ?_⟩)
    have hf : H1 s1.heap.objs.size = none := I1.hok.fresh (Nat.le_refl _)
    refine ⟨.ref s1.heap.objs.size, upd H1 s1.heap.objs.size (.lst xs), I1.laid (t' := s1.toks) (fun b u e => Heap.get?_push_of_some _ e) (Nat.le_refl _) ?_, rfl, q _ hf⟩
    exact ⟨z, us, 0, r, Heap.get?_push_size _ rfl⟩
end
abbrev Sp := List V → Hp → VK → XK → Prop
abbrev CXT := List Env → Hp → Shared → XK → Value → Shared → Prop
structure Env0 (P : Program) (w : World) (K : PySem.W.Frag) (mg : Str → Option Value) (base : Heap) (A : Around) (outer : List Env) (s : Shared) (H : Hp) : Prop where
  frames : A.frames = some outer
  mod : Mod K mg base
  bs : ∀ b o, base.get? b = some o → s.heap.get? b = some o ∧ H b = none
  bsz : base.objs.size ≤ s.heap.objs.size
  funs : s.heap.FunFrames base outer
  frf : ∀ b ∈ frs outer, H b = none
  hok : HOk P w H s.heap
  bare : AllBare s.gens
def CE (outer : List Env) (P : Program) (w : World) (H : Hp) (s : Shared) (Q : VK) (u : Value) (s' : Shared) : Prop :=
  ∃ v H', s'.os = s.os ∧ AllBare s'.gens ∧ Un (frs outer) [] H H' s.heap s'.heap ∧ HOk P w H' s'.heap ∧ RelV v u ∧ Q v H'
def CR (CX : CXT) (outer : List Env) (P : Program) (w : World) (H : Hp) (s : Shared) (Q : VK) (E : XK) (r : Result) (s' : Shared) : Prop :=
  match r with
  | .ok (.ret u) => CE outer P w H s Q u s'
  | .ok _ => False
  | .error e => CX outer H s E e s'
structure FnOk (P : Program) (w : World) (K : PySem.W.Frag) (mg : Str → Option Value) (base : Heap) (CX : CXT) (k : Nat) (f : Addr) (fd : FuncData) (ps : List Str) (sp : Sp) : Prop where
  len : ∀ vs H Q E, sp vs H Q E → vs.length = ps.length
  run : ∀ (A : Around) (outer : List Env) (s : Shared) (H : Hp) (args : Args) (us : List Value) (vs : List V) (Q : VK) (E : XK), Room k A → Env0 P w K mg base A outer s H → BindsTo s fd args (ps.zip us) → Vals vs us → sp vs H Q E →
    codeAny (model P w) A (.call (.ref f) args) (CR CX outer P w H s Q E) s
theorem FnOk.mono {P : Program} {w : World} {K : PySem.W.Frag} {mg : Str → Option Value} {base : Heap} {CX : CXT} {j k : Nat} {f : Addr} {fd : FuncData} {ps : List Str} {sp : Sp} (F : FnOk P w K mg base CX j f fd ps sp) (h : j ≤ k) :
    FnOk P w K mg base CX k f fd ps sp := ⟨F.len, fun A outer s H args us vs Q E hr => F.run A outer s H args us vs Q E (hr.mono h)⟩
theorem FnOk.imp {P : Program} {w : World} {K : PySem.W.Frag} {mg : Str → Option Value} {base : Heap} {CX : CXT} {k : Nat} {f : Addr} {fd : FuncData} {ps : List Str} {sp sp' : Sp} (F : FnOk P w K mg base CX k f fd ps sp)
    (h : ∀ vs H Q E, sp' vs H Q E → sp vs H Q E) : FnOk P w K mg base CX k f fd ps sp' :=
  ⟨fun vs H Q E q => F.len vs H Q E (h _ _ _ _ q), fun A outer s H args us vs Q E hr he hb hv hs => F.run A outer s H args us vs Q E hr he hb hv (h _ _ _ _ hs)⟩
theorem Env0.make {P : Program} {w : World} {K : PySem.W.Frag} {mg : Str → Option Value} {base : Heap} {A : Around} {outer : List Env} {s : Shared} {H : Hp} (e : Env0 P w K mg base A outer s H) (C : Addr) (us : List Value) (kw : List (Str × Value)) :
    Env0 P w K mg base (A.under (.builtin "type.__call__" ⟨.ref C :: us, kw⟩)) outer s H := ⟨by first | exact e.frames | (simpa [Around.under, Code.envs, Code.isFrame, pushEnvs] using e.frames), e.mod, e.bs, e.bsz, e.funs, e.frf, e.hok, e.bare⟩
theorem Env0.in1 {P : Program} {w : World} {K : PySem.W.Frag} {mg : Str → Option Value} {base : Heap} {A : Around} {outer : List Env} {s : Shared} {H : Hp} (e : Env0 P w K mg base A outer s H) :
    Env0 P w K mg base A.in1 outer s H := ⟨e.frames, e.mod, e.bs, e.bsz, e.funs, e.frf, e.hok, e.bare⟩
section
variable {X : Cx} {pins : List (Addr × Obj)} {σ : St} {H : Hp} {s s' : Shared}
theorem Inv.env0 (I : Inv X pins σ H s) : Env0 X.prog X.w X.K X.mg X.base X.A X.stack s H :=
  ⟨I.ok.frames, I.ok.mod, I.bs, Nat.le_trans I.ok.bsz I.sz, I.stack, I.stkFree, I.hok, I.bare⟩
theorem Inv.after {Q : VK} {u : Value} (I : Inv X pins σ H s) (h : CE X.stack X.prog X.w H s Q u s') : EP X pins σ Q u s' := by
  obtain ⟨v, H', os, bare, un, hok, r, q⟩ := h
  obtain ⟨hh, g, d, t, os'⟩ := s'
  obtain rfl : os' = s.os := os
  exact ⟨v, H', I.call (h' := hh) (g' := g) (d' := d) (t' := t) (ch := []) un hok bare (fun b z => absurd z (by simp)), r, q⟩
end
def tCall (sp : Sp) (dvs : List V) (E : XK) (t : TA) : TE := fun σ H Q => t σ H fun vs H1 => sp (vs ++ dvs) H1 Q E
def Binds (K : PySem.W.Frag) (fd : FuncData) (ps : List Str) (ds : List Value) : Prop :=
  ∀ (s : Shared) (us : List Value), K.In s.heap → (us ++ ds).length = ps.length → BindsTo s fd ⟨us, []⟩ (ps.zip (us ++ ds))
theorem Binds.all {K : PySem.W.Frag} {fd : FuncData} {ps : List Str} (h : ∀ us : List Value, us.length = ps.length → bindArgs fd ⟨us, []⟩ = pure (ps.zip us)) : Binds K fd ps [] := fun s us _ hl => by
  rw [List.append_nil] at hl ⊢
  exact .of_eq (h us hl)
def Passes (CX : CXT) (X : Cx) (E : XK) : Prop := ∀ (pins : List (Addr × Obj)) (σ : St) (H : Hp) (s : Shared) (e : Value) (s' : Shared), Inv X pins σ H s → CX X.stack H s E e s' → X.xe e s'
section
variable {X : Cx} {CX : CXT} {k : Nat} {f C : Addr} {fd : FuncData} {ps : List Str} {sp : Sp} {dvs : List V} {ds : List Value} {E : XK} {x m : Str} {p pos apos : Pos} {e o : Expr} {es : List Expr} {ta : TE} {t : TA}
theorem run_fn {pins : List (Addr × Obj)} {σ : St} {H : Hp} {s : Shared} {Q : VK} {us : List Value} {vs : List V} (F : FnOk X.prog X.w X.K X.mg X.base CX k f fd ps sp) (hr : Room k X.A) (hb : Binds X.K fd ps ds) (hd : Vals dvs ds) (hx : Passes CX X E)
    (I : Inv X pins σ H s) (r : Vals vs us) (h : sp (vs ++ dvs) H Q E) : wpAny (model X.prog X.w) X.A (call (.ref f) us) (EP X pins σ Q) X.xe s := by
  have r2 : Vals (vs ++ dvs) (us ++ ds) := r.append hd
  have hl : (us ++ ds).length = ps.length := by rw [← r2.length]; exact F.len _ _ _ _ h
  refine wpAny_call (codeAny_mono (F.run X.A X.stack s H ⟨us, []⟩ (us ++ ds) (vs ++ dvs) Q E hr I.env0 (hb s us I.kIn hl) r2 h) fun r s' hq => ?_)
  cases r with
  | error e => exact hx pins σ H s e s' I hq
  | ok fl =>
    cases fl with
    | ret u => exact I.after hq
    | next => exact False.elim hq
    | brk => exact False.elim hq
    | cont => exact False.elim hq
theorem pe_call (F : FnOk X.prog X.w X.K X.mg X.base CX k f fd ps sp) (hr : Room k X.A) (hg : Gl X x) (hm : X.mg x = some (.ref f)) (hk : PySem.W.keepIn X.K (.ref f) = true) (hb : Binds X.K fd ps ds) (hd : Vals dvs ds) (hx : Passes CX X E)
    (ha : PA X (e :: es) t) (hdb : (x == ("__debug__" : Str)) = false := by decide) (he : starEach (e :: es) X.env = (false, eval e X.env) :: starEach es X.env := by rfl) (hpl : (backTo pos (starEach es X.env)).any (·.1) = false := by rfl) :
    PE X (.Call (.Name x p) (e :: es) [] pos) (tCall sp dvs E t) := by
  unfold PE at *; unfold PA at *
  exact by
    intro pins s σ H Q I h
    refine wpAny_Call_Name_kw (ld_glob I hg hm ?_ hdb)
    refine PySem.W.callWith_K (h₀ := X.base) I.ok.mod.kin hk (thn (ha pos pins s σ H _ I h) fun us s1 ⟨vs, H1, I1, r, q⟩ => ⟨I1.kIn, ?_⟩) he hpl
    exact run_fn F hr hb hd hx I1 r q
structure Mk (K : PySem.W.Frag) (C f : Addr) : Prop where
  makes : PySem.W.makesIn K C = true
  init : PySem.W.findIn K (.ref C) "__init__" = some (some (.ref f))
  fn : PySem.W.isFn K (.ref f) = true
  kp : PySem.W.keepIn K (.ref C) = true
end
@[irreducible] def PK (X : Cx) (kws : List Keyword) (t : TA) : Prop :=
  ∀ (pos : Pos) (pins : List (Addr × Obj)) (s : Shared) (σ : St) (H : Hp) (Q : List V → Hp → Prop), Inv X pins σ H s → t σ H Q → wpAny (model X.prog X.w) X.A (evalAll ((backToKw pos (keywordEach kws X.env)).map (·.2))) (AP X pins σ Q) X.xe s
section
variable {X : Cx} {CX : CXT} {k : Nat} {f C : Addr} {fd : FuncData} {ps ks : List Str} {sp : Sp} {E : XK} {x m : Str} {p pos apos kpos : Pos} {e o : Expr} {es : List Expr} {kws : List Keyword} {te ta : TE} {t tk : TA} {nm : Option Str}
theorem pk_nil : PK X [] tNil := by
  first
  | exact (fun _ _ _ _ H Q I h => wpAny_evalAll_nil ⟨[], H, I, .nil, h⟩)
  | (unfold PK at *; exact (fun _ _ _ _ H Q I h => wpAny_evalAll_nil ⟨[], H, I, .nil, h⟩))
variable {g : List Value → List Value → List Value} {gV : List V → List V → List V}
end
structure FnScope (N P : List Str) (sc : Scope) : Prop where
  kind : sc.kind = .function
  co : sc.isCoroutine = false
  gen : sc.isGenerator = false
  nd : N.Nodup
  pre : N.take P.length = P
  par : ∀ x ∈ P, sc.names.lookup x = some .local ∨ sc.names.lookup x = some .cell
  nofree : ∀ y ∈ sc.names, y.2 ≠ .free
theorem bindL_out {kindOf : Str → Option NameKind} {x : Str} : ∀ {binds : List (Str × Value)} {m : Str → Option Value}, (∀ v, (x, v) ∉ binds) → bindL kindOf binds m x = m x
  | [], _, _ => rfl
  | (n, v) :: r, m, h => by
    unfold bindL
    rw [bindL_out fun w hw => h w (List.mem_cons_of_mem _ hw)]
    split
    · have : x ≠ n := by rintro rfl; exact h v List.mem_cons_self
      simp [this]
    · rfl
theorem bindC_out {kindOf : Str → Option NameKind} {x : Str} : ∀ {binds : List (Str × Value)} {m : Str → Option Value}, (∀ v, (x, v) ∉ binds) → bindC kindOf binds m x = m x
  | [], _, _ => rfl
  | (n, v) :: r, m, h => by
    unfold bindC
    rw [bindC_out fun w hw => h w (List.mem_cons_of_mem _ hw)]
    split
    · rfl
    · have : x ≠ n := by rintro rfl; exact h v List.mem_cons_self
      simp [this]
theorem bindL_get {kindOf : Str → Option NameKind} {x : Str} {v : Value} : ∀ {P : List Str} {vs : List Value} {i : Nat} {m : Str → Option Value}, P.Nodup → P[i]? = some x → vs[i]? = some v → kindOf x = some .local →
    bindL kindOf (P.zip vs) m x = some v
  | [], _, _, _, _, h, _, _ => by simp at h
  | _ :: _, [], _, _, _, _, h, _ => by simp at h
  | p :: P, w :: vs, 0, m, nd, h1, h2, hk => by
    simp at h1 h2; subst h1; subst h2
    show bindL kindOf ((p, w) :: P.zip vs) m p = _
    unfold bindL
    rw [bindL_out fun v hv => (List.nodup_cons.mp nd).1 (List.of_mem_zip hv).1, if_pos hk]
    simp
  | p :: P, w :: vs, i + 1, m, nd, h1, h2, hk => by
    show bindL kindOf ((p, w) :: P.zip vs) m x = _
    unfold bindL
    exact bindL_get (i := i) (List.nodup_cons.mp nd).2 (by simpa using h1) (by simpa using h2) hk
theorem bindC_get {kindOf : Str → Option NameKind} {x : Str} {v : Value} : ∀ {P : List Str} {vs : List Value} {i : Nat} {m : Str → Option Value}, P.Nodup → P[i]? = some x → vs[i]? = some v → kindOf x ≠ some .local →
    bindC kindOf (P.zip vs) m x = some v
  | [], _, _, _, _, h, _, _ => by simp at h
  | _ :: _, [], _, _, _, _, h, _ => by simp at h
  | p :: P, w :: vs, 0, m, nd, h1, h2, hk => by
    simp at h1 h2; subst h1; subst h2
    show bindC kindOf ((p, w) :: P.zip vs) m p = _
    unfold bindC
    rw [bindC_out fun v hv => (List.nodup_cons.mp nd).1 (List.of_mem_zip hv).1, if_neg hk]
    simp
  | p :: P, w :: vs, i + 1, m, nd, h1, h2, hk => by
    show bindC kindOf ((p, w) :: P.zip vs) m x = _
    unfold bindC
    exact bindC_get (i := i) (List.nodup_cons.mp nd).2 (by simpa using h1) (by simpa using h2) hk
def start (N : List Str) (vs : List V) : St := vs.map some ++ List.replicate (N.length - vs.length) none
def cxOf (CX : CXT) (P : Program) (w : World) (K : PySem.W.Frag) (mg : Str → Option Value) (base : Heap) (N : List Str) (qual : Str) (scope : Scope) (f : Addr) (cd : Value) (A : Around) (outer : List Env) (s : Shared) (H : Hp) (E : XK) : Cx where
  prog := P
  w := w
  K := K
  mg := mg
  base := base
  A := A.deeper (envOfC qual scope s.heap.objs.size f cd)
  N := N
  s₀ := s
  H₀ := H
  env := envOfC qual scope s.heap.objs.size f cd
  outer := outer
  stack := envOfC qual scope s.heap.objs.size f cd :: outer
  ex := []
  calm := true
  fn := fun _ => true
  pn := []
  xe := fun e s' => wpAny (model P w) (A.deeper (envOfC qual scope s.heap.objs.size f cd)) (leaving (envOfC qual scope s.heap.objs.size f cd) e) (fun _ s'' => CX outer H s E e s'') (fun e' s'' => CX outer H s E e' s'') s'
theorem cell_has {sc : Scope} {n : Nat} {x : Str} (h : sc.names.lookup x = some .cell) : ∃ c, (cellsFrom n sc.names []).lookup x = some c := by
  have q := PySem.W.cellsFrom_some sc.names n [] (.inl h)
  exact Option.isSome_iff_exists.mp q
theorem inv_start {CX : CXT} {P : Program} {w : World} {K : PySem.W.Frag} {mg : Str → Option Value} {base : Heap} {N ps : List Str} {qual : Str} {scope : Scope} {f : Addr} {cd : Value} {A : Around} {outer : List Env} {s s1 : Shared} {H : Hp} {E : XK} {us : List Value} {vs : List V}
    (S : FnScope N ps scope) (hd : A.handled = none) (e0 : Env0 P w K mg base A outer s H) (hl : vs.length = ps.length) (r : Vals vs us)
    (x : InCallC s s.heap.objs.size (bindL (envOfC qual scope s.heap.objs.size f cd).kindOf (ps.zip us) fun _ => none) (cellsFrom (s.heap.objs.size + 1) scope.names []) (bindC (envOfC qual scope s.heap.objs.size f cd).kindOf (ps.zip us) fun _ => none) s1) :
    Inv (cxOf CX P w K mg base N qual scope f cd A outer s H E) [] (start N vs) H s1 := by
  have hpl : ps.length ≤ N.length := by have := congrArg List.length S.pre; rw [List.length_take] at this; omega
  obtain ⟨h1, tk, rfl, hk⟩ := x.done
  have noA : ∀ b : Addr, b ∉ (cxOf CX P w K mg base N qual scope f cd A outer s H E).ex := fun b z => absurd (show b ∈ ([] : List Addr) from z) (by simp)
  refine ⟨⟨e0.mod, S.kind, rfl, rfl, Nat.le_refl _, fun y z c h1 h2 => ?_, fun y hy => ?_, fun y c _ h => ?_, fun _ => hd, Around.frames_deeper e0.frames, .inr ⟨rfl, rfl⟩, fun b z => absurd z (noA b), e0.bs, e0.bsz, fun b _ _ => noA b, fun b z => absurd z (noA b), e0.funs, e0.frf⟩,
    rfl, e0.bare, Un.kept hk, ⟨_, x.toInCall.ns, fun i y v h1 h2 h3 => ?_⟩, fun y c h => ⟨_, x.cell y c h⟩, e0.hok.fresh (Nat.le_refl _), fun y c h => ?_, fun p hp => absurd (show p ∈ ([] : List (Addr × Obj)) from hp) (by simp), e0.hok.kept hk, ?_⟩
  · exact name_of_addr x.apart (PySem.mem_of_lookup h1) (PySem.mem_of_lookup h2)
  · have hy : scope.names.lookup y = some .cell ∨ scope.names.lookup y = some .free := hy
    rcases hy with hy | hy
    · exact cell_has hy
    · exact absurd rfl (S.nofree _ (PySem.mem_of_lookup hy))
  · exact Nat.le_of_lt (x.above y c (PySem.mem_of_lookup h))
  · have hi : i < vs.length := by
      unfold start at h2
      by_cases hi : i < vs.length
      · exact hi
      · rw [List.getElem?_append_right (by simpa using hi)] at h2
        rw [List.getElem?_replicate] at h2
        split at h2 <;> cases h2
    have ha : vs[i]? = some v := by
      unfold start at h2
      rw [List.getElem?_append_left (by simpa using hi), List.getElem?_map] at h2
      cases e : vs[i]? with
      | none => rw [e] at h2; cases h2
      | some a => rw [e] at h2; cases h2; rfl
    obtain ⟨u, hu, rv⟩ := r.get ha
    have hp : ps[i]? = some y := by
      rw [← S.pre, List.getElem?_take_of_lt (by omega)]; exact h1
    have ndP : ps.Nodup := by rw [← S.pre]; exact S.nd.sublist (List.take_sublist _ _)
    refine ⟨u, rv, ?_⟩
    rcases S.par y (List.mem_of_getElem? hp) with k | k
    · exact .inl ⟨k, bindL_get ndP hp hu k⟩
    · obtain ⟨c, e⟩ := cell_has (n := s.heap.objs.size + 1) k
      refine .inr ⟨.inl k, c, e, ?_⟩
      have q := x.cell y c e
      rw [bindC_get ndP hp hu (by show scope.names.lookup y ≠ _; rw [k]; decide)] at q
      exact q
  · exact e0.hok.fresh (Nat.le_of_lt (x.above y c (PySem.mem_of_lookup h)))
  · unfold start
    show _ = N.length
    rw [List.length_append, List.length_map, List.length_replicate]
    omega
theorem fn_of {CX : CXT} {P : Program} {w : World} {K : PySem.W.Frag} {mg : Str → Option Value} {base : Heap} {k : Nat} {f : Addr} {name qual : Str} {params : Arguments} {body : List Stmt} {scope : Scope} {dV kV doc pm cdv ct oc : Value} {an od : Option Addr}
    {osl : Array (Option Value)} {N ps : List Str} {sp : Sp} (lk : K.lookup f = some ⟨oc, od, .func (PySem.W.fnOf name qual params body scope dV kV doc pm an cdv ct), osl⟩) (hcd : PySem.W.codeIn K cdv qual = true) (S : FnScope N ps scope)
    (len : ∀ vs H Q E, sp vs H Q E → vs.length = ps.length)
    (hbody : ∀ (A : Around) (outer : List Env) (s : Shared) (H : Hp) (vs : List V) (Q : VK) (E : XK), Room k (A.deeper (envOfC qual scope s.heap.objs.size f cdv)) → sp vs H Q E →
      ∃ t, PSs (cxOf CX P w K mg base N qual scope f cdv A outer s H E) body t ∧ t { nx := fun _ H' => Q .non H', rt := Q } (start N vs) H) :
    FnOk P w K mg base CX (k + 1) f (PySem.W.fnOf name qual params body scope dV kV doc pm an cdv ct) ps sp := by
  unfold PSs at *
  exact by
    refine ⟨len, fun A outer s H args us vs Q E hr e0 hb r hsp => ?_⟩
    have hl := len _ _ _ _ hsp
    have KX : K.In s.heap := e0.mod.kin.keeps fun b o e => (e0.bs b o e).1
    have lim : s.heap.NoLimit := e0.mod.nolimit.keeps fun b o e => (e0.bs b o e).1
    have hkind : ∀ y ∈ ps.zip us, scope.names.lookup y.1 = some .local ∨ (scope.names.lookup y.1 = some .cell ∧ ((cellsFrom (s.heap.objs.size + 1) scope.names []).lookup y.1).isSome = true) := fun ⟨n, v⟩ hy => by
      rcases S.par n (List.of_mem_zip hy).1 with q | q
      · exact .inl q
      · exact .inr ⟨q, PySem.W.cellsFrom_some _ _ _ (.inl q)⟩
    refine codeAny_call_function hr.depth (KX _ _ lk) rfl S.co S.gen rfl (PySem.W.codeRec_of KX hcd) (hb _ _ _ _ ?_)
    refine wpAny_newFunctionEnv_cells S.kind hkind fun env he s1 x => ?_
    subst he
    refine ⟨lim.keeps x.toInCall.keep, codeAny_func ?_⟩
    obtain ⟨t, ht, hq⟩ := hbody A outer s H vs Q E (hr.deeper _) hsp
    have I : Inv (cxOf CX P w K mg base N qual scope f cdv A outer s H E) [] (start N vs) H s1 := inv_start S hr.hd e0 hl r x
    refine wpAny_mono (ht [] s1 (start N vs) H _ I hq) (fun fl s' hs => ?_) fun e s' hs => hs
    have fin : ∀ {σ' : St} {H' : Hp} {v : V} {u : Value}, Inv (cxOf CX P w K mg base N qual scope f cdv A outer s H E) [] σ' H' s' → RelV v u → Q v H' → CE outer P w H s Q u s' :=
      fun {σ' H' v u} J rv q => ⟨v, H', J.os, J.bare, J.base, J.hok, rv, q⟩
    cases fl with
    | ret u =>
      obtain ⟨v, σ', H', J, rv, q⟩ := hs
      exact fin J rv q
    | next =>
      obtain ⟨σ', H', J, q⟩ := hs
      exact fin (v := V.non) (u := Value.none) J rfl q
    | brk =>
      obtain ⟨_, _, _, q⟩ := hs
      exact False.elim q
    | cont =>
      obtain ⟨_, _, _, q⟩ := hs
      exact False.elim q
end L2
namespace L2
open PySem PySem.Spec PyProof.Rows
section
variable {X : Cx} {x : Str} {p pos : Pos} {e : Expr} {es : List Expr} {t : TA} {id T : String} {r : List V → Hp → VK → Prop}
def tCB (r : List V → Hp → VK → Prop) (t : TA) : TE := fun σ H Q => t σ H fun vs H1 => r vs H1 Q
theorem pe_callB (hc : CallR X (.builtin id) r) (hg : Gl X x) (hm : X.mg x = none) (hv : bootBuiltins x = some (.builtin id)) (ha : PA X (e :: es) t) (hn : x ≠ "__name__" := by decide) (hdb : (x == ("__debug__" : Str)) = false := by decide)
    (he : starEach (e :: es) X.env = (false, eval e X.env) :: starEach es X.env := by rfl) (hpl : (backTo pos (starEach es X.env)).any (·.1) = false := by rfl) : PE X (.Call (.Name x p) (e :: es) [] pos) (tCB r t) := by
  unfold PE at *; unfold PA at *; unfold CallR at *
  exact by
    intro pins s σ H Q I h
    refine wpAny_Call_Name_kw (ld_blt I hg hm hv ?_ hn hdb)
    exact PyProof.Rows.callWith_builtin1 (thn (ha pos pins s σ H _ I h) fun us s1 ⟨vs, H1, I1, r1, q1⟩ => hc pins s1 σ H1 vs us Q I1 r1 q1) he hpl
end
end L2
namespace HT
open PySem PyProof.Rows
section
open PySem.SeqAt
open PySem.AutoSeq1 (wpAny_loadPart')
open PySem.MeetsSeq PySem.MeetsSeq2 PySem.MeetsSeq3
end
section
variable {prog : Program} {w : World} {A : Around} {E : Value → Shared → Prop} {s : Shared}
def sIx (n d : Nat) : Option Int → Nat
  | none => d
  | some v => if v < 0 then (v + (n : Int)).toNat else min v.toNat n
theorem sIx_none (n d : Nat) : sIx n d none = d := rfl
theorem sIx_nat (n d k : Nat) : sIx n d (some (k : Int)) = min k n := by
  show (if (k : Int) < 0 then ((k : Int) + (n : Int)).toNat else min (k : Int).toNat n) = min k n
  rw [if_neg (by omega), Int.toNat_natCast]
end
end HT
namespace L2
open PySem PySem.Spec PyProof.Rows
abbrev TO := St → Hp → (Option Int → Hp → Prop) → Prop
@[irreducible] def PO (X : Cx) (e : Option Expr) (t : TO) : Prop :=
  ∀ (pins : List (Addr × Obj)) (s : Shared) (σ : St) (H : Hp) (Q : Option Int → Hp → Prop), Inv X pins σ H s → t σ H Q →
    wpAny (model X.prog X.w) X.A (evalPart e X.env) (fun u s' => ∃ o H', Inv X pins σ H' s' ∧ IsPart u o ∧ Q o H') X.xe s
def tNoPart : TO := fun _ H Q => Q none H
def tPart (t : TE) : TO := fun σ H Q => t σ H fun x H1 => ∃ i, x = .int i ∧ Q (some i) H1
theorem intsAre_of {ns : List Int} : ∀ {us : List Value}, Vals (ns.map V.int) us → IntsAre us ns := by
  induction ns with
  | nil => intro us r; rw [List.map_nil] at r; cases r; exact .nil
  | cons n ns ih =>
    intro us r
    rw [List.map_cons] at r
    cases r with
    | cons r1 r2 =>
      obtain ⟨t, e⟩ := r1
      subst e
      exact .cons n t (ih r2)
section
variable {X : Cx} {e : Expr} {te : TE} {lo hi : Option Expr} {tl th : TO} {pos p2 : Pos}
theorem po_none : PO X none tNoPart := by
  unfold PO at *
  exact by
    intro pins s σ H Q I h
    rw [evalPart_none]
    exact wpAny_pure ⟨none, H, I, .none, h⟩
theorem po_some (h : PE X e te) : PO X (some e) (tPart te) := by
  unfold PE at *; unfold PO at *
  exact by
    intro pins s σ H Q I hw
    rw [evalPart_some]
    refine thn (h pins s σ H _ I hw) fun u s1 ⟨x, H1, I1, r1, q1⟩ => ?_
    obtain ⟨i, rfl, q⟩ := q1
    obtain ⟨t, rfl⟩ := r1
    exact ⟨some i, H1, I1, .int i t, q⟩
@[irreducible] def SlR (X : Cx) (r : V → Option Int → Option Int → Hp → VK → Prop) : Prop :=
  ∀ (pins : List (Addr × Obj)) (s : Shared) (σ : St) (H : Hp) (x : V) (v vl vu : Value) (lo hi : Option Int) (sl : Addr) (Q : VK), Inv X pins σ H s → RelV x v → s.heap.IsSliceOf sl vl vu .none → IsPart vl lo → IsPart vu hi → r x lo hi H Q →
    ∃ T id, typeLookup (.type T) "__getitem__" = pure (some (.builtin id)) ∧ s.TypeIs v T ∧ wpAny (model X.prog X.w) X.A (getItem v (.ref sl)) (EP X pins σ Q) X.xe s
theorem SlR.or {r r' : V → Option Int → Option Int → Hp → VK → Prop} (h : SlR X r) (h' : SlR X r') : SlR X (fun x lo hi H Q => r x lo hi H Q ∨ r' x lo hi H Q) := by
  unfold SlR at *
  exact by
    intro pins s σ H x v vl vu lo hi sl Q I rx hs pl pu q
    rcases q with q | q
    · exact h pins s σ H x v vl vu lo hi sl Q I rx hs pl pu q
    · exact h' pins s σ H x v vl vu lo hi sl Q I rx hs pl pu q
def tSl (r : V → Option Int → Option Int → Hp → VK → Prop) (te : TE) (tl th : TO) : TE := fun σ H Q => te σ H fun x H1 => tl σ H1 fun l H2 => th σ H2 fun u H3 => r x l u H3 Q
theorem pe_slice {r : V → Option Int → Option Int → Hp → VK → Prop} (hr : SlR X r) (he : PE X e te) (hl : PO X lo tl) (hu : PO X hi th) : PE X (.Subscript e (.Slice lo hi none p2) pos) (tSl r te tl th) := by
  unfold PE at *; unfold PO at *; unfold SlR at *
  exact by
    intro pins s σ H Q I h
    refine Subscript_ (thn (he pins s σ H _ I h) fun v s1 ⟨x, H1, I1, r1, q1⟩ => ?_)
    refine wpAny_Slice (thn (hl pins s1 σ H1 _ I1 q1) fun vl s2 ⟨l, H2, I2, pl, q2⟩ => thn (hu pins s2 σ H2 _ I2 q2) fun vu s3 ⟨u, H3, I3, pu, q3⟩ => ?_)
    rw [evalPart_none]
    refine wpAny_pure ?_
    have I4 : Inv X pins σ H3 { s3 with heap := s3.heap.push { cls := .type "slice", data := .fields #[vl, vu, .none] } } := I3.kept (t' := s3.toks) fun b ob q => Heap.get?_push_of_some _ q
    obtain ⟨T, id, hT, ht, hg⟩ := hr pins { s3 with heap := s3.heap.push { cls := .type "slice", data := .fields #[vl, vu, .none] } } σ H3 x v vl vu l u s3.heap.objs.size Q I4 r1 (Heap.IsSliceOf.new ..) pl pu q3
    show wpAny (model X.prog X.w) X.A (subscriptTail e (.Slice lo hi none p2) v (.ref s3.heap.objs.size)) (EP X pins σ Q) X.xe { s3 with heap := s3.heap.push { cls := .type "slice", data := .fields #[vl, vu, .none] } }
    exact tail_any (ops := [.ref s3.heap.objs.size, v]) ht hT hg (by with_unfolding_all rfl)
def cutV (xs : List V) (lo hi : Option Int) : List V := (xs.drop (HT.sIx xs.length 0 lo)).take (HT.sIx xs.length xs.length hi - HT.sIx xs.length 0 lo)
theorem cutV_length (xs : List V) (lo hi : Option Int) : (cutV xs lo hi).length ≤ xs.length := by
  unfold cutV
  rw [List.length_take, List.length_drop]
  omega
end
end L2
namespace L2
open PySem PySem.Spec PyProof.Rows
def ixN (n : Nat) (i : Int) : Option Nat := if 0 ≤ i then (if i < n then some i.toNat else none) else if -(n : Int) ≤ i then some (i + n).toNat else none
def atI {α : Type} (xs : List α) (i : Int) : Option α := (ixN xs.length i).bind fun j => xs[j]?
theorem ixN_seq {n : Nat} {i : Int} {j : Nat} (h : ixN n i = some j) : seqIndex? i n = some j ∧ j < n ∧ -(n : Int) ≤ i ∧ i < n := by
  unfold ixN at h
  by_cases h0 : 0 ≤ i
  · rw [if_pos h0] at h
    by_cases h1 : i < n
    · rw [if_pos h1] at h
      have e : i.toNat = j := Option.some.inj h
      exact ⟨by rw [seqIndex_of h0 h1, e], by omega, by omega, h1⟩
    · rw [if_neg h1] at h; cases h
  · rw [if_neg h0] at h
    by_cases h1 : -(n : Int) ≤ i
    · rw [if_pos h1] at h
      have e : (i + n).toNat = j := Option.some.inj h
      exact ⟨by rw [seqIndex_neg (by omega) h1, e], by omega, h1, by omega⟩
    · rw [if_neg h1] at h; cases h
theorem atI_get {α : Type} {xs : List α} {i : Int} {v : α} (h : atI xs i = some v) : ∃ j, seqIndex? i xs.length = some j ∧ xs[j]? = some v ∧ j < xs.length ∧ -(xs.length : Int) ≤ i ∧ i < xs.length := by
  unfold atI at h
  cases e : ixN xs.length i with
  | none => rw [e] at h; cases h
  | some j =>
    rw [e] at h
    obtain ⟨h1, h2, h3, h4⟩ := ixN_seq e
    exact ⟨j, h1, h, h2, h3, h4⟩
theorem atI_nat {α : Type} {xs : List α} {j : Nat} {v : α} (h : xs[j]? = some v) : atI xs (j : Int) = some v := by
  have hj : j < xs.length := (List.getElem?_eq_some_iff.mp h).1
  have e : ixN xs.length (j : Int) = some j := by
    unfold ixN
    rw [if_pos (by omega), if_pos (by omega)]; simp
  unfold atI; rw [e]; exact h
def PlainIx (b : Expr) : Prop := ∀ o i, subscripted b false o i = operate [o, i] (getItem o i)
@[irreducible] def IxR (X : Cx) (r : R2) : Prop :=
  ∀ (value slice : Expr) (pins : List (Addr × Obj)) (s : Shared) (σ : St) (H : Hp) (x y : V) (v u : Value) (Q : VK), Inv X pins σ H s → RelV x v → RelV y u → r x y H Q →
    subscripted slice false v u = operate [v, u] (getItem v u) → wpAny (model X.prog X.w) X.A (subscriptTail value slice v u) (EP X pins σ Q) X.xe s
@[irreducible] def MtR (X : Cx) (id : String) (r : V → List V → Hp → VK → Prop) : Prop :=
  ∀ (pins : List (Addr × Obj)) (s : Shared) (σ : St) (H : Hp) (x : V) (xs : List V) (v : Value) (us : List Value) (Q : VK), Inv X pins σ H s → RelV x v → Vals xs us → r x xs H Q →
    wpAny (model X.prog X.w) X.A (call (.builtin id) (v :: us)) (EP X pins σ Q) X.xe s
section
variable {X : Cx} {a b : Expr} {ta tb : TE} {pos : Pos}
theorem IxR.or {r r' : R2} (h : IxR X r) (h' : IxR X r') : IxR X (fun x y H Q => r x y H Q ∨ r' x y H Q) := by
  unfold IxR at *
  exact by
    intro value slice pins s σ H x y v u Q I rx ry q hs
    rcases q with q | q
    · exact h value slice pins s σ H x y v u Q I rx ry q hs
    · exact h' value slice pins s σ H x y v u Q I rx ry q hs
theorem MtR.or {id : String} {r r' : V → List V → Hp → VK → Prop} (h : MtR X id r) (h' : MtR X id r') : MtR X id (fun x xs H Q => r x xs H Q ∨ r' x xs H Q) := by
  unfold MtR at *
  exact by
    intro pins s σ H x xs v us Q I rx rs q
    rcases q with q | q
    · exact h pins s σ H x xs v us Q I rx rs q
    · exact h' pins s σ H x xs v us Q I rx rs q
theorem pe_ix {r : R2} (hr : IxR X r) (ha : PE X a ta) (hb : PE X b tb) (hs : PlainIx b) : PE X (.Subscript a b pos) (tOp r ta tb) := by
  unfold PE; unfold IxR at hr
  exact by
    intro pins s σ H Q I h
    exact Subscript_ (binT ha hb I h fun v u s2 x y H2 I2 rx ry q => hr a b pins s2 σ H2 x y v u Q I2 rx ry q (hs _ _))
def rIxL (K : PySem.W.Frag) : R2 := fun x y H Q => ∃ p xs i v, x = .ref p ∧ y = .int i ∧ SqL K H p xs ∧ atI xs i = some v ∧ Q v H
theorem ix_list : IxR X (rIxL X.K) := by
  unfold IxR at *
  exact by
    intro value slice pins s σ H x y v u Q I rx ry h hs
    obtain ⟨p, xs, i, z, rfl, rfl, hq, he, q⟩ := h
    cases rx
    obtain ⟨t, rfl⟩ := ry
    obtain ⟨its, r, pl, hz⟩ := I.list hq
    obtain ⟨j, h1, h2, h3, h4, h5⟩ := atI_get he
    obtain ⟨w, ew, rw'⟩ := r.get h2
    have hl := r.length
    have hn := line63
    have fin : EP X pins σ Q w s := ⟨z, H, I, rw', q⟩
    by_cases h0 : 0 ≤ i
    · have hj : i.toNat = j := by
        rw [seqIndex_of h0 h5] at h1
        exact Option.some.inj h1
      exact item_listR pl.isList h0 (by omega) (by rw [hj]; simpa using ew) fin hs
    · have hj : (i + (its.toArray.size : Int)).toNat = j := by
        rw [seqIndex_neg (by omega) h4] at h1
        rw [List.size_toArray, ← hl]
        exact Option.some.inj h1
      exact subscriptTail_builtinR (x := w) pl.isList.typeIs slot_list_getitem.lookup
        (wpAny_getItem_list_neg (Q := fun r s' => r = w ∧ EP X pins σ Q r s') pl.isList (by omega) (by rw [List.size_toArray] <;> omega) (by omega) (by rw [hj]; simpa using ew) ⟨rfl, fin⟩) hs
theorem Inv.lst {pins : List (Addr × Obj)} {σ : St} {H : Hp} {s : Shared} {p : Addr} {xs : List V} (I : Inv X pins σ H s) (h : H p = some (.lst xs)) :
    ∃ (its : List Value) (n : Nat), Vals xs its ∧ s.heap.get? p = some { cls := .type "list", data := .seq its.toArray n } ∧ xs.length ≤ sizeLine := by
  obtain ⟨z, its, n, r, e⟩ := I.hok p _ h
  exact ⟨its, n, r, e, z⟩
theorem slice_bounds (lo hi : Option Int) (n : Nat) : (sliceBounds lo hi none n).1 = ((HT.sIx n 0 lo : Nat) : Int) ∧ (sliceBounds lo hi none n).2.1 = ((HT.sIx n n hi : Nat) : Int) ∧ (sliceBounds lo hi none n).2.2 = 1 := by
  refine ⟨?_, ?_, rfl⟩
  · cases lo with
    | none => simp [sliceBounds, HT.sIx]
    | some i =>
      simp only [sliceBounds, HT.sIx, Option.getD_none, show (1 : Int) > 0 by decide, if_true]
      by_cases h : i < 0
      · simp only [h, if_true] <;> omega
      · simp only [h, if_false] <;> omega
  · cases hi with
    | none => simp [sliceBounds, HT.sIx]
    | some i =>
      simp only [sliceBounds, HT.sIx, Option.getD_none, show (1 : Int) > 0 by decide, if_true]
      by_cases h : i < 0
      · simp only [h, if_true] <;> omega
      · simp only [h, if_false] <;> omega
theorem slicePick_cut (its : List Value) (lo hi : Option Int) : slicePick its.toArray lo hi none = ((its.drop (HT.sIx its.length 0 lo)).take (HT.sIx its.length its.length hi - HT.sIx its.length 0 lo)).toArray := by
  obtain ⟨h1, h2, h3⟩ := slice_bounds lo hi its.toArray.size
  unfold slicePick
  rw [h1, h2, h3]
  simp only [sliceRange_one, pick_run, List.size_toArray] <;> rfl
def rSlL (K : PySem.W.Frag) : V → Option Int → Option Int → Hp → VK → Prop := fun x lo hi H Q => ∃ a xs, x = .ref a ∧ SqL K H a xs ∧ ∀ p, H p = none → Q (.ref p) (upd H p (.lst (cutV xs lo hi)))
theorem sl_list : SlR X (rSlL X.K) := by
  unfold SlR at *
  exact by
    intro pins s σ H x v vl vu lo hi sl Q I rx hs pl pu h
    obtain ⟨a, xs, rfl, hx, q⟩ := h
    cases rx
    obtain ⟨its, r, ht, hz⟩ := I.list hx
    have hlen := r.length
    refine ⟨"list", _, slot_list_getitem.lookup, ht.isList.typeIs, ?_⟩
    refine wpAny_getItem_list_slice ht.isList hs pl pu .none (by simp) ?_ (by rw [List.size_toArray] <;> omega)
    rw [slicePick_cut, ← hlen]
    refine ⟨.ref s.heap.objs.size, _, I.laid (t' := s.toks) (o := .lst (cutV xs lo hi)) (fun b ob q => Heap.get?_push_of_some _ q) (Nat.le_refl _) ?_, rfl, q _ (I.hok.fresh (Nat.le_refl _))⟩
    exact ⟨Nat.le_trans (cutV_length xs lo hi) hz, _, 0, (r.drop (HT.sIx xs.length 0 lo)).take (HT.sIx xs.length xs.length hi - HT.sIx xs.length 0 lo), Heap.get?_push_size _ rfl⟩
def flatV : V → Bool
  | .non => true
  | .bl _ => true
  | .int _ => true
  | .str _ => true
  | _ => false
def eqV : V → V → Bool
  | .non, .non => true
  | .bl a, .bl b => a == b
  | .bl a, .int b => (if a then 1 else 0) == b
  | .int a, .bl b => a == (if b then 1 else 0)
  | .int a, .int b => a == b
  | .str a, .str b => a == b
  | _, _ => false
theorem eqAt_V {A : Around} {s : Shared} {y x : V} {u v : Value} (ry : RelV y u) (rx : RelV x v) (fy : flatV y = true) (fx : flatV x = true) : SeqAt.EqAt A s u v (eqV y x) := by
  cases y with
  | non =>
    cases ry
    cases x with
    | non => cases rx; exact SeqAt.EqAt.same _
    | bl b => cases rx; exact SeqAt.EqAt.none_bool b
    | int b => obtain ⟨t, rfl⟩ := rx; exact SeqAt.EqAt.none_int b t
    | str b => obtain ⟨t, rfl⟩ := rx; exact SeqAt.EqAt.none_str b t
    | _ => exact absurd (show false = true from fx) Bool.false_ne_true
  | bl a =>
    cases ry
    cases x with
    | non => cases rx; exact SeqAt.EqAt.bool_none a
    | bl b => cases rx; exact SeqAt.EqAt.bool_bool a b
    | int b => obtain ⟨t, rfl⟩ := rx; exact SeqAt.EqAt.bool_int a b t
    | str b => obtain ⟨t, rfl⟩ := rx; exact SeqAt.EqAt.bool_str a b t
    | _ => exact absurd (show false = true from fx) Bool.false_ne_true
  | int a =>
    obtain ⟨t', rfl⟩ := ry
    cases x with
    | non => cases rx; exact SeqAt.EqAt.int_none a t'
    | bl b => cases rx; exact SeqAt.EqAt.int_bool a t' b
    | int b => obtain ⟨t, rfl⟩ := rx; exact SeqAt.EqAt.int_int a t' b t
    | str b => obtain ⟨t, rfl⟩ := rx; exact SeqAt.EqAt.int_str a t' b t
    | _ => exact absurd (show false = true from fx) Bool.false_ne_true
  | str a =>
    obtain ⟨t', rfl⟩ := ry
    cases x with
    | non => cases rx; exact SeqAt.EqAt.str_none a t'
    | bl b => cases rx; exact SeqAt.EqAt.str_bool a t' b
    | int b => obtain ⟨t, rfl⟩ := rx; exact SeqAt.EqAt.str_int a t' b t
    | str b => obtain ⟨t, rfl⟩ := rx; exact SeqAt.EqAt.str_str a t' b t
    | _ => exact absurd (show false = true from fx) Bool.false_ne_true
  | _ => exact absurd (show false = true from fy) Bool.false_ne_true
def eqU (x : V) (u : Value) : Bool := match u with
  | .none => eqV .non x
  | .bool b => eqV (.bl b) x
  | .int i _ => eqV (.int i) x
  | .str z _ => eqV (.str z) x
  | _ => false
theorem eqU_of {x y : V} {u : Value} (r : RelV y u) (f : flatV y = true) : eqU x u = eqV y x := by
  cases y with
  | non => cases r; rfl
  | bl b => cases r; rfl
  | int i => obtain ⟨t, rfl⟩ := r; rfl
  | str z => obtain ⟨t, rfl⟩ := r; rfl
  | _ => exact absurd (show false = true from f) Bool.false_ne_true
theorem any_eqU {x : V} : ∀ {xs : List V} {us : List Value}, Vals xs us → xs.all flatV = true → us.any (eqU x) = xs.any fun y => eqV y x
  | _, _, .nil, _ => rfl
  | y :: xs, u :: us, .cons r t, f => by
    rw [List.all_cons, Bool.and_eq_true] at f
    rw [List.any_cons, List.any_cons, eqU_of r f.1, any_eqU t f.2]
theorem mem_eqAt {A : Around} {s : Shared} {x : V} {v : Value} (rx : RelV x v) (fx : flatV x = true) : ∀ {xs : List V} {us : List Value}, Vals xs us → xs.all flatV = true → ∀ u ∈ us, SeqAt.EqAt A s u v (eqU x u)
  | _, _, .nil, _ => fun u hu => by cases hu
  | y :: xs, u :: us, .cons r t, f => fun u' hu => by
    rw [List.all_cons, Bool.and_eq_true] at f
    rcases List.mem_cons.mp hu with rfl | hu
    · rw [eqU_of r f.1]; exact eqAt_V r rx f.1 fx
    · exact mem_eqAt rx fx t f.2 u' hu
def inV (x : V) (xs : List V) : Bool := xs.any fun y => eqV y x
def rIn (K : PySem.W.Frag) (neg : Bool) : R2 := fun x y H Q => ∃ p xs, y = .ref p ∧ (SqL K H p xs ∨ SqT K H p xs) ∧ flatV x = true ∧ xs.all flatV = true ∧ Q (.bl (if neg then !inV x xs else inV x xs)) H
theorem op_in_seq : OpR X (compareOp .In) (rIn X.K false) := by
  unfold OpR at *
  exact by
    intro pins s σ H x y v u Q I rx ry h
    obtain ⟨p, xs, rfl, hq, fx, fs, q⟩ := h
    cases ry
    rcases hq with hq | hq
    · obtain ⟨its, r, pl, hz⟩ := I.list hq
      refine SeqAt.in_listAt (eqU x) pl.isList (fun w hw => mem_eqAt rx fx r fs w (by simpa using hw)) ⟨.bl _, H, I, rfl, ?_⟩
      rw [show its.toArray.any (eqU x) = its.any (eqU x) by simp, any_eqU r fs]
      exact q
    · obtain ⟨its, r, pl, hz⟩ := I.tuple hq
      refine SeqAt.in_tupleAt (eqU x) pl (fun w hw => mem_eqAt rx fx r fs w (by simpa using hw)) ⟨.bl _, H, I, rfl, ?_⟩
      rw [show its.toArray.any (eqU x) = its.any (eqU x) by simp, any_eqU r fs]
      exact q
theorem call_len_seq : CallR X (.builtin "len") (fun xs H Q => ∃ p ys, xs = [.ref p] ∧ (SqL X.K H p ys ∨ SqT X.K H p ys) ∧ Q (.int ys.length) H) := by
  unfold CallR at *
  exact by
    intro pins s σ H xs us Q I r h
    obtain ⟨p, ys, rfl, hq, q⟩ := h
    obtain ⟨u, rfl, rx⟩ := vals1 r
    cases rx
    have hn := line63
    rcases hq with hq | hq
    · obtain ⟨its, r', pl, hz⟩ := I.list hq
      have hlen := r'.length
      exact Calls.call_len_list pl.isList (by simp only [List.size_toArray] <;> omega) ⟨.int ys.length, H, I.tok _, ⟨s.toks + 1, by rw [List.size_toArray, hlen]⟩, q⟩
    · obtain ⟨its, r', pl, hz⟩ := I.tuple hq
      have hlen := r'.length
      exact len_tuple pl (by simp only [List.size_toArray] <;> omega) ⟨.int ys.length, H, I.tok _, ⟨s.toks + 1, by rw [List.size_toArray, hlen]⟩, q⟩
theorem CallR.or {f : Value} {r r' : List V → Hp → VK → Prop} (h : CallR X f r) (h' : CallR X f r') : CallR X f (fun xs H Q => r xs H Q ∨ r' xs H Q) := by
  unfold CallR at *
  exact by
    intro pins s σ H xs us Q I rs q
    rcases q with q | q
    · exact h pins s σ H xs us Q I rs q
    · exact h' pins s σ H xs us Q I rs q
def tyV (K : PySem.W.Frag) (T : String) (x : V) (H : Hp) : Prop := match x with
  | .str _ => T = "str"
  | .int _ => T = "int"
  | .ref p => (T = "list" ∧ ∃ xs, SqL K H p xs) ∨ (T = "tuple" ∧ ∃ o, K.lookup p = some o ∧ o.cls = .type "tuple" ∧ o.dict = none) ∨
      (T = "dict" ∧ ((∃ kvs, H p = some (.dK kvs)) ∨ ∃ kvs, H p = some (.dT kvs))) ∨ (T = "set" ∧ ∃ S n, H p = some (.set S n))
  | _ => False
theorem tyV_is {pins : List (Addr × Obj)} {σ : St} {H : Hp} {s : Shared} {T : String} {x : V} {v : Value} (I : Inv X pins σ H s) (r : RelV x v) (ty : tyV X.K T x H) :
    s.TypeIs v T ∧ ∀ a, v = .ref a → ∃ ob, s.heap.get? a = some ob ∧ ob.dict = none := by
  cases x with
  | str z =>
    obtain ⟨t, rfl⟩ := r
    cases (show T = "str" from ty)
    exact ⟨typeIs_str s z t, fun _ e => nomatch e⟩
  | int i =>
    obtain ⟨t, rfl⟩ := r
    cases (show T = "int" from ty)
    exact ⟨typeIs_int s i t, fun _ e => nomatch e⟩
  | ref p =>
    cases r
    rcases ty with ⟨rfl, xs, hq⟩ | ⟨rfl, o, hk, hc, hd⟩ | ⟨rfl, hk⟩ | ⟨rfl, S, n, hk⟩
    · obtain ⟨its, _, pl, _⟩ := I.list hq
      refine ⟨pl.isList.typeIs, fun a e => ?_⟩
      cases e
      obtain ⟨o, n, e, c, hd, _⟩ := pl
      exact ⟨o, e, hd⟩
    · refine ⟨⟨o, I.kIn p o hk, hc⟩, fun a e => ?_⟩
      cases e
      exact ⟨o, I.kIn _ o hk, hd⟩
    · have z : ∃ o, s.heap.get? p = some o ∧ o.ExactDict := by
        rcases hk with ⟨kvs, hk⟩ | ⟨kvs, hk⟩
        · obtain ⟨_, _, _, _, o, _, _, e, ex, _⟩ := I.hok p _ hk
          exact ⟨o, e, ex⟩
        · obtain ⟨_, _, _, _, o, _, _, e, ex, _⟩ := I.hok p _ hk
          exact ⟨o, e, ex⟩
      obtain ⟨o, e, ex⟩ := z
      refine ⟨⟨o, e, ex.1⟩, fun a e2 => ?_⟩
      cases e2
      exact ⟨o, e, ex.2.1⟩
    · obtain ⟨o, _, _, _, e, ex, _⟩ := I.hok p _ hk
      refine ⟨⟨o, e, ex.1⟩, fun a e2 => ?_⟩
      cases e2
      exact ⟨o, e, ex.2.1⟩
  | _ => exact False.elim ty
def tBM (K : PySem.W.Frag) (T : String) (r : V → List V → Hp → VK → Prop) (to : TE) (t : TA) : TE := fun σ H Q => to σ H fun x H1 => tyV K T x H1 ∧ t σ H1 fun xs H2 => r x xs H2 Q
variable {o e : Expr} {es : List Expr} {to : TE} {t : TA} {name : Str} {apos cpos : Pos} {T id : String} {r : V → List V → Hp → VK → Prop}
theorem pe_bm (pa : PlainAttrs T) (slot : Slot T name id) (hty : typeOf (.builtin id) = pure (.type "method_descriptor")) (hm : MtR X id r) (ho : PE X o to) (ha : PA X (e :: es) t)
    (hbase : attributeBase o name X.env (eval o X.env) = eval o X.env := by rfl)
    (hfew : ((backTo cpos (starEach (e :: es) X.env)).all (fun x => !x.1) && (backToKw cpos (keywordEach [] X.env)).all (fun x => x.1.isSome)
      && decide ((e :: es).length + ([] : List Keyword).length + (if ([] : List Keyword).isEmpty then 0 else 1) < 30)) = true := by rfl)
    (hline : (apos.endLine == cpos.line) = true := by rfl) (hs : starEach (e :: es) X.env = (false, eval e X.env) :: starEach es X.env := by rfl) (hplain : (backTo cpos (starEach es X.env)).any (·.1) = false := by rfl) :
    PE X (.Call (.Attribute o name apos) (e :: es) [] cpos) (tBM X.K T r to t) := by
  unfold PE at *; unfold PA at *; unfold MtR at *
  exact by
    intro pins s σ H Q I h
    refine wpAny_Call_method_late hbase hfew hline rfl (thn (ho pins s σ H _ I h) fun v s1 ⟨x, H1, I1, r1, ty, q1⟩ => ?_)
    obtain ⟨h1, h2⟩ := tyV_is I1 r1 ty
    refine ⟨T, id, pa, slot, hty, h1, h2, ?_⟩
    have hA := ha cpos pins s1 σ H1 _ I1 q1
    rw [hs] at hA ⊢
    refine Calls.callWith_builtin (by show (false || (backTo cpos (starEach es X.env)).any (·.1)) = false; rw [hplain] <;> rfl) (Calls.evalArgs_plain ?_)
    exact thn hA fun us s2 ⟨vs, H2, I2, r2, q2⟩ => hm pins s2 σ H2 x vs v us Q I2 r1 r2 q2
/- xs.append(e), list.index on a module's tuple .. are MtR facts of 06m -/
end
end L2
namespace L2
open PySem PySem.Spec PyProof.Rows
@[irreducible] def MtM (X : Cx) (id : String) (r : V → List V → Hp → VK → Prop) : Prop :=
  ∀ (pins : List (Addr × Obj)) (s : Shared) (σ : St) (H : Hp) (x : V) (xs : List V) (v : Value) (us : List Value) (Q : VK), Inv X pins σ H s → RelV x v → Vals xs us → r x xs H Q →
    wpAny (model X.prog X.w) X.A (call (.builtin id) (v :: us)) (EP X pins σ Q) X.xe s
theorem Vals.one : ∀ {x : V} {us : List Value}, Vals [x] us → ∃ u, us = [u] ∧ RelV x u
  | _, _, .cons r .nil => ⟨_, rfl, r⟩
theorem Vals.two : ∀ {x y : V} {us : List Value}, Vals [x, y] us → ∃ u v, us = [u, v] ∧ RelV x u ∧ RelV y v
  | _, _, _, .cons r (.cons q .nil) => ⟨_, _, rfl, r, q⟩
theorem Vals.reverse {xs : List V} {us : List Value} (h : Vals xs us) : Vals xs.reverse us.reverse := by
  induction h with
  | nil => exact .nil
  | cons r t ih => rw [List.reverse_cons, List.reverse_cons]; exact Vals.append ih (.cons r .nil)
section
variable {X : Cx} {pins : List (Addr × Obj)} {σ : St} {H : Hp} {s : Shared} {l b : Addr} {xs ys zs : List V}
theorem Inv.lset {its its' : List Value} {n : Nat} {f : Array Value → Array Value} {t' : Nat} (I : Inv X pins σ H s) (hH : H l = some (.lst xs))
    (e : s.heap.get? l = some { cls := .type "list", data := .seq its.toArray n }) (hf : f its.toArray = its'.toArray) (hv : Vals ys its') (hz : ys.length ≤ sizeLine) :
    Inv X pins σ (upd H l (.lst ys)) { s with heap := s.heap.update l (Obj.mapSeq f), toks := t' } := by
  have q := PySem.IsL.update e f
  rw [hf] at q
  refine I.write (x := l) (e := l) (by rw [hH]; exact trivial) (.inl rfl) (fun b' u hb hu => (Heap.get?_update_other s.heap (Obj.mapSeq f) (Ne.symm hb)).trans hu) ⟨_, q⟩ ?_
  exact ⟨hz, its', _, hv, q⟩
theorem Inv.lnew {its : List Value} {t' : Nat} (I : Inv X pins σ H s) (hv : Vals ys its) (hz : ys.length ≤ sizeLine) :
    Inv X pins σ (upd H s.heap.objs.size (.lst ys)) { s with heap := s.heap.push { cls := .type "list", data := .seq its.toArray }, toks := t' } :=
  I.laid (fun _ _ q => Heap.get?_push_of_some _ q) (Nat.le_refl _) ⟨hz, its, 0, hv, Heap.get?_push_size _ rfl⟩
theorem Inv.fresh (I : Inv X pins σ H s) : H s.heap.objs.size = none := I.hok.fresh (Nat.le_refl _)
theorem Inv.lstM (I : Inv X pins σ H s) (hH : H l = some (.lst xs)) : xs.length ≤ sizeLine ∧ ∃ (its : List Value) (n : Nat), Vals xs its ∧ xs.length = its.length ∧ s.heap.get? l = some { cls := .type "list", data := .seq its.toArray n } := by
  obtain ⟨z, its, n, r, e⟩ := I.hok l _ hH
  exact ⟨z, its, n, r, r.length, e⟩
end
section
variable {X : Cx}
def rAppend : V → List V → Hp → VK → Prop := fun x vs H Q => ∃ l xs y, x = .ref l ∧ vs = [y] ∧ H l = some (.lst xs) ∧ xs.length < sizeLine ∧ Q .non (upd H l (.lst (xs ++ [y])))
theorem mt_append : MtM X "list.append" rAppend := by
  unfold MtM at *
  exact by
    intro pins s σ H x vs v us Q I rx rv h
    obtain ⟨l, xs, y, rfl, rfl, hH, hz, q⟩ := h
    cases rx
    obtain ⟨u, rfl, ru⟩ := rv.one
    obtain ⟨z, its, n, r, hl, e⟩ := I.lstM hH
    refine call_meets F.slot_list_append ⟨_, e, rfl⟩ F.entry_list_append (F.args_list_append_2 _ _) (PySem.list_append l its.toArray n u (by rw [List.size_toArray]; omega)) ⟨e, ?_⟩
    refine ⟨.non, _, I.lset (its' := its ++ [u]) hH e (by simp) (r.append (.cons ru .nil)) ?_, rfl, q⟩
    rw [List.length_append, List.length_singleton]
    omega
end
section
variable {prog : Program} {w : World} {A : Around} {E : Value → Shared → Prop} {s : Shared}
set_option maxRecDepth 100000 in
end
section
variable {X : Cx}
end
end L2
namespace L2
open PySem PySem.Spec PyProof.Rows
section
variable {κ : Type} [DecidableEq κ]
def valV (kvs : List (κ × V)) (k : κ) : Option V := (kvs.find? fun kv => decide (kv.1 = k)).map (·.2)
def dropK (kvs : List (κ × V)) (k : κ) : List (κ × V) := kvs.filter fun kv => decide (kv.1 ≠ k)
theorem valV_pos {p : κ × V} {r : List (κ × V)} {k : κ} (e : p.1 = k) : valV (p :: r) k = some p.2 := by simp [valV, List.find?_cons, e]
theorem valV_neg {p : κ × V} {r : List (κ × V)} {k : κ} (e : ¬ p.1 = k) : valV (p :: r) k = valV r k := by simp [valV, List.find?_cons, e]
theorem RelO.getD {o : Option V} {u : Option Value} {d : V} {d' : Value} (r : RelO o u) (rd : RelV d d') : RelV (o.getD d) (u.getD d') := by
  cases o with
  | none => cases u with
    | none => exact rd
    | some _ => exact (show False from r).elim
  | some _ => cases u with
    | none => exact (show False from r).elim
    | some _ => exact r
theorem KV.val {kvs : List (κ × V)} {vs : List (κ × Value)} (r : KV kvs vs) (k : κ) : RelO (valV kvs k) (valueAt vs k) := by
  unfold KV at r
  induction r with
  | nil => exact True.intro
  | @cons p q ps qs h t ih =>
    obtain ⟨h1, h2⟩ := h
    by_cases e : p.1 = k
    · have e' : q.1 = k := h1.symm.trans e
      have b : valueAt (q :: qs) k = some q.2 := by simp [valueAt, List.find?_cons, e']
      rw [valV_pos e, b]; exact h2
    · have e' : ¬ q.1 = k := fun z => e (h1.trans z)
      have b : valueAt (q :: qs) k = valueAt qs k := by simp [valueAt, List.find?_cons, e']
      rw [valV_neg e, b]; exact ih
theorem KV.any {kvs : List (κ × V)} {vs : List (κ × Value)} (r : KV kvs vs) (k : κ) : (kvs.any fun kv => decide (kv.1 = k)) = vs.any fun kv => decide (kv.1 = k) := by
  unfold KV at r
  induction r with
  | nil => rfl
  | cons h t ih => rw [List.any_cons, List.any_cons, ih, h.1]
theorem KV.drop {kvs : List (κ × V)} {vs : List (κ × Value)} (r : KV kvs vs) (k : κ) : KV (dropK kvs k) (without vs k) := by
  unfold KV at r ⊢
  unfold dropK without
  induction r with
  | nil => exact .nil
  | @cons p q ps qs h t ih =>
    obtain ⟨h1, h2⟩ := h
    rw [List.filter_cons, List.filter_cons]
    by_cases e : p.1 = k
    · have a : ¬ decide (p.1 ≠ k) = true := by simp [e]
      have b : ¬ decide (q.1 ≠ k) = true := by simp [h1.symm.trans e]
      rw [if_neg a, if_neg b]; exact ih
    · have e' : ¬ q.1 = k := fun z => e (h1.trans z)
      have a : decide (p.1 ≠ k) = true := by simp [e]
      have b : decide (q.1 ≠ k) = true := by simp [e']
      rw [if_pos a, if_pos b]; exact .cons ⟨h1, h2⟩ ih
theorem KV.length {kvs : List (κ × V)} {vs : List (κ × Value)} (r : KV kvs vs) : kvs.length = vs.length := Paired.length r
end
abbrev KT (H : Hp) : List (List Key × V) → List (List Key × Addr × Value) → Prop := Paired fun p q => p.1 = q.1 ∧ H q.2.1 = some (.tup (p.1.map kV)) ∧ RelV p.2 q.2.2
theorem KT.val {H : Hp} {kvs : List (List Key × V)} {xs : List (List Key × Addr × Value)} (r : KT H kvs xs) (k : List Key) : RelO (valV kvs k) ((atKey xs k).map (·.2)) := by
  induction r with
  | nil => exact True.intro
  | @cons p q ps qs h t ih =>
    obtain ⟨h1, _, h2⟩ := h
    by_cases e : p.1 = k
    · have e' : q.1 = k := h1.symm.trans e
      have b : atKey (q :: qs) k = some q.2 := by simp [atKey, List.find?_cons, e']
      rw [valV_pos e, b]; exact h2
    · have e' : ¬ q.1 = k := fun z => e (h1.trans z)
      have b : atKey (q :: qs) k = atKey qs k := by simp [atKey, List.find?_cons, e']
      rw [valV_neg e, b]; exact ih
theorem KT.keeps {H H' : Hp} {kvs : List (List Key × V)} {xs : List (List Key × Addr × Value)} (r : KT H kvs xs) (ht : ∀ b ys, H b = some (.tup ys) → H' b = some (.tup ys)) : KT H' kvs xs :=
  Paired.mapP r fun _ _ z => ⟨z.1, ht _ _ z.2.1, z.2.2⟩
section
variable {P : Program} {w : World} {H : Hp} {h : Heap} {a : Addr}
theorem rd_of {u : HO} (ok : HOk P w H h) (e : Rd H a u) : ObjOk P w H h a u := e.ok ok
theorem dk_rd {kvs : List (Key × V)} (ok : HOk P w H h) (e : Rd H a (.dK kvs)) : kvs.length ≤ sizeLine ∧ (a == sysModules) = false ∧ ∃ vs, KV kvs vs ∧ h.DictOf (mixKind P w) a vs :=
  show ObjOk P w H h a (.dK kvs) from rd_of ok e
end
section
variable {X : Cx} {pins : List (Addr × Obj)} {σ : St} {H : Hp} {s : Shared} {a : Addr} {y v : V} {u r : Value} {o : Option V} {A : Around} {E : Value → Shared → Prop}
end
section
variable {X : Cx} {pins : List (Addr × Obj)} {σ : St} {H : Hp} {s : Shared} {a : Addr} {kvs : List (Key × V)} {k : Key} {u : Value} {A : Around} {E : Value → Shared → Prop}
end
section
variable {X : Cx} {o i e value : Expr} {pos pos' tpos : Pos} {td ty tv : TE}
end
section
variable {X : Cx} {pos : Pos}
end
section
variable {X : Cx} {pins : List (Addr × Obj)} {σ : St} {H : Hp} {s : Shared} {a : Addr} {y d : V} {u r : Value} {o : Option V} {A : Around} {E : Value → Shared → Prop}
end
section
variable {X : Cx} {o e f : Expr} {apos cpos : Pos} {td ty tx : TE}
end
section
variable {X : Cx} {pins : List (Addr × Obj)} {σ : St} {H : Hp} {s : Shared} {a : Addr} {kvs : List (Key × V)} {A : Around} {E : Value → Shared → Prop}
end
section
variable {X : Cx} {pins : List (Addr × Obj)} {σ : St} {H : Hp} {s : Shared} {a : Addr} {y : V} {u : Value} {A : Around} {E : Value → Shared → Prop}
end
end L2
namespace Att
open PySem PySem.W PySem.Calls PyProof.Rows
theorem ints_of_wellAll {P : Params} {h : Heap} : ∀ (ns : List Int) (vs : List Value), WellAll P h vs (ns.map WData.int) → IntsAre vs ns := by
  intro ns
  induction ns with
  | nil =>
    intro vs w
    rw [List.map_nil] at w
    cases w
    exact .nil
  | cons n ns ih =>
    intro vs w
    rw [List.map_cons] at w
    cases w with
    | cons a b =>
      cases a
      exact .cons _ _ (ih _ b)
theorem script_of {l : OpenLaw} {n : Nat} (hn : l.most = some n) {P : Params} {h : Heap} {args : List WData} {vals : List Value}
    (hpre : l.row.toRowW.claim.pre args = true) (hwl : WellAll P h vals args) :
    ∃ a vs ns, vals = [Value.ref a] ∧ args = [WData.list (ns.map WData.int)] ∧ h.get? a = some { cls := .type "list", data := .seq vs.toArray } ∧ IntsAre vs ns ∧ ns.length ≤ n := by
  have hsh : WShape.hasAll [] args [.list .int] = true := (pre_splitW hpre).1
  have hc : l.pre.holds [] { args := args } = true := (pre_splitW hpre).2
  obtain ⟨d, r, rfl, h1, h2⟩ := hasAllW_cons hsh
  obtain rfl := hasAllW_nil h2
  obtain ⟨xs, rfl, h3⟩ := hasW_list h1
  obtain ⟨ns, rfl⟩ := items_int h3
  have hlen : ns.length ≤ n := by
    unfold OpenLaw.pre at hc
    have h4 : (WTm.not (.lt (.lit (.int (n : Int))) (.len (.arg 0)))).holds [] { args := [.list (ns.map .int)] } = true := by
      have h4 := (holds_andW hc).1
      rw [hn] at h4
      exact h4
    have h5 := condW_of h4 (w_not (w_lt w_lit (w_len_list (w_arg rfl))))
    rw [List.length_map] at h5
    refine Nat.le_of_not_lt fun q => ?_
    have q' : (n : Int) < ((ns.length : Nat) : Int) := by omega
    first
      | (rw [decide_eq_true q'] at h5; exact absurd h5 (by decide))
      | (simp at h5; omega)
  cases hwl with
  | cons w1 w2 =>
    cases w2
    cases w1 with
    | list ho hall => exact ⟨_, _, ns, rfl, rfl, ho, ints_of_wellAll ns _ hall, hlen⟩
theorem post_true (l : OpenLaw) (args : List WData) : l.row.toRowW.claim.post args (.bool true) args = true :=
  postW_of (r := l.row.toRowW) (X := (true == true))
    (show WShape.has [] (.bool true) .bool = true by first | rfl | decide | simp [WShape.has, WShape.arms, WShape.armsAll])
    (show (WTm.eq .res (.lit (.bool true))).value [] { args := args, res := some (.bool true), after := args } = some (.bool (true == true)) from w_eq_bool (w_res rfl) w_lit) rfl
theorem attach_call {l : OpenLaw} {n : Nat} {q : Program} {loose : List Str} {XP : (Str → Option Value) → Heap → Prop} {YP : World → Heap → Prop} {d : DefRec}
    (hn : l.most = some n) (hdf : d.params.defaults = [])
    (call : ∀ (w : World) (s₀ s₁ : Shared) (mg mb : Str → Option Value) (fa : Addr) (o : Obj) (pm cd doc : Value) (a : Addr) (vs : List Value) (ns : List Int),
      Ground q loose [] XP w s₀ mg mb s₁.heap → YP w s₁.heap →
      s₁.heap.get? fa = some o → o.data = .func (docDef d.name d.params d.body d.scope pm cd doc) → s₁.heap.CodeRec cd d.name → mg d.name = some (.ref fa) →
      s₁.heap.get? a = some { cls := .type "list", data := .seq vs.toArray } → IntsAre vs ns → ns.length ≤ n → s₁.gens = #[] →
      codeAny (model l.prog w) callerA (.call (.ref fa) ⟨[.ref a], []⟩) (fun r s' => r = .ok (.ret (.bool true)) ∧ OldK s₁.heap s'.heap ∧ s'.os = s₁.os ∧ AllBare s'.gens) s₁) :
    WalkO q loose XP YP l.row.toRowW d [] (fun f vs => PySem.call f vs) := by
  intro w s₀ s₁ mg mb G Y fa o pm cd doc dV kV ho hd hcd hD hmg hg args vals as hpre hlay hrd hwl hlo
  obtain rfl : dV = .none := Dflts.none hD hdf
  obtain rfl : kV = .none := Dflts.noKw hD
  obtain ⟨a, vs, ns, rfl, rfl, hobj, hints, hlen⟩ := script_of hn hpre hwl
  refine enter_call (codeAny_mono (call w s₀ s₁ mg mb fa o pm cd doc a vs ns G Y ho (fd_plain hd) hcd hmg hobj hints hlen hg) fun r s' hq => ?_)
  obtain ⟨rfl, h2, h3, h4⟩ := hq
  exact ⟨.inl ⟨.bool true, .bool true, [], rfl, fun _ => rfl, .bool true, post_true l _, fun _ => ⟨List.Pairwise.nil, fun _ hm => (nomatch hm)⟩⟩, h2, h3, h4⟩
section
variable {prog : Program} {w : World} {A : Around} {E : Value → Shared → Prop} {s : Shared} {K : Frag}
def ledger (h : Heap) (L d : Addr) : List (Addr × Obj) := (List.range h.objs.size).filterMap fun a => if a = L ∨ a = d then none else (h.get? a).map fun o => (a, o)
end
end Att
namespace L2
open PySem PySem.Spec PyProof.Rows
theorem vals_ints : ∀ {vs : List Value} {ns : List Int}, IntsAre vs ns → Vals (ns.map V.int) vs
  | _, _, .nil => .nil
  | _, _, .cons n t h => .cons ⟨t, rfl⟩ (vals_ints h)
def Only (H : Hp) : Prop := ∀ b, H b = none ∨ ∃ o xs, H b = some (.frz o (.lst xs))
theorem law_call {P : Program} {w : World} {K : PySem.W.Frag} {mg mb : Str → Option Value} {CX : CXT} {k : Nat} {fa a : Addr} {fd : FuncData} {x : Str} {sp : Sp} {s₁ : Shared} {vs : List Value} {ns : List Int}
    (KX : K.In s₁.heap) (hns : s₁.heap.Ns mainGlobals mg) (hb : s₁.heap.Ns builtinsNs mb) (hbb : ∀ x : Str, x ≠ "__name__" → mb x = bootBuiltins x) (hlim : s₁.heap.NoLimit) (hg : s₁.gens = #[])
    (ha : s₁.heap.get? a = some { cls := .type "list", data := .seq vs.toArray }) (hi : IntsAre vs ns) (hl : ns.length ≤ sizeLine) (hr : Room k callerA)
    (F : ∀ base : Heap, K.In base → base.Ns mainGlobals mg → FnOk P w K mg base CX k fa fd [x] sp) (hbind : ∀ (s : Shared) (u : Value), BindsTo s fd ⟨[u], []⟩ [(x, u)])
    (hsp : ∀ H : Hp, Only H → SqL K H a (ns.map V.int) → sp [.ref a] H (fun v _ => v = .bl true) fun _ _ _ => False)
    (hCX : ∀ H e s', CX [] H s₁ (fun _ _ _ => False) e s' → False) :
    codeAny (model P w) callerA (.call (.ref fa) ⟨[.ref a], []⟩) (fun r s' => r = .ok (.ret (.bool true)) ∧ OldK s₁.heap s'.heap ∧ s'.os = s₁.os ∧ AllBare s'.gens) s₁ := by
  have rv := vals_ints hi
  have lenV := hi.length
  -- from an abstract heap in which nothing but the script may be tracked
  have core : ∀ H : Hp, Only H → SqL K H a (ns.map V.int) → HOk P w H s₁.heap → (∀ b, H b ≠ none → b = a) → (H a ≠ none → K.lookup a = none) →
      codeAny (model P w) callerA (.call (.ref fa) ⟨[.ref a], []⟩) (fun r s' => r = .ok (.ret (.bool true)) ∧ OldK s₁.heap s'.heap ∧ s'.os = s₁.os ∧ AllBare s'.gens) s₁ := by
    intro H hO hS hok hA hK
    have base_of : ∀ {b : Addr} {o : Obj}, s₁.heap.get? b = some o → H b = none → (hidT s₁.heap H).get? b = some o := fun e n => hidT_get e n
    have noA : ∀ {b : Addr} {o : Obj} {es : Array DictEntry} {ep : Nat}, s₁.heap.get? b = some o → o.data = .dict es ep → H b = none := fun {b o es ep} e d => by
      cases q : H b with
      | none => rfl
      | some u =>
        have e' : b = a := hA b (by rw [q]; simp)
        subst e'
        rw [ha] at e; cases e
        have d' : Data.seq vs.toArray _ = Data.dict es ep := d
        cases d'
    have nsK : ∀ {b : Addr} {m : Str → Option Value}, s₁.heap.Ns b m → (hidT s₁.heap H).Ns b m := fun {b m} ⟨o, es, ep, e, d, r⟩ => ⟨o, es, ep, base_of e (noA e d), d, r⟩
    have hKb : K.In (hidT s₁.heap H) := fun b o e => base_of (KX b o e) (by
      cases q : H b with
      | none => rfl
      | some u =>
        have e' : b = a := hA b (by rw [q]; simp)
        subst e'
        rw [hK (by rw [q]; simp)] at e; cases e)
    have hM : Mod K mg (hidT s₁.heap H) := ⟨hKb, nsK hns, ⟨mb, nsK hb, hbb⟩, let ⟨mc, h1, h2⟩ := hlim; ⟨mc, nsK h1, h2⟩⟩
    have e0 : Env0 P w K mg (hidT s₁.heap H) callerA [] s₁ H := ⟨rfl, hM, fun b o e => of_hidT e, Nat.le_of_eq (hidT_size _ _), trivial, fun b hb => absurd (show b ∈ ([] : List Addr) from hb) (by simp), hok, .of_eq hg⟩
    refine codeAny_mono ((F _ hKb (nsK hns)).run callerA [] s₁ H ⟨[.ref a], []⟩ [.ref a] [.ref a] _ _ hr e0 (hbind s₁ (.ref a)) (.cons rfl .nil) (hsp H hO hS)) fun r s' h => ?_
    cases r with
    | error e => exact (hCX H e s' h).elim
    | ok fl =>
      cases fl with
      | next => exact False.elim h
      | brk => exact False.elim h
      | cont => exact False.elim h
      | ret u =>
        obtain ⟨v, H', os, bare, un, hok', r', q⟩ := h
        have q' : v = .bl true := q
        subst q'
        obtain rfl : u = Value.bool true := r'
        refine ⟨rfl, OldK.of_keep fun b o e => ?_, os, bare⟩
        cases q : H b with
        | none => exact un.keep b o e q (by intro z; exact absurd (show b ∈ ([] : List Addr) from z) (by simp)) (by simp)
        | some u =>
          rcases hO b with z | ⟨ob, xs, z⟩
          · rw [q] at z; cases z
          · have z2 := un.frzs b ob _ z
            obtain ⟨e1, _⟩ := hok b _ z
            obtain ⟨e2, _⟩ := hok' b _ z2
            rw [e] at e1; cases e1
            exact e2
  cases hk : K.lookup a with
  | some o =>
    -- the script is one of the module's own objects
    have e := KX a o hk
    rw [ha] at e
    cases e
    refine core (fun _ => none) (fun _ => .inl rfl) (.inr ⟨_, vs.toArray, _, hk, rfl, rfl, rfl, by rw [List.size_toArray, lenV]; exact hl, by simpa using rv⟩) (fun b u z => by have z' : (none : Option HO) = some u := z; cases z') (fun b z => absurd rfl z) fun z => absurd rfl z
  | none =>
    refine core (fun b => if b = a then some (.frz { cls := .type "list", data := .seq vs.toArray } (.lst (ns.map V.int))) else none) (fun b => ?_) (.inl (.inr ⟨{ cls := .type "list", data := .seq vs.toArray }, if_pos rfl⟩)) (fun b u z => ?_) (fun b z => ?_) fun _ => hk
    · by_cases hb : b = a
      · exact .inr ⟨_, _, if_pos hb⟩
      · exact .inl (if_neg hb)
    · by_cases hb : b = a
      · have z' := (if_pos hb).symm.trans z
        cases z'
        subst hb
        exact ⟨ha, by rw [List.length_map]; exact hl, vs, _, rv, ha⟩
      · have z' := (if_neg hb).symm.trans z
        cases z'
    · by_cases hb : b = a
      · exact hb
      · exact absurd (if_neg hb) z
end L2
namespace L2
open PySem PySem.Spec PyProof.Rows
theorem walk_of {l : PySem.W.OpenLaw} {n k : Nat} {q : Program} {loose : List Str} {XP : (Str → Option Value) → Heap → Prop} {YP : World → Heap → Prop} {d : DefRec} {K : Params → PySem.W.Frag} {CX : World → CXT} {sp : World → Sp} {x : Str}
    (hn : l.most = some n) (hn2 : n ≤ sizeLine) (hdf : d.params.defaults = []) (hr : Room k callerA)
    (hY : ∀ (w : World) (h : Heap), YP w h → (K w.params).In h)
    (F : ∀ (w : World) (mg : Str → Option Value) (fa : Addr) (h : Heap), (K w.params).In h → h.Ns mainGlobals mg → mg d.name = some (.ref fa) →
      ∃ fd : FuncData, (∀ (s : Shared) (u : Value), BindsTo s fd ⟨[u], []⟩ [(x, u)]) ∧
        ∀ base : Heap, (K w.params).In base → base.Ns mainGlobals mg → FnOk l.prog w (K w.params) mg base (CX w) k fa fd [x] (sp w))
    (hsp : ∀ (w : World) (H : Hp) (a : Addr) (ns : List Int), ns.length ≤ n → Only H → SqL (K w.params) H a (ns.map V.int) → sp w [.ref a] H (fun v _ => v = .bl true) fun _ _ _ => False)
    (hCX : ∀ (w : World) (H : Hp) (s : Shared) (e : Value) (s' : Shared), CX w [] H s (fun _ _ _ => False) e s' → False) :
    PySem.W.WalkO q loose XP YP l.row.toRowW d [] (fun f vs => PySem.call f vs) := by
  refine Att.attach_call hn hdf fun w s₀ s₁ mg mb fa o pm cd doc a vs ns G Y ho hd hcd hmg hobj hints hlen hg => ?_
  have KX := hY w _ Y
  obtain ⟨fd, hb, hF⟩ := F w mg fa _ KX G.T.g hmg
  exact law_call KX G.T.g G.T.b G.T.builtins G.T.nolimit hg hobj hints (Nat.le_trans hlen hn2) hr hF hb (fun H hO hS => hsp w H a ns hlen hO hS) fun H e s' => hCX w H s₁ e s'
theorem walk_ofK {l : PySem.W.OpenLaw} {n k : Nat} {q : Program} {loose : List Str} {XP : (Str → Option Value) → Heap → Prop} {YP : World → Heap → Prop} {d : DefRec} {K : Params → PySem.W.Frag} {CX : CXT} {sp : PySem.W.Frag → Sp} {x : Str}
    (hn : l.most = some n) (hn2 : n ≤ sizeLine) (hdf : d.params.defaults = []) (hr : Room k callerA)
    (hY : ∀ (w : World) (h : Heap), YP w h → (K w.params).In h)
    (F : ∀ (w : World) (mg : Str → Option Value) (fa : Addr) (h : Heap), (K w.params).In h → h.Ns mainGlobals mg → mg d.name = some (.ref fa) →
      ∃ fd : FuncData, (∀ (s : Shared) (u : Value), BindsTo s fd ⟨[u], []⟩ [(x, u)]) ∧
        ∀ base : Heap, (K w.params).In base → base.Ns mainGlobals mg → FnOk l.prog w (K w.params) mg base CX k fa fd [x] (sp (K w.params)))
    (hsp : ∀ (K : PySem.W.Frag) (H : Hp) (a : Addr) (ns : List Int), ns.length ≤ n → Only H → SqL K H a (ns.map V.int) → sp K [.ref a] H (fun v _ => v = .bl true) fun _ _ _ => False)
    (hCX : ∀ (H : Hp) (s : Shared) (e : Value) (s' : Shared), CX [] H s (fun _ _ _ => False) e s' → False) :
    PySem.W.WalkO q loose XP YP l.row.toRowW d [] (fun f vs => PySem.call f vs) :=
  walk_of (K := K) (CX := fun _ => CX) (sp := fun w => sp (K w.params)) hn hn2 hdf hr hY F (fun w H a ns h1 h2 h3 => hsp (K w.params) H a ns h1 h2 h3) fun _ H s e s' => hCX H s e s'
end L2
/- THE LAST THEOREM (shape; LID, My.* are yours):
   My.Adr: a structure of the addresses that your layer names (classes, functions); My.Txt K t: a structure (Prop) of the equations over K;
   My.txt_mk : {K} {implicit addresses ..} (e1 : nsIn K mainGlobals "law" = some (some (.ref f))) (e2 : K.lookup f = some ⟨oc, od, .func (fnOf "law" "law" params body scope dV kV doc pm an cdv ct), sl⟩) (e3 : codeIn K cdv "law" = true) .. : ∃ t, My.Txt K t
set_option maxRecDepth 100000 in
set_option maxHeartbeats 0 in
(the tactic k_is has no namespace: write k_is) -/
namespace L2
open PySem PySem.Spec PyProof.Rows
def inClass (s : Stmt) (j : Nat) : Stmt := match s with
  | .ClassDef _ _ _ body _ _ _ _ _ _ _ => body.getD j (.Pass ⟨0, 0, 0, 0⟩)
  | _ => .Pass ⟨0, 0, 0, 0⟩
def defArgs (s : Stmt) : Arguments := match s with
  | .FunctionDef _ a _ _ _ _ _ _ _ _ => a
  | _ => { posonlyargs := [], args := [], vararg := none, kwonlyargs := [], kw_defaults := [], kwarg := none, defaults := [] }
def defBody (s : Stmt) : List Stmt := match s with
  | .FunctionDef _ _ b _ _ _ _ _ _ _ => b
  | _ => []
def defScope (s : Stmt) : Scope := match s with
  | .FunctionDef _ _ _ _ _ _ sc _ _ _ => sc
  | _ => { kind := .function, names := [], isGenerator := false, isCoroutine := false }
abbrev CX0 : CXT := fun _ _ _ _ _ _ => False
abbrev E0 : XK := fun _ _ _ => False
theorem pass0 {X : Cx} : Passes CX0 X E0 := fun _ _ _ _ _ _ _ h => h.elim
structure Fun (K : PySem.W.Frag) (x qual : Str) (st : Stmt) (f : Addr) (fd : FuncData) : Prop where
  ex : ∃ (oc : Value) (od : Option Addr) (kV doc pm : Value) (an : Option Addr) (cdv ct : Value) (osl : Array (Option Value)),
    fd = PySem.W.fnOf x qual (defArgs st) (defBody st) (defScope st) .none kV doc pm an cdv ct ∧ K.lookup f = some ⟨oc, od, .func fd, osl⟩ ∧ PySem.W.codeIn K cdv qual = true
  kp : PySem.W.keepIn K (.ref f) = true
section
variable {P : Program} {w : World} {K : PySem.W.Frag} {mg : Str → Option Value} {base : Heap}
theorem Fun.ok {x qual : Str} {st : Stmt} {f : Addr} {fd : FuncData} {N ps : List Str} {k : Nat} {sp : Sp} (F : Fun K x qual st f fd) (S : FnScope N ps (defScope st)) (len : ∀ vs H Q E, sp vs H Q E → vs.length = ps.length)
    (hbody : ∀ (cdv : Value) (A : Around) (outer : List Env) (s : Shared) (H : Hp) (vs : List V) (Q : VK) (E : XK), Room k (A.deeper (envOfC qual (defScope st) s.heap.objs.size f cdv)) → sp vs H Q E →
      ∃ t, PSs (cxOf CX0 P w K mg base N qual (defScope st) f cdv A outer s H E).nox (defBody st) t ∧ t { nx := fun _ H' => Q .non H', rt := Q } (start N vs) H) : FnOk P w K mg base CX0 (k + 1) f fd ps sp := by
  obtain ⟨oc, od, kV, doc, pm, an, cdv, ct, osl, rfl, lk, hcd⟩ := F.ex
  refine fn_of lk hcd S len fun A outer s H vs Q E hr hsp => ?_
  obtain ⟨t, h, q⟩ := hbody cdv A outer s H vs Q E hr hsp
  exact ⟨t, h.nox, q⟩
theorem Fun.binds {x qual : Str} {st : Stmt} {f : Addr} {fd : FuncData} {ps : List Str} (F : Fun K x qual st f fd)
    (h : ∀ (kV doc pm : Value) (an : Option Addr) (cdv ct : Value) (us : List Value), us.length = ps.length → bindArgs (PySem.W.fnOf x qual (defArgs st) (defBody st) (defScope st) .none kV doc pm an cdv ct) ⟨us, []⟩ = pure (ps.zip us)) : Binds K fd ps [] := by
  obtain ⟨oc, od, kV, doc, pm, an, cdv, ct, osl, rfl, lk, hcd⟩ := F.ex
  exact .all (h kV doc pm an cdv ct)
theorem fun_mk {x qual : Str} {st : Stmt} {f : Addr} {oc : Value} {od an : Option Addr} {osl : Array (Option Value)} {kV doc pm cdv ct : Value} (l : K.lookup f = some ⟨oc, od, .func (PySem.W.fnOf x qual (defArgs st) (defBody st) (defScope st) .none kV doc pm an cdv ct), osl⟩)
    (c : PySem.W.codeIn K cdv qual = true) (k : PySem.W.keepIn K (.ref f) = true) : Fun K x qual st f (PySem.W.fnOf x qual (defArgs st) (defBody st) (defScope st) .none kV doc pm an cdv ct) := ⟨⟨oc, od, kV, doc, pm, an, cdv, ct, osl, rfl, l, c⟩, k⟩
end
section
variable {X : Cx}
theorem pv (i : Nat) {x : Str} {pos : Pos} (hN : X.N[i]? = some x := by rfl) (hv : Vis X.env.scope x := by first | exact Or.inl rfl | exact Or.inr (Or.inl rfl) | exact Or.inr (Or.inr rfl)) (hd : (x == ("__debug__" : Str)) = false := by decide)
    (hcd : (x == ("__classdict__" : Str)) = false := by decide) : PE X (.Name x pos) (tVar i) := by
  first
  | exact (pe_var hN hv hd hcd)
  | (unfold PE at *; exact (pe_var hN hv hd hcd))
end
theorem iteF {A B : Prop} (h : B) : if false = true then A else B := by
  rw [if_neg Bool.false_ne_true]
  exact h
theorem iteT {A B : Prop} (h : A) : if true = true then A else B := by
  rw [if_pos rfl]
  exact h
theorem ite2 {c A B : Prop} [Decidable c] (h1 : c → A) (h2 : ¬ c → B) : if c then A else B := by
  by_cases h : c
  · rw [if_pos h]
    exact h1 h
  · rw [if_neg h]
    exact h2 h
def Same (H H' : Hp) : Prop := ∀ b o, H b = some o → H' b = some o
theorem Same.refl (H : Hp) : Same H H := fun _ _ h => h
theorem Same.trans {H H1 H2 : Hp} (a : Same H H1) (b : Same H1 H2) : Same H H2 := fun c o h => b c o (a c o h)
theorem Same.free {H H' : Hp} (e : Same H H') {l : Addr} (h : H' l = Option.none) : H l = Option.none := by
  cases q : H l with
  | none => rfl
  | some o =>
    rw [e l o q] at h
    cases h
theorem Same.seq {K : PySem.W.Frag} {H H' : Hp} {a : Addr} {xs : List V} (e : Same H H') (h : SqL K H a xs) : SqL K H' a xs := by
  rcases h with (h | ⟨o, h⟩) | h
  · exact .inl (.inl (e _ _ h))
  · exact .inl (.inr ⟨o, e _ _ h⟩)
  · exact .inr h
section
variable {κ : Type} [DecidableEq κ]
end
end L2
set_option maxHeartbeats 4000000
namespace L2
open PySem PySem.Spec PyProof.Rows
section
variable {X : Cx} {a b c : Expr} {ta tb tc : TE} {pos : Pos}
inductive ClsV : V → Value → Prop where
  | ty (n : String) : ClsV (.ty n) (.type n)
  | own (C : Addr) : ClsV (.ref C) (.ref C)
def rIsi (K : PySem.W.Frag) : List V → Hp → VK → Prop := fun xs H Q => ∃ x c cv t b, xs = [x, c] ∧ ClsV c cv ∧ TyOf K H x t ∧ PySem.W.kitOne K t cv = some b ∧ Q (.bl b) H
theorem call_isi : CallR X (.builtin "isinstance") (rIsi X.K) := by
  unfold CallR at *
  exact by
    intro pins s σ H xs us Q I rv h
    obtain ⟨x, c, cv, t, b, rfl, hc, ty, e, q⟩ := h
    obtain ⟨u, cu, rfl, ru, rc⟩ := rv.two
    have ec : cu = cv := by cases hc <;> exact rc
    subst ec
    exact isinst_ok I ru ty e fun tk => ⟨.bl b, H, I.tok tk, rfl, q⟩
end
end L2
namespace L2
open PySem PySem.Spec PyProof.Rows
/- what a block's context hangs on: the closure's cells, the state and abstract heap ahead of the block, the iterator's records -/
set_option genInjectivity false in
set_option genSizeOfSpec false in
set_option genSizeOf false in
structure Bk where
  cl : List (Str × Addr)
  s2 : Shared
  H2 : Hp
  fp : List Addr
def cxComp (X : Cx) (scope : Scope) (N' : List Str) (B : Bk) : Cx :=
  { X with N := N', s₀ := B.s2, H₀ := B.H2, env := compEnvC scope B.cl B.s2.heap.objs.size X.env, outer := X.stack, stack := X.stack, ex := B.fp, fn := fun _ => false, pn := [], xe := fun _ _ => False }
def capS (js : List (Option Nat)) (σ : St) : St := js.map fun o => o.bind fun j => (σ[j]?).join
structure Cap (X : Cx) (scope : Scope) (N' : List Str) (js : List (Option Nat)) : Prop where
  len : js.length = N'.length
  ok : ∀ (i j : Nat) (x : Str), js[i]? = some (some j) → N'[i]? = some x → X.N[j]? = some x ∧ scope.names.lookup x = some .free ∧ (X.env.kindOf x = some .cell ∨ X.env.kindOf x = some .free)
theorem closure_go {env : Env} : ∀ (names : List (Str × NameKind)) (cs : List (Str × Addr)), (∀ x ∈ names, x.2 = .free → ∃ c, env.cells.lookup x.1 = some c) → (∀ x c, cs.lookup x = some c → env.cells.lookup x = some c) →
    ∃ cl, (forIn names cs (fun (x : Str × NameKind) (r : List (Str × Addr)) => match x with
      | (name, kind) => if (kind == NameKind.free) = true then (do let y ← cellOf env name; pure (ForInStep.yield ((name, y) :: r))) else pure (ForInStep.yield r)) : Sem (List (Str × Addr))) = pure cl ∧
      (∀ x c, cl.lookup x = some c → env.cells.lookup x = some c) ∧ (∀ x c, cs.lookup x = some c → ∃ c', cl.lookup x = some c') ∧ ∀ x, (x, NameKind.free) ∈ names → ∃ c, cl.lookup x = some c := by
  intro names
  induction names with
  | nil => intro cs _ h2; exact ⟨cs, rfl, h2, fun x c e => ⟨c, e⟩, fun x hx => absurd hx (by simp)⟩
  | cons y r ih =>
    intro cs h1 h2
    obtain ⟨n, k⟩ := y
    have h1r : ∀ x ∈ r, x.2 = .free → ∃ c, env.cells.lookup x.1 = some c := fun x hx => h1 x (List.mem_cons_of_mem _ hx)
    by_cases hk : k = .free
    · subst hk
      obtain ⟨c, hc⟩ := h1 (n, .free) List.mem_cons_self rfl
      have h2' : ∀ x d, List.lookup x ((n, c) :: cs) = some d → env.cells.lookup x = some d := fun x d e => by
        by_cases hx : x = n
        · subst hx
          simp only [List.lookup_cons, beq_self_eq_true] at e
          rw [hc]; exact e
        · have hb : (x == n) = false := by simpa using hx
          simp only [List.lookup_cons, hb] at e
          exact h2 x d e
      obtain ⟨cl, e1, e2, e3, e4⟩ := ih ((n, c) :: cs) h1r h2'
      refine ⟨cl, ?_, e2, fun x d e => ?_, fun x hx => ?_⟩
      · rw [List.forIn_cons]
        have q : cellOf env n = pure c := by unfold cellOf; rw [hc]
        show ((if (NameKind.free == NameKind.free) = true then (do let y ← cellOf env n; pure (ForInStep.yield ((n, y) :: cs))) else pure (ForInStep.yield cs)) >>= _) = _
        rw [if_pos (by decide), q]
        exact e1
      · by_cases hx : x = n
        · exact e3 x c (by subst hx; simp [List.lookup_cons])
        · exact e3 x d (by have hb : (x == n) = false := by simpa using hx
                           simp only [List.lookup_cons, hb]; exact e)
      · rcases List.mem_cons.mp hx with z | z
        · injection z with z1 _
          exact e3 x c (by subst z1; simp [List.lookup_cons])
        · exact e4 x z
    · obtain ⟨cl, e1, e2, e3, e4⟩ := ih cs h1r h2
      refine ⟨cl, ?_, e2, e3, fun x hx => ?_⟩
      · rw [List.forIn_cons]
        have hb : (k == NameKind.free) = false := by simpa using hk
        show ((if (k == NameKind.free) = true then _ else pure (ForInStep.yield cs)) >>= _) = _
        rw [if_neg (by rw [hb]; decide)]
        exact e1
      · rcases List.mem_cons.mp hx with z | z
        · injection z with _ z2
          exact absurd z2.symm hk
        · exact e4 x z
theorem closure_of {scope : Scope} {env : Env} (h : ∀ x ∈ scope.names, x.2 = .free → ∃ c, env.cells.lookup x.1 = some c) :
    ∃ cl, closureFor scope env = pure cl ∧ (∀ x c, cl.lookup x = some c → env.cells.lookup x = some c) ∧ ∀ x, (x, NameKind.free) ∈ scope.names → ∃ c, cl.lookup x = some c := by
  obtain ⟨cl, e1, e2, _, e4⟩ := closure_go (env := env) scope.names [] h (fun x c e => by simp at e)
  refine ⟨cl, ?_, e2, e4⟩
  have q : closureFor scope env = (forIn scope.names [] (fun (x : Str × NameKind) (r : List (Str × Addr)) => match x with
      | (name, kind) => if (kind == NameKind.free) = true then (do let y ← cellOf env name; pure (ForInStep.yield ((name, y) :: r))) else pure (ForInStep.yield r)) : Sem (List (Str × Addr))) >>= fun r => pure r := rfl
  rw [q, e1]
  rfl
theorem relabel_free {env : Env} : ∀ {names : List (Str × NameKind)} {x : Str}, names.lookup x = some .free →
    (names.map fun (n, k) => if (k == NameKind.free && env.scope.kind == .function && env.kindOf n == some .cell) then (n, NameKind.cell) else (n, k)).lookup x = some .cell ∨
    (names.map fun (n, k) => if (k == NameKind.free && env.scope.kind == .function && env.kindOf n == some .cell) then (n, NameKind.cell) else (n, k)).lookup x = some .free
  | [], _, h => by simp at h
  | (n, k) :: r, x, h => by
    have ih := @relabel_free env r x
    simp only [List.map_cons]
    cases hx : x == n with
    | true =>
      simp only [List.lookup_cons, hx] at h
      cases h
      by_cases hc : (NameKind.free == NameKind.free && env.scope.kind == .function && env.kindOf n == some .cell) = true
      · rw [if_pos hc]; left; simp only [List.lookup_cons, hx]
      · rw [if_neg hc]; right; simp only [List.lookup_cons, hx]
    | false =>
      simp only [List.lookup_cons, hx] at h
      by_cases hc : (k == NameKind.free && env.scope.kind == .function && env.kindOf n == some .cell) = true
      · rw [if_pos hc]; simp only [List.lookup_cons, hx]; exact ih h
      · rw [if_neg hc]; simp only [List.lookup_cons, hx]; exact ih h
theorem relabel_inv {env : Env} : ∀ {names : List (Str × NameKind)} {x : Str},
    ((names.map fun (n, k) => if (k == NameKind.free && env.scope.kind == .function && env.kindOf n == some .cell) then (n, NameKind.cell) else (n, k)).lookup x = some .cell ∨
    (names.map fun (n, k) => if (k == NameKind.free && env.scope.kind == .function && env.kindOf n == some .cell) then (n, NameKind.cell) else (n, k)).lookup x = some .free) →
    names.lookup x = some .cell ∨ names.lookup x = some .free
  | [], _, h => by simp at h
  | (n, k) :: r, x, h => by
    have ih := @relabel_inv env r x
    simp only [List.map_cons] at h
    cases hx : x == n with
    | true =>
      simp only [List.lookup_cons, hx]
      by_cases hc : (k == NameKind.free && env.scope.kind == .function && env.kindOf n == some .cell) = true
      · right
        have : k = .free := by
          simp only [Bool.and_eq_true] at hc
          simpa using hc.1.1
        rw [this]
      · rw [if_neg hc] at h
        simp only [List.lookup_cons, hx] at h
        exact h
    | false =>
      simp only [List.lookup_cons, hx]
      apply ih
      by_cases hc : (k == NameKind.free && env.scope.kind == .function && env.kindOf n == some .cell) = true
      · rw [if_pos hc] at h; simp only [List.lookup_cons, hx] at h; exact h
      · rw [if_neg hc] at h; simp only [List.lookup_cons, hx] at h; exact h
theorem comp_start {X : Cx} {pins : List (Addr × Obj)} {σ : St} {H2 : Hp} {s2 : Shared} {scope : Scope} {cl : List (Str × Addr)} {N' : List Str} {js : List (Option Nat)} {fp : List Addr} {h' : Heap} {t' : Nat} {m0 : Str → Option Value}
    (I : Inv X pins σ H2 s2) (hk : scope.kind = .function) (hcell : ∀ y ∈ scope.names, y.2 ≠ .cell)
    (hf : ∀ b ∈ fp, FpOk X pins H2 b) (ho : ∀ b ∈ fp, ∃ o, s2.heap.get? b = some o)
    (c1 : ∀ x c, cl.lookup x = some c → X.env.cells.lookup x = some c) (c2 : ∀ x, (x, NameKind.free) ∈ scope.names → ∃ c, cl.lookup x = some c)
    (cap : Cap X scope N' js) (ns : h'.Ns s2.heap.objs.size m0) (sb : ∀ b o, s2.heap.get? b = some o → h'.get? b = some o) :
    Inv (cxComp X scope N' ⟨cl, s2, H2, fp⟩) [] (capS js σ) H2 { s2 with heap := h', toks := t' } := by
  have isc : ∀ c v, s2.heap.IsCell c v → h'.IsCell c v := fun c v ⟨o, e, d⟩ => ⟨o, sb _ _ e, d⟩
  refine ⟨⟨I.ok.mod, hk, I.ok.glob, I.ok.blt, Nat.le_refl _, fun x y c h1 h2 => I.ok.inj x y c (c1 x c h1) (c1 y c h2), fun x hx => ?_, fun x c h => absurd h (by simp [cxComp]), I.ok.hd, I.ok.frames, .inl rfl, fun b hb => ⟨?_, fun x c e => ?_⟩, I.bs, Nat.le_trans I.ok.bsz I.sz,
    fun b o e hb => ?_, fun b hb hs => ?_, I.stack, I.stkFree⟩, rfl, I.bare, Un.kept sb, ⟨m0, ns, fun i x v e1 e2 e3 => ?_⟩, fun x c e => ?_, I.hok.fresh (Nat.le_refl _), fun x c e => I.freeC x c (c1 x c e), fun p hp => absurd hp (by simp [cxComp]), I.hok.kept sb, ?_⟩
  · have hx' := relabel_inv (env := X.env) (names := scope.names) (x := x) hx
    rcases hx' with z | z
    · exact absurd rfl (hcell _ (PySem.mem_of_lookup z))
    · exact c2 x (PySem.mem_of_lookup z)
  · obtain ⟨o, e⟩ := ho b hb
    exact Nat.ne_of_lt (Heap.lt_size e)
  · exact (hf b hb).2.2.2.2.1 x c (c1 x c e)
  · rcases (hf b hb).2.2.2.1 with z | z
    · exact I.ok.noex b o e z
    · exact absurd (Nat.lt_of_lt_of_le (Heap.lt_size e) (Nat.le_trans I.ok.bsz z)) (Nat.lt_irrefl _)
  · rcases List.mem_cons.mp (I.stkSub b hs) with z | z
    · exact (hf b hb).2.1 z
    · exact (hf b hb).2.2.1 z
  · have e2' : ((js.map fun o => o.bind fun j => (σ[j]?).join) : St)[i]? = some (some v) := e2
    rw [List.getElem?_map] at e2'
    cases q : js[i]? with
    | none => rw [q] at e2'; cases e2'
    | some o =>
      rw [q] at e2'
      cases o with
      | none => simp at e2'
      | some j =>
        have q2 : (σ[j]?).join = some v := by simpa using e2'
        have q3 : σ[j]? = some (some v) := by
          cases z : σ[j]? with
          | none => rw [z] at q2; cases q2
          | some w => rw [z] at q2; exact congrArg some q2
        obtain ⟨n1, n2, n3⟩ := cap.ok i j x q e1
        obtain ⟨m, hm, hl⟩ := I.loc
        obtain ⟨u, r, l⟩ := hl j x v n1 q3 (.inr n3)
        refine ⟨u, r, .inr ⟨relabel_free (env := X.env) n2, ?_⟩⟩
        obtain ⟨c, hc⟩ := c2 x (PySem.mem_of_lookup n2)
        refine ⟨c, hc, ?_⟩
        rcases l with ⟨l, _⟩ | ⟨_, c', e', z'⟩
        · rcases n3 with n3 | n3 <;> (rw [n3] at l; cases l)
        · have := c1 x c hc
          rw [e'] at this; cases this
          exact isc _ _ z'
  · obtain ⟨v, z⟩ := I.cell x c (c1 x c e)
    exact ⟨v, isc _ _ z⟩
  · show (js.map _).length = N'.length
    rw [List.length_map]; exact cap.len
@[irreducible] def PIfs (X : Cx) (ifs : List Expr) (t : TT) : Prop :=
  ∀ (pins : List (Addr × Obj)) (s : Shared) (σ : St) (H : Hp) (Q : Bool → Hp → Prop), Inv X pins σ H s → t σ H Q →
    wpAny (model X.prog X.w) X.A (forIn ifs true fun c r => if r = true then do let ok ← isTrue c X.env (eval c X.env); pure (ForInStep.yield ok) else pure (ForInStep.yield r)) (TP X pins σ Q) X.xe s
def tAll : TT := fun _ H Q => Q true H
theorem pifs_nil {X : Cx} : PIfs X [] tAll := by
  first
  | exact (fun _ _ _ H _ I h => wpAny_tests_nil ⟨H, I, h⟩)
  | (unfold PIfs at *; exact (fun _ _ _ H _ I h => wpAny_tests_nil ⟨H, I, h⟩))
section
variable {prog : Program} {w : World} {A : Around} {R : Result → Shared → Prop} {s : Shared}
theorem compLoop_go {elt target iter : Expr} {ifs : List Expr} {scope : Scope} {pos : Pos} {it acc : Value} {env : Env} (I : Nat → Shared → Prop)
    (turn : ∀ n s, I n s → wpAny (model prog w) A (pyNext it) (fun r s₁ => match r with
      | none => R (.ok .next) s₁
      | some v => wpAny (model prog w) A (letOwnedTupleGo target it v) (fun _ s₁ => wpAny (model prog w) A (assign target env v) (fun _ s₂ =>
          wpAny (model prog w) A (forIn ifs true fun c r => if r = true then do let ok ← isTrue c env (eval c env); pure (ForInStep.yield ok) else pure (ForInStep.yield r)) (fun ok s₃ =>
            if ok = true then wpAny (model prog w) A (eval elt env) (fun x s₄ =>
              wpAny (model prog w) A (call (.builtin "list.append") [acc, x]) (fun _ s₅ => ∃ m, m < n ∧ I m s₅) (fun _ _ => False) s₄) (fun _ _ => False) s₃
            else ∃ m, m < n ∧ I m s₃) (fun _ _ => False) s₂) (fun _ _ => False) s₁) (fun _ _ => False) s₁) (fun _ _ => False) s)
    (n : Nat) (h : I n s) :
    codeAny (model prog w) A (.compLoop (.ListComp elt [⟨target, iter, ifs, 0⟩] scope pos) 0 it acc env) R s := by
  refine codeAny_loop rfl I (fun n s hI => ?_) n h
  show wpAny _ A ((compTurn (.ListComp elt [⟨target, iter, ifs, 0⟩] scope pos) 0 it acc env).onRaise (fun x => do noteFrame x env; theTreesLotGoes x)) _ _ s
  refine wpAny_noted ?_
  rw [compTurn_list]
  refine wpAny_bind (wpAny_standAt (wpAny_bind (wpAny_mono (turn n s hI) (fun r s₁ h₁ => ?_) fun _ _ h' => h'.elim)))
  cases r with
  | none => exact wpAny_pure h₁
  | some v =>
    refine wpAny_bind (wpAny_mono h₁ (fun _ s₁ h₁ => ?_) fun _ _ h' => h'.elim)
    refine wpAny_bind (wpAny_mono h₁ (fun _ s₂ h₂ => wpAny_bind (wpAny_mono h₂ (fun ok s₃ h₃ => ?_) fun _ _ h' => h'.elim)) fun _ _ h' => h'.elim)
    cases ok with
    | false => exact wpAny_pure ⟨rfl, h₃⟩
    | true =>
      exact wpAny_bind (wpAny_bind (wpAny_mono h₃ (fun x s₄ h₄ => wpAny_bind (wpAny_mono h₄ (fun _ s₅ h₅ => wpAny_pure (wpAny_pure ⟨rfl, h₅⟩)) fun _ _ h' => h'.elim)) fun _ _ h' => h'.elim))
end
def tLoop (J : It) (l : Addr) (g : TG) (tc : TT) (te : TE) (σ : St) (H : Hp) (Q : VK) : Prop :=
  ∃ W : Nat → Nat → St → List V → Hp → Prop, (∃ m, W 0 m σ [] H) ∧ ∀ i m σ acc H, W i m σ acc H → H l = some (.lst acc) ∧ ((J.stop i H ∧ Q (.ref l) H) ∨
    (J.go i H ∧ acc.length < sizeLine ∧ ∀ x H', J.yld i H x H' → g x σ H' fun σ2 H2 => tc σ2 H2 fun b H3 => if b = true then
      te σ2 H3 fun v H4 => H4 l = some (.lst acc) ∧ ∃ m', m' < m ∧ W (i + 1) m' σ2 (acc ++ [v]) (upd H4 l (.lst (acc ++ [v])))
      else ∃ m', m' < m ∧ W (i + 1) m' σ2 acc H3))
def tComp (js : List (Option Nat)) (wi : TI) (g : Bk → TG) (tc : Bk → TT) (te : Bk → TE) : TE := fun σ H Q => wi σ H fun J H1 => ∀ l B, H1 l = none → tLoop J l (g B) (tc B) (te B) (capS js σ) (upd H1 l (.lst [])) Q
section
variable {X : Cx} {elt tg iter : Expr} {ifs : List Expr} {scope : Scope} {pos : Pos} {N' : List Str} {js : List (Option Nat)} {wi : TI} {g : Bk → TG} {tc : Bk → TT} {te : Bk → TE}
theorem comp_block {pins : List (Addr × Obj)} {σ : St} {H1 : Hp} {s1 : Shared} {it : Addr} {fp : List Addr} {tn : Nat → Heap → Prop} {J : It} {cl : List (Str × Addr)} {Q : VK} {RR : Value → Addr → Result → Shared → Prop}
    (hc : X.calm = true) (hk : scope.kind = .function) (hcell : ∀ y ∈ scope.names, y.2 ≠ .cell) (cap : Cap X scope N' js)
    (blk : ∀ B, PG (cxComp X scope N' B) tg (g B) ∧ PIfs (cxComp X scope N' B) ifs (tc B) ∧ PE (cxComp X scope N' B) elt (te B))
    (c1 : ∀ x c, cl.lookup x = some c → X.env.cells.lookup x = some c) (c2 : ∀ x, (x, NameKind.free) ∈ scope.names → ∃ c, cl.lookup x = some c)
    (I : Inv X pins σ H1 s1) (T : Turn X.prog X.w X.K tg J fp it tn) (st : tn 0 s1.heap) (hf : ∀ b ∈ fp, FpOk X pins H1 b)
    (h : ∀ l B, H1 l = none → tLoop J l (g B) (tc B) (te B) (capS js σ) (upd H1 l (.lst [])) Q)
    (hRR : ∀ l C H' s' (m' : Str → Option Value), Inv X pins σ H' s' → Q (.ref l) H' → s'.heap.Ns C m' → H' C = none → C ≠ X.env.locals → (∀ x c, X.env.cells.lookup x = some c → c ≠ C) → C ∉ X.fs → X.s₀.heap.objs.size ≤ C → (∀ p ∈ X.pn ++ pins, p.1 ≠ C) →
      RR (.ref l) C (.ok .next) s') :
    wpAny (model X.prog X.w) X.A (newList []) (fun acc s₃ => wpAny (model X.prog X.w) X.A (newFunctionEnv scope X.env.globals cl [] X.env.qual none .none (some X.env)) (fun cenv s₄ =>
      codeAny (model X.prog X.w) X.A (.compStart (.ListComp elt [⟨tg, iter, ifs, 0⟩] scope pos) 0 (.ref it) acc { cenv with scope := relabel scope X.env }) (RR acc cenv.locals) s₄) X.xe s₃) X.xe s1 := by
  unfold PE at *; unfold PG at *; unfold PIfs at *
  exact by
    refine wpAny_newObj_type ?_
    have I2 : Inv X pins σ (upd H1 s1.heap.objs.size (.lst [])) { s1 with heap := s1.heap.push { cls := .type "list", data := .seq ([] : List Value).toArray } } := I.lnew (t' := s1.toks) .nil (Nat.zero_le _)
    have hl : H1 s1.heap.objs.size = none := I.fresh
    generalize es2 : ({ s1 with heap := s1.heap.push { cls := .type "list", data := .seq ([] : List Value).toArray } } : Shared) = s2 at I2 ⊢
    generalize el : s1.heap.objs.size = l at *
    have ne_fp : ∀ b ∈ fp, b ≠ l := fun b hb => by
      obtain ⟨o, e, _⟩ := T.obj _ _ st b hb
      rw [← el]
      exact Nat.ne_of_lt (Heap.lt_size e)
    have hf2 : ∀ b ∈ fp, FpOk X pins (upd H1 l (.lst [])) b := fun b hb => ⟨by rw [upd_ne (ne_fp b hb)]; exact (hf b hb).1, (hf b hb).2⟩
    have kp : ∀ b o, s1.heap.get? b = some o → s2.heap.get? b = some o := fun b o e => by rw [← es2]; exact Heap.get?_push_of_some _ e
    have st2 : tn 0 s2.heap := T.keep _ _ _ st fun b _ o e => kp b o e
    refine wpAny_newFunctionEnv hcell (by intro y hy; simp at hy) (fun h' ns sb => ?_) hk
    have kp2 : ∀ b o, s2.heap.get? b = some o → h'.get? b = some o := fun b o e => (sb.2 b (Nat.ne_of_lt (Heap.lt_size e))).trans (Heap.get?_push_of_some _ e)
    have st3 : tn 0 h' := T.keep _ _ _ st2 fun b _ o e => kp2 b o e
    have I3 := comp_start (t' := s2.toks + ([] : List (Str × Value)).length) (m0 := fun x => ([] : List (Str × Value)).reverse.lookup x) I2 hk hcell hf2 (fun b hb => by obtain ⟨o, e, _⟩ := T.obj _ _ st2 b hb; exact ⟨o, e⟩) c1 c2 cap ns kp2
    obtain ⟨pg, pif, pel⟩ := blk ⟨cl, s2, upd H1 l (.lst []), fp⟩
    obtain ⟨W, ⟨m0, w0⟩, turn⟩ := h l ⟨cl, s2, upd H1 l (.lst []), fp⟩ hl
    have fpY : ∀ {H' : Hp}, (∀ b ∈ fp, H' b = none) → ∀ b ∈ fp, FpOk (cxComp X scope N' ⟨cl, s2, upd H1 l (.lst []), fp⟩) [] H' b := fun {H'} hn b hb =>
      ⟨hn b hb, (I3.ok.exf b hb).1, I3.ok.exfs b hb, .inl hb, (I3.ok.exf b hb).2, fun p hp => absurd hp (by simp [cxComp])⟩
    have loop : codeAny (model X.prog X.w) X.A (.compLoop (.ListComp elt [⟨tg, iter, ifs, 0⟩] scope pos) 0 (.ref it) (.ref l) (compEnvC scope cl s2.heap.objs.size X.env)) (RR (.ref l) s2.heap.objs.size) { s2 with heap := h', toks := s2.toks + ([] : List (Str × Value)).length } := by
      refine compLoop_go (fun n s' => ∃ i σ' acc H', Inv (cxComp X scope N' ⟨cl, s2, upd H1 l (.lst []), fp⟩) [] σ' H' s' ∧ tn i s'.heap ∧ (∀ b ∈ fp, H' b = none) ∧ W i n σ' acc H') ?_ m0 ⟨0, _, _, _, I3, st3, fun b hb => (hf2 b hb).1, w0⟩
      rintro n s3 ⟨i, σ3, acc, H3, J3, t3, f3, w3⟩
      obtain ⟨hacc, alt⟩ := turn i n σ3 acc H3 w3
      rcases alt with ⟨stop, q⟩ | ⟨go, hz, step⟩
      · refine thn (T.done (cxComp X scope N' ⟨cl, s2, upd H1 l (.lst []), fp⟩) rfl rfl rfl hc i [] s3 σ3 H3 (fun _ _ => False) J3 (fpY f3) t3 stop) fun r s4 ⟨hr, J4⟩ => ?_
        subst hr
        have IX : Inv X pins σ H3 s4 := I2.call' (ch := fp) J4.os J4.base J4.hok J4.bare fun b hb => ⟨(hf2 b hb).2.2.2.1, (hf2 b hb).2.1, (hf2 b hb).2.2.2.2.1, (hf2 b hb).2.2.2.2.2⟩
        obtain ⟨m', hn', _⟩ := J4.loc
        refine hRR l s2.heap.objs.size H3 s4 m' IX q hn' J4.free (Nat.ne_of_gt I2.lt) (fun x c e => ?_) (I2.nofs (Nat.le_refl _)) I2.sz fun p hp => Nat.ne_of_lt (Heap.lt_size (I2.pin p hp).1)
        obtain ⟨v, z⟩ := I2.cell x c e
        exact Nat.ne_of_lt z.lt
      · refine thn (T.item (cxComp X scope N' ⟨cl, s2, upd H1 l (.lst []), fp⟩) rfl rfl rfl hc i [] s3 σ3 H3 (fun _ _ => False) J3 (fpY f3) t3 go) fun r s4 ⟨u, hr, h4⟩ => ?_
        subst hr
        refine thn h4 fun _ s5 ⟨x, H5, J5, r5, y5, t5, f5⟩ => ?_
        have J5' := J5.pinned (fpY f5) (T.obj _ _ t5)
        refine thn (pg _ s5 σ3 H5 x u _ J5' r5 (step x H5 y5)) fun _ s6 ⟨σ6, H6, J6, q6⟩ => ?_
        refine thn (pif _ s6 σ6 H6 _ J6 q6) fun ok s7 ⟨H7, J7, q7⟩ => ?_
        have again : ∀ {σ8 : St} {H8 : Hp} {s8 : Shared} {acc8 : List V}, Inv (cxComp X scope N' ⟨cl, s2, upd H1 l (.lst []), fp⟩) ([] ++ pinsAt fp s5.heap) σ8 H8 s8 → (∃ m', m' < n ∧ W (i + 1) m' σ8 acc8 H8) →
            ∃ m, m < n ∧ ∃ i σ' acc H', Inv (cxComp X scope N' ⟨cl, s2, upd H1 l (.lst []), fp⟩) [] σ' H' s8 ∧ tn i s8.heap ∧ (∀ b ∈ fp, H' b = none) ∧ W i m σ' acc H' := fun {σ8 H8 s8 acc8} J8 hw => by
          obtain ⟨m', hm, w8⟩ := hw
          refine ⟨m', hm, i + 1, σ8, acc8, H8, J8.unpinned, T.keep _ _ _ t5 fun b hb o e => (J8.pin (b, o) (List.mem_append_right _ (List.mem_append_right _ (mem_pinsAt hb e)))).1, fun b hb => ?_, w8⟩
          obtain ⟨o, e, d⟩ := T.obj _ _ t5 b hb
          exact (J8.pin (b, o) (List.mem_append_right _ (List.mem_append_right _ (mem_pinsAt hb e)))).2.1
        cases ok with
        | false => exact again J7 q7
        | true =>
          refine thn (pel _ s7 σ6 H7 _ J7 q7) fun xv s8 ⟨v, H8, J8, r8, hl8, m', hm, w8⟩ => ?_
          have mtq := mt_append (X := cxComp X scope N' ⟨cl, s2, upd H1 l (.lst []), fp⟩)
          unfold MtM at mtq
          refine thn (mtq _ s8 σ6 H8 (.ref l) [v] (.ref l) [xv] (fun _ H9 => H9 = upd H8 l (.lst (acc ++ [v]))) J8 rfl (.cons r8 .nil) ⟨l, acc, v, rfl, rfl, hl8, hz, rfl⟩) fun _ s9 ⟨v9, H9, J9, _, e9⟩ => ?_
          subst e9
          exact again J9 ⟨m', hm, w8⟩
    exact codeAny_compStart_list loop (T.self X.A 0 _ _ _ st3 loop)
theorem pe_comp (hc : X.calm = true) (hk : scope.kind = .function) (hcell : ∀ y ∈ scope.names, y.2 ≠ .cell) (hnames : ∀ y ∈ scope.names, y.2 = .local → scope.names.lookup y.1 = some .local)
    (hfree : ∀ y ∈ scope.names, y.2 = .free → (X.env.kindOf y.1 = some .cell ∨ X.env.kindOf y.1 = some .free)) (cap : Cap X scope N' js) (hi : PI X tg iter wi)
    (blk : ∀ B, PG (cxComp X scope N' B) tg (g B) ∧ PIfs (cxComp X scope N' B) ifs (tc B) ∧ PE (cxComp X scope N' B) elt (te B))
    (hs : ∀ x, foldedSetIterable iter X.env x = pure x := by intro _; rfl) : PE X (.ListComp elt [⟨tg, iter, ifs, 0⟩] scope pos) (tComp js wi g tc te) := by
  unfold PE; unfold PI at hi
  exact by
    intro pins s σ H Q I h
    obtain ⟨cl, hcl, c1, c2⟩ := closure_of (scope := scope) (env := X.env) fun x hx hxf => I.ok.has x.1 (hfree x hx hxf)
    rw [eval_ListComp]
    refine wpAny_comprehension_free (use := none) rfl hs hcl hk hnames (thn (hi pins s σ H _ I h) fun v s1 h1 => thn h1 fun itv s2 h2 => ?_)
    obtain ⟨it, fp, tn, J, H2, e, I2, T, st2, f2, hloop⟩ := h2
    subst e
    refine comp_block (RR := fun acc C => compPost (model X.prog X.w) X.A X.xe none (EP X pins σ Q) acc C) hc hk hcell cap blk c1 c2 I2 T st2 f2 hloop ?_
    intro l C H' s' m' I' q ns fC hL hcl' hfs hs0 hpin
    exact ⟨m', ns, fun h'' sb => ⟨.ref l, H', I'.turned (t' := s'.toks) (fun b o hb e => (sb.2 b hb).trans e) fC hL (.inr hs0) hcl' hpin, rfl, q⟩⟩
theorem ps_setComp {i : Nat} {y : Str} {py spos : Pos} (hN : X.N.Nodup) (hy : X.N[i]? = some y) (hyk : X.env.kindOf y = some .local) (hc : X.calm = true) (hk : scope.kind = .function) (hcell : ∀ y ∈ scope.names, y.2 ≠ .cell)
    (hnames : ∀ y ∈ scope.names, y.2 = .local → scope.names.lookup y.1 = some .local)
    (hfree : ∀ y ∈ scope.names, y.2 = .free → (X.env.kindOf y.1 = some .cell ∨ X.env.kindOf y.1 = some .free)) (cap : Cap X scope N' js) (hi : PI X tg iter wi)
    (blk : ∀ B, PG (cxComp X scope N' B) tg (g B) ∧ PIfs (cxComp X scope N' B) ifs (tc B) ∧ PE (cxComp X scope N' B) elt (te B))
    (hsw : swapsWith (.ListComp elt [⟨tg, iter, ifs, 0⟩] scope pos) (some (.Name y py)) spos.line X.env = pure true := by rfl)
    (hs : ∀ x, foldedSetIterable iter X.env x = pure x := by intro _; rfl) : PS X (.Assign [.Name y py] (.ListComp elt [⟨tg, iter, ifs, 0⟩] scope pos) spos) (tAsg (tComp js wi g tc te) (gName i)) := by
  unfold PS; unfold PI at hi
  exact by
    intro pins s σ H D I h
    obtain ⟨cl, hcl, c1, c2⟩ := closure_of (scope := scope) (env := X.env) fun x hx hxf => I.ok.has x.1 (hfree x hx hxf)
    rw [exec_Assign_Name_used _ _ _ _ hsw]
    refine wpAny_bind (wpAny_standAt (wpAny_bind ?_))
    show wpAny _ X.A (do let _ ← comprehension (.ListComp elt [⟨tg, iter, ifs, 0⟩] scope pos) scope X.env _ (newList []) false (eval iter X.env) (some (assign (.Name y py) X.env))) _ _ s
    refine wpAny_bind (wpAny_mono (wpAny_comprehension_free (use := some (assign (.Name y py) X.env)) (Q := fun _ s' => SP X pins D .next s') rfl hs hcl hk hnames
      (thn (hi pins s σ H _ I h) fun v s1 h1 => thn h1 fun itv s2 h2 => ?_)) (fun _ s' hq => wpAny_pure (wpAny_pure hq)) fun _ _ e => e)
    obtain ⟨it, fp, tn, J, H2, e, I2, T, st2, f2, hloop⟩ := h2
    subst e
    refine comp_block (RR := fun acc C => compPost (model X.prog X.w) X.A X.xe (some (assign (.Name y py) X.env)) (fun _ s' => SP X pins D .next s') acc C) hc hk hcell cap blk c1 c2 I2 T st2 f2 hloop ?_
    intro l C H' s' m' I' q ns fC hL hcl' hfs hs0 hpin
    show wpAny _ X.A (assign (.Name y py) X.env (.ref l)) _ _ _
    refine wpAny_assign_Name (store_ok2 (v := .ref l) I' hN hy (.inl hyk) rfl (fun s'' I'' sb => ?_) (.inr hyk))
    obtain ⟨a, sb, ha⟩ := sb
    have hCa : C ≠ a := by
      rcases ha with z | z
      · rw [z]; exact hL
      · exact fun z' => hcl' y a z z'.symm
    refine ⟨m', ns.sameBut sb hCa, fun h'' sb2 => ?_⟩
    exact ⟨σ.set i (some (.ref l)), H', I''.turned (t' := s''.toks) (fun b o hb e => (sb2.2 b hb).trans e) fC hL (.inr hs0) hcl' hpin, q⟩
end
end L2
namespace L2
open PySem PySem.Spec PyProof.Rows
theorem ObjOk.there {P : Program} {w : World} {H : Hp} {h : Heap} {a : Addr} {o : HO} (x : ObjOk P w H h a o) : ∃ ob, h.get? a = some ob := by
  cases o with
  | lst xs => obtain ⟨_, _, _, _, e⟩ := x; exact ⟨_, e⟩
  | tup xs => obtain ⟨_, _, _, ob, e, _⟩ := x; exact ⟨_, e⟩
  | dK kvs => obtain ⟨_, _, _, _, o, _, _, e, _⟩ := x; exact ⟨_, e⟩
  | dT kvs => obtain ⟨_, _, _, _, o, _, _, e, _⟩ := x; exact ⟨_, e⟩
  | set S n => obtain ⟨o, _, _, _, e, _⟩ := x; exact ⟨_, e⟩
  | ins C dx fs => obtain ⟨_, _, _, e, _⟩ := x; exact ⟨_, e⟩
  | own y => obtain ⟨_, e⟩ := x; exact ⟨_, e⟩
  | xd fs => obtain ⟨_, ⟨_, _, _, e, _⟩, _⟩ := x; exact ⟨_, e⟩
  | rng lo hi => obtain ⟨_, _, _, e⟩ := x; exact ⟨_, e⟩
  | frz ob u => obtain ⟨e, _⟩ := x; exact ⟨_, e⟩
  | tbl ps => exact ⟨_, (show h.get? a = some _ from x)⟩
  | met f y => exact ⟨_, (show h.get? a = some _ from x)⟩
  | ext φ => obtain ⟨_, ⟨_, e⟩, _⟩ := x; exact ⟨_, e⟩
theorem HOk.track {P : Program} {w : World} {H : Hp} {h h' : Heap} (x : HOk P w H h) (k : ∀ b u o, H b = some u → h.get? b = some o → h'.get? b = some o) : HOk P w H h' := fun a o e =>
  (x a o e).stay (fun b u hb q => by
    rcases hb with z | z
    · subst z; exact k _ _ _ e q
    · exact k _ _ _ z q) (fun _ q => q) fun _ _ q => q
theorem dict_mapF (o : Obj) (f : Array Value → Array Value) : (Obj.mapFields f o).dict = o.dict := by
  obtain ⟨c, d, dt, sl⟩ := o
  cases dt <;> rfl
def ExAt (h : Heap) (e : Addr) (C : Value) (dd : Option Addr) (t1 : Value) : Prop := ∃ oe vs, h.get? e = some oe ∧ oe.cls = C ∧ oe.dict = dd ∧ oe.data = .fields vs ∧ vs[1]? = some t1
def TrAt (h : Heap) (T : Addr) (fl : Value) : Prop := ∃ oT ts, h.get? T = some oT ∧ oT.data = .fields ts ∧ ts[3]? = some fl
structure Moved (fs : List Addr) (e : Addr) (T0 : Option Addr) (h h' : Heap) : Prop where
  keep : ∀ b o, b ≠ e → some b ≠ T0 → b ∉ fs → h.get? b = some o → h'.get? b = some o
  slot : ∀ b o, b ∈ fs → h.get? b = some o → ∃ sl, h'.get? b = some { o with slots := sl }
  there : ∀ b o, h.get? b = some o → ∃ o', h'.get? b = some o'
section
variable {M : Model} {A : Around} {E : Value → Shared → Prop} {s : Shared}
theorem up_self {h : Heap} {a : Addr} {o : Obj} {vs : Array Value} {f : Array Value → Array Value} (e : h.get? a = some o) (hd : o.data = .fields vs) : (h.update a (Obj.mapFields f)).get? a = some (Obj.mapFields f o) :=
  Heap.get?_update_self _ e (Obj.isFreed_of_fields (Obj.data_mapFields hd _))
theorem note_new {base : Heap} {env : Env} {outer : List Env} {L e : Addr} {C : Value} {dd : Option Addr} {t1 head : Value} {hadNext : Bool} {Q : Unit → Shared → Prop}
    (hfr : A.frames = some (env :: outer)) (hl : s.heap.FunFrames base (env :: outer)) (hf : env.frame = some L) (X : ExAt s.heap e C dd t1)
    (h : ∀ h' T, ExAt h' e C dd (.ref T) → TrAt h' T (rawInt L) → s.heap.objs.size ≤ T → T ≠ e → Moved (frs (env :: outer)) e none s.heap h' → Q () { s with heap := h' }) :
    wpAny M A (do let a ← frameOf env; let pl ← entryPlaceOf L hadNext; let b ← EntryCells.newEntry head a .none (rawInt L) .none pl; setField (.ref e) 1 b) Q E s := by
  obtain ⟨oe, vs, he, hC, hdd, hd, h1⟩ := X
  have ne : e ∉ frs (env :: outer) := fun hm => by
    obtain ⟨_, o, ho, hnf⟩ := hl.mem hm
    rw [he] at ho; cases ho
    exact hnf vs hd
  refine wpAny_bind (wpAny_frameOf_fun hfr hl hf fun g so => ?_)
  refine wpAny_bind (wpAny_entryPlaceOf fun pl hpl => ?_)
  unfold EntryCells.newEntry newFields
  refine wpAny_bind (wpAny_newObj_type ?_ (hpl.sizeOk5 _ _ _ _ _))
  have hg : g.get? e = some oe := (so.2.1 e ne).trans he
  have hsz := (Array.getElem?_eq_some_iff.mp h1).1
  refine wpAny_setField (Heap.get?_push_of_some _ hg) hd hsz ?_
  have nT : g.objs.size ≠ e := Nat.ne_of_gt (Heap.lt_size hg)
  refine h _ g.objs.size ⟨_, _, up_self (Heap.get?_push_of_some _ hg) hd, (Obj.cls_mapFields _ _).trans hC, (dict_mapF _ _).trans hdd, Obj.data_mapFields hd _, by simp [hsz]⟩
    ⟨_, _, (Heap.get?_update_other _ _ (Ne.symm nT)).trans (Heap.get?_push_size g rfl), rfl, ?_⟩ (Nat.le_of_eq so.1.symm) nT ⟨fun b o h1 _ h3 q => ?_, fun b o hb q => ?_, fun b o q => ?_⟩
  · rcases hpl with rfl | ⟨_, _, _, _, _, _, _, rfl⟩ <;> simp
  · rw [Heap.get?_update_other _ _ (Ne.symm h1)]
    exact Heap.get?_push_of_some _ ((so.2.1 b h3).trans q)
  · obtain ⟨sl, z⟩ := so.2.2 b o q
    refine ⟨sl, ?_⟩
    rw [Heap.get?_update_other _ _ (fun k => ne (by rw [k]; exact hb))]
    exact Heap.get?_push_of_some _ z
  · by_cases k : b = e
    · rw [k]; exact ⟨_, up_self (Heap.get?_push_of_some _ hg) hd⟩
    · obtain ⟨sl, z⟩ := so.2.2 b o q
      exact ⟨_, by rw [Heap.get?_update_other _ _ (Ne.symm k)]; exact Heap.get?_push_of_some _ z⟩
theorem note_fly {base : Heap} {env : Env} {outer : List Env} {L e : Addr} {C : Value} {dd : Option Addr} {T0 : Option Addr} {Q : Unit → Shared → Prop}
    (hfr : A.frames = some (env :: outer)) (hl : s.heap.FunFrames base (env :: outer)) (hf : env.frame = some L) (X : ExAt s.heap e C dd (T0.elim .none Value.ref)) (hT : ∀ T, T0 = some T → TrAt s.heap T .none ∧ T ≠ e)
    (h : ∀ h' T, ExAt h' e C dd (.ref T) → TrAt h' T (rawInt L) → s.heap.objs.size ≤ T → T ≠ e → Moved (frs (env :: outer)) e T0 s.heap h' → Q () { s with heap := h' }) :
    wpAny M A (noteFrame (.ref e) env) Q E s := by
  obtain ⟨oe, vs, he, hC, hdd, hd, h1⟩ := id X
  unfold noteFrame
  simp only [hf]
  refine wpAny_bind (wpAny_field he hd h1 ?_)
  cases T0 with
  | none =>
    rw [if_neg (by decide)]
    exact note_new hfr hl hf X h
  | some T =>
    obtain ⟨⟨oT, ts, hT, hdT, h3⟩, hne⟩ := hT T rfl
    show wpAny M A (if (Value.ref T != Value.none) = true then _ else _) Q E s
    rw [if_pos (by simp)]
    refine wpAny_bind (wpAny_field hT hdT h3 ?_)
    rw [if_neg (by simp [rawInt])]
    refine wpAny_bind (wpAny_setField hT hdT (Array.getElem?_eq_some_iff.mp h3).1 ?_)
    have oth : ∀ b, b ≠ T → (s.heap.update T (Obj.mapFields (·.setIfInBounds 3 Value.none))).get? b = s.heap.get? b := fun b hb => Heap.get?_update_other _ _ (Ne.symm hb)
    have nfr : ∀ b o, b ∈ frs (env :: outer) → s.heap.get? b = some o → b ≠ T := fun b o hb q z => by
      obtain ⟨_, o', ho', hnf⟩ := hl.mem hb
      rw [z, hT] at ho'; cases ho'
      exact hnf _ hdT
    have hl2 : (s.heap.update T (Obj.mapFields (·.setIfInBounds 3 Value.none))).FunFrames base (env :: outer) := hl.of_keeps fun b o hb hnf => ⟨o, (oth b fun z => by rw [z, hT] at hb; cases hb; exact hnf _ hdT).trans hb, rfl⟩
    refine note_new (s := { s with heap := s.heap.update T (Obj.mapFields (·.setIfInBounds 3 Value.none)) }) hfr hl2 hf ⟨oe, vs, (oth e (Ne.symm hne)).trans he, hC, hdd, hd, h1⟩ fun h' T2 x1 x2 x3 x4 mv => ?_
    have goneT : s.heap.objs.size ≤ T2 := Nat.le_trans (Nat.le_of_eq (Heap.size_after_update ..).symm) x3
    refine h h' T2 x1 x2 goneT x4 ⟨fun b o k1 k2 k3 q => mv.keep b o k1 (by simp) k3 ((oth b fun z => k2 (by rw [z])).trans q), fun b o hb q => mv.slot b o hb ((oth b (nfr b o hb q)).trans q), fun b o q => ?_⟩
    by_cases k : b = T
    · exact mv.there b _ (by rw [k]; exact up_self hT hdT)
    · exact mv.there b o ((oth b k).trans q)
theorem rest_fly {e T : Addr} {C : Value} {dd : Option Addr} {fl : Value} {Q : Unit → Shared → Prop} (X : ExAt s.heap e C dd (.ref T)) (hT : TrAt s.heap T fl) (hne : T ≠ e)
    (h : ∀ h', ExAt h' e C dd (.ref T) → TrAt h' T .none → (∀ b o, b ≠ T → s.heap.get? b = some o → h'.get? b = some o) → (∀ b o, s.heap.get? b = some o → ∃ o', h'.get? b = some o') → Q () { s with heap := h' }) :
    wpAny M A (setFlight (.ref e) none) Q E s := by
  obtain ⟨oe, vs, he, hC, hdd, hd, h1⟩ := X
  obtain ⟨oT, ts, hT, hdT, h3⟩ := hT
  have hsz := (Array.getElem?_eq_some_iff.mp h3).1
  unfold setFlight
  refine wpAny_bind (wpAny_field he hd h1 ?_)
  rw [if_pos (by simp)]
  have oth : ∀ b, b ≠ T → (s.heap.update T (Obj.mapFields (·.setIfInBounds 3 ((none : Option Addr).elim Value.none fun f => rawInt f)))).get? b = s.heap.get? b := fun b hb => Heap.get?_update_other _ _ (Ne.symm hb)
  refine wpAny_setField hT hdT hsz (h _ ⟨oe, vs, (oth e (Ne.symm hne)).trans he, hC, hdd, hd, h1⟩ ⟨_, _, up_self hT hdT, Obj.data_mapFields hdT _, by simp [hsz]⟩ (fun b o k q => (oth b k).trans q) fun b o q => ?_)
  by_cases k : b = T
  · rw [k]; exact ⟨_, up_self hT hdT⟩
  · exact ⟨o, (oth b k).trans q⟩
end
def CXx (P : Program) (w : World) : CXT := fun outer H s E u s' => ∃ (e : Addr) (C : Value) (dd : Option Addr) (T : Addr) (H' : Hp), u = .ref e ∧ s'.os = s.os ∧ AllBare s'.gens ∧ Un (frs outer) [] H H' s.heap s'.heap ∧ HOk P w H' s'.heap ∧
  ExAt s'.heap e C dd (.ref T) ∧ TrAt s'.heap T .none ∧ T ≠ e ∧ H' e = none ∧ H' T = none ∧ s.heap.get? e = none ∧ s.heap.get? T = none ∧ E C dd H'
def PassesS (CX : CXT) (X : Cx) (Ez : St → XK) : Prop := ∀ (pins : List (Addr × Obj)) (σ : St) (H : Hp) (s : Shared) (e : Value) (s' : Shared), Inv X pins σ H s → CX X.stack H s (Ez σ) e s' → X.xe e s'
theorem un_moved {l l' : List Env} {H H' : Hp} {h g h' : Heap} {e : Addr} {T0 : Option Addr} (u : Un (frs l') [] H H' h g) (mv : Moved (frs l) e T0 g h') (hsub : ∀ b ∈ frs l', b ∈ frs l) (hnew : ∀ b o, h.get? b = some o → b ∈ frs l → b ∈ frs l')
    (he : h.get? e = none) (hT : ∀ T, T0 = some T → h.get? T = none) : Un (frs l') [] H H' h h' := by
  have k1 : ∀ b o, h.get? b = some o → b ≠ e := fun b o q z => by rw [z, he] at q; cases q
  have k2 : ∀ b o, h.get? b = some o → some b ≠ T0 := fun b o q z => by rw [hT b z.symm] at q; cases q
  refine ⟨fun b o q n hb hx => ?_, fun b o q n hb hx => ?_, u.free, fun b o q hx => ?_, u.tups, u.frzs, u.tbls⟩
  · exact mv.keep b o (k1 b o q) (k2 b o q) (fun z => hb (hnew b o q z)) (u.keep b o q n hb hx)
  · obtain ⟨sl, q1⟩ := u.slot b o q n hb hx
    obtain ⟨sl2, q2⟩ := mv.slot b _ (hsub b hb) q1
    exact ⟨sl2, q2⟩
  · obtain ⟨o1, q1⟩ := u.there b o q hx
    exact mv.there b o1 q1
section
variable {P : Program} {w : World} {K : PySem.W.Frag} {mg : Str → Option Value} {base : Heap} {N : List Str} {qual : Str} {scope : Scope} {f : Addr} {cd : Value} {A : Around} {outer : List Env} {s₀ : Shared} {H₀ : Hp} {E : XK}
theorem frs_cons {env : Env} {outer : List Env} {L : Addr} (h : env.frame = some L) : frs (env :: outer) = L :: frs outer := by
  unfold frs
  rw [List.filterMap_cons, h]
theorem leave_fly {M : Model} {A : Around} {E : Value → Shared → Prop} {s : Shared} {base : Heap} {env : Env} {outer : List Env} {L e : Addr} {C : Value} {dd : Option Addr} {T0 : Option Addr} {Q : Unit → Shared → Prop}
    (hfr : A.frames = some (env :: outer)) (hl : s.heap.FunFrames base (env :: outer)) (hf : env.frame = some L) (X : ExAt s.heap e C dd (T0.elim .none Value.ref)) (hT : ∀ T, T0 = some T → TrAt s.heap T .none ∧ T ≠ e)
    (h : ∀ h' T, ExAt h' e C dd (.ref T) → TrAt h' T .none → s.heap.objs.size ≤ T → T ≠ e → Moved (frs (env :: outer)) e T0 s.heap h' → Q () { s with heap := h' }) :
    wpAny M A (noteFrame (.ref e) env) (fun _ s2 => wpAny M A (setFlight (.ref e) none) Q E s2) E s := by
  refine note_fly hfr hl hf X hT fun h1 T x1 x2 x3 x4 mv => ?_
  refine rest_fly (s := { s with heap := h1 }) x1 x2 x4 fun h2 y1 y2 k1 k2 => h h2 T y1 y2 x3 x4 ?_
  have nT : ∀ b o, s.heap.get? b = some o → b ≠ T := fun b o q z => absurd (Heap.lt_size q) (by rw [z]; exact Nat.not_lt.mpr x3)
  refine ⟨fun b o z1 z2 z3 q => k1 b o (nT b o q) (mv.keep b o z1 z2 z3 q), fun b o hb q => ?_, fun b o q => ?_⟩
  · obtain ⟨sl, q1⟩ := mv.slot b o hb q
    exact ⟨sl, k1 b _ (nT b o q) q1⟩
  · obtain ⟨o1, q1⟩ := mv.there b o q
    exact k2 b o1 q1
theorem funFrames_un {base h h' : Heap} : ∀ {l : List Env}, h.FunFrames base l → (∀ b o, b ∈ frs l → h.get? b = some o → ∃ sl, h'.get? b = some { o with slots := sl }) → h'.FunFrames base l
  | [], _, _ => trivial
  | env :: r, hl, k => by
    obtain ⟨hk, ⟨L, o, hf, hn, ho, hd⟩, hr⟩ := hl
    have e := frs_cons (outer := r) hf
    obtain ⟨sl, z⟩ := k L o (by rw [e]; exact List.mem_cons_self) ho
    exact ⟨hk, ⟨L, _, hf, hn, z, hd⟩, funFrames_un hr fun b o' hb q => k b o' (by rw [e]; exact List.mem_cons_of_mem _ hb) q⟩
theorem un_enter {fs : List Addr} {L : Addr} {H H1 H2 : Hp} {h h1 h2 : Heap} (a : Un fs [] H H1 h h1) (b : Un (L :: fs) [] H1 H2 h1 h2) (hL : h.get? L = none) : Un fs [] H H2 h h2 where
  keep := fun c o q n hc hx => b.keep c o (a.keep c o q n hc hx) (a.free c o q n hx) (fun z => (List.mem_cons.mp z).elim (fun y => by rw [y, hL] at q; cases q) hc) (by simp)
  slot := fun c o q n hc hx => by
    obtain ⟨sl, q1⟩ := a.slot c o q n hc hx
    obtain ⟨sl2, q2⟩ := b.slot c _ q1 (a.free c o q n hx) (List.mem_cons_of_mem _ hc) (by simp)
    exact ⟨sl2, q2⟩
  free := fun c o q n hx => by
    obtain ⟨o1, q1⟩ := a.there c o q hx
    exact b.free c o1 q1 (a.free c o q n hx) (by simp)
  there := fun c o q hx => by
    obtain ⟨o1, q1⟩ := a.there c o q hx
    exact b.there c o1 q1 (by simp)
  tups := fun c xs q => b.tups c xs (a.tups c xs q)
  frzs := fun c o xs q => b.frzs c o xs (a.frzs c o xs q)
  tbls := fun c ps q => by
    obtain ⟨m1, e1⟩ := a.tbls c ps q
    obtain ⟨m2, e2⟩ := b.tbls c _ e1
    exact ⟨m1 ++ m2, by rw [e2, Array.append_assoc]⟩
theorem pass_def : PassesS (CXx P w) (cxOf (CXx P w) P w K mg base N qual scope f cd A outer s₀ H₀ E) (fun _ => E) := by
  intro pins σ H s u s' I h
  obtain ⟨e, C, dd, T, H', rfl, os, bare, un, hok, x1, x2, x3, f1, f2, n1, n2, hE⟩ := h
  have fe : frs (envOfC qual scope s₀.heap.objs.size f cd :: outer) = s₀.heap.objs.size :: frs outer := frs_cons rfl
  have un' : Un (s₀.heap.objs.size :: frs outer) [] H H' s.heap s'.heap := by rw [← fe]; exact un
  have ib : Un (frs outer) [] H₀ H s₀.heap s.heap := I.base
  have nL : s₀.heap.get? s₀.heap.objs.size = none := Heap.get?_none_of_le (Nat.le_refl _)
  have um := un_enter ib un' nL
  have hfun : s'.heap.FunFrames base (envOfC qual scope s₀.heap.objs.size f cd :: outer) := funFrames_un I.stack fun b o hb q => un.slot b o q (I.stkFree b hb) hb (by simp)
  have ntr : ∀ b u, H' b = some u → b ∉ frs (envOfC qual scope s₀.heap.objs.size f cd :: outer) := fun b u q hb => by
    obtain ⟨_, o, ho, _⟩ := I.stack.mem hb
    have := un.free b o ho (I.stkFree b hb) (by simp)
    rw [q] at this; cases this
  show wpAny _ _ (leaving _ (.ref e)) _ _ s'
  unfold leaving
  refine wpAny_bind (leave_fly (T0 := some T) (L := s₀.heap.objs.size) I.ok.frames hfun rfl x1 (fun T' z => by cases z; exact ⟨x2, x3⟩) fun h' T2 y1 y2 y3 y4 mv => ?_)
  have none_of : ∀ b, s.heap.get? b = none → s₀.heap.get? b = none := fun b hb => by
    cases q : s₀.heap.get? b with
    | none => rfl
    | some o => obtain ⟨o1, q1⟩ := ib.there b o q (by simp); rw [hb] at q1; cases q1
  refine ⟨e, C, dd, T2, H', rfl, os.trans I.os, bare, un_moved (l := envOfC qual scope s₀.heap.objs.size f cd :: outer) um mv (fun b hb => by rw [fe]; exact List.mem_cons_of_mem _ hb) (fun b o q hb => ?_) (none_of e n1) (fun T' z => by cases z; exact none_of T n2),
    hok.track fun b u o q1 q2 => mv.keep b o (fun z => by rw [z, f1] at q1; cases q1) (fun z => by cases z; rw [f2] at q1; cases q1) (ntr b u q1) q2, y1, y2, y4, f1, ?_, none_of e n1, ?_, hE⟩
  · rw [fe] at hb
    rcases List.mem_cons.mp hb with z | z
    · rw [z, nL] at q; cases q
    · exact z
  · cases q : H' T2 with
    | none => rfl
    | some u => obtain ⟨ob, hob⟩ := (hok T2 u q).there; exact absurd (Heap.lt_size hob) (Nat.not_lt.mpr y3)
  · cases q : s₀.heap.get? T2 with
    | none => rfl
    | some o => obtain ⟨o1, q1⟩ := um.there T2 o q (by simp); exact absurd (Heap.lt_size q1) (Nat.not_lt.mpr y3)
def Rz (X : Cx) (E : XK) : Prop := ∀ (pins : List (Addr × Obj)) (σ : St) (H : Hp) (s : Shared) (h' : Heap) (e : Addr) (C : Value) (vs : List Value), Inv X pins σ H s → Heap.MadeExcOf s.heap h' e C vs → E C none H → X.xe (.ref e) { s with heap := h' }
theorem rz_def : Rz (cxOf (CXx P w) P w K mg base N qual scope f cd A outer s₀ H₀ E) E := by
  intro pins σ H s h1 e C vs I mx hE
  obtain ⟨t, he, htn, ht⟩ := mx.there
  have fe : frs (envOfC qual scope s₀.heap.objs.size f cd :: outer) = s₀.heap.objs.size :: frs outer := frs_cons rfl
  have ib : Un (frs outer) [] H₀ H s₀.heap s.heap := I.base
  have nL : s₀.heap.get? s₀.heap.objs.size = none := Heap.get?_none_of_le (Nat.le_refl _)
  have um : Un (frs outer) [] H₀ H s₀.heap h1 := ib.trans (Un.kept mx.keeps)
  have hfun : h1.FunFrames base (envOfC qual scope s₀.heap.objs.size f cd :: outer) := funFrames_un I.stack fun b o hb q => ⟨o.slots, mx.keeps b o q⟩
  have ntr : ∀ b u, H b = some u → b ∉ frs (envOfC qual scope s₀.heap.objs.size f cd :: outer) := fun b u q hb => by
    have := I.stkFree b hb
    rw [q] at this; cases this
  have hok1 : HOk P w H h1 := I.hok.kept mx.keeps
  have fE : H e = none := by
    cases q : H e with
    | none => rfl
    | some u => obtain ⟨ob, hob⟩ := (I.hok e u q).there; rw [mx.new] at hob; cases hob
  have none_of : ∀ b, s.heap.get? b = none → s₀.heap.get? b = none := fun b hb => by
    cases q : s₀.heap.get? b with
    | none => rfl
    | some o => obtain ⟨o1, q1⟩ := ib.there b o q (by simp); rw [hb] at q1; cases q1
  show wpAny _ _ (leaving _ (.ref e)) _ _ { s with heap := h1 }
  unfold leaving
  refine wpAny_bind (leave_fly (s := { s with heap := h1 }) (T0 := none) (L := s₀.heap.objs.size) (C := C) (dd := none) I.ok.frames hfun rfl ⟨_, _, he, rfl, rfl, rfl, rfl⟩ (fun T' z => by cases z) fun h' T2 y1 y2 y3 y4 mv => ?_)
  refine ⟨e, C, none, T2, H, rfl, I.os, I.bare, un_moved (l := envOfC qual scope s₀.heap.objs.size f cd :: outer) um mv (fun b hb => by rw [fe]; exact List.mem_cons_of_mem _ hb) (fun b o q hb => ?_) (none_of e mx.new) (fun T' z => by cases z),
    hok1.track fun b u o q1 q2 => mv.keep b o (fun z => by rw [z, fE] at q1; cases q1) (by simp) (ntr b u q1) q2, y1, y2, y4, fE, ?_, none_of e mx.new, ?_, hE⟩
  · rw [fe] at hb
    rcases List.mem_cons.mp hb with z | z
    · rw [z, nL] at q; cases q
    · exact z
  · cases q : H T2 with
    | none => rfl
    | some u => obtain ⟨ob, hob⟩ := (hok1 T2 u q).there; exact absurd (Heap.lt_size hob) (Nat.not_lt.mpr y3)
  · cases q : s₀.heap.get? T2 with
    | none => rfl
    | some o => obtain ⟨o1, q1⟩ := um.there T2 o q (by simp); exact absurd (Heap.lt_size q1) (Nat.not_lt.mpr y3)
end
def tCallS (sp : Sp) (dvs : List V) (Ez : St → XK) (t : TA) : TE := fun σ H Q => t σ H fun vs H1 => sp (vs ++ dvs) H1 Q (Ez σ)
section
variable {X : Cx} {CX : CXT} {k : Nat} {f C : Addr} {fd : FuncData} {ps : List Str} {sp : Sp} {dvs : List V} {ds : List Value} {Ez : St → XK} {x m : Str} {p pos apos : Pos} {e o : Expr} {es : List Expr} {ta : TE} {t : TA}
theorem run_fnS {pins : List (Addr × Obj)} {σ : St} {H : Hp} {s : Shared} {Q : VK} {us : List Value} {vs : List V} (F : FnOk X.prog X.w X.K X.mg X.base CX k f fd ps sp) (hr : Room k X.A) (hb : Binds X.K fd ps ds) (hd : Vals dvs ds) (hx : PassesS CX X Ez)
    (I : Inv X pins σ H s) (r : Vals vs us) (h : sp (vs ++ dvs) H Q (Ez σ)) : wpAny (model X.prog X.w) X.A (call (.ref f) us) (EP X pins σ Q) X.xe s := by
  have r2 : Vals (vs ++ dvs) (us ++ ds) := r.append hd
  have hl : (us ++ ds).length = ps.length := by rw [← r2.length]; exact F.len _ _ _ _ h
  refine wpAny_call (codeAny_mono (F.run X.A X.stack s H ⟨us, []⟩ (us ++ ds) (vs ++ dvs) Q (Ez σ) hr I.env0 (hb s us I.kIn hl) r2 h) fun r s' hq => ?_)
  cases r with
  | error e => exact hx pins σ H s e s' I hq
  | ok fl =>
    cases fl with
    | ret u => exact I.after hq
    | next => exact False.elim hq
    | brk => exact False.elim hq
    | cont => exact False.elim hq
theorem pe_callS (F : FnOk X.prog X.w X.K X.mg X.base CX k f fd ps sp) (hr : Room k X.A) (hg : Gl X x) (hm : X.mg x = some (.ref f)) (hk : PySem.W.keepIn X.K (.ref f) = true) (hb : Binds X.K fd ps ds) (hd : Vals dvs ds) (hx : PassesS CX X Ez)
    (ha : PA X (e :: es) t) (hdb : (x == ("__debug__" : Str)) = false := by decide) (he : starEach (e :: es) X.env = (false, eval e X.env) :: starEach es X.env := by rfl) (hpl : (backTo pos (starEach es X.env)).any (·.1) = false := by rfl) :
    PE X (.Call (.Name x p) (e :: es) [] pos) (tCallS sp dvs Ez t) := by
  unfold PE at *; unfold PA at *
  exact by
    intro pins s σ H Q I h
    refine wpAny_Call_Name_kw (ld_glob I hg hm ?_ hdb)
    refine PySem.W.callWith_K (h₀ := X.base) I.ok.mod.kin hk (thn (ha pos pins s σ H _ I h) fun us s1 ⟨vs, H1, I1, r, q⟩ => ⟨I1.kIn, ?_⟩) he hpl
    exact run_fnS F hr hb hd hx I1 r q
end
end L2
namespace L2
open PySem PySem.Spec PyProof.Rows
def vmro : List Value := [.type "ValueError", .type "Exception", .type "BaseException", .type "object"]
def NsK (K : PySem.W.Frag) (N : Addr) (es : Array DictEntry) : Prop := ∃ c d ep sl, K.lookup N = some ⟨c, d, .dict es ep, sl⟩ ∧ StrKeys es
theorem NsK.ns {K : PySem.W.Frag} {N : Addr} {es : Array DictEntry} {h : Heap} (x : NsK K N es) (X : K.In h) : h.Ns N (nsFind es) := by
  obtain ⟨c, d, ep, sl, lk, sk⟩ := x
  exact ⟨_, es, ep, X _ _ lk, rfl, sk, fun _ => rfl⟩
inductive TailK (K : PySem.W.Frag) : List Value → Prop
  | base : TailK K vmro
  | own {A : Addr} {c0 : Value} {dd : Option Addr} {cd : ClassData} {sl : Array (Option Value)} {tl : List Value} {es : Array DictEntry} :
      K.lookup A = some { cls := c0, dict := dd, data := .cls cd, slots := sl } → NsK K cd.ns es → nsFind es "__init__" = none → TailK K tl → TailK K (.ref A :: tl)
theorem TailK.own' {K : PySem.W.Frag} {h : Heap} {bm : List Value} (t : TailK K bm) (X : K.In h) : OwnTail h vmro bm := by
  induction t with
  | base => exact .base
  | own l n i _ ih => exact .own (X _ _ l) (n.ns X) i ih
structure XCls (K : PySem.W.Frag) (C : Addr) : Prop where
  ex : ∃ nm q N bs bm hdct sn sub ab col dd k0 k1 k2 k3 k5 es, K.lookup C = some (excClassObj nm q C N bs bm hdct sn sub ab col dd k0 k1 k2 k3 k5 "ValueError.__new__") ∧ NsK K N es ∧ nsFind es "__init__" = none ∧ TailK K bm
def tRaise (t : TA) (C : Value) (E : XK) : TS := fun _ σ H => t σ H fun vs H1 => vs.length ≤ sizeLine ∧ E C none H1
theorem ps_raise {X : Cx} {C : Addr} {x : Str} {np cpos pos : Pos} {e₀ : Expr} {rest : List Expr} {t : TA} {E : XK} (xc : XCls X.K C) (hc : X.calm = true) (hg : Gl X x) (hm : X.mg x = some (.ref C)) (hz : Rz X E) (ha : PA X (e₀ :: rest) t)
    (hdb : (x == ("__debug__" : Str)) = false := by decide) (he : starEach (e₀ :: rest) X.env = (false, eval e₀ X.env) :: starEach rest X.env := by rfl) (hpl : (backTo cpos (starEach rest X.env)).any (·.1) = false := by rfl) :
    PS X (.Raise (some (.Call (.Name x np) (e₀ :: rest) [] cpos)) none pos) (tRaise t (.ref C) E) := by
  unfold PA at *; unfold PS at *
  exact by
    intro pins s σ H D I h
    obtain ⟨nm, q, N, bs, bm, hdct, sn, sub, ab, col, dd, k0, k1, k2, k3, k5, es, lk, nk, ni, tl⟩ := xc.ex
    refine wpAny_Raise_call_subT (C := C) (nm := nm) (q := q) (N := N) (bs := bs) (bm := bm) (hdct := hdct) (sn := sn) (sub := sub) (ab := ab) (col := col) (dd := dd) (k0 := k0) (k1 := k1) (k2 := k2) (k3 := k3) (k5 := k5)
      F.excBase_ValueError (mN := nsFind es) ((tl.own' I.kIn).hasType F.excBase_ValueError.hasBase) (I.ok.hd hc) ?_ ni (ld_glob I hg hm ⟨rfl, ?_⟩ hdb)
    · rw [he]
      show (false || (backTo cpos (starEach rest X.env)).any (·.1)) = false
      rw [hpl]; rfl
    · have hA := ha cpos pins s σ H _ I h
      rw [he] at hA ⊢
      refine Calls.evalArgs_plain (wpAny_mono hA (fun us s2 ⟨vs, H1, I1, r, z, hE⟩ => ?_) fun _ _ y => y)
      exact ⟨rfl, by rw [← r.length]; exact z, I1.kIn _ _ lk, nk.ns I1.kIn, tl.own' I1.kIn, fun h' e mx => hz pins σ H1 s2 h' e (.ref C) us I1 mx hE⟩
theorem Fun.okx {P : Program} {w : World} {K : PySem.W.Frag} {mg : Str → Option Value} {base : Heap} {x qual : Str} {st : Stmt} {f : Addr} {fd : FuncData} {N ps : List Str} {k : Nat} {sp : Sp} (F : Fun K x qual st f fd) (S : FnScope N ps (defScope st)) (len : ∀ vs H Q E, sp vs H Q E → vs.length = ps.length)
    (hbody : ∀ (cdv : Value) (A : Around) (outer : List Env) (s : Shared) (H : Hp) (vs : List V) (Q : VK) (E : XK), Room k (A.deeper (envOfC qual (defScope st) s.heap.objs.size f cdv)) → sp vs H Q E →
      ∃ t, PSs (cxOf (CXx P w) P w K mg base N qual (defScope st) f cdv A outer s H E) (defBody st) t ∧ t { nx := fun _ H' => Q .non H', rt := Q } (start N vs) H) : FnOk P w K mg base (CXx P w) (k + 1) f fd ps sp := by
  obtain ⟨oc, od, kV, doc, pm, an, cdv, ct, osl, rfl, lk, hcd⟩ := F.ex
  exact fn_of lk hcd S len fun A outer s H vs Q E hr hsp => hbody cdv A outer s H vs Q E hr hsp
section
variable {X : Cx} {pins pins' : List (Addr × Obj)} {σ : St} {H : Hp} {s : Shared} {W : Value → Shared → Prop}
def Cx.tr (X : Cx) (pins : List (Addr × Obj)) (W : Value → Shared → Prop) : Cx := { X with xe := W, pn := X.pn ++ pins }
theorem Cx.Ok.tr (ok : X.Ok) : (X.tr pins W).Ok := ⟨ok.mod, ok.kind, ok.glob, ok.blt, ok.above, ok.inj, ok.has, ok.cab, ok.hd, ok.frames, ok.stk, ok.exf, ok.bs, ok.bsz, ok.noex, ok.exfs, ok.funs, ok.frf⟩
theorem Cx.Ok.untr (ok : (X.tr pins W).Ok) : X.Ok := ⟨ok.mod, ok.kind, ok.glob, ok.blt, ok.above, ok.inj, ok.has, ok.cab, ok.hd, ok.frames, ok.stk, ok.exf, ok.bs, ok.bsz, ok.noex, ok.exfs, ok.funs, ok.frf⟩
theorem Inv.tr (I : Inv X pins σ H s) : Inv (X.tr pins W) [] σ H s := ⟨I.ok.tr, I.os, I.bare, I.base, I.loc, I.cell, I.free, I.freeC, fun p hp => I.pin p (by simpa [Cx.tr] using hp), I.hok, I.len⟩
theorem Inv.untr (I : Inv (X.tr pins W) pins' σ H s) : Inv X pins σ H s := ⟨I.ok.untr, I.os, I.bare, I.base, I.loc, I.cell, I.free, I.freeC, fun p hp => I.pin p (List.mem_append_left _ hp), I.hok, I.len⟩
theorem SP.untr {D : Ends} {f : Flow} (h : SP (X.tr pins W) pins' D f s) : SP X pins D f s := by
  cases f with
  | next => obtain ⟨a, b, I, q⟩ := h; exact ⟨a, b, I.untr, q⟩
  | brk => obtain ⟨a, b, I, q⟩ := h; exact ⟨a, b, I.untr, q⟩
  | cont => obtain ⟨a, b, I, q⟩ := h; exact ⟨a, b, I.untr, q⟩
  | ret u => obtain ⟨v, a, b, I, r, q⟩ := h; exact ⟨v, a, b, I.untr, r, q⟩
def Cx.sui (X : Cx) (e : Addr) : Cx := { X with A := X.A.mark (some (.ref e)), calm := false, xe := fun _ _ => False }
theorem Cx.Ok.sui (ok : X.Ok) (e : Addr) : (X.sui e).Ok := ⟨ok.mod, ok.kind, ok.glob, ok.blt, ok.above, ok.inj, ok.has, ok.cab, fun z => Bool.noConfusion z, ok.frames, ok.stk, ok.exf, ok.bs, ok.bsz, ok.noex, ok.exfs, ok.funs, ok.frf⟩
theorem Inv.sui (I : Inv X pins σ H s) (e : Addr) : Inv (X.sui e) pins σ H s := ⟨I.ok.sui e, I.os, I.bare, I.base, I.loc, I.cell, I.free, I.freeC, I.pin, I.hok, I.len⟩
theorem Inv.unsui {e : Addr} (ok : X.Ok) (I : Inv (X.sui e) pins σ H s) : Inv X pins σ H s := ⟨ok, I.os, I.bare, I.base, I.loc, I.cell, I.free, I.freeC, I.pin, I.hok, I.len⟩
theorem Inv.adopt {e : Addr} {o : HO} (I : Inv X pins σ H s) (hn : H e = none) (h0 : X.s₀.heap.get? e = none) (hL : e ≠ X.env.locals) (hc : ∀ x c, X.env.cells.lookup x = some c → c ≠ e) (hp : ∀ p ∈ X.pn ++ pins, p.1 ≠ e)
    (new : ObjOk X.prog X.w (upd H e o) s.heap e o) : Inv X pins σ (upd H e o) s := by
  have ne : ∀ b u, H b = some u → b ≠ e := fun b u q z => by rw [z, hn] at q; cases q
  refine ⟨I.ok, I.os, I.bare, ⟨I.base.keep, I.base.slot, fun b ob q n hx => ?_, I.base.there, fun b xs q => ?_, fun b ob u q => ?_, fun b ps q => ?_⟩, I.loc, I.cell, ?_, fun x c q => ?_, fun p hq => ?_, fun b u q => ?_, I.len⟩
  · rw [upd_ne (fun z => by rw [z, h0] at q; cases q)]
    exact I.base.free b ob q n hx
  · have q1 := I.base.tups b xs q
    rw [upd_ne (ne b _ q1)]; exact q1
  · have q1 := I.base.frzs b ob u q
    rw [upd_ne (ne b _ q1)]; exact q1
  · obtain ⟨m, q1⟩ := I.base.tbls b ps q
    exact ⟨m, by rw [upd_ne (ne b _ q1)]; exact q1⟩
  · rw [upd_ne (Ne.symm hL)]; exact I.free
  · rw [upd_ne (hc x c q)]; exact I.freeC x c q
  · obtain ⟨a1, a2, a3, a4, a5⟩ := I.pin p hq
    exact ⟨a1, by rw [upd_ne (hp p hq)]; exact a2, a3, a4, a5⟩
  · by_cases hb : b = e
    · subst hb; rw [upd_same] at q; cases q; exact new
    · rw [upd_ne hb] at q
      exact (I.hok b u q).stay (fun _ _ _ z => z) (fun c z => by rw [upd_ne (ne c _ z)]; exact z) fun c xs z => by rw [upd_ne (ne c _ z)]; exact z
theorem goes_ok {M : Model} {A : Around} {E : Value → Shared → Prop} {i : Nat} {n : Str} {pos : Pos} {Q : Unit → Shared → Prop} (I : Inv X pins σ H s) (hN : X.N.Nodup) (hi : X.N[i]? = some n) (hk : X.env.kindOf n = some .local)
    (h : ∀ s', Inv X pins (σ.set i none) H s' → Q () s') : wpAny M A (do bindName X.env n .none; unbindBehindTheSuite X.env n pos) Q E s := by
  obtain ⟨m, hn, hl⟩ := id I.loc
  have hcls : (X.env.scope.kind == .class || (X.env.scope.kind == .module && X.env.locals != X.env.globals)) = false := by rw [I.ok.kind]; rfl
  refine wpAny_nameGoes_keeps hk hn hcls fun h' v hn' hs => h _ ?_
  obtain ⟨oL, _, _, hoL, _⟩ := id hn
  have kb : ∀ b o, b ≠ X.env.locals → s.heap.get? b = some o → h'.get? b = some o := fun b o hb e => (hs.2 b hb).trans e
  have nL : ∀ b o, X.s₀.heap.get? b = some o → b ≠ X.env.locals := fun b o e => Nat.ne_of_lt (Nat.lt_of_lt_of_le (Heap.lt_size e) I.ok.above)
  refine ⟨I.ok, I.os, I.bare, ⟨fun b o e n hb hx => kb b o (nL b o e) (I.base.keep b o e n hb hx), fun b o e n hb hx => ?_, I.base.free, fun b o e hx => ?_, I.base.tups, I.base.frzs, I.base.tbls⟩, ⟨_, hn', fun j y v' e1 e2 e3 => ?_⟩, fun y c e => ?_, I.free, I.freeC, fun p hp => ?_,
    I.hok.track fun b u o q1 q2 => kb b o (fun z => by rw [z, I.free] at q1; cases q1) q2, by simpa using I.len⟩
  · obtain ⟨sl, e1⟩ := I.base.slot b o e n hb hx
    exact ⟨sl, kb b _ (nL b o e) e1⟩
  · obtain ⟨o', e1⟩ := I.base.there b o e hx
    exact ⟨o', kb b o' (nL b o e) e1⟩
  · by_cases hj : j = i
    · subst hj
      have hj' : j < σ.length := by rw [I.len]; exact (List.getElem?_eq_some_iff.mp e1).1
      rw [List.getElem?_set_self hj'] at e2
      cases e2
    · rw [List.getElem?_set_ne (Ne.symm hj)] at e2
      obtain ⟨u', r', q⟩ := hl j y v' e1 e2 e3
      refine ⟨u', r', ?_⟩
      rcases q with ⟨k, e⟩ | ⟨k, c, e, z⟩
      · refine .inl ⟨k, ?_⟩
        have : y ≠ n := fun e => hj (nodup_ix hN e1 (e ▸ hi))
        simp [this, e]
      · exact .inr ⟨k, c, e, z.sameBut hs (I.cne y c e)⟩
  · obtain ⟨w', z⟩ := I.cell y c e
    exact ⟨w', z.sameBut hs (I.cne y c e)⟩
  · obtain ⟨e, n', ne, nf, d⟩ := I.pin p hp
    exact ⟨kb _ _ ne e, n', ne, nf, d⟩
end
def exO (C : Value) (dd : Option Addr) (e : Addr) : HO := .ext fun h => ∃ oe vs, h.get? e = some oe ∧ oe.cls = C ∧ oe.dict = dd ∧ oe.data = .fields vs
theorem exO_ok {P : Program} {w : World} {H : Hp} {h : Heap} {e : Addr} {C t1 : Value} {dd : Option Addr} (x : ExAt h e C dd t1) : ObjOk P w H h e (exO C dd e) := by
  obtain ⟨oe, vs, he, hC, hdd, hd, _⟩ := x
  exact ⟨⟨oe, vs, he, hC, hdd, hd⟩, ⟨oe, he⟩, fun h1 h2 ⟨o, v, q, r⟩ k => ⟨o, v, k o q, r⟩⟩
def tTry (K : PySem.W.Frag) (Cv : Value) (i : Nat) (tb : (St → XK) → List (Addr × Obj) → (Value → Shared → Prop) → TS) (th : Addr → TS) : TS := fun D σ H => ∃ Ez : St → XK, (∀ pins W, tb Ez pins W D σ H) ∧
  ∀ σ1 C dd H1, Ez σ1 C dd H1 → PySem.W.exmOne K C Cv = some true ∧ ∀ e, H1 e = none →
    th e { nx := fun σ2 H2 => D.nx (σ2.set i none) H2, rt := D.rt, bk := fun σ2 H2 => D.bk (σ2.set i none) H2, ct := fun σ2 H2 => D.ct (σ2.set i none) H2 } (σ1.set i (some (.ref e))) (upd H1 e (exO C dd e))
section
variable {X : Cx}
theorem ps_try {body suite : List Stmt} {b₀ : Stmt} {tx n : Str} {i : Nat} {np hpos pos : Pos} {Cv : Value} {tb : (St → XK) → List (Addr × Obj) → (Value → Shared → Prop) → TS} {th : Addr → TS}
    (hst : X.stack = X.env :: X.outer) (hfr : X.env.frame = some X.env.locals) (hex : X.ex = []) (hN : X.N.Nodup) (hi : X.N[i]? = some n) (hk : X.env.kindOf n = some .local) (hg : Gl X tx) (hm : X.mg tx = some Cv)
    (hb : ∀ Ez pins W, PassesS (CXx X.prog X.w) (X.tr pins W) Ez → PSs (X.tr pins W) body (tb Ez pins W)) (hs : ∀ e, PSs (X.sui e) (b₀ :: suite) (th e)) (hdb : (tx == ("__debug__" : Str)) = false := by decide) :
    PS X (.Try body [.ExceptHandler (some (.Name tx np)) (some n) (b₀ :: suite) hpos] [] [] pos) (tTry X.K Cv i tb th) := by
  unfold PS at *; unfold PSs at *
  exact by
    intro pins s σ H D I h
    obtain ⟨Ez, hb1, hh⟩ := h
    let W : Value → Shared → Prop := fun u s' => ∃ σ1 H1 s1, Inv X pins σ1 H1 s1 ∧ CXx X.prog X.w X.stack H1 s1 (Ez σ1) u s'
    have hp : PassesS (CXx X.prog X.w) (X.tr pins W) Ez := fun pins' σ1 H1 s1 u s' I1 hx => ⟨σ1, H1, s1, I1.untr, hx⟩
    refine wpAny_Try_except (wpAny_mono ((hb Ez pins W hp) [] s σ H D I.tr (hb1 pins W)) (fun f s1 q => ?_) (fun u s' q => ?_))
    · have q' := q.untr
      cases f with
      | next => exact wpAny_execs_nil q'
      | brk => exact q'
      | cont => exact q'
      | ret v => exact q'
    · obtain ⟨σ1, H1, s1, I1, e, C, dd, T, H', rfl, os, bare, un, hok, x1, x2, x3, f1, f2, n1, n2, hE⟩ := q
      have hfun : s'.heap.FunFrames X.base (X.env :: X.outer) := by
        rw [← hst]
        exact funFrames_un I1.stack fun b o hb q => un.slot b o q (I1.stkFree b hb) hb (by simp)
      refine leave_fly (T0 := some T) (L := X.env.locals) (by rw [← hst]; exact I1.ok.frames) hfun hfr x1 (fun T' z => by cases z; exact ⟨x2, x3⟩) fun h' T2 y1 y2 y3 y4 mv => ?_
      rw [← hst] at mv
      have ntr : ∀ b u, H' b = some u → b ∉ frs X.stack := fun b u q hb => by
        obtain ⟨_, o, ho, _⟩ := I1.stack.mem hb
        have := un.free b o ho (I1.stkFree b hb) (by simp)
        rw [q] at this; cases this
      have hU : Un (frs X.stack) [] H1 H' s1.heap h' := un_moved (l := X.stack) un mv (fun _ z => z) (fun _ _ _ z => z) n1 fun T' z => by cases z; exact n2
      have hO : HOk X.prog X.w H' h' := hok.track fun b u o q1 q2 => mv.keep b o (fun z => by rw [z, f1] at q1; cases q1) (fun z => by cases z; rw [f2] at q1; cases q1) (ntr b u q1) q2
      have I2 : Inv X pins σ1 H' { s' with heap := h' } := I1.call' (s' := { s' with heap := h' }) (ch := []) os hU hO bare fun _ z => absurd z (by simp)
      -- the exception becomes an object of ours
      have he0 : X.s₀.heap.get? e = none := by
        cases q : X.s₀.heap.get? e with
        | none => rfl
        | some o =>
          obtain ⟨o1, q1⟩ := I1.base.there e o q (by rw [hex]; simp)
          rw [n1] at q1; cases q1
      have live : ∀ b o, s1.heap.get? b = some o → b ≠ e := fun b o q z => by rw [z, n1] at q; cases q
      have heL : e ≠ X.env.locals := by
        obtain ⟨m, ⟨o, _, _, ho, _⟩, _⟩ := I1.loc
        exact Ne.symm (live _ _ ho)
      have heC : ∀ x c, X.env.cells.lookup x = some c → c ≠ e := fun x c q => by
        obtain ⟨v, o, ho, _⟩ := I1.cell x c q
        exact live _ _ ho
      have heP : ∀ p ∈ X.pn ++ pins, p.1 ≠ e := fun p hp => live _ _ (I1.pin p hp).1
      have I3 : Inv X pins σ1 (upd H' e (exO C dd e)) { s' with heap := h' } := I2.adopt f1 he0 heL heC heP (exO_ok y1)
      -- the trace's record is nobody's
      have szT : ∀ b o, s'.heap.get? b = some o → b ≠ T2 := fun b o q => Nat.ne_of_lt (Nat.lt_of_lt_of_le (Heap.lt_size q) y3)
      have liveT : ∀ b o, s1.heap.get? b = some o → b ≠ T2 := fun b o q => by
        obtain ⟨o', q'⟩ := un.there b o q (by simp)
        exact szT b o' q'
      have hTL : T2 ≠ X.env.locals := by
        obtain ⟨m, ⟨o, _, _, ho, _⟩, _⟩ := I1.loc
        exact Ne.symm (liveT _ _ ho)
      have hT0 : X.s₀.heap.objs.size ≤ T2 := by
        obtain ⟨m, ⟨o, _, _, ho, _⟩, _⟩ := I1.loc
        obtain ⟨o', q'⟩ := un.there _ o ho (by simp)
        exact Nat.le_trans I1.ok.above (Nat.le_trans (Nat.le_of_lt (Heap.lt_size q')) y3)
      have hTC : ∀ x c, X.env.cells.lookup x = some c → c ≠ T2 := fun x c q => by
        obtain ⟨v, o, ho, _⟩ := I1.cell x c q
        exact liveT _ _ ho
      have hTP : ∀ p ∈ X.pn ++ pins, p.1 ≠ T2 := fun p hp => liveT _ _ (I1.pin p hp).1
      have hTn : upd H' e (exO C dd e) T2 = none := by
        rw [upd_ne y4]
        cases q : H' T2 with
        | none => rfl
        | some u => obtain ⟨ob, hob⟩ := (hok T2 u q).there; exact absurd rfl (szT T2 ob hob)
      obtain ⟨hmt, hsu⟩ := hh σ1 C dd H' hE
      obtain ⟨oe, vs, hoe, hcls, _⟩ := id y1
      have LT : PySem.W.Looks (model X.prog X.w) h' (typeOf (.ref e)) C := by
        subst hcls
        exact (PySem.W.Looks.ld hoe).andThen .now
      have ok : X.Ok := I.ok
      refine wpAny_handleBy_cons (codeAny_handlers_test (ld_glob (X := X.sui e) (I3.sui e) hg hm ?_ hdb)) (by intro q; cases q)
      refine PySem.W.Looks.here (PySem.W.exm_one I3.kIn LT hmt) ?_
      show codeAny _ _ (.handlers (.ref e) [.ExceptHandler none (some n) (b₀ :: suite) hpos] X.env) _ _
      refine codeAny_handlers_suite_as ?_
      refine rest_fly y1 y2 y4 fun h2 z1 z2 k1 k2 => ?_
      have I4 : Inv X pins σ1 (upd H' e (exO C dd e)) { s' with heap := h2 } := I3.turned (t' := s'.toks) (fun b o hb q => k1 b o hb q) hTn hTL (.inr hT0) hTC hTP
      refine store_ok (X := X.sui e) (v := .ref e) (I4.sui e) hN hi (.inl hk) rfl (fun s5 I5 => ?_) (.inr hk)
      refine wpAny_mono ((hs e) pins s5 _ _ _ I5 (hsu e f1)) (fun f s6 q => ?_) fun _ _ z => z.elim
      show wpAny _ _ (do bindName X.env n .none; unbindBehindTheSuite X.env n hpos) _ _ s6
      cases f with
      | next => obtain ⟨σ6, H6, I6, q6⟩ := q; exact goes_ok (I6.unsui ok) hN hi hk fun s7 I7 => ⟨_, _, I7, q6⟩
      | brk => obtain ⟨σ6, H6, I6, q6⟩ := q; exact goes_ok (I6.unsui ok) hN hi hk fun s7 I7 => ⟨_, _, I7, q6⟩
      | cont => obtain ⟨σ6, H6, I6, q6⟩ := q; exact goes_ok (I6.unsui ok) hN hi hk fun s7 I7 => ⟨_, _, I7, q6⟩
      | ret v => obtain ⟨x6, σ6, H6, I6, r6, q6⟩ := q; exact goes_ok (I6.unsui ok) hN hi hk fun s7 I7 => ⟨_, _, _, I7, r6, q6⟩
end
end L2
namespace L2
open PySem PySem.Spec PyProof.Rows PySem.W
section
variable {prog : Program} {w : World} {A : Around} {E : Value → Shared → Prop} {s : Shared} {K : Frag} {e C : Addr} {oe : Obj}
theorem findX {a g : Value} {name : Str} (hc : (clsIn K C).isSome = true) (ha : findIn K (.ref C) name = some (some a)) (hg : specialIn K a "__get__" = some (some g)) (ht : takesIn K a = some true) : findObj K C none name = some (.bind g a) := by
  obtain ⟨cd, hc⟩ := Option.isSome_iff_exists.mp hc
  unfold findObj
  rw [hc, Option.bind_some, ha, Option.bind_some]
  simp [hg, ht]
structure XAsk (K : Frag) (C : Addr) : Prop where
  cs : (clsIn K C).isSome = true
  ga : findIn K (.ref C) "__getattribute__" = some (some (.builtin "BaseException.__getattribute__"))
  gt : findIn K (.ref C) "__getattr__" = some none
  ca : findIn K (.ref C) "__class__" = some (some (.builtin "object.__class__"))
  gg : specialIn K (.builtin "object.__class__") "__get__" = some (some (.builtin "getset_descriptor.__get__"))
  tk : takesIn K (.builtin "object.__class__") = some true
  mo : mroIn K C (.type "object") = some true
  sb : subIn K (.ref C) (.type "BaseException") = some true
theorem xcheck {nameV : Value} {Q : Unit → Shared → Prop} (U : XAsk K C) (X : K.In s.heap) (I : InstAt s.heap e oe C none) (hq : Q () s) :
    wpAny (model prog w) A (checkBuiltinCall "BaseException.__getattribute__" ⟨[.ref e, nameV], []⟩) Q E s := by
  have hk : builtinKind "BaseException.__getattribute__" = some .slot := by decide +kernel
  have hsplit : splitId "BaseException.__getattribute__" = some ("BaseException", "__getattribute__") := by decide +kernel
  have L0 := I.type (M := model prog w)
  have L1 := looks_subIn (M := model prog w) X U.sb
  have LI : Looks (model prog w) s.heap (isInstance (.ref e) (.type "BaseException")) true := L0.andThen L1
  have ha := F.args_bexc_ga (.ref e) nameV
  simp only [checkBuiltinCall, hk, hsplit]
  refine wpAny_bind (LI.at ?_)
  rw [if_neg (by decide)]
  exact wpAny_of_eq ha hq
theorem xentry {tk : Tok} {Q : Fin → Shared → Prop} (U : XAsk K C) (X : K.In s.heap) (I : InstAt s.heap e oe C none) (hq : Q (.done (.ret (.ref C))) s) :
    wpAny (model prog w) A (Builtin.«object.__getattribute__» ⟨[.ref e, .str "__class__" tk], []⟩) Q E s := by
  obtain ⟨hh, g, d, t, os⟩ := s
  have L0 := I.type (M := model prog w)
  have L3 := looks_find (M := model prog w) X I (findX U.cs U.ca U.gg U.tk)
  unfold Builtin.«object.__getattribute__»
  refine wpAny_bind (wpAny_of_eq (show slotArgs "__getattribute__" 1 ⟨[.ref e, .str "__class__" tk], []⟩ = pure (.ref e, [.str "__class__" tk]) from rfl) ?_)
  refine wpAny_bind (wpAny_of_eq (show Builtin.ObjectAttr.attrName (.str "__class__" tk) = pure ("__class__" : Str) from rfl) ?_)
  refine wpAny_bind (L0.at (wpAny_bind (L3.at ?_)))
  show wpAny _ _ (Builtin.ObjectAttr.bindTo (.builtin "getset_descriptor.__get__") (.builtin "object.__class__") (.ref e) (.ref C)) _ _ _
  show wpAny _ _ (holding [.builtin "object.__class__"] (call (.builtin "getset_descriptor.__get__") [.builtin "object.__class__", .ref e, .ref C]) >>= ret) _ _ _
  exact wpAny_bind (wpAny_holding (wpAny_call (class_get X I U.mo (wpAny_pure hq))))
theorem xclass {Q : Option Value → Shared → Prop} (U : XAsk K C) (X : K.In s.heap) (I : InstAt s.heap e oe C none) (h : Q (some (.ref C)) { s with toks := s.toks + 1 }) : wpAny (model prog w) A (getAttr? (.ref e) "__class__") Q E s := by
  obtain ⟨hh, g, d, t, os⟩ := s
  have L0 := I.type (M := model prog w)
  have L1 := looks_findIn (M := model prog w) X U.ga
  have L2 := looks_findIn (M := model prog w) X U.gt
  have L3 := looks_find (M := model prog w) X I (findX U.cs U.ca U.gg U.tk)
  unfold getAttr? getAttrBy? getAttrBy
  refine wpAny_bind (wpAny_mkText (wpAny_bind (wpAny_attempt (wpAny_holding (wpAny_bind (L0.at (wpAny_bind (L1.at ?_))))))))
  show wpAny _ _ (getAttrByItsOwn (.ref e) _ (.ref C) (.builtin "BaseException.__getattribute__") false false) _ _ _
  unfold getAttrByItsOwn
  refine wpAny_bind ?_
  show wpAny _ _ (typeLookup (.ref C) "__getattr__") _ _ _
  refine L2.at ?_
  refine wpAny_bind (wpAny_attempt (wpAny_holding ?_))
  show wpAny _ _ (boundAndCalled (.builtin "BaseException.__getattribute__") (.ref e) _) _ _ _
  unfold boundAndCalled
  refine wpAny_bind (wpAny_of_eq (F.attr_ValueError.ga.bind (.ref e)) ?_)
  refine wpAny_call (codeAny_call_builtin F.attr_ValueError.ga.plain F.entry_bexc_ga (xcheck U X I (xentry U X I ?_)))
  exact wpAny_pure (wpAny_pure h)
theorem kitx_exc (U : XAsk K C) : KitX K (.ref e) (.ref C) (fun h => ∃ oe, InstAt h e oe C none) where
  ty := fun M h _ ⟨_, I⟩ => I.type
  it := fun _ _ X _ => by
    obtain ⟨cd, hc⟩ := Option.isSome_iff_exists.mp U.cs
    unfold clsIn at hc
    split at hc
    · rename_i c' d' cd' sl' ho
      intro A' Q' E' s' k q
      unfold isType loadHead
      exact wpAny_bind (wpAny_loadPart (k _ _ (X _ _ ho)) (wpAny_pure q))
    · cases hc
  ne := fun h tp dd its n sl X htp => by
    obtain ⟨cd, hc⟩ := Option.isSome_iff_exists.mp U.cs
    refine Bool.eq_false_iff.mpr fun q => ?_
    have z : C = tp := Value.ref.inj (beq_iff_eq.mp q)
    subst z
    unfold clsIn at hc
    split at hc
    · rename_i c' d' cd' sl' ho
      have z := (X _ _ ho).symm.trans htp
      cases z
    · cases hc
  ca := fun X ⟨_, I⟩ k => xclass U X I k
end
theorem exO_inst {P : Program} {w : World} {H : Hp} {h : Heap} {e C : Addr} (ok : HOk P w H h) (q : H e = some (exO (.ref C) none e)) : ∃ oe, InstAt h e oe C none := by
  obtain ⟨⟨oe, vs, he, hC, hdd, hd⟩, _⟩ := ok e _ q
  refine ⟨oe, he, hC, ?_, ?_⟩
  · obtain ⟨a, b, c, d⟩ := oe
    have hd' : c = .fields vs := hd
    subst hd'
    rfl
  · rw [hdd]
    trivial
section
variable {X : Cx}
def rIsiX (K : Frag) : List V → Hp → VK → Prop := fun xs H Q => ∃ e c cv C b, xs = [.ref e, c] ∧ ClsV c cv ∧ H e = some (exO (.ref C) none e) ∧ XAsk K C ∧ kitOne K (.ref C) cv = some b ∧ Q (.bl b) H
theorem call_isiX : CallR X (.builtin "isinstance") (rIsiX X.K) := by
  unfold CallR at *
  exact by
    intro pins s σ H xs us Q I rv h
    obtain ⟨e, c, cv, C, b, rfl, hc, he, U, k, q⟩ := h
    obtain ⟨u, cu, rfl, ru, rc⟩ := rv.two
    have ec : cu = cv := by cases hc <;> exact rc
    subst ec
    cases (show u = Value.ref e from ru)
    exact kia_one (kitx_exc U) I.kIn (exO_inst I.hok he) k (fun z => nomatch z) fun tk => ⟨.bl b, H, I.tok tk, rfl, q⟩
def rIsiA (K : Frag) : List V → Hp → VK → Prop := fun xs H Q => rIsi K xs H Q ∨ rIsiX K xs H Q
theorem call_isiA : CallR X (.builtin "isinstance") (rIsiA X.K) := by
  first
  | exact (call_isi.or call_isiX)
  | (unfold CallR at *; exact (call_isi.or call_isiX))
end
end L2
namespace L2
open PySem PySem.Spec PyProof.Rows
theorem bt_len : bootBuiltins "len" = some (.builtin "len") := by decide +kernel
theorem bt_isinstance : bootBuiltins "isinstance" = some (.builtin "isinstance") := by decide +kernel
theorem bt_int : bootBuiltins "int" = some (.type "int") := by decide +kernel
theorem bt_bool : bootBuiltins "bool" = some (.type "bool") := by decide +kernel
theorem bt_str : bootBuiltins "str" = some (.type "str") := by decide +kernel
theorem bt_ValueError : bootBuiltins "ValueError" = some (.type "ValueError") := by decide +kernel
theorem rel_int {n : Int} {t : Tok} : RelV (.int n) (.int n t) := ⟨_, rfl⟩
theorem rel_str {n : Str} {t : Tok} : RelV (.str n) (.str n t) := ⟨_, rfl⟩
theorem Same.new {H : Hp} {p : Addr} {o : HO} (h : H p = none) : Same H (upd H p o) := fun b u q => by
  rw [upd_ne (ne_of_none q h)]
  exact q
theorem atI_in {α : Type} {xs : List α} {i : Int} (h0 : 0 ≤ i) (h1 : i < xs.length) : ∃ v, atI xs i = some v ∧ v ∈ xs := by
  have e : ((i.toNat : Nat) : Int) = i := Int.toNat_of_nonneg h0
  have hl : i.toNat < xs.length := by omega
  refine ⟨xs[i.toNat], ?_, List.getElem_mem hl⟩
  have q := atI_nat (xs := xs) (List.getElem?_eq_getElem hl)
  rw [e] at q
  exact q
theorem TyOf.same {K : PySem.W.Frag} {H H' : Hp} {x : V} {t : Value} (e : Same H H') (h : TyOf K H x t) : TyOf K H' x t := by
  cases h with
  | non => exact .non
  | bl b => exact .bl b
  | int i => exact .int i
  | str x => exact .str x
  | flt x => exact .flt x
  | lst q => exact .lst (e _ _ q)
  | frz q => exact .frz (e _ _ q)
  | tup q => exact .tup (e _ _ q)
  | dK q => exact .dK (e _ _ q)
  | dT q => exact .dT (e _ _ q)
  | ins q a b c d f => exact .ins (e _ _ q) a b c d f
def Own (K : PySem.W.Frag) (H : Hp) (x : V) : Prop := ∃ n, TyOf K H x (.type n)
theorem Own.same {K : PySem.W.Frag} {H H' : Hp} {x : V} (e : Same H H') (h : Own K H x) : Own K H' x := let ⟨n, t⟩ := h; ⟨n, t.same e⟩
theorem Own.non {K : PySem.W.Frag} {H : Hp} : Own K H .non := ⟨_, .non⟩
theorem Own.bl {K : PySem.W.Frag} {H : Hp} {b : Bool} : Own K H (.bl b) := ⟨_, .bl b⟩
theorem Own.int {K : PySem.W.Frag} {H : Hp} {i : Int} : Own K H (.int i) := ⟨_, .int i⟩
theorem Own.str {K : PySem.W.Frag} {H : Hp} {x : Str} : Own K H (.str x) := ⟨_, .str x⟩
theorem Own.lst {K : PySem.W.Frag} {H : Hp} {a : Addr} {xs : List V} (h : H a = some (.lst xs)) : Own K H (.ref a) := ⟨_, .lst h⟩
theorem Own.tup {K : PySem.W.Frag} {H : Hp} {a : Addr} {xs : List V} (h : H a = some (.tup xs)) : Own K H (.ref a) := ⟨_, .tup h⟩
theorem Own.dK {K : PySem.W.Frag} {H : Hp} {a : Addr} {xs : List (Key × V)} (h : H a = some (.dK xs)) : Own K H (.ref a) := ⟨_, .dK h⟩
def isInt : V → Bool
  | .int _ => true
  | .bl _ => true
  | _ => false
def isBool : V → Bool
  | .bl _ => true
  | _ => false
def isStr : V → Bool
  | .str _ => true
  | _ => false
theorem kit_int {K : PySem.W.Frag} {H : Hp} {x : V} {n : String} (ty : TyOf K H x (.type n)) : PySem.W.kitOne K (.type n) (.type "int") = some (isInt x) := by
  cases ty <;> rfl
theorem kit_bool {K : PySem.W.Frag} {H : Hp} {x : V} {n : String} (ty : TyOf K H x (.type n)) : PySem.W.kitOne K (.type n) (.type "bool") = some (isBool x) := by
  cases ty <;> rfl
theorem kit_str {K : PySem.W.Frag} {H : Hp} {x : V} {n : String} (ty : TyOf K H x (.type n)) : PySem.W.kitOne K (.type n) (.type "str") = some (isStr x) := by
  cases ty <;> rfl
theorem rIsiA.own {K : PySem.W.Frag} {H : Hp} {x : V} {c : String} {Q : VK} {b : Bool} (h : Own K H x) (k : ∀ n, TyOf K H x (.type n) → PySem.W.kitOne K (.type n) (.type c) = some b) (q : Q (.bl b) H) : rIsiA K [x, .ty c] H Q := by
  obtain ⟨n, t⟩ := h
  exact .inl ⟨x, .ty c, _, _, _, rfl, .ty c, t, k n t, q⟩
theorem rIsiA.int {K : PySem.W.Frag} {H : Hp} {x : V} {Q : VK} (h : Own K H x) (q : Q (.bl (isInt x)) H) : rIsiA K [x, .ty "int"] H Q := rIsiA.own h (fun _ => kit_int) q
theorem rIsiA.bool {K : PySem.W.Frag} {H : Hp} {x : V} {Q : VK} (h : Own K H x) (q : Q (.bl (isBool x)) H) : rIsiA K [x, .ty "bool"] H Q := rIsiA.own h (fun _ => kit_bool) q
theorem rIsiA.str {K : PySem.W.Frag} {H : Hp} {x : V} {Q : VK} (h : Own K H x) (q : Q (.bl (isStr x)) H) : rIsiA K [x, .ty "str"] H Q := rIsiA.own h (fun _ => kit_str) q
theorem le_ble {a b : Nat} (h : Nat.ble a b = true) : a ≤ b := Nat.le_of_ble_eq_true h
end L2
namespace L2
open PySem PySem.Spec PyProof.Rows
section
variable {X : Cx} {pins : List (Addr × Obj)} {σ : St} {H H' : Hp} {s : Shared} {h' : Heap}
end
def Nx (n i : Nat) (P : Prop) : Prop := ∃ m', m' < n - i ∧ m' = n - (i + 1) ∧ i + 1 ≤ n ∧ P
theorem Nx.mk {n i : Nat} {P : Prop} (hi : i < n) (p : P) : Nx n i P := ⟨n - (i + 1), by omega, rfl, hi, p⟩
theorem loop_by {J : It} {l : Addr} {g : TG} {tc : TT} {te : TE} {σ : St} {H : Hp} {Q : VK} (n : Nat) (Pv : Nat → St → List V → Hp → Prop) (hsz : n ≤ sizeLine) (h0 : Pv 0 σ [] H)
    (hl : ∀ i σ acc H, i ≤ n → Pv i σ acc H → H l = some (.lst acc) ∧ acc.length ≤ i)
    (hgo : ∀ i σ acc H, i < n → Pv i σ acc H → J.go i H)
    (hs : ∀ i x σ acc H H', i < n → Pv i σ acc H → J.yld i H x H' → g x σ H' fun σ2 H2 => tc σ2 H2 fun b H3 => if b = true then
      te σ2 H3 fun v H4 => H4 l = some (.lst acc) ∧ Nx n i (Pv (i + 1) σ2 (acc ++ [v]) (upd H4 l (.lst (acc ++ [v])))) else Nx n i (Pv (i + 1) σ2 acc H3))
    (hd : ∀ σ acc H, Pv n σ acc H → J.stop n H ∧ Q (.ref l) H) : tLoop J l g tc te σ H Q := by
  refine ⟨fun i m σ acc H => m = n - i ∧ i ≤ n ∧ Pv i σ acc H, ⟨n, by simp, Nat.zero_le _, h0⟩, ?_⟩
  rintro i m σ acc H ⟨rfl, hi, p⟩
  obtain ⟨q1, q2⟩ := hl i σ acc H hi p
  refine ⟨q1, ?_⟩
  by_cases hlt : i < n
  · exact .inr ⟨hgo i σ acc H hlt p, by omega, fun x H' y => hs i x σ acc H H' hlt p y⟩
  · have e : i = n := by omega
    subst e
    exact .inl (hd σ acc H p)
end L2
namespace L2
open PySem PySem.Spec PyProof.Rows
section
variable {X : Cx}
end
inductive SeqEq (K : PySem.W.Frag) (H : Hp) (R : V → V → Bool → Prop) : V → V → Bool → Prop where
  | list {a b : Addr} {xs ys : List V} {e : Nat → Bool} (ha : SqL K H a xs) (hb : SqL K H b ys) (hl : xs.length = ys.length) (he : ∀ i x y, xs[i]? = some x → ys[i]? = some y → R x y (e i)) : SeqEq K H R (.ref a) (.ref b) ((List.range xs.length).all e)
  | listN {a b : Addr} {xs ys : List V} (ha : SqL K H a xs) (hb : SqL K H b ys) (hl : xs.length ≠ ys.length) : SeqEq K H R (.ref a) (.ref b) false
  | tup {a b : Addr} {xs ys : List V} {e : Nat → Bool} (ha : SqT K H a xs) (hb : SqT K H b ys) (he : ∀ i x y, xs[i]? = some x → ys[i]? = some y → R x y (e i)) : SeqEq K H R (.ref a) (.ref b) ((List.range (min xs.length ys.length)).all e && xs.length == ys.length)
def EqD (K : PySem.W.Frag) (H : Hp) : Nat → V → V → Bool → Prop
  | 0, x, y, b => (flatV x = true ∧ flatV y = true ∧ b = eqV x y) ∨ ∃ a, x = .ref a ∧ y = .ref a ∧ b = true
  | n + 1, x, y, b => ((flatV x = true ∧ flatV y = true ∧ b = eqV x y) ∨ ∃ a, x = .ref a ∧ y = .ref a ∧ b = true) ∨ SeqEq K H (EqD K H n) x y b
theorem eqV_self {x : V} (h : flatV x = true) : eqV x x = true := by
  cases x <;> simp_all [flatV, eqV]
section
variable {X : Cx} {pins : List (Addr × Obj)} {σ : St} {H : Hp} {s : Shared}
theorem all_range {n : Nat} {e : Nat → Bool} (h : ∀ i, i < n → e i = true) : (List.range n).all e = true := by
  rw [List.all_eq_true]
  exact fun i hi => h i (List.mem_range.mp hi)
theorem EqD.self (I : Inv X pins σ H s) : ∀ {n : Nat} {x : V} {b : Bool}, EqD X.K H n x x b → b = true := by
  intro n
  induction n with
  | zero =>
    intro x b h
    rcases h with ⟨h1, _, h2⟩ | ⟨_, _, _, h⟩
    · rw [h2]; exact eqV_self h1
    · exact h
  | succ n ih =>
    intro x b h
    rcases h with (⟨h1, _, h2⟩ | ⟨_, _, _, h⟩) | h
    · rw [h2]; exact eqV_self h1
    · exact h
    · cases h with
      | @list a _ xs ys e ha hb hl he =>
        have q := I.list_inj ha hb
        subst q
        exact all_range fun i hi => ih (he i xs[i] xs[i] (by simp [hi]) (by simp [hi]))
      | listN ha hb hl => exact absurd (congrArg List.length (I.list_inj ha hb)) hl
      | @tup a _ xs ys e ha hb he =>
        have q := I.tuple_inj ha hb
        subst q
        rw [Nat.min_self, all_range fun i hi => ih (he i xs[i] xs[i] (by simp [hi]) (by simp [hi]))]
        simp
theorem SeqEq.rc {A : Around} {R : V → V → Bool → Prop} {x y : V} {b : Bool} {u v : Value} (I : Inv X pins σ H s) (h : SeqEq X.K H R x y b) (rx : RelV x u) (ry : RelV y v) (hu : A.units < cLine)
    (hR : ∀ x y b u v, R x y b → RelV x u → RelV y v → SeqAt.EqAt A.in1 s u v b) : SeqAt.RcAt A s u v b := by
  cases h with
  | @list a c xs ys e ha hb hl he =>
    cases rx; cases ry
    obtain ⟨its, r1, p1, z1⟩ := I.list ha
    obtain ⟨jts, r2, p2, z2⟩ := I.list hb
    have l1 := r1.length
    have l2 := r2.length
    have q := SeqAt.RcAt.lists (A := A) (s := s) (e := e) p1.isList p2.isList (by simp only [List.size_toArray]; omega) hu fun j h1 h2 => ?_
    · rw [List.size_toArray, ← l1] at q
      exact q
    · simp only [List.size_toArray] at h1 h2
      have g1 : xs[j]? = some xs[j] := by simp
      have g2 : ys[j]? = some ys[j] := by simp
      obtain ⟨w1, k1, rr1⟩ := r1.get g1
      obtain ⟨w2, k2, rr2⟩ := r2.get g2
      have e1 : its.toArray[j] = w1 := by
        have := List.getElem?_eq_some_iff.mp k1
        obtain ⟨_, this⟩ := this
        simpa using this
      have e2 : jts.toArray[j] = w2 := by
        have := List.getElem?_eq_some_iff.mp k2
        obtain ⟨_, this⟩ := this
        simpa using this
      rw [e1, e2]
      exact hR _ _ _ _ _ (he j _ _ g1 g2) rr1 rr2
  | @listN a c xs ys ha hb hl =>
    cases rx; cases ry
    obtain ⟨its, r1, p1, z1⟩ := I.list ha
    obtain ⟨jts, r2, p2, z2⟩ := I.list hb
    have l1 := r1.length
    have l2 := r2.length
    exact SeqAt.RcAt.lists_lengths p1.isList p2.isList (by simp only [List.size_toArray, bne_iff_ne]; omega) hu
  | @tup a c xs ys e ha hb he =>
    cases rx; cases ry
    obtain ⟨its, r1, p1, z1⟩ := I.tuple ha
    obtain ⟨jts, r2, p2, z2⟩ := I.tuple hb
    have l1 := r1.length
    have l2 := r2.length
    have q := SeqAt.RcAt.tuples (A := A) (s := s) (e := e) p1 p2 hu fun j h1 h2 => ?_
    · rw [List.size_toArray, List.size_toArray, ← l1, ← l2] at q
      exact q
    · simp only [List.size_toArray] at h1 h2
      have g1 : xs[j]? = some xs[j] := by simp
      have g2 : ys[j]? = some ys[j] := by simp
      obtain ⟨w1, k1, rr1⟩ := r1.get g1
      obtain ⟨w2, k2, rr2⟩ := r2.get g2
      have e1 : its.toArray[j] = w1 := by
        have := List.getElem?_eq_some_iff.mp k1
        obtain ⟨_, this⟩ := this
        simpa using this
      have e2 : jts.toArray[j] = w2 := by
        have := List.getElem?_eq_some_iff.mp k2
        obtain ⟨_, this⟩ := this
        simpa using this
      rw [e1, e2]
      exact hR _ _ _ _ _ (he j _ _ g1 g2) rr1 rr2
theorem SeqEq.rcNe {A : Around} {R : V → V → Bool → Prop} {x y : V} {b : Bool} {u v : Value} (I : Inv X pins σ H s) (h : SeqEq X.K H R x y b) (rx : RelV x u) (ry : RelV y v) (hu : A.units < cLine)
    (hR : ∀ x y b u v, R x y b → RelV x u → RelV y v → SeqAt.EqAt A.in1 s u v b) : SeqAt.RcNeAt A s u v (!b) := by
  cases h with
  | @list a c xs ys e ha hb hl he =>
    cases rx; cases ry
    obtain ⟨its, r1, p1, z1⟩ := I.list ha
    obtain ⟨jts, r2, p2, z2⟩ := I.list hb
    have l1 := r1.length
    have l2 := r2.length
    have q := SeqAt.RcNeAt.lists (A := A) (s := s) (e := e) p1.isList p2.isList (by simp only [List.size_toArray]; omega) hu fun j h1 h2 => ?_
    · rw [List.size_toArray, ← l1] at q
      exact q
    · simp only [List.size_toArray] at h1 h2
      have g1 : xs[j]? = some xs[j] := by simp
      have g2 : ys[j]? = some ys[j] := by simp
      obtain ⟨w1, k1, rr1⟩ := r1.get g1
      obtain ⟨w2, k2, rr2⟩ := r2.get g2
      have e1 : its.toArray[j] = w1 := by
        have := List.getElem?_eq_some_iff.mp k1
        obtain ⟨_, this⟩ := this
        simpa using this
      have e2 : jts.toArray[j] = w2 := by
        have := List.getElem?_eq_some_iff.mp k2
        obtain ⟨_, this⟩ := this
        simpa using this
      rw [e1, e2]
      exact hR _ _ _ _ _ (he j _ _ g1 g2) rr1 rr2
  | @listN a c xs ys ha hb hl =>
    cases rx; cases ry
    obtain ⟨its, r1, p1, z1⟩ := I.list ha
    obtain ⟨jts, r2, p2, z2⟩ := I.list hb
    have l1 := r1.length
    have l2 := r2.length
    exact SeqAt.RcNeAt.lists_lengths p1.isList p2.isList (by simp only [List.size_toArray, bne_iff_ne]; omega) hu
  | @tup a c xs ys e ha hb he =>
    cases rx; cases ry
    obtain ⟨its, r1, p1, z1⟩ := I.tuple ha
    obtain ⟨jts, r2, p2, z2⟩ := I.tuple hb
    have l1 := r1.length
    have l2 := r2.length
    have q := SeqAt.RcNeAt.tuples (A := A) (s := s) (e := e) p1 p2 hu fun j h1 h2 => ?_
    · rw [List.size_toArray, List.size_toArray, ← l1, ← l2] at q
      exact q
    · simp only [List.size_toArray] at h1 h2
      have g1 : xs[j]? = some xs[j] := by simp
      have g2 : ys[j]? = some ys[j] := by simp
      obtain ⟨w1, k1, rr1⟩ := r1.get g1
      obtain ⟨w2, k2, rr2⟩ := r2.get g2
      have e1 : its.toArray[j] = w1 := by
        have := List.getElem?_eq_some_iff.mp k1
        obtain ⟨_, this⟩ := this
        simpa using this
      have e2 : jts.toArray[j] = w2 := by
        have := List.getElem?_eq_some_iff.mp k2
        obtain ⟨_, this⟩ := this
        simpa using this
      rw [e1, e2]
      exact hR _ _ _ _ _ (he j _ _ g1 g2) rr1 rr2
theorem EqD.at (I : Inv X pins σ H s) : ∀ (n : Nat) (A : Around) (x y : V) (b : Bool) (u v : Value), A.units + n < cLine → EqD X.K H n x y b → RelV x u → RelV y v → SeqAt.EqAt A s u v b := by
  intro n
  induction n with
  | zero =>
    intro A x y b u v hu h rx ry
    rcases h with ⟨h1, h2, rfl⟩ | ⟨a, rfl, rfl, rfl⟩
    · exact eqAt_V rx ry h1 h2
    · cases rx; cases ry
      exact SeqAt.EqAt.same _
  | succ n ih =>
    intro A x y b u v hu h rx ry
    rcases h with (⟨h1, h2, rfl⟩ | ⟨a, rfl, rfl, rfl⟩) | h
    · exact eqAt_V rx ry h1 h2
    · cases rx; cases ry
      exact SeqAt.EqAt.same _
    · have rc := SeqEq.rc (A := A) I h rx ry (by omega) fun x y b u v hd r1 r2 => ih A.in1 x y b u v (by show A.units + 1 + n < cLine; omega) hd r1 r2
      have refs : ∃ a c, x = .ref a ∧ y = .ref c := by cases h <;> exact ⟨_, _, rfl, rfl⟩
      obtain ⟨a, c, rfl, rfl⟩ := refs
      cases rx; cases ry
      by_cases hac : a = c
      · subst hac
        have hb : b = true := EqD.self (n := n + 1) I (.inr h)
        subst hb
        exact SeqAt.EqAt.same _
      · exact SeqAt.EqAt.of_refs hac rc
def rEqD (K : PySem.W.Frag) (neg : Bool) : R2 := fun x y H Q => ∃ n b, n ≤ 60 ∧ SeqEq K H (EqD K H n) x y b ∧ Q (.bl (if neg then !b else b)) H
theorem op_eqD (hu : X.A.units + 62 < cLine) : OpR X (compareOp .Eq) (rEqD X.K false) := by
  unfold OpR at *
  exact by
    intro pins s σ H x y v u Q I rx ry h
    obtain ⟨n, b, hn, he, q⟩ := h
    exact SeqEq.rc (A := X.A) I he rx ry (by omega) (fun x y b u v hd r1 r2 => EqD.at I n X.A.in1 x y b u v (by show X.A.units + 1 + n < cLine; omega) hd r1 r2) X.prog X.w _ _ (fin_bl I q rfl)
theorem op_neD (hu : X.A.units + 62 < cLine) : OpR X (compareOp .NotEq) (rEqD X.K true) := by
  unfold OpR at *
  exact by
    intro pins s σ H x y v u Q I rx ry h
    obtain ⟨n, b, hn, he, q⟩ := h
    exact SeqEq.rcNe (A := X.A) I he rx ry (by omega) (fun x y b u v hd r1 r2 => EqD.at I n X.A.in1 x y b u v (by show X.A.units + 1 + n < cLine; omega) hd r1 r2) X.prog X.w _ _ (fin_bl I q rfl)
def eqL : List V → List V → Bool
  | [], [] => true
  | x :: xs, y :: ys => eqV x y && eqL xs ys
  | _, _ => false
end
theorem eqL_range : ∀ {xs ys : List V}, xs.length = ys.length → (List.range xs.length).all (fun i => eqV (xs.getD i .non) (ys.getD i .non)) = eqL xs ys
  | [], [], _ => rfl
  | x :: xs, y :: ys, h => by
    have h' : xs.length = ys.length := by simpa using h
    rw [List.length_cons, List.range_succ_eq_map, List.all_cons, List.all_map, eqL, ← eqL_range h']
    rfl
  | [], _ :: _, h => by simp at h
  | _ :: _, [], h => by simp at h
theorem eqL_len : ∀ {xs ys : List V}, xs.length ≠ ys.length → eqL xs ys = false
  | [], [], h => absurd rfl h
  | x :: xs, y :: ys, h => by
    rw [eqL, eqL_len (xs := xs) (ys := ys) (by simpa using h), Bool.and_false]
  | [], _ :: _, _ => rfl
  | _ :: _, [], _ => rfl
theorem SeqEq.flatL {K : PySem.W.Frag} {H : Hp} {n : Nat} {a b : Addr} {xs ys : List V} (ha : SqL K H a xs) (hb : SqL K H b ys) (fx : xs.all flatV = true) (fy : ys.all flatV = true) : SeqEq K H (EqD K H n) (.ref a) (.ref b) (eqL xs ys) := by
  by_cases hl : xs.length = ys.length
  · rw [← eqL_range hl]
    refine .list ha hb hl fun i x y hx hy => ?_
    have q : (flatV x = true ∧ flatV y = true ∧ eqV (xs.getD i .non) (ys.getD i .non) = eqV x y) := by
      refine ⟨List.all_eq_true.mp fx x (List.mem_of_getElem? hx), List.all_eq_true.mp fy y (List.mem_of_getElem? hy), ?_⟩
      rw [List.getD_eq_getElem?_getD, List.getD_eq_getElem?_getD, hx, hy]
      rfl
    cases n with
    | zero => exact .inl q
    | succ n => exact .inl (.inl q)
  · rw [eqL_len hl]
    exact .listN ha hb hl
theorem SeqEq.flatT {K : PySem.W.Frag} {H : Hp} {n : Nat} {a b : Addr} {xs ys : List V} (ha : SqT K H a xs) (hb : SqT K H b ys) (hl : xs.length = ys.length) (fx : xs.all flatV = true) (fy : ys.all flatV = true) : SeqEq K H (EqD K H n) (.ref a) (.ref b) (eqL xs ys) := by
  have q := SeqEq.tup (K := K) (H := H) (R := EqD K H n) (e := fun i => eqV (xs.getD i .non) (ys.getD i .non)) ha hb fun i x y hx hy => ?_
  · rw [← hl, Nat.min_self, eqL_range hl] at q
    simpa using q
  · have q : (flatV x = true ∧ flatV y = true ∧ eqV (xs.getD i .non) (ys.getD i .non) = eqV x y) := by
      refine ⟨List.all_eq_true.mp fx x (List.mem_of_getElem? hx), List.all_eq_true.mp fy y (List.mem_of_getElem? hy), ?_⟩
      rw [List.getD_eq_getElem?_getD, List.getD_eq_getElem?_getD, hx, hy]
      rfl
    cases n with
    | zero => exact .inl q
    | succ n => exact .inl (.inl q)
end L2
namespace L2
open PySem PySem.Spec PyProof.Rows
theorem sqT_of {K : PySem.W.Frag} {H : Hp} {a : Addr} {o : Obj} {xs : List V} {its : Array Value} {n : Nat} (hk : K.lookup a = some o) (hc : o.cls = .type "tuple") (ho : o.data = .seq its n) (hz : its.size ≤ sizeLine) (hv : Vals xs its.toList) : SqT K H a xs :=
  .inr ⟨o, its, n, hk, hc, ho, hz, hv⟩
end L2
namespace L2
open PySem PySem.Spec PyProof.Rows
def strKeysB (es : Array DictEntry) : Bool := es.all fun e => match e.key with | .str _ _ => true | _ => false
theorem strKeys_of {es : Array DictEntry} (h : strKeysB es = true) : StrKeys es := by
  intro e he
  have q := Array.all_eq_true_iff_forall_mem.mp h e he
  split at q
  · rename_i n t hk
    exact ⟨n, t, hk⟩
  · cases q
theorem XCls.mk2 {K : PySem.W.Frag} {C N A : Addr} {nm q : Str} {bs : List Value} {hdct : Bool} {sn : List Str} {sub : List Value} {ab : Bool} {col : Option Bool} {dd : Option Addr} {k0 k1 k2 k3 k5 : Option Value} {es : Array DictEntry} {c d ep sl}
    {c0 : Value} {dd' : Option Addr} {cd : ClassData} {sl0 : Array (Option Value)} {es' : Array DictEntry} {c' d' ep' sl'}
    (l : K.lookup C = some (excClassObj nm q C N bs (.ref A :: vmro) hdct sn sub ab col dd k0 k1 k2 k3 k5 "ValueError.__new__")) (ln : K.lookup N = some ⟨c, d, .dict es ep, sl⟩) (sk : strKeysB es = true) (ni : nsFind es "__init__" = none)
    (la : K.lookup A = some { cls := c0, dict := dd', data := .cls cd, slots := sl0 }) (lna : K.lookup cd.ns = some ⟨c', d', .dict es' ep', sl'⟩) (ska : strKeysB es' = true) (nia : nsFind es' "__init__" = none) : XCls K C :=
  ⟨nm, q, N, bs, _, hdct, sn, sub, ab, col, dd, k0, k1, k2, k3, k5, es, l, ⟨c, d, ep, sl, ln, strKeys_of sk⟩, ni, .own la ⟨c', d', ep', sl', lna, strKeys_of ska⟩ nia .base⟩
theorem hu62 {A : Around} {k : Nat} (hr : Room k A) : A.units + 62 < cLine := by have := hr.un; omega
theorem rIsiA.exc {K : PySem.W.Frag} {H : Hp} {e C c : Addr} {b : Bool} {Q : VK} (h : H e = some (exO (.ref C) none e)) (q : XAsk K C) (k : PySem.W.kitOne K (.ref C) (.ref c) = some b) (hQ : Q (.bl b) H) : rIsiA K [.ref e, .ref c] H Q :=
  .inr ⟨e, .ref c, .ref c, C, b, rfl, .own c, h, q, k, hQ⟩
theorem rIsiA.excT {K : PySem.W.Frag} {H : Hp} {e C : Addr} {c : String} {b : Bool} {Q : VK} (h : H e = some (exO (.ref C) none e)) (q : XAsk K C) (k : PySem.W.kitOne K (.ref C) (.type c) = some b) (hQ : Q (.bl b) H) : rIsiA K [.ref e, .ty c] H Q :=
  .inr ⟨e, .ty c, .type c, C, b, rfl, .ty c, h, q, k, hQ⟩
theorem passE0 {P : Program} {w : World} {X : Cx} : PassesS (CXx P w) X (fun _ => E0) := by
  intro pins σ H s e s' I h
  obtain ⟨_, _, _, _, _, _, _, _, _, _, _, _, _, _, _, _, _, h⟩ := h
  exact h.elim
end L2
namespace L2
open PySem PySem.Spec PyProof.Rows
structure FunD (K : PySem.W.Frag) (x qual : Str) (st : Stmt) (dV : Value) (f : Addr) (fd : FuncData) : Prop where
  ex : ∃ (oc : Value) (od : Option Addr) (kV doc pm : Value) (an : Option Addr) (cdv ct : Value) (osl : Array (Option Value)),
    fd = PySem.W.fnOf x qual (defArgs st) (defBody st) (defScope st) dV kV doc pm an cdv ct ∧ K.lookup f = some ⟨oc, od, .func fd, osl⟩ ∧ PySem.W.codeIn K cdv qual = true
  kp : PySem.W.keepIn K (.ref f) = true
theorem FunD.okx {P : Program} {w : World} {K : PySem.W.Frag} {mg : Str → Option Value} {base : Heap} {x qual : Str} {st : Stmt} {dV : Value} {f : Addr} {fd : FuncData} {N ps : List Str} {k : Nat} {sp : Sp} (F : FunD K x qual st dV f fd) (S : FnScope N ps (defScope st)) (len : ∀ vs H Q E, sp vs H Q E → vs.length = ps.length)
    (hbody : ∀ (cdv : Value) (A : Around) (outer : List Env) (s : Shared) (H : Hp) (vs : List V) (Q : VK) (E : XK), Room k (A.deeper (envOfC qual (defScope st) s.heap.objs.size f cdv)) → sp vs H Q E →
      ∃ t, PSs (cxOf (CXx P w) P w K mg base N qual (defScope st) f cdv A outer s H E) (defBody st) t ∧ t { nx := fun _ H' => Q .non H', rt := Q } (start N vs) H) : FnOk P w K mg base (CXx P w) (k + 1) f fd ps sp := by
  obtain ⟨oc, od, kV, doc, pm, an, cdv, ct, osl, rfl, lk, hcd⟩ := F.ex
  exact fn_of lk hcd S len fun A outer s H vs Q E hr hsp => hbody cdv A outer s H vs Q E hr hsp
theorem funD_mk {K : PySem.W.Frag} {x qual : Str} {st : Stmt} {dV : Value} {f : Addr} {oc : Value} {od an : Option Addr} {osl : Array (Option Value)} {kV doc pm cdv ct : Value} (l : K.lookup f = some ⟨oc, od, .func (PySem.W.fnOf x qual (defArgs st) (defBody st) (defScope st) dV kV doc pm an cdv ct), osl⟩)
    (hc : PySem.W.codeIn K cdv qual = true) (kp : PySem.W.keepIn K (.ref f) = true) : FunD K x qual st dV f (PySem.W.fnOf x qual (defArgs st) (defBody st) (defScope st) dV kV doc pm an cdv ct) := ⟨⟨oc, od, kV, doc, pm, an, cdv, ct, osl, rfl, l, hc⟩, kp⟩
structure MkBinds (K : PySem.W.Frag) (fd : FuncData) (ps ks : List Str) (na : Nat) (g : List Value → List Value → List Value) (gV : List V → List V → List V) : Prop where
  to : ∀ (s : Shared) (x : Value) (us ws : List Value), K.In s.heap → us.length = na → ws.length = ks.length → BindsTo s fd ⟨x :: us, ks.zip ws⟩ (ps.zip (x :: g us ws)) ∧ (x :: g us ws).length = ps.length
  rel : ∀ {vs : List V} {us : List Value} {zs : List V} {ws : List Value}, Vals vs us → Vals zs ws → Vals (gV vs zs) (g us ws)
theorem MkBinds.ofD {K : PySem.W.Frag} {x qual : Str} {st : Stmt} {T f : Addr} {fd : FuncData} {ps ks : List Str} {na : Nat} {g : List Value → List Value → List Value} {gV : List V → List V → List V} {o : Obj} {items : Array Value} {n : Nat}
    (F : FunD K x qual st (.ref T) f fd) (hT : K.lookup T = some o) (hs : o.data = .seq items n) (hrel : ∀ {vs : List V} {us : List Value} {zs : List V} {ws : List Value}, Vals vs us → Vals zs ws → Vals (gV vs zs) (g us ws))
    (h : ∀ (kV doc pm : Value) (an : Option Addr) (cdv ct : Value) (y : Value) (us ws : List Value), us.length = na → ws.length = ks.length →
      (∃ k, bindArgs (PySem.W.fnOf x qual (defArgs st) (defBody st) (defScope st) (.ref T) kV doc pm an cdv ct) ⟨y :: us, ks.zip ws⟩ = seqItems? (.ref T) >>= k ∧ k (some items) = pure (ps.zip (y :: g us ws))) ∧ (y :: g us ws).length = ps.length) : MkBinds K fd ps ks na g gV := by
  obtain ⟨oc, od, kV, doc, pm, an, cdv, ct, osl, rfl, lk, hcd⟩ := F.ex
  refine ⟨fun s y us ws X h1 h2 => ?_, hrel⟩
  obtain ⟨⟨k, e1, e2⟩, e3⟩ := h kV doc pm an cdv ct y us ws h1 h2
  exact ⟨.of_defaults rfl (X _ _ hT) hs e1 e2, e3⟩
def tMakeS (C : Addr) (sp : Sp) (na nk : Nat) (gV : List V → List V → List V) (Ez : St → XK) (t tk : TA) : TE := fun σ H Q => t σ H fun vs H1 => tk σ H1 fun zs H2 => vs.length = na ∧ zs.length = nk ∧
  ∀ x dx, H2 x = none → H2 dx = none → dx ≠ x → sp (.ref x :: gV vs zs) (upd (upd H2 dx (.own x)) x (.ins C dx [])) (fun v H3 => v = .non ∧ Q (.ref x) H3) (Ez σ)
section
variable {X : Cx} {CX : CXT} {k : Nat} {f C : Addr} {fd : FuncData} {ps ks : List Str} {sp : Sp} {Ez : St → XK} {x : Str} {p pos : Pos} {e : Expr} {es : List Expr} {kws : List Keyword} {t tk : TA} {na : Nat} {g : List Value → List Value → List Value} {gV : List V → List V → List V}
theorem run_makeS {pins : List (Addr × Obj)} {σ : St} {H : Hp} {s : Shared} {Q : VK} {us ws : List Value} {vs zs : List V} (M : Mk X.K C f) (F : FnOk X.prog X.w X.K X.mg X.base CX k f fd ps sp) (hr : Room (k + 1) X.A) (hb : MkBinds X.K fd ps ks na g gV)
    (hx : PassesS CX X Ez) (I : Inv X pins σ H s) (r : Vals vs us) (rz : Vals zs ws) (hna : vs.length = na) (hnk : zs.length = ks.length)
    (h : ∀ x dx, H x = none → H dx = none → dx ≠ x → sp (.ref x :: gV vs zs) (upd (upd H dx (.own x)) x (.ins C dx [])) (fun v H2 => v = .non ∧ Q (.ref x) H2) (Ez σ)) :
    wpAny (model X.prog X.w) X.A (call (.ref C) us (ks.zip ws)) (EP X pins σ Q) X.xe s := by
  have hq := h (s.heap.objs.size + 1) s.heap.objs.size (I.hok.fresh (Nat.le_succ _)) (I.hok.fresh (Nat.le_refl _)) (Nat.ne_of_lt (Nat.lt_succ_self _))
  have I2 := Inv.made (C := C) I
  have r2 : Vals (V.ref (s.heap.objs.size + 1) :: gV vs zs) (Value.ref (s.heap.objs.size + 1) :: g us ws) := .cons rfl (hb.rel r rz)
  obtain ⟨hto, hl⟩ := hb.to { s with heap := (s.heap.push PySem.W.emptyDict).push (PySem.W.instObj C s.heap.objs.size) } (Value.ref (s.heap.objs.size + 1)) us ws I2.kIn (by rw [← r.length]; exact hna) (by rw [← rz.length]; exact hnk)
  refine wpAny_call (make_map (f := f) I.kIn M.makes M.init (beq_iff_eq.mp M.fn) (codeAny_mono (F.run _ X.stack _ _ ⟨Value.ref (s.heap.objs.size + 1) :: us, ks.zip ws⟩ (Value.ref (s.heap.objs.size + 1) :: g us ws) _ _ (Ez σ) (hr.make C us (ks.zip ws))
    (I2.env0.make C us (ks.zip ws)) hto r2 hq) fun r s' hq' => ?_))
  cases r with
  | error e => exact hx pins σ _ _ e s' I2 hq'
  | ok fl =>
    cases fl with
    | ret u =>
      obtain ⟨v, H', I3, rv, ev, q3⟩ := I2.after hq'
      subst ev
      exact ⟨rv, ⟨V.ref (s.heap.objs.size + 1), H', I3, rfl, q3⟩⟩
    | next => exact False.elim hq'
    | brk => exact False.elim hq'
    | cont => exact False.elim hq'
theorem pe_makeS (M : Mk X.K C f) (F : FnOk X.prog X.w X.K X.mg X.base CX k f fd ps sp) (hr : Room (k + 1) X.A) (hg : Gl X x) (hm : X.mg x = some (.ref C)) (hb : MkBinds X.K fd ps ks na g gV) (hx : PassesS CX X Ez)
    (ha : PA X (e :: es) t) (hkw : PK X kws tk) (hall : (backToKw pos (keywordEach kws X.env)).all (·.1.isSome) = true := by rfl) (hks : (backToKw pos (keywordEach kws X.env)).filterMap (·.1) = ks := by rfl)
    (hdb : (x == ("__debug__" : Str)) = false := by decide) (he : starEach (e :: es) X.env = (false, eval e X.env) :: starEach es X.env := by rfl)
    (hpl : ((backTo pos (starEach (e :: es) X.env)).any (·.1) || (backToKw pos (keywordEach kws X.env)).any (·.1.isNone)) = false := by rfl) :
    PE X (.Call (.Name x p) (e :: es) kws pos) (tMakeS C sp na ks.length gV Ez t tk) := by
  unfold PE at *; unfold PA at *; unfold PK at *
  exact by
    intro pins s σ H Q I h
    refine wpAny_Call_Name_kw (ld_glob I hg hm ?_ hdb)
    refine PySem.W.callWith_KW (h₀ := X.base) I.ok.mod.kin M.kp hall (thn (ha pos pins s σ H _ I h) fun us s1 ⟨vs, H1, I1, r, q⟩ => ?_) hpl he
    refine thn (hkw pos pins s1 σ H1 _ I1 q) fun ws s2 ⟨zs, H2, I2, rz, hna, hnk, q2⟩ => ⟨I2.kIn, ?_⟩
    rw [hks]
    exact run_makeS M F hr hb hx I2 r rz hna hnk q2
end
theorem free_of {X : Cx} {scope : Scope} (l : List Str) (h : (scope.names.all fun y => match y.2 with | .free => l.contains y.1 | _ => true) = true) (hl : ∀ x ∈ l, X.env.kindOf x = some .cell ∨ X.env.kindOf x = some .free) :
    ∀ y ∈ scope.names, y.2 = .free → (X.env.kindOf y.1 = some .cell ∨ X.env.kindOf y.1 = some .free) := fun y hy e => by
  have q := List.all_eq_true.mp h y hy
  rw [e] at q
  exact hl _ (List.contains_iff_mem.mp q)
def tCut (t u : TS) : TS := fun D σ H => ∃ Mid : St → Hp → Prop, t { D with nx := Mid } σ H ∧ ∀ σ' H', Mid σ' H' → u D σ' H'
theorem pss_cut {X : Cx} {st : Stmt} {rest : List Stmt} {t u : TS} (h1 : PS X st t) (h2 : PSs X rest u) : PSs X (st :: rest) (tCut t u) := by
  unfold PS at *; unfold PSs at *
  exact by
    intro pins s σ H D I h
    obtain ⟨Mid, h, hm⟩ := h
    refine wpAny_execs_cons (thn (h1 pins s σ H { D with nx := Mid } I h) fun f s1 q => ?_)
    cases f with
    | next =>
      obtain ⟨σ', H', I', q⟩ := q
      exact h2 pins s1 σ' H' D I' (hm σ' H' q)
    | ret v => exact q
    | brk => exact q
    | cont => exact q
theorem lenS {α : Type} {n : Nat} : ∀ {us : List α}, us.length = n + 1 → ∃ a r, us = a :: r ∧ r.length = n
  | a :: r, h => ⟨a, r, rfl, by simpa using h⟩
theorem len0 {α : Type} : ∀ {us : List α}, us.length = 0 → us = []
  | [], _ => rfl
theorem fm_nil {α : Type} {p : α → Prop} : ∀ x ∈ ([] : List α), p x := fun _ h => nomatch h
theorem fm_cons {α : Type} {p : α → Prop} {a : α} {l : List α} (h : p a) (r : ∀ x ∈ l, p x) : ∀ x ∈ a :: l, p x := fun x hx => by
  rcases List.mem_cons.mp hx with e | e
  · subst e; exact h
  · exact r x e
theorem cap_of {X : Cx} {scope : Scope} {N' : List Str} {js : List (Option Nat)} (hl : js.length = N'.length)
    (h : ∀ p ∈ js.zip N', ∀ j, p.1 = some j → X.N[j]? = some p.2 ∧ scope.names.lookup p.2 = some .free ∧ (X.env.kindOf p.2 = some .cell ∨ X.env.kindOf p.2 = some .free)) : Cap X scope N' js :=
  ⟨hl, fun i j x h1 h2 => h (some j, x) (List.mem_of_getElem? (i := i) (by rw [List.getElem?_zip_eq_some]; exact ⟨h1, h2⟩)) j rfl⟩
end L2
namespace L2
open PySem PySem.Spec PyProof.Rows
section
variable {X : Cx}
end
end L2
namespace L2
open PySem PySem.Spec PyProof.Rows
section
variable {X : Cx}
end
structure CDivB (i j : Int) : Prop where
  lo : 0 < j
  hi : j < 2 ^ 200
theorem MtM.r {X : Cx} {id : String} {r : V → List V → Hp → VK → Prop} (h : MtM X id r) : MtR X id r := by
  first
  | exact (h)
  | (unfold MtR at *; unfold MtM at *; exact (h))
end L2
namespace L2
open PySem PySem.Spec PyProof.Rows
theorem loop_lst {K : PySem.W.Frag} {a l : Addr} {xs : List V} {g : TG} {tc : TT} {te : TE} {σ : St} {H : Hp} {Q : VK} (Pv : Nat → St → List V → Hp → Prop) (hsz : xs.length ≤ sizeLine) (h0 : Pv 0 σ [] H)
    (hl : ∀ i σ acc H, i ≤ xs.length → Pv i σ acc H → H l = some (.lst acc) ∧ SqL K H a xs ∧ acc.length ≤ i)
    (hs : ∀ i x σ acc H, xs[i]? = some x → Pv i σ acc H → g x σ H fun σ2 H2 => tc σ2 H2 fun b H3 => if b = true then
      te σ2 H3 fun v H4 => H4 l = some (.lst acc) ∧ Nx xs.length i (Pv (i + 1) σ2 (acc ++ [v]) (upd H4 l (.lst (acc ++ [v])))) else Nx xs.length i (Pv (i + 1) σ2 acc H3))
    (hd : ∀ σ acc H, Pv xs.length σ acc H → Q (.ref l) H) : tLoop (Itl K a) l g tc te σ H Q :=
  loop_by xs.length Pv hsz h0 (fun i σ acc H hi p => ⟨(hl i σ acc H hi p).1, (hl i σ acc H hi p).2.2⟩)
    (fun i σ acc H hi p => ⟨xs, xs[i], (hl i σ acc H (Nat.le_of_lt hi) p).2.1, List.getElem?_eq_getElem hi⟩)
    (fun i x σ acc H H' hi p y => by
      obtain ⟨e, y⟩ := y
      subst e
      exact hs i x σ acc _ (y xs (hl i σ acc _ (Nat.le_of_lt hi) p).2.1) p)
    (fun σ acc H p => ⟨⟨xs, (hl _ σ acc H (Nat.le_refl _) p).2.1, Nat.le_refl _⟩, hd σ acc H p⟩)
def Tr : Nat → Type
  | 0 => Int
  | n + 1 => List (Tr n)
abbrev ls {n : Nat} (ts : Tr (n + 1)) : List (Tr n) := ts
abbrev Ow := Addr → Option (List Nat)
def AtR (H : Hp) : (n : Nat) → V → Tr n → Prop
  | 0, v, i => v = .int i
  | n + 1, v, ts => ∃ a vs, v = .ref a ∧ H a = some (.lst vs) ∧ vs.length = (ls ts).length ∧ ∀ (j : Nat) w t, vs[j]? = some w → (ls ts)[j]? = some t → AtR H n w t
def At (o : Ow) (H : Hp) : (n : Nat) → List Nat → V → Tr n → Prop
  | 0, _, v, i => v = .int i
  | n + 1, p, v, ts => ∃ a vs, v = .ref a ∧ o a = some p ∧ H a = some (.lst vs) ∧ vs.length = (ls ts).length ∧ ∀ (j : Nat) w t, vs[j]? = some w → (ls ts)[j]? = some t → At o H n (j :: p) w t
theorem At.r {o : Ow} {H : Hp} : ∀ {n : Nat} {p : List Nat} {v : V} {t : Tr n}, At o H n p v t → AtR H n v t
  | 0, _, _, _, h => h
  | n + 1, _, _, _, ⟨a, vs, e, _, h, l, k⟩ => ⟨a, vs, e, h, l, fun j w t hw ht => (k j w t hw ht).r⟩
theorem AtR.keep {H H' : Hp} (s : ∀ a xs, H a = some (.lst xs) → H' a = some (.lst xs)) : ∀ {n : Nat} {v : V} {t : Tr n}, AtR H n v t → AtR H' n v t
  | 0, _, _, h => h
  | n + 1, _, _, ⟨a, vs, e, h, l, k⟩ => ⟨a, vs, e, s _ _ h, l, fun j w t hw ht => (k j w t hw ht).keep s⟩
theorem AtR.same {H H' : Hp} (s : Same H H') {n : Nat} {v : V} {t : Tr n} (h : AtR H n v t) : AtR H' n v t := h.keep fun a xs e => s a _ e
theorem At.frame {o o' : Ow} {H H' : Hp} : ∀ {n : Nat} {p : List Nat} {v : V} {t : Tr n}, At o H n p v t → (∀ a r xs, o a = some r → p <:+ r → H a = some (.lst xs) → H' a = some (.lst xs) ∧ o' a = some r) → At o' H' n p v t
  | 0, _, _, _, h, _ => h
  | n + 1, p, _, _, ⟨a, vs, e, ho, h, l, k⟩, f =>
    have q := f a p vs ho (List.suffix_refl p) h
    ⟨a, vs, e, q.2, q.1, l, fun j w t hw ht => (k j w t hw ht).frame fun b r xs hb hs hx => f b r xs hb ((List.suffix_cons j p).trans hs) hx⟩
theorem At.under {o : Ow} {H : Hp} (q : List Nat) : ∀ {n : Nat} {p : List Nat} {v : V} {t : Tr n}, At o H n p v t → At (fun a => (o a).map (· ++ q)) H n (p ++ q) v t
  | 0, _, _, _, h => h
  | n + 1, p, _, _, ⟨a, vs, e, ho, h, l, k⟩ => ⟨a, vs, e, (by show (o a).map (· ++ q) = _; rw [ho]; rfl), h, l, fun j w t hw ht => (k j w t hw ht).under q⟩
theorem At.lst {o : Ow} {H : Hp} {n : Nat} {p : List Nat} {v : V} {ts : Tr (n + 1)} (h : At o H (n + 1) p v ts) : ∃ a vs, v = .ref a ∧ o a = some p ∧ H a = some (.lst vs) ∧ vs.length = (ls ts).length :=
  let ⟨a, vs, e, ho, h, l, _⟩ := h
  ⟨a, vs, e, ho, h, l⟩
theorem At.kid {o : Ow} {H : Hp} {n : Nat} {p : List Nat} {a : Addr} {ts : Tr (n + 1)} {vs : List V} {j : Nat} (h : At o H (n + 1) p (.ref a) ts) (hv : H a = some (.lst vs)) (hj : j < vs.length) : ∃ w t, vs[j]? = some w ∧ (ls ts)[j]? = some t ∧ At o H n (j :: p) w t := by
  obtain ⟨a', vs', ea, ho', h', l, k⟩ := h
  cases ea
  rw [hv] at h'
  cases h'
  have h1 : vs[j]? = some vs[j] := List.getElem?_eq_getElem hj
  have hj' : j < (ls ts).length := by omega
  have h2 : (ls ts)[j]? = some (ls ts)[j] := List.getElem?_eq_getElem hj'
  exact ⟨_, _, h1, h2, k j _ _ h1 h2⟩
theorem AtR.kid {H : Hp} {n : Nat} {a : Addr} {ts : Tr (n + 1)} {vs : List V} {j : Nat} (h : AtR H (n + 1) (.ref a) ts) (hv : H a = some (.lst vs)) (hj : j < vs.length) : ∃ w t, vs[j]? = some w ∧ (ls ts)[j]? = some t ∧ AtR H n w t := by
  obtain ⟨a', vs', ea, h', l, k⟩ := h
  cases ea
  rw [hv] at h'
  cases h'
  have h1 : vs[j]? = some vs[j] := List.getElem?_eq_getElem hj
  have hj' : j < (ls ts).length := by omega
  have h2 : (ls ts)[j]? = some (ls ts)[j] := List.getElem?_eq_getElem hj'
  exact ⟨_, _, h1, h2, k j _ _ h1 h2⟩
theorem AtR.lst {H : Hp} {n : Nat} {v : V} {ts : Tr (n + 1)} (h : AtR H (n + 1) v ts) : ∃ a vs, v = .ref a ∧ H a = some (.lst vs) ∧ vs.length = (ls ts).length :=
  let ⟨a, vs, e, h, l, _⟩ := h
  ⟨a, vs, e, h, l⟩
def New (H H' : Hp) (n : Nat) (w : V) (t : Tr n) : Prop := ∃ o, At o H' n [] w t ∧ ∀ a r, o a = some r → H a = none ∧ H' a ≠ none
def NewL (H H' : Hp) (l : Addr) (n : Nat) (ws : List V) (ts : List (Tr n)) : Prop :=
  ws.length = ts.length ∧ ∃ o : Ow, (∀ (j : Nat) w t, ws[j]? = some w → ts[j]? = some t → At o H' n [j] w t) ∧ ∀ a r, o a = some r → H a = none ∧ H' a ≠ none ∧ a ≠ l ∧ r ≠ []
theorem New.r {H H' : Hp} {n : Nat} {w : V} {t : Tr n} (h : New H H' n w t) : AtR H' n w t := let ⟨_, h, _⟩ := h; h.r
theorem NewL.nil {H H' : Hp} {l : Addr} {n : Nat} : NewL H H' l n [] [] := ⟨rfl, fun _ => none, fun j w t h => (by rw [List.getElem?_nil] at h; cases h), fun a r h => nomatch h⟩
theorem NewL.frame {H H' H'' : Hp} {l : Addr} {n : Nat} {ws : List V} {ts : List (Tr n)} (h : NewL H H' l n ws ts) (f : ∀ a xs, a ≠ l → H a = none → H' a = some (.lst xs) → H'' a = some (.lst xs)) (g : ∀ a, H' a ≠ none → H'' a ≠ none) : NewL H H'' l n ws ts := by
  obtain ⟨e, o, k, d⟩ := h
  exact ⟨e, o, fun j w t hw ht => (k j w t hw ht).frame fun a r xs ho _ hx => ⟨f a xs (d a r ho).2.2.1 (d a r ho).1 hx, ho⟩, fun a r ho => ⟨(d a r ho).1, g a (d a r ho).2.1, (d a r ho).2.2⟩⟩
theorem New.frame {H H' H'' : Hp} {n : Nat} {w : V} {t : Tr n} (h : New H H' n w t) (f : ∀ a xs, H a = none → H' a = some (.lst xs) → H'' a = some (.lst xs)) (g : ∀ a, H' a ≠ none → H'' a ≠ none) : New H H'' n w t := by
  obtain ⟨o, k, d⟩ := h
  exact ⟨o, k.frame fun a r xs ho _ hx => ⟨f a xs (d a r ho).1 hx, ho⟩, fun a r ho => ⟨(d a r ho).1, g a (d a r ho).2⟩⟩
theorem New.same {H H' H'' : Hp} {n : Nat} {w : V} {t : Tr n} (h : New H H' n w t) (s : Same H' H'') : New H H'' n w t := h.frame (fun a xs _ e => s a _ e) fun a e => by
  cases q : H' a with
  | none => exact absurd q e
  | some u => rw [s a u q]; intro z; cases z
theorem New.int {H H' : Hp} {i : Int} : New H H' 0 (.int i) i := ⟨fun _ => none, rfl, fun a r h => nomatch h⟩
theorem NewL.done {H H' : Hp} {l : Addr} {n : Nat} {ws : List V} {ts : List (Tr n)} (h : NewL H H' l n ws ts) (hl : H l = none) (e : H' l = some (.lst ws)) : New H H' (n + 1) (.ref l) ts := by
  obtain ⟨el, o, k, d⟩ := h
  have nl : o l = none := by
    cases q : o l with
    | none => rfl
    | some r => exact absurd rfl (d l r q).2.2.1
  refine ⟨fun a => if a = l then some [] else o a, ⟨l, ws, rfl, if_pos rfl, e, el, fun j w t hw ht => (k j w t hw ht).frame fun a r xs ho _ hx => ⟨hx, ?_⟩⟩, fun a r hr => ?_⟩
  · show (if a = l then some [] else o a) = some r
    rw [if_neg (d a r ho).2.2.1]
    exact ho
  · have hr : (if a = l then some [] else o a) = some r := hr
    by_cases q : a = l
    · subst q
      exact ⟨hl, by rw [e]; intro z; cases z⟩
    · rw [if_neg q] at hr
      exact ⟨(d a r hr).1, (d a r hr).2.1⟩
def flat : (n : Nat) → Tr n → List Int
  | 0, i => [i]
  | n + 1, ts => (ls ts).flatMap (flat n)
theorem rIsiA.ty {K : PySem.W.Frag} {H : Hp} {x : V} {n c : String} {b : Bool} {Q : VK} (t : TyOf K H x (.type n)) (k : PySem.W.kitOne K (.type n) (.type c) = some b) (q : Q (.bl b) H) : rIsiA K [x, .ty c] H Q := .inl ⟨x, .ty c, _, _, _, rfl, .ty c, t, k, q⟩
def Dom (o : Ow) (H : Hp) : Prop := ∀ b r, o b = some r → H b ≠ none
structure Ext (o o' : Ow) (H H1 : Hp) : Prop where
  old : ∀ b, H b ≠ none → o' b = o b
  new : ∀ b r, o' b = some r → H b = none → H1 b ≠ none
theorem Ext.after {o o' : Ow} {H H1 : Hp} {c : Addr} {u : HO} (x : Ext o o' H H1) (dm : Dom o H) (s : Same H H1) : Dom o' (upd H1 c u) := fun b r hr => by
  by_cases q : b = c
  · rw [q, upd_same]; intro z; cases z
  · rw [upd_ne q]
    cases e : H b with
    | none => exact x.new b r hr e
    | some v => rw [s b v e]; intro z; cases z
end L2
namespace L2
open PySem PySem.Spec PyProof.Rows
end L2
namespace L2
open PySem PySem.Spec PyProof.Rows
end L2
namespace L2
open PySem PySem.Spec PyProof.Rows
structure IAsk (K : PySem.W.Frag) (C : Addr) : Prop where
  ha : PySem.W.findIn K (.ref C) "__class__" = some (some (.builtin "object.__class__"))
  hn : PySem.W.specialIn K (.builtin "object.__class__") "__get__" = some (some (.builtin "getset_descriptor.__get__"))
  htk : PySem.W.takesIn K (.builtin "object.__class__") = some true
  hm : PySem.W.mroIn K C (.type "object") = some true
theorem rIsiA.ins {K : PySem.W.Frag} {H : Hp} {a C D dx : Addr} {fs : List (Str × V)} {b : Bool} {Q : VK} (h : H a = some (.ins C dx fs)) (cl : Cls K C) (q : IAsk K C) (k : PySem.W.kitOne K (.ref C) (.ref D) = some b) (hQ : Q (.bl b) H) : rIsiA K [.ref a, .ref D] H Q :=
  .inl ⟨.ref a, .ref D, _, _, _, rfl, .own D, .ins h cl q.ha q.hn q.htk q.hm, k, hQ⟩
end L2
namespace L2
open PySem PySem.Spec PyProof.Rows
section
variable {X : Cx}
end
structure Pk {n : Nat} (ws : List V) (ts : List (Tr n)) (i : Nat) (idx : List Nat) (acc : List V) (us : List (Tr n)) : Prop where
  la : acc.length = idx.length
  lu : us.length = idx.length
  lt : ∀ k ∈ idx, k < i
  nd : idx.Nodup
  at_ : ∀ j k : Nat, idx[j]? = some k → acc[j]? = ws[k]? ∧ us[j]? = ts[k]?
theorem Pk.nil {n : Nat} {ws : List V} {ts : List (Tr n)} : Pk ws ts 0 [] [] [] := ⟨rfl, rfl, fun _ h => (nomatch h), List.nodup_nil, fun _ _ h => (by rw [List.getElem?_nil] at h; cases h)⟩
theorem Pk.drop {n : Nat} {ws : List V} {ts : List (Tr n)} {i : Nat} {idx : List Nat} {acc : List V} {us : List (Tr n)} (h : Pk ws ts i idx acc us) : Pk ws ts (i + 1) idx acc us :=
  ⟨h.la, h.lu, fun k hk => Nat.lt_succ_of_lt (h.lt k hk), h.nd, h.at_⟩
theorem Pk.keep {n : Nat} {ws : List V} {ts : List (Tr n)} {i : Nat} {idx : List Nat} {acc : List V} {us : List (Tr n)} {w : V} {t : Tr n} (h : Pk ws ts i idx acc us) (hw : ws[i]? = some w) (ht : ts[i]? = some t) : Pk ws ts (i + 1) (idx ++ [i]) (acc ++ [w]) (us ++ [t]) := by
  refine ⟨by rw [List.length_append, List.length_append, h.la]; rfl, by rw [List.length_append, List.length_append, h.lu]; rfl, fun k hk => ?_, ?_, fun j k hk => ?_⟩
  · rcases List.mem_append.mp hk with q | q
    · exact Nat.lt_succ_of_lt (h.lt k q)
    · rw [List.mem_singleton.mp q]; exact Nat.lt_succ_self i
  · rw [List.nodup_append]
    exact ⟨h.nd, List.nodup_cons.mpr ⟨List.not_mem_nil, List.nodup_nil⟩, fun x hx y hy e => by rw [e, List.mem_singleton.mp hy] at hx; exact Nat.lt_irrefl _ (h.lt _ hx)⟩
  · by_cases q : j < idx.length
    · rw [List.getElem?_append_left q] at hk
      rw [List.getElem?_append_left (by rw [h.la]; exact q), List.getElem?_append_left (by rw [h.lu]; exact q)]
      exact h.at_ j k hk
    · rw [List.getElem?_append_right (by omega)] at hk
      obtain ⟨h1, e1⟩ := List.getElem?_eq_some_iff.mp hk
      have j0 : j - idx.length = 0 := by simpa using h1
      rw [j0] at hk
      cases (Option.some.inj hk : i = k)
      rw [List.getElem?_append_right (by rw [h.la]; omega), List.getElem?_append_right (by rw [h.lu]; omega), h.la, h.lu, j0]
      exact ⟨hw.symm, ht.symm⟩
end L2
namespace L2
open PySem PySem.Spec PyProof.Rows
end L2
namespace L2
open PySem PySem.Spec PyProof.Rows
section
variable {X : Cx} {pins : List (Addr × Obj)} {σ : St} {H : Hp} {s : Shared}
end
section
variable {X : Cx} {pins : List (Addr × Obj)} {σ : St} {H : Hp} {s : Shared} {d : Addr} {u0 u1 : HO}
end
end L2
namespace L2
open PySem PySem.Spec PyProof.Rows
section
variable {X : Cx} {CX : CXT} {k : Nat} {f C : Addr} {fd : FuncData} {ps : List Str} {sp : Sp} {dvs : List V} {ds : List Value} {Ez : St → XK} {x m : Str} {p pos apos : Pos} {e o : Expr} {es : List Expr} {ta : TE} {t : TA}
end
end L2
namespace L2
open PySem PySem.Spec PyProof.Rows
end L2
namespace L2
open PySem PySem.Spec PyProof.Rows
section
variable {prog : Program} {w : World} {A : Around} {E : Value → Shared → Prop} {s : Shared} {T : String} {r d : Addr} {n : Nat} {P : Nat → Value → Prop} {OK : Heap → Prop}
end
section
variable {X : Cx}
end
section
variable {X : Cx}
end
theorem cut_lit (xs : List V) (k : Nat) : cutV xs none (some (k : Int)) = xs.take k := by
  unfold cutV
  rw [HT.sIx_nat, HT.sIx_none, List.drop_zero, Nat.sub_zero]
  have h := List.take_take (i := k) (j := xs.length) (l := xs)
  rw [List.take_length] at h
  exact h.symm
end L2
namespace L2
open PySem PySem.Spec PyProof.Rows
theorem dict_anyW {P P' : Program} {w w' : World} {h : Heap} {a : Addr} {vs : List (Key × Value)} (d : h.DictOf (mixKind P w) a vs) (hi : ∀ p ∈ vs, ∃ n : Int, p.1 = Sum.inl n) : h.DictOf (mixKind P' w') a vs := by
  obtain ⟨o, es, ep, g, c, hd, hk, hp, hn⟩ := d
  have pp : ∀ {el : List DictEntry} {vl : List (Key × Value)}, Pairs (mixKind P w) el vl → (∀ p ∈ vl, ∃ n : Int, p.1 = Sum.inl n) → Pairs (mixKind P' w') el vl ∧ ∀ e ∈ el, ∃ n : Int, keyIs (Sum.inl n) e.key = true := by
    intro el vl h
    induction h with
    | nil => intro _; exact ⟨.nil, fun _ h => nomatch h⟩
    | @cons e kv es kvs h1 h2 _ ih =>
      intro hi
      obtain ⟨i1, i2⟩ := ih fun p hp => hi p (List.mem_cons_of_mem _ hp)
      refine ⟨.cons h1 h2 i1, fun x hx => ?_⟩
      rcases List.mem_cons.mp hx with q | q
      · obtain ⟨n, hn⟩ := hi kv (List.mem_cons_self ..)
        rw [q]
        exact ⟨n, by rw [← hn]; exact h1⟩
      · exact i2 x q
  obtain ⟨p1, p2⟩ := pp hp hi
  refine ⟨o, es, ep, g, c, hd, fun e he => ?_, p1, hn⟩
  obtain ⟨k, k1, k2⟩ := hk e he
  obtain ⟨n, hn'⟩ := p2 e (by simpa using he)
  have e1 : k = Sum.inl n := (mixKind P w).inj e.key k (Sum.inl n) k1 hn'
  subst e1
  exact ⟨_, k1, k2⟩
theorem kv_ints {ka : List (Key × V)} {va : List (Key × Value)} (r : KV ka va) (hi : ∀ p ∈ ka, ∃ n : Int, p.1 = Sum.inl n) : ∀ p ∈ va, ∃ n : Int, p.1 = Sum.inl n := by
  unfold KV at r
  induction r with
  | nil => exact fun _ h => nomatch h
  | @cons p q ps qs h t ih =>
    intro x hx
    rcases List.mem_cons.mp hx with e | e
    · obtain ⟨n, hn⟩ := hi p (List.mem_cons_self ..)
      rw [e, ← h.1]
      exact ⟨n, hn⟩
    · exact ih (fun p hp => hi p (List.mem_cons_of_mem _ hp)) x e
def DEq (K : PySem.W.Frag) (H : Hp) (n : Nat) (u v : V) : Prop := ∃ a b ka kb, u = .ref a ∧ v = .ref b ∧ Rd H a (.dK ka) ∧ Rd H b (.dK kb) ∧ ka.length = kb.length ∧ (∀ p ∈ ka, ∃ y, valV kb p.1 = some y ∧ EqD K H n p.2 y true) ∧ (∀ p ∈ ka, ∃ m : Int, p.1 = Sum.inl m) ∧ ∀ p ∈ kb, ∃ m : Int, p.1 = Sum.inl m
section
variable {X : Cx} {pins : List (Addr × Obj)} {σ : St} {H : Hp} {s : Shared}
theorem hits_at (I : Inv X pins σ H s) {A : Around} {n : Nat} {kb : List (Key × V)} {vb : List (Key × Value)} (rb : KV kb vb) (hu : A.units + n < cLine) : ∀ {ka : List (Key × V)} {va : List (Key × Value)}, KV ka va →
    (∀ p ∈ ka, ∃ y, valV kb p.1 = some y ∧ EqD X.K H n p.2 y true) → PySem.W.KeqHits A s vb va true := by
  intro ka va r
  unfold KV at r
  induction r with
  | nil => intro _; exact .nil
  | @cons p q ps qs h t ih =>
    intro hall
    obtain ⟨y, hy, he⟩ := hall p (List.mem_cons_self ..)
    obtain ⟨w, hw, rw'⟩ := RelO.some_of (v := y) (o := valueAt vb q.1) (by rw [← hy, h.1]; exact rb.val q.1)
    obtain ⟨q1, q2⟩ := q
    exact PySem.W.KeqHits.hit (e := true) (b := true) hw (EqD.at I n A p.2 y true q2 w hu he h.2 rw') (ih fun p' hp' => hall p' (List.mem_cons_of_mem _ hp'))
theorem DEq.at (I : Inv X pins σ H s) {A : Around} {n : Nat} {x y : V} {u v : Value} (hu : A.units + 1 + n < cLine) (h : DEq X.K H n x y) (rx : RelV x u) (ry : RelV y v) : SeqAt.EqAt A s u v true := by
  obtain ⟨a, b, ka, kb, rfl, rfl, ha, hb, hl, hall, ia, ib⟩ := h
  cases rx
  cases ry
  obtain ⟨za, da, va, ra, oa⟩ := dk_rd I.hok ha
  obtain ⟨zb, db, vb, rb, ob⟩ := dk_rd I.hok hb
  by_cases hab : a = b
  · subst hab
    exact SeqAt.EqAt.same _
  · refine SeqAt.EqAt.of_refs hab fun prog w E Q hq => ?_
    have oa' := dict_anyW (P' := prog) (w' := w) oa (kv_ints ra ia)
    have ob' := dict_anyW (P' := prog) (w' := w) ob (kv_ints rb ib)
    refine PySem.W.keq_eq da db oa' ob' (by omega) (fun _ => hits_at (A := A.in1) I rb (by show A.units + 1 + n < cLine; exact hu) ra hall) ?_
    rw [← ra.length, ← rb.length, hl, beq_self_eq_true, Bool.true_and]
    exact hq
end
end L2
namespace L2
open PySem PySem.Spec PyProof.Rows
end L2
namespace L2
open PySem PySem.Spec PyProof.Rows
structure RoomH (k : Nat) (A : Around) : Prop where
  dp : A.depth + 3 * k + 5 < recursionLimit
  un : A.units + 16 * k + 200 < cLine
theorem RoomH.mono {j k : Nat} {A : Around} (r : RoomH k A) (h : j ≤ k) : RoomH j A := ⟨by have := r.dp; omega, by have := r.un; omega⟩
theorem RoomH.deeper {k : Nat} {A : Around} (r : RoomH (k + 1) A) (env : Env) : RoomH k (A.deeper env) :=
  ⟨by have := r.dp; show A.depth + 1 + 3 * k + 5 < _; omega, by have := r.un; show A.units + 3 + 16 * k + 200 < _; omega⟩
theorem RoomH.depth {k : Nat} {A : Around} (r : RoomH k A) : A.depth < recursionLimit := by have := r.dp; omega
def cxOfH (CX : CXT) (P : Program) (w : World) (K : PySem.W.Frag) (mg : Str → Option Value) (base : Heap) (N : List Str) (qual : Str) (scope : Scope) (f : Addr) (cd : Value) (A : Around) (outer : List Env) (s : Shared) (H : Hp) (E : XK) : Cx where
  prog := P
  w := w
  K := K
  mg := mg
  base := base
  A := A.deeper (envOfC qual scope s.heap.objs.size f cd)
  N := N
  s₀ := s
  H₀ := H
  env := envOfC qual scope s.heap.objs.size f cd
  outer := outer
  stack := envOfC qual scope s.heap.objs.size f cd :: outer
  ex := []
  calm := false
  fn := fun _ => true
  pn := []
  xe := fun e s' => wpAny (model P w) (A.deeper (envOfC qual scope s.heap.objs.size f cd)) (leaving (envOfC qual scope s.heap.objs.size f cd) e) (fun _ s'' => CX outer H s E e s'') (fun e' s'' => CX outer H s E e' s'') s'
theorem inv_startH {CX : CXT} {P : Program} {w : World} {K : PySem.W.Frag} {mg : Str → Option Value} {base : Heap} {N ps : List Str} {qual : Str} {scope : Scope} {f : Addr} {cd : Value} {A : Around} {outer : List Env} {s s1 : Shared} {H : Hp} {E : XK} {us : List Value} {vs : List V}
    (S : FnScope N ps scope) (e0 : Env0 P w K mg base A outer s H) (hl : vs.length = ps.length) (r : Vals vs us)
    (x : InCallC s s.heap.objs.size (bindL (envOfC qual scope s.heap.objs.size f cd).kindOf (ps.zip us) fun _ => none) (cellsFrom (s.heap.objs.size + 1) scope.names []) (bindC (envOfC qual scope s.heap.objs.size f cd).kindOf (ps.zip us) fun _ => none) s1) :
    Inv (cxOfH CX P w K mg base N qual scope f cd A outer s H E) [] (start N vs) H s1 := by
  have hpl : ps.length ≤ N.length := by have := congrArg List.length S.pre; rw [List.length_take] at this; omega
  obtain ⟨h1, tk, rfl, hk⟩ := x.done
  have noA : ∀ b : Addr, b ∉ (cxOfH CX P w K mg base N qual scope f cd A outer s H E).ex := fun b z => absurd (show b ∈ ([] : List Addr) from z) (by simp)
  refine ⟨⟨e0.mod, S.kind, rfl, rfl, Nat.le_refl _, fun y z c h1 h2 => ?_, fun y hy => ?_, fun y c _ h => ?_, fun z => Bool.noConfusion z, Around.frames_deeper e0.frames, .inr ⟨rfl, rfl⟩, fun b z => absurd z (noA b), e0.bs, e0.bsz, fun b _ _ => noA b, fun b z => absurd z (noA b), e0.funs, e0.frf⟩,
    rfl, e0.bare, Un.kept hk, ⟨_, x.toInCall.ns, fun i y v h1 h2 h3 => ?_⟩, fun y c h => ⟨_, x.cell y c h⟩, e0.hok.fresh (Nat.le_refl _), fun y c h => ?_, fun p hp => absurd (show p ∈ ([] : List (Addr × Obj)) from hp) (by simp), e0.hok.kept hk, ?_⟩
  · exact name_of_addr x.apart (PySem.mem_of_lookup h1) (PySem.mem_of_lookup h2)
  · have hy : scope.names.lookup y = some .cell ∨ scope.names.lookup y = some .free := hy
    rcases hy with hy | hy
    · exact cell_has hy
    · exact absurd rfl (S.nofree _ (PySem.mem_of_lookup hy))
  · exact Nat.le_of_lt (x.above y c (PySem.mem_of_lookup h))
  · have hi : i < vs.length := by
      unfold start at h2
      by_cases hi : i < vs.length
      · exact hi
      · rw [List.getElem?_append_right (by simpa using hi)] at h2
        rw [List.getElem?_replicate] at h2
        split at h2 <;> cases h2
    have ha : vs[i]? = some v := by
      unfold start at h2
      rw [List.getElem?_append_left (by simpa using hi), List.getElem?_map] at h2
      cases e : vs[i]? with
      | none => rw [e] at h2; cases h2
      | some a => rw [e] at h2; cases h2; rfl
    obtain ⟨u, hu, rv⟩ := r.get ha
    have hp : ps[i]? = some y := by
      rw [← S.pre, List.getElem?_take_of_lt (by omega)]; exact h1
    have ndP : ps.Nodup := by rw [← S.pre]; exact S.nd.sublist (List.take_sublist _ _)
    refine ⟨u, rv, ?_⟩
    rcases S.par y (List.mem_of_getElem? hp) with k | k
    · exact .inl ⟨k, bindL_get ndP hp hu k⟩
    · obtain ⟨c, e⟩ := cell_has (n := s.heap.objs.size + 1) k
      refine .inr ⟨.inl k, c, e, ?_⟩
      have q := x.cell y c e
      rw [bindC_get ndP hp hu (by show scope.names.lookup y ≠ _; rw [k]; decide)] at q
      exact q
  · exact e0.hok.fresh (Nat.le_of_lt (x.above y c (PySem.mem_of_lookup h)))
  · unfold start
    show _ = N.length
    rw [List.length_append, List.length_map, List.length_replicate]
    omega
structure FnOkH (P : Program) (w : World) (K : PySem.W.Frag) (mg : Str → Option Value) (base : Heap) (CX : CXT) (k : Nat) (f : Addr) (fd : FuncData) (ps : List Str) (sp : Sp) : Prop where
  len : ∀ vs H Q E, sp vs H Q E → vs.length = ps.length
  run : ∀ (A : Around) (outer : List Env) (s : Shared) (H : Hp) (args : Args) (us : List Value) (vs : List V) (Q : VK) (E : XK), RoomH k A → Env0 P w K mg base A outer s H → BindsTo s fd args (ps.zip us) → Vals vs us → sp vs H Q E →
    codeAny (model P w) A (.call (.ref f) args) (CR CX outer P w H s Q E) s
theorem Room.h {k : Nat} {A : Around} {o : Option Value} (r : Room k A) : RoomH k (A.mark o) := ⟨r.dp, r.un⟩
section
variable {X : Cx} {CX : CXT} {k : Nat} {f C : Addr} {fd : FuncData} {ps : List Str} {sp : Sp} {dvs : List V} {ds : List Value} {E : XK} {x m : Str} {p pos apos : Pos} {e o : Expr} {es : List Expr} {ta : TE} {t : TA}
theorem run_fnH {pins : List (Addr × Obj)} {σ : St} {H : Hp} {s : Shared} {Q : VK} {us : List Value} {vs : List V} (F : FnOkH X.prog X.w X.K X.mg X.base CX k f fd ps sp) (hr : RoomH k X.A) (hb : Binds X.K fd ps ds) (hd : Vals dvs ds) (hx : Passes CX X E)
    (I : Inv X pins σ H s) (r : Vals vs us) (h : sp (vs ++ dvs) H Q E) : wpAny (model X.prog X.w) X.A (call (.ref f) us) (EP X pins σ Q) X.xe s := by
  have r2 : Vals (vs ++ dvs) (us ++ ds) := r.append hd
  have hl : (us ++ ds).length = ps.length := by rw [← r2.length]; exact F.len _ _ _ _ h
  refine wpAny_call (codeAny_mono (F.run X.A X.stack s H ⟨us, []⟩ (us ++ ds) (vs ++ dvs) Q E hr I.env0 (hb s us I.kIn hl) r2 h) fun r s' hq => ?_)
  cases r with
  | error e => exact hx pins σ H s e s' I hq
  | ok fl =>
    cases fl with
    | ret u => exact I.after hq
    | next => exact False.elim hq
    | brk => exact False.elim hq
    | cont => exact False.elim hq
theorem pe_callH (F : FnOkH X.prog X.w X.K X.mg X.base CX k f fd ps sp) (hr : RoomH k X.A) (hg : Gl X x) (hm : X.mg x = some (.ref f)) (hk : PySem.W.keepIn X.K (.ref f) = true) (hb : Binds X.K fd ps ds) (hd : Vals dvs ds) (hx : Passes CX X E)
    (ha : PA X (e :: es) t) (hdb : (x == ("__debug__" : Str)) = false := by decide) (he : starEach (e :: es) X.env = (false, eval e X.env) :: starEach es X.env := by rfl) (hpl : (backTo pos (starEach es X.env)).any (·.1) = false := by rfl) :
    PE X (.Call (.Name x p) (e :: es) [] pos) (tCall sp dvs E t) := by
  unfold PE at *; unfold PA at *
  exact by
    intro pins s σ H Q I h
    refine wpAny_Call_Name_kw (ld_glob I hg hm ?_ hdb)
    refine PySem.W.callWith_K (h₀ := X.base) I.ok.mod.kin hk (thn (ha pos pins s σ H _ I h) fun us s1 ⟨vs, H1, I1, r, q⟩ => ⟨I1.kIn, ?_⟩) he hpl
    exact run_fnH F hr hb hd hx I1 r q
end
theorem fn_ofH {CX : CXT} {P : Program} {w : World} {K : PySem.W.Frag} {mg : Str → Option Value} {base : Heap} {k : Nat} {f : Addr} {name qual : Str} {params : Arguments} {body : List Stmt} {scope : Scope} {dV kV doc pm cdv ct oc : Value} {an od : Option Addr}
    {osl : Array (Option Value)} {N ps : List Str} {sp : Sp} (lk : K.lookup f = some ⟨oc, od, .func (PySem.W.fnOf name qual params body scope dV kV doc pm an cdv ct), osl⟩) (hcd : PySem.W.codeIn K cdv qual = true) (S : FnScope N ps scope)
    (len : ∀ vs H Q E, sp vs H Q E → vs.length = ps.length)
    (hbody : ∀ (A : Around) (outer : List Env) (s : Shared) (H : Hp) (vs : List V) (Q : VK) (E : XK), RoomH k (A.deeper (envOfC qual scope s.heap.objs.size f cdv)) → sp vs H Q E →
      ∃ t, PSs (cxOfH CX P w K mg base N qual scope f cdv A outer s H E) body t ∧ t { nx := fun _ H' => Q .non H', rt := Q } (start N vs) H) :
    FnOkH P w K mg base CX (k + 1) f (PySem.W.fnOf name qual params body scope dV kV doc pm an cdv ct) ps sp := by
  unfold PSs at *
  exact by
    refine ⟨len, fun A outer s H args us vs Q E hr e0 hb r hsp => ?_⟩
    have hl := len _ _ _ _ hsp
    have KX : K.In s.heap := e0.mod.kin.keeps fun b o e => (e0.bs b o e).1
    have lim : s.heap.NoLimit := e0.mod.nolimit.keeps fun b o e => (e0.bs b o e).1
    have hkind : ∀ y ∈ ps.zip us, scope.names.lookup y.1 = some .local ∨ (scope.names.lookup y.1 = some .cell ∧ ((cellsFrom (s.heap.objs.size + 1) scope.names []).lookup y.1).isSome = true) := fun ⟨n, v⟩ hy => by
      rcases S.par n (List.of_mem_zip hy).1 with q | q
      · exact .inl q
      · exact .inr ⟨q, PySem.W.cellsFrom_some _ _ _ (.inl q)⟩
    refine codeAny_call_function hr.depth (KX _ _ lk) rfl S.co S.gen rfl (PySem.W.codeRec_of KX hcd) (hb _ _ _ _ ?_)
    refine wpAny_newFunctionEnv_cells S.kind hkind fun env he s1 x => ?_
    subst he
    refine ⟨lim.keeps x.toInCall.keep, codeAny_func ?_⟩
    obtain ⟨t, ht, hq⟩ := hbody A outer s H vs Q E (hr.deeper _) hsp
    have I : Inv (cxOfH CX P w K mg base N qual scope f cdv A outer s H E) [] (start N vs) H s1 := inv_startH S e0 hl r x
    refine wpAny_mono (ht [] s1 (start N vs) H _ I hq) (fun fl s' hs => ?_) fun e s' hs => hs
    have fin : ∀ {σ' : St} {H' : Hp} {v : V} {u : Value}, Inv (cxOfH CX P w K mg base N qual scope f cdv A outer s H E) [] σ' H' s' → RelV v u → Q v H' → CE outer P w H s Q u s' :=
      fun {σ' H' v u} J rv q => ⟨v, H', J.os, J.bare, J.base, J.hok, rv, q⟩
    cases fl with
    | ret u =>
      obtain ⟨v, σ', H', J, rv, q⟩ := hs
      exact fin J rv q
    | next =>
      obtain ⟨σ', H', J, q⟩ := hs
      exact fin (v := V.non) (u := Value.none) J rfl q
    | brk =>
      obtain ⟨_, _, _, q⟩ := hs
      exact False.elim q
    | cont =>
      obtain ⟨_, _, _, q⟩ := hs
      exact False.elim q
section
variable {P : Program} {w : World} {K : PySem.W.Frag} {mg : Str → Option Value} {base : Heap}
theorem Fun.okH {x qual : Str} {st : Stmt} {f : Addr} {fd : FuncData} {N ps : List Str} {k : Nat} {sp : Sp} (F : Fun K x qual st f fd) (S : FnScope N ps (defScope st)) (len : ∀ vs H Q E, sp vs H Q E → vs.length = ps.length)
    (hbody : ∀ (cdv : Value) (A : Around) (outer : List Env) (s : Shared) (H : Hp) (vs : List V) (Q : VK) (E : XK), RoomH k (A.deeper (envOfC qual (defScope st) s.heap.objs.size f cdv)) → sp vs H Q E →
      ∃ t, PSs (cxOfH CX0 P w K mg base N qual (defScope st) f cdv A outer s H E).nox (defBody st) t ∧ t { nx := fun _ H' => Q .non H', rt := Q } (start N vs) H) : FnOkH P w K mg base CX0 (k + 1) f fd ps sp := by
  obtain ⟨oc, od, kV, doc, pm, an, cdv, ct, osl, rfl, lk, hcd⟩ := F.ex
  refine fn_ofH lk hcd S len fun A outer s H vs Q E hr hsp => ?_
  obtain ⟨t, h, q⟩ := hbody cdv A outer s H vs Q E hr hsp
  exact ⟨t, h.nox, q⟩
end
end L2
namespace L2
open PySem PySem.Spec PyProof.Rows
section
variable {prog : Program} {w : World} {A : Around} {E : Value → Shared → Prop} {s : Shared}
end
section
variable {prog : Program} {w : World} {A : Around} {E : Value → Shared → Prop} {s : Shared}
end
section
variable {X : Cx}
def OptT (H : Hp) (v : V) (nm : Option (List Str)) : Prop := match nm with | none => v = .non | some z => ∃ t, v = .ref t ∧ H t = some (.tup (z.map V.str))
end
theorem eqL_txt : ∀ (a b : List Str), eqL (a.map V.str) (b.map V.str) = decide (a = b)
  | [], [] => rfl
  | [], _ :: _ => rfl
  | _ :: _, [] => rfl
  | x :: a, y :: b => by
    show (eqV (.str x) (.str y) && eqL (a.map V.str) (b.map V.str)) = _
    rw [eqL_txt a b]
    by_cases h : x = y
    · subst h
      rw [eqV_self rfl, Bool.true_and]
      by_cases q : a = b
      · rw [decide_eq_true q, decide_eq_true (by rw [q])]
      · rw [decide_eq_false q, decide_eq_false (fun z => q (List.cons.inj z).2)]
    · have e : eqV (.str x) (.str y) = false := by
        simp [eqV]
        exact h
      rw [e, decide_eq_false (fun z => h (List.cons.inj z).1)]
      rfl
theorem flat_txt (zs : List Str) : (zs.map V.str).all flatV = true := by
  rw [List.all_eq_true]
  intro x hx
  obtain ⟨z, _, rfl⟩ := List.mem_map.mp hx
  rfl
theorem tup_txt {K : PySem.W.Frag} {H : Hp} {n : Nat} {t u : Addr} {a b : List Str} (h1 : H t = some (.tup (a.map V.str))) (h2 : H u = some (.tup (b.map V.str))) : SeqEq K H (EqD K H n) (.ref t) (.ref u) (decide (a = b)) := by
  by_cases hl : a.length = b.length
  · have h := SeqEq.flatT (K := K) (H := H) (n := n) (SqT.of h1) (SqT.of h2) (by rw [List.length_map, List.length_map, hl]) (flat_txt a) (flat_txt b)
    rw [eqL_txt] at h
    exact h
  · have h := SeqEq.tup (K := K) (H := H) (R := EqD K H n) (e := fun i => eqV ((a.map V.str).getD i .non) ((b.map V.str).getD i .non)) (SqT.of h1) (SqT.of h2) fun i x y hx hy => ?_
    · have e1 : ((a.map V.str).length == (b.map V.str).length) = false := by
        rw [List.length_map, List.length_map]
        exact beq_eq_false_iff_ne.mpr hl
      rw [e1, Bool.and_false] at h
      rw [decide_eq_false (fun z => hl (by rw [z]))]
      exact h
    · have q : flatV x = true ∧ flatV y = true ∧ eqV ((a.map V.str).getD i .non) ((b.map V.str).getD i .non) = eqV x y := by
        refine ⟨List.all_eq_true.mp (flat_txt a) x (List.mem_of_getElem? hx), List.all_eq_true.mp (flat_txt b) y (List.mem_of_getElem? hy), ?_⟩
        rw [List.getD_eq_getElem?_getD, List.getD_eq_getElem?_getD, hx, hy]
        rfl
      cases n with
      | zero => exact .inl q
      | succ n => exact .inl (.inl q)
theorem OptT.eqd {K : PySem.W.Frag} {H : Hp} {x y : V} {a : Option (List Str)} (h1 : OptT H x a) (h2 : OptT H y a) (n : Nat) : EqD K H (n + 1) x y true := by
  cases a with
  | none =>
    obtain rfl : x = .non := h1
    obtain rfl : y = .non := h2
    exact .inl (.inl ⟨rfl, rfl, rfl⟩)
  | some z =>
    obtain ⟨t, rfl, ht⟩ := h1
    obtain ⟨u, rfl, hu⟩ := h2
    have h := tup_txt (K := K) (n := n) ht hu
    rw [decide_eq_true rfl] at h
    exact .inr h
end L2
namespace L2
open PySem PySem.Spec PyProof.Rows
theorem AtR.eqd {K : PySem.W.Frag} {H : Hp} : ∀ {n : Nat} {v w : V} {t : Tr n}, AtR H n v t → AtR H n w t → EqD K H n v w true
  | 0, v, w, t, h1, h2 => by
    have e1 : v = .int t := h1
    have e2 : w = .int t := h2
    subst e1 e2
    exact .inl ⟨rfl, rfl, (eqV_self (x := V.int t) rfl).symm⟩
  | n + 1, v, w, t, h1, h2 => by
    obtain ⟨a, vs, rfl, hA, la⟩ := h1.lst
    obtain ⟨b, ws, rfl, hB, lb⟩ := h2.lst
    have h := SeqEq.list (K := K) (R := EqD K H n) (e := fun _ => true) (SqL.of hA) (SqL.of hB) (by omega) fun i x y hx hy => by
      obtain ⟨x', t1, e1, e2, k1⟩ := h1.kid hA (List.getElem?_eq_some_iff.mp hx).1
      obtain ⟨y', t2, e3, e4, k2⟩ := h2.kid hB (List.getElem?_eq_some_iff.mp hy).1
      rw [hx] at e1; cases e1
      rw [hy] at e3; cases e3
      rw [e2] at e4; cases e4
      exact AtR.eqd k1 k2
    rw [all_range fun i _ => rfl] at h
    exact .inr h
theorem AtR.seq {K : PySem.W.Frag} {H : Hp} {n : Nat} {v w : V} {t : Tr (n + 1)} (h1 : AtR H (n + 1) v t) (h2 : AtR H (n + 1) w t) : SeqEq K H (EqD K H n) v w true := by
  rcases AtR.eqd (K := K) h1 h2 with (⟨e, _, _⟩ | ⟨a, e1, e2, _⟩) | h
  · obtain ⟨a, vs, rfl, _⟩ := h1.lst
    exact absurd e (by intro z; cases z)
  · subst e1 e2
    obtain ⟨_, vs, e, hA, la⟩ := h1.lst
    cases e
    have h := SeqEq.list (K := K) (R := EqD K H n) (e := fun _ => true) (SqL.of hA) (SqL.of hA) rfl fun i x y hx hy => by
      obtain ⟨x', t1, e1, e2, k1⟩ := h1.kid hA (List.getElem?_eq_some_iff.mp hx).1
      rw [hx] at hy; cases hy
      rw [hx] at e1; cases e1
      exact AtR.eqd k1 k1
    rw [all_range fun i _ => rfl] at h
    exact h
  · exact h
end L2
namespace L2
open PySem PySem.Spec PyProof.Rows PySem.W
section
variable {prog : Program} {w : World} {A : Around} {E : Value → Shared → Prop} {h : Heap} {g : Array GenState} {d : Drawn} {t : Nat} {os : OsState}
variable {nm q : Str} {C N : Addr} {bs bm : List Value} {hdct : Bool} {sn : List Str} {sub : List Value} {ab : Bool} {col : Option Bool} {dd : Option Addr} {k0 k1 k2 k3 k5 : Option Value} {K : Frag}
theorem vm_has : vmro.contains (.type "ValueError") = true := F.excBase_ValueError.hasB
theorem type_call_init (X : K.In h) (T : OwnTail h vmro bm) {mN : Str → Option Value} {rest : List Value} {fI : Addr} {Q : Fin → Shared → Prop}
    (hC : h.get? C = some (excClassObj nm q C N bs bm hdct sn sub ab col dd k0 k1 k2 k3 k5 "ValueError.__new__")) (hn : h.Ns N mN) (hi : mN "__init__" = some (.ref fI)) (hf : typeIn K (.ref fI) = some (.type "function"))
    (hq : ∀ h' e, Heap.MadeExcOf h h' e (.ref C) rest → h.objs.size ≤ e →
      wpAny (model prog w) A (call (.ref fI) (.ref e :: rest)) (fun r s' => r = .none ∧ Q (.done (.ret (.ref e))) s') E ⟨h', g, d, t, os⟩) (hrest : rest.length ≤ sizeLine) :
    wpAny (model prog w) A (Builtin.«type.__call__» ⟨.ref C :: rest, []⟩) Q E ⟨h, g, d, t, os⟩ := by
  have Fn := F.excBase_ValueError
  repeat (first | with_reducible refine wpAny_loadPart_at hC ?_ | with_reducible refine wpAny_madeBy_exc hC ?_ | wp_step)
  refine codeAny_call_builtin_code (Code.quiet_builtin _ Fn.quiet) (wpAny_check_new_subU Fn vm_has T hC ?_)
  refine codeAny_exc_new_subU Fn vm_has Fn T hC ?_ hrest
  show wpAny _ _ _ _ _ _
  have kp : ∀ b o, h.get? b = some o → ((h.push { cls := .type "tuple", data := .seq rest.toArray }).push { cls := .ref C, data := .fields #[.ref h.objs.size, .none, .none, .none, .bool false, .none] }).get? b = some o := fun b o e => Heap.get?_push_of_some _ (Heap.get?_push_of_some _ e)
  have hC₁ := kp _ _ hC
  have X₁ : K.In ((h.push { cls := .type "tuple", data := .seq rest.toArray }).push { cls := .ref C, data := .fields #[.ref h.objs.size, .none, .none, .none, .bool false, .none] }) := fun a o e => kp _ _ (X a o e)
  have hn₁ : ((h.push { cls := .type "tuple", data := .seq rest.toArray }).push { cls := .ref C, data := .fields #[.ref h.objs.size, .none, .none, .none, .bool false, .none] }).Ns N mN :=
    let ⟨o, es, ep, e, r⟩ := hn; ⟨o, es, ep, kp _ _ e, r⟩
  have hget : ((h.push { cls := .type "tuple", data := .seq rest.toArray }).push
      { cls := .ref C, data := .fields #[.ref h.objs.size, .none, .none, .none, .bool false, .none] }).get? (h.objs.size + 1) = some
      { cls := .ref C, data := .fields #[.ref h.objs.size, .none, .none, .none, .bool false, .none] } := by heap_get
  have hcC : (Value.ref C :: bm).contains (.ref C) = true := by simp
  have T₁ := T.keeps (h' := (h.push { cls := .type "tuple", data := .seq rest.toArray }).push { cls := .ref C, data := .fields #[.ref h.objs.size, .none, .none, .none, .bool false, .none] }) kp
  unfold isInstance
  repeat (first | with_reducible refine wpAny_loadPart_at hget ?_ | (with_reducible refine wpAny_isSubtype_exc hC₁ ?_; rw [hcC]) | wp_step)
  show wpAny _ _ (typeLookup (.ref C) _) _ _ _
  refine wpAny_typeLookup_tail hC₁ hn₁ T₁ Fn.mroIs Fn.init.lookup ?_
  rw [hi]
  refine wpAny_holding (wpAny_bind ?_)
  refine (bind_fn X₁ (.ref (h.objs.size + 1)) hf).at ?_
  refine wpAny_bind (wpAny_mono (hq _ (h.objs.size + 1) ⟨kp, Heap.get?_none_of_le (Nat.le_succ _), h.objs.size, hget, Heap.get?_none_of_le (Nat.le_refl _), ?_⟩ (Nat.le_succ _)) (fun r s' hr => ?_) fun _ _ x => x)
  · exact Heap.get?_push_of_some _ (Heap.get?_push_at rfl rfl)
  · obtain ⟨rfl, hQ⟩ := hr
    wp_walk
    exact hQ
theorem call_init (X : K.In h) (T : OwnTail h vmro bm) {mN : Str → Option Value} {rest : List Value} {fI : Addr} {Q : Value → Shared → Prop}
    (hC : h.get? C = some (excClassObj nm q C N bs bm hdct sn sub ab col dd k0 k1 k2 k3 k5 "ValueError.__new__")) (hn : h.Ns N mN) (hi : mN "__init__" = some (.ref fI)) (hf : typeIn K (.ref fI) = some (.type "function"))
    (hq : ∀ h' e, Heap.MadeExcOf h h' e (.ref C) rest → h.objs.size ≤ e →
      wpAny (model prog w) (A.under (.builtin "type.__call__" ⟨.ref C :: rest, []⟩)) (call (.ref fI) (.ref e :: rest)) (fun r s' => r = .none ∧ Q (.ref e) s') E ⟨h', g, d, t, os⟩) (hrest : rest.length ≤ sizeLine) :
    wpAny (model prog w) A (call (.ref C) rest) Q E ⟨h, g, d, t, os⟩ := by
  have f1 := tc_lookup
  have f2 := tc_bind (.ref C)
  have hT : (⟨h, g, d, t, os⟩ : Shared).TypeIs (.ref C) "type" := ⟨_, hC, rfl⟩
  refine wpAny_call (codeAny_of_tree ?_)
  show wpAny _ _ (callAny (.ref C) _) _ _ _
  repeat (any_goals (first | assumption | with_reducible refine wpAny_loadPart_at hC ?_ | wp_step))
  refine ⟨rfl, ?_⟩
  refine codeAny_call_builtin_at (Code.quiet_builtin _ (by decide +kernel)) entry_typeCall (wpAny_check_type_call_sub hC (type_call_init (hrest := hrest) X T hC hn hi hf fun h' e hm hz => ?_))
  exact hq h' e hm hz
end
structure XCli (K : Frag) (C f : Addr) : Prop where
  ex : ∃ nm q N bs bm hdct sn sub ab col dd k0 k1 k2 k3 k5 es, K.lookup C = some (excClassObj nm q C N bs bm hdct sn sub ab col dd k0 k1 k2 k3 k5 "ValueError.__new__") ∧ NsK K N es ∧ nsFind es "__init__" = some (.ref f) ∧ TailK K bm
  fn : typeIn K (.ref f) = some (.type "function")
  kp : keepIn K (.ref C) = true
def exF (C : Value) (dd : Option Addr) (e : Addr) : HO := .ext fun h => ∃ oe vs, h.get? e = some oe ∧ oe.cls = C ∧ oe.dict = dd ∧ oe.data = .fields vs ∧ vs[1]? = some .none ∧ 0 < vs.size
theorem exF_ok {P : Program} {w : World} {H : Hp} {h : Heap} {e : Addr} {C : Value} {dd : Option Addr} {oe : Obj} {vs : Array Value} (he : h.get? e = some oe) (hc : oe.cls = C) (hd : oe.dict = dd) (hv : oe.data = .fields vs) (h1 : vs[1]? = some .none) (h0 : 0 < vs.size) : ObjOk P w H h e (exF C dd e) :=
  ⟨⟨oe, vs, he, hc, hd, hv, h1, h0⟩, ⟨oe, he⟩, fun g1 g2 ⟨o, v, q, r⟩ k => ⟨o, v, k o q, r⟩⟩
theorem exF_at {P : Program} {w : World} {H : Hp} {h : Heap} {e : Addr} {C : Value} {dd : Option Addr} (ok : HOk P w H h) (q : H e = some (exF C dd e)) : ∃ oe vs, h.get? e = some oe ∧ oe.cls = C ∧ oe.dict = dd ∧ oe.data = .fields vs ∧ vs[1]? = some .none ∧ 0 < vs.size := (ok e _ q).1
def rem (H : Hp) (e : Addr) : Hp := fun b => if b = e then none else H b
theorem rem_same {H : Hp} {e : Addr} : rem H e e = none := if_pos rfl
theorem rem_ne {H : Hp} {e b : Addr} (h : b ≠ e) : rem H e b = H b := if_neg h
def tMakeX (C : Addr) (sp : Sp) (na : Nat) (gV : List V → List V → List V) (t : TA) : TE := fun σ H Q => t σ H fun vs H1 => vs.length = na ∧ vs.length ≤ sizeLine ∧
  ∀ e, H1 e = none → sp (.ref e :: gV vs []) (upd H1 e (exF (.ref C) none e)) (fun v H2 => v = .non ∧ Q (.ref e) H2) E0
def tRaiseX (C : Addr) (sp : Sp) (na : Nat) (gV : List V → List V → List V) (t : TA) (E : XK) : TS := fun _ σ H => t σ H fun vs H1 => vs.length = na ∧ vs.length ≤ sizeLine ∧
  ∀ e, H1 e = none → sp (.ref e :: gV vs []) (upd H1 e (exF (.ref C) none e)) (fun v H2 => v = .non ∧ ∃ dd, H2 e = some (exF (.ref C) dd e) ∧ E (.ref C) dd (rem H2 e)) E0
section
variable {X : Cx} {k : Nat} {f C : Addr} {fd : FuncData} {ps : List Str} {sp : Sp} {x : Str} {p pos : Pos} {e : Expr} {es : List Expr} {t : TA} {na : Nat} {g : List Value → List Value → List Value} {gV : List V → List V → List V}
theorem run_makeX {pins : List (Addr × Obj)} {σ : St} {H : Hp} {s : Shared} {us : List Value} {vs : List V} {R : Addr → Hp → Prop} {QQ : Value → Shared → Prop} (xc : XCli X.K C f) (F : FnOk X.prog X.w X.K X.mg X.base (CXx X.prog X.w) k f fd ps sp) (hr : Room (k + 1) X.A) (hb : MkBinds X.K fd ps [] na g gV)
    (I : Inv X pins σ H s) (r : Vals vs us) (hna : vs.length = na) (hz : vs.length ≤ sizeLine)
    (h : ∀ e, H e = none → sp (.ref e :: gV vs []) (upd H e (exF (.ref C) none e)) (fun v H2 => v = .non ∧ R e H2) E0)
    (fin : ∀ e H2 s2, s.heap.get? e = none → Inv X pins σ H2 s2 → R e H2 → QQ (.ref e) s2) : wpAny (model X.prog X.w) X.A (call (.ref C) us) QQ X.xe s := by
  obtain ⟨nm, q, N, bs, bm, hdct, sn, sub, ab, col, dd, k0, k1, k2, k3, k5, es, lk, nk, ni, tl⟩ := xc.ex
  obtain ⟨hh, gg, d0, tt, oo⟩ := s
  refine call_init I.kIn (tl.own' I.kIn) (I.kIn _ _ lk) (nk.ns I.kIn) ni xc.fn (fun h' e mx he => ?_) (by rw [← r.length]; exact hz)
  obtain ⟨tu, he1, _, _⟩ := mx.there
  have I2 : Inv X pins σ (upd H e (exF (.ref C) none e)) ⟨h', gg, d0, tt, oo⟩ := I.laid (a := e) (o := exF (.ref C) none e) (h' := h') (t' := tt) mx.keeps he (exF_ok he1 rfl rfl rfl rfl (by simp))
  have hq := h e (I.hok.fresh he)
  have r2 : Vals (V.ref e :: gV vs []) (Value.ref e :: g us []) := .cons rfl (hb.rel r .nil)
  obtain ⟨hto, hl⟩ := hb.to ⟨h', gg, d0, tt, oo⟩ (Value.ref e) us [] I2.kIn (by rw [← r.length]; exact hna) rfl
  refine wpAny_call (codeAny_mono (F.run _ X.stack _ _ ⟨Value.ref e :: us, []⟩ (Value.ref e :: g us []) _ _ E0 (hr.make C us []) (I2.env0.make C us []) hto r2 hq) fun r s' hq' => ?_)
  cases r with
  | error u => exact (passE0 pins σ _ _ u s' I2 hq')
  | ok fl =>
    cases fl with
    | ret u =>
      obtain ⟨v, H', I3, rv, ev, q3⟩ := I2.after hq'
      subst ev
      exact ⟨rv, fin e H' s' mx.new I3 q3⟩
    | next => exact False.elim hq'
    | brk => exact False.elim hq'
    | cont => exact False.elim hq'
theorem eval_makeX {pins : List (Addr × Obj)} {σ : St} {H : Hp} {s : Shared} {R : Addr → Hp → Prop} {QQ : Value → Shared → Prop} (xc : XCli X.K C f) (F : FnOk X.prog X.w X.K X.mg X.base (CXx X.prog X.w) k f fd ps sp) (hr : Room (k + 1) X.A) (hg : Gl X x) (hm : X.mg x = some (.ref C)) (hb : MkBinds X.K fd ps [] na g gV)
    (ha : ∀ (pos : Pos) (pins : List (Addr × Obj)) (s : Shared) (σ : St) (H : Hp) (Q : List V → Hp → Prop), Inv X pins σ H s → t σ H Q → wpAny (model X.prog X.w) X.A (spliced (backTo pos (starEach (e :: es) X.env))) (AP X pins σ Q) X.xe s) (hdb : (x == ("__debug__" : Str)) = false) (he : starEach (e :: es) X.env = (false, eval e X.env) :: starEach es X.env) (hpl : (backTo pos (starEach es X.env)).any (·.1) = false)
    (I : Inv X pins σ H s) (h : t σ H fun vs H1 => vs.length = na ∧ vs.length ≤ sizeLine ∧ ∀ e, H1 e = none → sp (.ref e :: gV vs []) (upd H1 e (exF (.ref C) none e)) (fun v H2 => v = .non ∧ R e H2) E0)
    (fin : ∀ e H2 s2, X.s₀.heap.get? e = none ∨ X.ex ≠ [] → Inv X pins σ H2 s2 → R e H2 → QQ (.ref e) s2) : wpAny (model X.prog X.w) X.A (eval (.Call (.Name x p) (e :: es) [] pos) X.env) QQ X.xe s := by
  refine wpAny_Call_Name_kw (ld_glob I hg hm ?_ hdb)
  refine callWith_K (h₀ := X.base) I.ok.mod.kin xc.kp (thn (ha pos pins s σ H _ I h) fun us s1 ⟨vs, H1, I1, r, hna, hz, q⟩ => ⟨I1.kIn, ?_⟩) he hpl
  refine run_makeX xc F hr hb I1 r hna hz q fun e H2 s2 hn I2 q2 => fin e H2 s2 ?_ I2 q2
  by_cases hx : X.ex = []
  · left
    cases q : X.s₀.heap.get? e with
    | none => rfl
    | some o =>
      obtain ⟨o1, q1⟩ := I1.base.there e o q (by rw [hx]; simp)
      rw [hn] at q1; cases q1
  · exact .inr hx
theorem pe_makeX (xc : XCli X.K C f) (F : FnOk X.prog X.w X.K X.mg X.base (CXx X.prog X.w) k f fd ps sp) (hr : Room (k + 1) X.A) (hg : Gl X x) (hm : X.mg x = some (.ref C)) (hb : MkBinds X.K fd ps [] na g gV)
    (ha : PA X (e :: es) t) (hdb : (x == ("__debug__" : Str)) = false := by decide) (he : starEach (e :: es) X.env = (false, eval e X.env) :: starEach es X.env := by rfl) (hpl : (backTo pos (starEach es X.env)).any (·.1) = false := by rfl) :
    PE X (.Call (.Name x p) (e :: es) [] pos) (tMakeX C sp na gV t) := by
  unfold PE at *; unfold PA at *
  exact by
    intro pins s σ H Q I h
    exact eval_makeX (R := fun e H2 => Q (.ref e) H2) xc F hr hg hm hb ha hdb he hpl I h fun e H2 s2 _ I2 q => ⟨.ref e, H2, I2, rfl, q⟩
end
section
variable {M : Model} {A : Around} {E : Value → Shared → Prop} {s : Shared} {env : Env}
variable {nm q : Str} {C N : Addr} {bs bm : List Value} {hdct : Bool} {sn : List Str} {sub : List Value} {ab : Bool} {col : Option Bool} {dd : Option Addr} {k0 k1 k2 k3 k5 : Option Value} {newId : String}
theorem raise_any {x : Sem Value} {Q : Flow → Shared → Prop} (hbase : bm.contains (.type "BaseException") = true) (hh : A.handled = none)
    (h : wpAny M A x (fun v s₁ => ∃ e dd' vs sl, v = .ref e ∧ s₁.heap.get? C = some (excClassObj nm q C N bs bm hdct sn sub ab col dd k0 k1 k2 k3 k5 newId) ∧
      s₁.heap.get? e = some ⟨.ref C, dd', .fields vs, sl⟩ ∧ vs[1]? = some .none ∧ E (.ref e) s₁) E s) :
    wpAny M A (raiseStmt env (some x) none) Q E s := by
  have hcB : (Value.ref C :: bm).contains (.type "BaseException") = true := by rw [List.contains_cons, hbase, Bool.or_true]
  unfold raiseStmt
  refine wpAny_bind (wpAny_mono h (fun v s₁ h₁ => ?_) fun _ _ x => x)
  obtain ⟨e, dd', vs, sl, rfl, hC, he, h1, hE⟩ := h₁
  obtain ⟨hp, g, d, tk, os⟩ := s₁
  repeat (first | with_reducible refine wpAny_loadPart_at he ?_ | with_reducible refine wpAny_loadPart_at hC ?_ | (with_reducible refine wpAny_isSubtype_exc hC ?_; rw [hcB]) | wp_step)
  rw [h1]
  refine wpAny_pure ?_
  rw [if_neg (by decide)]
  exact wpAny_pure (wpAny_raiseNew_none hh hE)
end
def RzX (X : Cx) (E : XK) : Prop := X.ex = [] ∧ ∀ (pins : List (Addr × Obj)) (σ : St) (H : Hp) (s : Shared) (e : Addr) (C : Value) (dd : Option Addr), Inv X pins σ H s → H e = some (exF C dd e) → X.s₀.heap.get? e = none → E C dd (rem H e) → X.xe (.ref e) s
theorem exF_ne {C : Value} {dd : Option Addr} {e : Addr} : (∀ y, exF C dd e ≠ .own y) ∧ (∀ xs, exF C dd e ≠ .tup xs) ∧ (∀ ps, exF C dd e ≠ .tbl ps) ∧ ∀ o u, exF C dd e ≠ .frz o u := ⟨fun _ z => (by cases z), fun _ z => (by cases z), fun _ z => (by cases z), fun _ _ z => (by cases z)⟩
theorem HOk.rem {P : Program} {w : World} {H : Hp} {h : Heap} {e : Addr} {C : Value} {dd : Option Addr} (ok : HOk P w H h) (he : H e = some (exF C dd e)) : HOk P w (L2.rem H e) h := fun b u q => by
  have hb : b ≠ e := fun z => by rw [z, rem_same] at q; cases q
  rw [rem_ne hb] at q
  refine (ok b u q).stay (fun c v _ r => r) (fun c r => ?_) fun c xs r => ?_
  · rw [rem_ne (fun z => by rw [z, he] at r; exact exF_ne.1 _ (Option.some.inj r))]; exact r
  · rw [rem_ne (fun z => by rw [z, he] at r; exact exF_ne.2.1 _ (Option.some.inj r))]; exact r
theorem Un.rem {fs ex : List Addr} {H0 H : Hp} {h0 h : Heap} {e : Addr} {C : Value} {dd : Option Addr} (u : Un fs ex H0 H h0 h) (he : H e = some (exF C dd e)) : Un fs ex H0 (L2.rem H e) h0 h where
  keep := u.keep
  slot := u.slot
  free := fun b o q n hx => by
    by_cases z : b = e
    · rw [z]; exact rem_same
    · rw [rem_ne z]; exact u.free b o q n hx
  there := u.there
  tups := fun b xs q => by
    have r := u.tups b xs q
    rw [rem_ne (fun z => by rw [z, he] at r; exact exF_ne.2.1 _ (Option.some.inj r))]; exact r
  frzs := fun b o xs q => by
    have r := u.frzs b o xs q
    rw [rem_ne (fun z => by rw [z, he] at r; exact exF_ne.2.2.2 _ _ (Option.some.inj r))]; exact r
  tbls := fun b ps q => by
    obtain ⟨m, r⟩ := u.tbls b ps q
    refine ⟨m, ?_⟩
    rw [rem_ne (fun z => by rw [z, he] at r; exact exF_ne.2.2.1 _ (Option.some.inj r))]; exact r
section
variable {P : Program} {w : World} {K : PySem.W.Frag} {mg : Str → Option Value} {base : Heap} {N : List Str} {qual : Str} {scope : Scope} {f : Addr} {cd : Value} {A : Around} {outer : List Env} {s₀ : Shared} {H₀ : Hp} {E : XK}
theorem rzx_def : RzX (cxOf (CXx P w) P w K mg base N qual scope f cd A outer s₀ H₀ E) E := by
  refine ⟨rfl, ?_⟩
  intro pins σ H s e C dd I he n0 hE
  obtain ⟨oe, vs, ge, gc, gd, gv, g1, _⟩ := exF_at I.hok he
  have fe : frs (envOfC qual scope s₀.heap.objs.size f cd :: outer) = s₀.heap.objs.size :: frs outer := frs_cons rfl
  have ib : Un (frs outer) [] H₀ H s₀.heap s.heap := I.base
  have um := ib.rem he
  have nL : s₀.heap.get? s₀.heap.objs.size = none := Heap.get?_none_of_le (Nat.le_refl _)
  have ntr : ∀ b u, L2.rem H e b = some u → b ∉ frs (envOfC qual scope s₀.heap.objs.size f cd :: outer) := fun b u q hb => by
    have z : b ≠ e := fun z => by rw [z, rem_same] at q; cases q
    rw [rem_ne z] at q
    have := I.stkFree b hb
    rw [q] at this; cases this
  have hok1 : HOk P w (L2.rem H e) s.heap := I.hok.rem he
  show wpAny _ _ (leaving _ (.ref e)) _ _ s
  unfold leaving
  refine wpAny_bind (leave_fly (T0 := none) (L := s₀.heap.objs.size) (C := C) (dd := dd) I.ok.frames I.stack rfl ⟨oe, vs, ge, gc, gd, gv, g1⟩ (fun T' z => by cases z) fun h' T2 y1 y2 y3 y4 mv => ?_)
  refine ⟨e, C, dd, T2, L2.rem H e, rfl, I.os, I.bare, un_moved (l := envOfC qual scope s₀.heap.objs.size f cd :: outer) um mv (fun b hb => by rw [fe]; exact List.mem_cons_of_mem _ hb) (fun b o q hb => ?_) n0 (fun T' z => by cases z),
    hok1.track fun b u o q1 q2 => mv.keep b o (fun z => by rw [z, rem_same] at q1; cases q1) (by simp) (ntr b u q1) q2, y1, y2, y4, rem_same, ?_, n0, ?_, hE⟩
  · rw [fe] at hb
    rcases List.mem_cons.mp hb with z | z
    · rw [z, nL] at q; cases q
    · exact z
  · cases q : L2.rem H e T2 with
    | none => rfl
    | some u => obtain ⟨ob, hob⟩ := (hok1 T2 u q).there; exact absurd (Heap.lt_size hob) (Nat.not_lt.mpr y3)
  · cases q : s₀.heap.get? T2 with
    | none => rfl
    | some o => obtain ⟨o1, q1⟩ := um.there T2 o q (by simp); exact absurd (Heap.lt_size q1) (Nat.not_lt.mpr y3)
end
section
variable {X : Cx} {k : Nat} {f C : Addr} {fd : FuncData} {ps : List Str} {sp : Sp} {x : Str} {np cpos pos : Pos} {e₀ : Expr} {rest : List Expr} {t : TA} {na : Nat} {g : List Value → List Value → List Value} {gV : List V → List V → List V} {E : XK}
theorem ps_raiseX (xc : XCli X.K C f) (F : FnOk X.prog X.w X.K X.mg X.base (CXx X.prog X.w) k f fd ps sp) (hr : Room (k + 1) X.A) (hc : X.calm = true) (hg : Gl X x) (hm : X.mg x = some (.ref C)) (hb : MkBinds X.K fd ps [] na g gV) (hz : RzX X E)
    (ha : PA X (e₀ :: rest) t) (hdb : (x == ("__debug__" : Str)) = false := by decide) (he : starEach (e₀ :: rest) X.env = (false, eval e₀ X.env) :: starEach rest X.env := by rfl) (hpl : (backTo cpos (starEach rest X.env)).any (·.1) = false := by rfl) :
    PS X (.Raise (some (.Call (.Name x np) (e₀ :: rest) [] cpos)) none pos) (tRaiseX C sp na gV t E) := by
  unfold PA at *; unfold PS at *
  exact by
    intro pins s σ H D I h
    obtain ⟨nm, q, N, bs, bm, hdct, sn, sub, ab, col, dd, k0, k1, k2, k3, k5, es, lk, nk, ni, tl⟩ := xc.ex
    rw [arm_exec_Raise]
    refine wpAny_bind (wpAny_standAt (raise_any (C := C) (nm := nm) (q := q) (N := N) (bs := bs) (bm := bm) (hdct := hdct) (sn := sn) (sub := sub) (ab := ab) (col := col) (dd := dd) (k0 := k0) (k1 := k1) (k2 := k2) (k3 := k3) (k5 := k5) (newId := "ValueError.__new__") ((tl.own' I.kIn).hasType PySem.F.excBase_ValueError.hasBase) (I.ok.hd hc) ?_))
    refine wpAny_bind (eval_makeX (R := fun e H2 => ∃ dd, H2 e = some (exF (.ref C) dd e) ∧ E (.ref C) dd (rem H2 e)) xc F hr hg hm hb ha hdb he hpl I h fun e H2 s2 n0 I2 ⟨dd', q1, q2⟩ => ?_)
    refine wpAny_bind (wpAny_standAt (wpAny_pure ?_))
    obtain ⟨oe, vs, ge, gc, gd, gv, g1, _⟩ := exF_at I2.hok q1
    obtain ⟨oc, od, oda, osl⟩ := oe
    simp only at gc gd gv
    subst gc gd gv
    refine ⟨e, _, _, _, rfl, I2.kIn _ _ lk, ge, g1, hz.2 pins σ H2 s2 e (.ref C) _ I2 q1 ?_ q2⟩
    rcases n0 with z | z
    · exact z
    · exact absurd hz.1 z
end
structure BInit (K : Frag) (B : Addr) : Prop where
  gg : specialIn K (.ref B) "__getattribute__" = some (some (.builtin "type.__getattribute__"))
  rd : readsIn K B (.type "type") = true
  fc : findCls K (.ref B) (.type "type") "__init__" = some (.val (.builtin "ValueError.__init__"))
def tExInit (K : Frag) (t : TA) : TE := fun σ H Q => t σ H fun vs H1 => ∃ e C dd f y, vs = [.ref e, y] ∧ H1 e = some (exF (.ref C) dd e) ∧ XCli K C f ∧ Q .non H1
theorem vals2X {x y : V} {us : List Value} (r : Vals [x, y] us) : ∃ u v, us = [u, v] ∧ RelV x u ∧ RelV y v := by
  cases r with
  | cons a r => cases r with
    | cons b r => cases r; exact ⟨_, _, rfl, a, b⟩
section
variable {X : Cx} {B : Addr} {x : Str} {p apos pos : Pos} {a b : Expr} {t : TA}
theorem run_exInit {pins : List (Addr × Obj)} {σ : St} {H : Hp} {s : Shared} {e C f : Addr} {dd : Option Addr} {y : V} {v : Value} {Q : VK} (I : Inv X pins σ H s) (he : H e = some (exF (.ref C) dd e)) (xc : XCli X.K C f) (ry : RelV y v) (q : Q .non H) :
    wpAny (model X.prog X.w) X.A (call (.builtin "ValueError.__init__") [.ref e, v]) (EP X pins σ Q) X.xe s := by
  obtain ⟨nm, qn, N, bs, bm, hdct, sn, sub, ab, col, dd0, k0, k1, k2, k3, k5, es, lk, nk, ni, tl⟩ := xc.ex
  obtain ⟨oe, vs, ge, gc, gd, gv, g1, g0⟩ := exF_at I.hok he
  have Fn := PySem.F.excBase_ValueError
  obtain ⟨hh, gg, d0, tt, oo⟩ := s
  refine wpAny_call (codeAny_call_builtin Fn.init.plain Fn.initEntry (wpAny_check_init_subU Fn (tl.own' I.kIn) (I.kIn _ _ lk) ge gc ?_))
  have h0 : vs[0]? = some vs[0] := Array.getElem?_eq_getElem g0
  have ge1 : (hh.push { cls := .type "tuple", data := .seq [v].toArray }).get? e = some oe := Heap.get?_push_of_some _ ge
  unfold Builtin.«BaseException.__init__»
  refine wpAny_bind (wpAny_newTuple ?_)
  unfold Builtin.BaseException.bexcPut
  refine wpAny_bind (wpAny_bind (wpAny_field ge1 gv h0 ?_))
  refine wpAny_bind (wpAny_setField ge1 gv g0 ?_)
  have I2 : Inv X pins σ (upd H e (exF (.ref C) dd e)) { heap := (hh.push { cls := .type "tuple", data := .seq [v].toArray }).update e (Obj.mapFields (·.setIfInBounds 0 (.ref hh.objs.size))), gens := gg, drawn := d0, toks := tt, os := oo } := by
    have oth : ∀ b, b ≠ e → ((hh.push { cls := .type "tuple", data := .seq [v].toArray }).update e (Obj.mapFields (·.setIfInBounds 0 (.ref hh.objs.size)))).get? b = (hh.push { cls := .type "tuple", data := .seq [v].toArray }).get? b := fun b hb => Heap.get?_update_other _ _ (Ne.symm hb)
    have self := up_self (f := (·.setIfInBounds 0 (.ref hh.objs.size))) ge1 gv
    refine I.write (s := ⟨hh, gg, d0, tt, oo⟩) (x := e) (e := e) (t' := tt) (by rw [he]; exact True.intro) (.inl rfl) (fun b u hb q => (oth b hb).trans (Heap.get?_push_of_some _ q)) ⟨_, self⟩ ?_
    refine exF_ok (vs := vs.setIfInBounds 0 (.ref hh.objs.size)) self ((Obj.cls_mapFields _ _).trans gc) ((dict_mapF _ _).trans gd) (Obj.data_mapFields gv _) ?_ ?_
    · rw [Array.getElem?_setIfInBounds_ne (by decide)]; exact g1
    · rw [Array.size_setIfInBounds]; exact g0
  have eu : upd H e (exF (.ref C) dd e) = H := by
    funext b
    by_cases z : b = e
    · rw [z, upd_same, he]
    · rw [upd_ne z]
  rw [eu] at I2
  cases vs[0] <;> first | exact wpAny_letGo (wpAny_pure ⟨.non, H, I2, rfl, q⟩) | exact wpAny_pure (wpAny_pure ⟨.non, H, I2, rfl, q⟩)
theorem pe_exInit {pl : Sem Bool} (bi : BInit X.K B) (hg : Gl X x) (hm : X.mg x = some (.ref B)) (ha : PA X [a, b] t) (hdb : (x == ("__debug__" : Str)) = false := by decide)
    (hst : starEach [a, b] X.env = (false, eval a X.env) :: starEach [b] X.env := by rfl) (hpl : (backTo pos (starEach [b] X.env)).any (·.1) = false := by rfl)
    (ht : eval (.Call (.Attribute (.Name x p) "__init__" apos) [a, b] [] pos) X.env = (do
      let ov ← eval (.Name x p) X.env
      standAt apos.atName
      let (f, first) ← holding [ov] (getMethod ov "__init__" pl)
      callWith pos f first (backTo pos (starEach [a, b] X.env)) (backToKw pos (keywordEach [] X.env))) := by rfl) :
    PE X (.Call (.Attribute (.Name x p) "__init__" apos) [a, b] [] pos) (tExInit X.K t) := by
  unfold PE at *; unfold PA at *
  exact by
    intro pins s σ H Q I h
    refine methodCall_KW (pl := pl) (ld_glob I hg hm ?_ hdb) ht
    refine method_cls I.kIn bi.gg (cls_value I.kIn bi.rd bi.fc rfl ?_)
    have I1 : Inv X pins σ H { s with toks := s.toks + 1 } := I.tok _
    have hA := ha pos pins { s with toks := s.toks + 1 } σ H _ I1 h
    show wpAny _ _ (callWith pos (.builtin "ValueError.__init__") [] (backTo pos (starEach [a, b] X.env)) []) _ _ _
    rw [hst] at hA ⊢
    refine Calls.callWith_builtin (by show (false || (backTo pos (starEach [b] X.env)).any (·.1)) = false; rw [hpl] <;> rfl) (Calls.evalArgs_plain ?_)
    refine thn hA fun us s2 ⟨vs, H2, I2, r2, e, C, dd, f, y, e1, he, xc, q⟩ => ?_
    subst e1
    obtain ⟨u1, u2, rfl, rx, ry⟩ := vals2X r2
    obtain rfl : u1 = Value.ref e := rx
    exact run_exInit I2 he xc ry q
end
end L2
namespace L2
open PySem PySem.Spec PyProof.Rows PySem.W
section
variable {prog : Program} {w : World} {A : Around} {E : Value → Shared → Prop} {s : Shared} {K : Frag} {e C : Addr} {oe : Obj} {od : Option Obj}
theorem findXd {a g : Value} {name : Str} (hc : (clsIn K C).isSome = true) (ha : findIn K (.ref C) name = some (some a)) (hg : specialIn K a "__get__" = some (some g)) (ht : takesIn K a = some true) : findObj K C od name = some (.bind g a) := by
  obtain ⟨cd, hc⟩ := Option.isSome_iff_exists.mp hc
  unfold findObj
  rw [hc, Option.bind_some, ha, Option.bind_some]
  simp [hg, ht]
theorem xcheckD {nameV : Value} {Q : Unit → Shared → Prop} (U : XAsk K C) (X : K.In s.heap) (I : InstAt s.heap e oe C od) (hq : Q () s) :
    wpAny (model prog w) A (checkBuiltinCall "BaseException.__getattribute__" ⟨[.ref e, nameV], []⟩) Q E s := by
  have hk : builtinKind "BaseException.__getattribute__" = some .slot := by decide +kernel
  have hsplit : splitId "BaseException.__getattribute__" = some ("BaseException", "__getattribute__") := by decide +kernel
  have L0 := I.type (M := model prog w)
  have L1 := looks_subIn (M := model prog w) X U.sb
  have LI : Looks (model prog w) s.heap (isInstance (.ref e) (.type "BaseException")) true := L0.andThen L1
  have ha := F.args_bexc_ga (.ref e) nameV
  simp only [checkBuiltinCall, hk, hsplit]
  refine wpAny_bind (LI.at ?_)
  rw [if_neg (by decide)]
  exact wpAny_of_eq ha hq
theorem xentryD {tk : Tok} {Q : Fin → Shared → Prop} (U : XAsk K C) (X : K.In s.heap) (I : InstAt s.heap e oe C od) (hq : Q (.done (.ret (.ref C))) s) :
    wpAny (model prog w) A (Builtin.«object.__getattribute__» ⟨[.ref e, .str "__class__" tk], []⟩) Q E s := by
  obtain ⟨hh, g, d, t, os⟩ := s
  have L0 := I.type (M := model prog w)
  have L3 := looks_find (M := model prog w) X I (findXd U.cs U.ca U.gg U.tk)
  unfold Builtin.«object.__getattribute__»
  refine wpAny_bind (wpAny_of_eq (show slotArgs "__getattribute__" 1 ⟨[.ref e, .str "__class__" tk], []⟩ = pure (.ref e, [.str "__class__" tk]) from rfl) ?_)
  refine wpAny_bind (wpAny_of_eq (show Builtin.ObjectAttr.attrName (.str "__class__" tk) = pure ("__class__" : Str) from rfl) ?_)
  refine wpAny_bind (L0.at (wpAny_bind (L3.at ?_)))
  show wpAny _ _ (Builtin.ObjectAttr.bindTo (.builtin "getset_descriptor.__get__") (.builtin "object.__class__") (.ref e) (.ref C)) _ _ _
  show wpAny _ _ (holding [.builtin "object.__class__"] (call (.builtin "getset_descriptor.__get__") [.builtin "object.__class__", .ref e, .ref C]) >>= ret) _ _ _
  exact wpAny_bind (wpAny_holding (wpAny_call (class_get X I U.mo (wpAny_pure hq))))
theorem xclassD {Q : Option Value → Shared → Prop} (U : XAsk K C) (X : K.In s.heap) (I : InstAt s.heap e oe C od) (h : Q (some (.ref C)) { s with toks := s.toks + 1 }) : wpAny (model prog w) A (getAttr? (.ref e) "__class__") Q E s := by
  obtain ⟨hh, g, d, t, os⟩ := s
  have L0 := I.type (M := model prog w)
  have L1 := looks_findIn (M := model prog w) X U.ga
  have L2 := looks_findIn (M := model prog w) X U.gt
  unfold getAttr? getAttrBy? getAttrBy
  refine wpAny_bind (wpAny_mkText (wpAny_bind (wpAny_attempt (wpAny_holding (wpAny_bind (L0.at (wpAny_bind (L1.at ?_))))))))
  show wpAny _ _ (getAttrByItsOwn (.ref e) _ (.ref C) (.builtin "BaseException.__getattribute__") false false) _ _ _
  unfold getAttrByItsOwn
  refine wpAny_bind ?_
  show wpAny _ _ (typeLookup (.ref C) "__getattr__") _ _ _
  refine L2.at ?_
  refine wpAny_bind (wpAny_attempt (wpAny_holding ?_))
  show wpAny _ _ (boundAndCalled (.builtin "BaseException.__getattribute__") (.ref e) _) _ _ _
  unfold boundAndCalled
  refine wpAny_bind (wpAny_of_eq (F.attr_ValueError.ga.bind (.ref e)) ?_)
  refine wpAny_call (codeAny_call_builtin F.attr_ValueError.ga.plain F.entry_bexc_ga (xcheckD U X I (xentryD U X I ?_)))
  exact wpAny_pure (wpAny_pure h)
theorem kitx_excD (U : XAsk K C) : KitX K (.ref e) (.ref C) (fun h => ∃ oe od, InstAt h e oe C od) where
  ty := fun M h _ ⟨_, _, I⟩ => I.type
  it := fun _ _ X _ => by
    obtain ⟨cd, hc⟩ := Option.isSome_iff_exists.mp U.cs
    unfold clsIn at hc
    split at hc
    · rename_i c' d' cd' sl' ho
      intro A' Q' E' s' k q
      unfold isType loadHead
      exact wpAny_bind (wpAny_loadPart (k _ _ (X _ _ ho)) (wpAny_pure q))
    · cases hc
  ne := fun h tp dd its n sl X htp => by
    obtain ⟨cd, hc⟩ := Option.isSome_iff_exists.mp U.cs
    refine Bool.eq_false_iff.mpr fun q => ?_
    have z : C = tp := Value.ref.inj (beq_iff_eq.mp q)
    subst z
    unfold clsIn at hc
    split at hc
    · rename_i c' d' cd' sl' ho
      have z := (X _ _ ho).symm.trans htp
      cases z
    · cases hc
  ca := fun X ⟨_, _, I⟩ k => xclassD U X I k
theorem xgetD {name : Str} {expr : Bool} {v : Value} {Q : Value → Shared → Prop} (U : XAsk K C) (X : K.In s.heap) (I : InstAt s.heap e oe C od) (hf : findObj K C od name = some (.value v)) (hh : handedIn v = true) (h : Q v { s with toks := s.toks + 1 }) :
    wpAny (model prog w) A (getAttr (.ref e) name expr) Q E s := by
  obtain ⟨hh', g, d, t, os⟩ := s
  have L0 := I.type (M := model prog w)
  have L1 := looks_findIn (M := model prog w) X U.ga
  have L2 := looks_findIn (M := model prog w) X U.gt
  have L3 := looks_find (M := model prog w) X I hf
  unfold getAttr getAttrBy
  refine wpAny_bind (wpAny_mkText (wpAny_holding (wpAny_bind (L0.at (wpAny_bind (L1.at ?_))))))
  show wpAny _ _ (getAttrByItsOwn (.ref e) _ (.ref C) (.builtin "BaseException.__getattribute__") true expr) _ _ _
  unfold getAttrByItsOwn
  refine wpAny_bind ?_
  show wpAny _ _ (typeLookup (.ref C) "__getattr__") _ _ _
  refine L2.at ?_
  refine wpAny_bind (wpAny_attempt (wpAny_holding ?_))
  unfold callGetattribute
  rw [show (expr && onTheHeap (Value.builtin "BaseException.__getattribute__")) = false from Bool.and_false _, if_neg (by decide)]
  unfold boundAndCalled
  refine wpAny_bind (wpAny_of_eq (F.attr_ValueError.ga.bind (.ref e)) ?_)
  refine wpAny_call (codeAny_call_builtin F.attr_ValueError.ga.plain F.entry_bexc_ga (xcheckD U X I ?_))
  unfold Builtin.«object.__getattribute__»
  refine wpAny_bind (wpAny_of_eq (show slotArgs "__getattribute__" 1 ⟨[.ref e, .str name _], []⟩ = pure (.ref e, [.str name _]) from rfl) ?_)
  refine wpAny_bind (wpAny_of_eq (show Builtin.ObjectAttr.attrName (.str name _) = pure (name : Str) from rfl) ?_)
  refine wpAny_bind (L0.at (wpAny_bind (L3.at ?_)))
  refine wpAny_pure ?_
  show wpAny _ _ (handedOut v) _ _ _
  rw [handedOut_of hh]
  exact wpAny_pure h
end
def XD (H : Hp) (e C dx : Addr) (fs : List (Str × V)) : Prop := (H e = some (exF (.ref C) (some dx) e) ∨ H e = some (exO (.ref C) (some dx) e)) ∧ H dx = some (.xd fs)
theorem XD.inst {P : Program} {w : World} {H : Hp} {h : Heap} {e C dx : Addr} {fs : List (Str × V)} (ok : HOk P w H h) (x : XD H e C dx fs) : ∃ oe od, InstAt h e oe C (some od) ∧ ∃ mA : Str → Option Value, (∀ f, RelO (fs.lookup f) (mA f)) ∧ ∀ name, lookIn name od = some (mA name) := by
  obtain ⟨x1, x2⟩ := x
  obtain ⟨mA, ns, rl⟩ := (show ObjOk P w H h dx (.xd fs) from ok dx _ x2)
  obtain ⟨od, ho, hl⟩ := lookIn_ns ns
  have : ∃ oe vs, h.get? e = some oe ∧ oe.cls = .ref C ∧ oe.dict = some dx ∧ oe.data = .fields vs := by
    rcases x1 with z | z
    · obtain ⟨⟨oe, vs, a, b, c, d, _⟩, _⟩ := ok e _ z
      exact ⟨oe, vs, a, b, c, d⟩
    · obtain ⟨⟨oe, vs, a, b, c, d⟩, _⟩ := ok e _ z
      exact ⟨oe, vs, a, b, c, d⟩
  obtain ⟨oe, vs, he, hC, hdd, hd⟩ := this
  refine ⟨oe, od, ⟨he, hC, ?_, ?_⟩, mA, rl, hl⟩
  · obtain ⟨a, b, c, d⟩ := oe
    have hd' : c = .fields vs := hd
    subst hd'
    rfl
  · rw [hdd]
    exact ho
section
variable {X : Cx}
def rIsiD (K : Frag) : List V → Hp → VK → Prop := fun xs H Q => ∃ e c cv C dx fs b, xs = [.ref e, c] ∧ ClsV c cv ∧ XD H e C dx fs ∧ XAsk K C ∧ kitOne K (.ref C) cv = some b ∧ Q (.bl b) H
theorem call_isiD : CallR X (.builtin "isinstance") (rIsiD X.K) := by
  unfold CallR at *
  exact by
    intro pins s σ H xs us Q I rv h
    obtain ⟨e, c, cv, C, dx, fs, b, rfl, hc, he, U, k, q⟩ := h
    obtain ⟨u, cu, rfl, ru, rc⟩ := rv.two
    have ec : cu = cv := by cases hc <;> exact rc
    subst ec
    cases (show u = Value.ref e from ru)
    obtain ⟨oe, od, J, _⟩ := he.inst I.hok
    exact kia_one (kitx_excD U) I.kIn ⟨oe, some od, J⟩ k (fun z => nomatch z) fun tk => ⟨.bl b, H, I.tok tk, rfl, q⟩
def rIsiE (K : Frag) : List V → Hp → VK → Prop := fun xs H Q => rIsiA K xs H Q ∨ rIsiD K xs H Q
theorem call_isiE : CallR X (.builtin "isinstance") (rIsiE X.K) := by
  first
  | exact (call_isiA.or call_isiD)
  | (unfold CallR at *; exact (call_isiA.or call_isiD))
def tFldX (K : Frag) (ta : TE) (f : Str) : TE := fun σ H Q => ta σ H fun x H1 => ∃ e C dx fs v, x = .ref e ∧ XD H1 e C dx fs ∧ XAsk K C ∧ hasDictIn K C = true ∧ findIn K (.ref C) f = some none ∧ fs.lookup f = some v ∧ Q v H1
theorem pe_fldX {e : Expr} {ta : TE} {f : Str} {pos : Pos} (he : PE X e ta) (hb : attributeBase e f X.env (eval e X.env) = eval e X.env) : PE X (.Attribute e f pos) (tFldX X.K ta f) := by
  unfold PE at *
  exact by
    intro pins s σ H Q I h
    refine attr_of hb (thn (he pins s σ H _ I h) fun u s1 ⟨x, H1, I1, rx, a, C, dx, fs, v, ex, xd, U, hd, na, l, q⟩ => ?_)
    subst ex
    obtain rfl : u = Value.ref a := rx
    obtain ⟨oe, od, J, mA, rl, hl⟩ := xd.inst I1.hok
    obtain ⟨y, hu, ru⟩ := RelO.some_of (v := v) (o := mA f) (by rw [← l]; exact rl f)
    exact xgetD U I1.kIn J (findObj_own hd na rfl (by rw [hl, hu])) (handed_of ru) ⟨v, H1, I1.tok _, ru, q⟩
end
structure XSet (K : Frag) (C : Addr) (f : Str) : Prop where
  sa : findIn K (.ref C) "__setattr__" = some (some (.builtin "object.__setattr__"))
  na : findIn K (.ref C) f = some none
  hd : hasDictIn K C = true
  mo : mroIn K C (.type "object") = some true
theorem refuse_tail {K : Frag} (self : Value) {bm : List Value} (t : TailK K bm) : refuseLoop self "__setattr__" bm = pure () := by
  induction t with
  | base => exact PySem.F.store_ValueError.passes self
  | own _ _ _ _ ih => rw [refuseLoop_ref]; exact ih
section
variable {prog : Program} {w : World} {A : Around} {E : Value → Shared → Prop} {K : Frag} {e C fI : Addr} {oe : Obj} {name : Str} {v : Value} {h : Heap} {g : Array GenState} {d : Drawn} {t : Nat} {os : OsState}
theorem store_first {Q : Unit → Shared → Prop} {vs : Array Value} {sl : Array (Option Value)} (xc : XCli K C fI) (xs : XSet K C name) (X : K.In h) (he : h.get? e = some ⟨.ref C, none, .fields vs, sl⟩)
    (hq : ∀ h' t', h'.get? e = some ⟨.ref C, some h.objs.size, .fields vs, sl⟩ → h'.Ns1 h.objs.size (fun y => if y = name then some v else none) → (∀ b o, b ≠ e → h.get? b = some o → h'.get? b = some o) → Q () ⟨h', g, d, t', os⟩) :
    wpAny (model prog w) A (setAttr (.ref e) name v) Q E ⟨h, g, d, t, os⟩ := by
  obtain ⟨nm, q, N, bs, bm, hdct, sn, sub, ab, col, dd, k0, k1, k2, k3, k5, es, lk, nk, ni, tl⟩ := xc.ex
  have I : InstAt h e ⟨.ref C, none, .fields vs, sl⟩ C none := ⟨he, rfl, rfl, True.intro⟩
  have SF := PySem.F.store_object
  refine set_plain (s := ⟨h, g, d, t, os⟩) X I xs.sa ?_
  have sub1 : Looks (model prog w) h (isInstance (.ref e) (.type "object")) true := I.type.andThen (looks_mroIn X xs.mo)
  refine codeAny_call_builtin SF.slot.plain SF.entry (@check_slot (model prog w) _ _ ⟨h, g, d, t + 1, os⟩ "object.__setattr__" "object" "__setattr__" (.ref e) [.str name t, v] [] _ SF.kind SF.split sub1 (SF.args (.ref e) (.str name t) v) ?_)
  rw [osa_eq, refuse_eq]
  have L3 : Looks (model prog w) h (Builtin.ObjectAttr.storeTaker? none) none := .now
  refine wpAny_bind (wpAny_bind (I.type.at (wpAny_bind (wpAny_mroOf_exc (X _ _ lk) ?_))))
  rw [refuseLoop_ref, refuse_tail _ tl]
  refine wpAny_pure (wpAny_bind (I.type.at (wpAny_bind ((looks_findIn X xs.na).at (wpAny_bind (L3.at ?_))))))
  show wpAny _ _ (Builtin.ObjectAttr.storeInOwnDict (.ref e) (.ref C) (.str name t) name v _) _ _ _
  obtain ⟨cd, hc, hd'⟩ := any_some xs.hd
  refine wpAny_bind (wpAny_pure (wpAny_bind (wpAny_bind (wpAny_loadPart he (wpAny_bind (Looks.here (s := ⟨h, g, d, t + 1, os⟩) (looks_clsIn X hc) ?_))))))
  rw [hd']
  have hx₁ : (h.push { cls := .type "dict", data := .dict #[] }).get? e = some ⟨.ref C, none, .fields vs, sl⟩ := Heap.get?_push_of_some _ he
  have hxs : e ≠ h.objs.size := Nat.ne_of_lt (Heap.lt_size he)
  refine wpAny_bind (wpAny_alloc' ?_)
  refine wpAny_bind (wpAny_update' hx₁ ?_)
  refine wpAny_pure ?_
  have hgd : ((h.push { cls := .type "dict", data := .dict #[] }).update e fun o => { cls := o.cls, dict := some h.objs.size, data := o.data, slots := o.slots }).get? h.objs.size
      = some { cls := .type "dict", data := .dict #[] } :=
    (Heap.get?_update_ne _ _ _ _ hxs.symm).trans (Heap.get?_push_at rfl rfl)
  have hnd : ((h.push { cls := .type "dict", data := .dict #[] }).update e fun o => { cls := o.cls, dict := some h.objs.size, data := o.data, slots := o.slots }).Ns h.objs.size (fun _ => none) :=
    ⟨_, #[], _, hgd, rfl, fun e he => absurd he (by simp), fun _ => rfl⟩
  show wpAny _ _ (Builtin.ObjectAttr.storeInDict h.objs.size (.str name t) name v) _ _ _
  unfold Builtin.ObjectAttr.storeInDict Builtin.ObjectAttr.newKeyGuard
  refine wpAny_bind (wpAny_pure (wpAny_bind (wpAny_nsSet1 (Heap.Ns1.of_empty hnd) fun h' hn' hs => ?_)))
  obtain ⟨oD, esD, epD, hoD, hdD, hcD⟩ := hn'.count (Within.cons name v Within.nil)
  refine wpAny_bind (wpAny_lookBehind hoD (by rw [hdD]; exact pastItsLine_dict (Nat.le_trans hcD (by rw [List.length_cons, List.length_nil, sizeLine_eq]; omega))) ?_)
  refine wpAny_pure (hq h' _ ?_ hn' fun b o hb q => ?_)
  · exact (hs.2 e hxs).trans (Heap.get?_update_self _ hx₁ rfl)
  · exact (hs.2 b (Nat.ne_of_lt (Heap.lt_size q))).trans ((Heap.get?_update_ne _ _ _ _ hb).trans (Heap.get?_push_of_some _ q))
end
section
variable {X : Cx} {o value : Expr} {f : Str} {ta tv : TE} {pos pos' : Pos}
def sFldX (K : Frag) (ta tv : TE) (f : Str) : TS := fun D σ H => tv σ H fun y H1 => ta σ H1 fun x H2 => ∃ e C fI, x = .ref e ∧ H2 e = some (exF (.ref C) none e) ∧ XCli K C fI ∧ XSet K C f ∧ ∀ dx, H2 dx = none → D.nx σ (upd (upd H2 e (exF (.ref C) (some dx) e)) dx (.xd [(f, y)]))
theorem ps_fldX (ha : PE X o ta) (hv : PE X value tv) (hs : swapsWith value (some (.Attribute o f pos')) pos.line X.env = pure false) : PS X (.Assign [.Attribute o f pos'] value pos) (sFldX X.K ta tv f) := by
  unfold PE at *; unfold PS at *
  exact by
    intro pins s σ H D I h
    refine plainObj_wpAny_Assign_Attribute (thn (hv pins s σ H _ I h) fun u s1 ⟨y, H1, I1, ry, q⟩ => thn (ha pins s1 σ H1 _ I1 q) fun ov s2 ⟨x, H2, I2, rx, a, C, fI, ex, ea, xc, xs, q2⟩ => ?_) hs
    subst ex
    obtain rfl : ov = Value.ref a := rx
    obtain ⟨oe, vs, ge, gc, gd, gv, g1, g0⟩ := exF_at I2.hok ea
    obtain ⟨oc, od, oda, osl⟩ := oe
    simp only at gc gd gv
    subst gc gd gv
    obtain ⟨hh, gg, d0, tt, oo⟩ := s2
    refine store_first xc xs I2.kIn ge fun h' t' e1 n1 kp => ?_
    have I3 : Inv X pins σ (upd H2 a (exF (.ref C) (some hh.objs.size) a)) ⟨h', gg, d0, t', oo⟩ := I2.write (s := ⟨hh, gg, d0, tt, oo⟩) (x := a) (e := a) (t' := t') (by rw [ea]; exact True.intro) (.inl rfl) (fun b u hb q => kp b u hb q) ⟨_, e1⟩ (exF_ok e1 rfl rfl rfl g1 g0)
    have nd : hh.objs.size ≠ a := Nat.ne_of_gt (Heap.lt_size ge)
    have fr : H2 hh.objs.size = none := I2.hok.fresh (Nat.le_refl _)
    obtain ⟨m, ⟨ol, _, _, hl, _⟩, _⟩ := id I2.loc
    have lt := Heap.lt_size hl
    have I4 := I3.adopt (e := hh.objs.size) (o := .xd [(f, y)]) (by rw [upd_ne nd]; exact fr) (Heap.get?_none_of_le (Nat.le_trans I2.ok.above (Nat.le_of_lt lt))) (Nat.ne_of_gt lt)
      (fun x c z => by obtain ⟨v, oc, hc, _⟩ := I2.cell x c z; exact Nat.ne_of_lt (Heap.lt_size hc)) (fun p hp => Nat.ne_of_lt (Heap.lt_size (I2.pin p hp).1)) ⟨_, n1, fun g => by
        show RelO ([(f, y)].lookup g) (if g = f then some u else none)
        by_cases z : g = f
        · rw [z, if_pos rfl]
          have : [(f, y)].lookup f = some y := by simp [List.lookup]
          rw [this]
          exact ry
        · rw [if_neg z]
          have : [(f, y)].lookup g = none := by
            have : (g == f) = false := by simpa using z
            simp [List.lookup, this]
          rw [this]
          exact True.intro⟩
    exact ⟨σ, _, I4, q2 _ fr⟩
end
theorem XCli.mk2 {K : Frag} {C N A f : Addr} {nm q : Str} {bs : List Value} {hdct : Bool} {sn : List Str} {sub : List Value} {ab : Bool} {col : Option Bool} {dd : Option Addr} {k0 k1 k2 k3 k5 : Option Value} {es : Array DictEntry} {c d ep sl}
    {c0 : Value} {dd' : Option Addr} {cd : ClassData} {sl0 : Array (Option Value)} {es' : Array DictEntry} {c' d' ep' sl'}
    (l : K.lookup C = some (excClassObj nm q C N bs (.ref A :: vmro) hdct sn sub ab col dd k0 k1 k2 k3 k5 "ValueError.__new__")) (ln : K.lookup N = some ⟨c, d, .dict es ep, sl⟩) (sk : strKeysB es = true) (ni : nsFind es "__init__" = some (.ref f))
    (la : K.lookup A = some { cls := c0, dict := dd', data := .cls cd, slots := sl0 }) (lna : K.lookup cd.ns = some ⟨c', d', .dict es' ep', sl'⟩) (ska : strKeysB es' = true) (nia : nsFind es' "__init__" = none)
    (fn : isFn K (.ref f) = true) (kp : keepIn K (.ref C) = true) : XCli K C f :=
  ⟨⟨_, _, _, _, _, _, _, _, _, _, _, _, _, _, _, _, _, l, ⟨_, _, _, _, ln, strKeys_of sk⟩, ni, .own la ⟨_, _, _, _, lna, strKeys_of ska⟩ nia .base⟩, beq_iff_eq.mp fn, kp⟩
theorem rIsiE.xd {K : Frag} {H : Hp} {e C c dx : Addr} {fs : List (Str × V)} {b : Bool} {Q : VK} (h : XD H e C dx fs) (q : XAsk K C) (k : kitOne K (.ref C) (.ref c) = some b) (hQ : Q (.bl b) H) : rIsiE K [.ref e, .ref c] H Q :=
  .inr ⟨e, .ref c, _, C, dx, fs, b, rfl, .own c, h, q, k, hQ⟩
theorem rIsiE.xdT {K : Frag} {H : Hp} {e C dx : Addr} {c : String} {fs : List (Str × V)} {b : Bool} {Q : VK} (h : XD H e C dx fs) (q : XAsk K C) (k : kitOne K (.ref C) (.type c) = some b) (hQ : Q (.bl b) H) : rIsiE K [.ref e, .ty c] H Q :=
  .inr ⟨e, .ty c, _, C, dx, fs, b, rfl, .ty c, h, q, k, hQ⟩
theorem XD.same {H H' : Hp} {e C dx : Addr} {fs : List (Str × V)} (h : XD H e C dx fs) (s : Same H H') : XD H' e C dx fs := ⟨h.1.imp (s _ _) (s _ _), s _ _ h.2⟩
def spExI (C : Addr) (f : Str) : Sp := fun vs H Q _ => ∃ e wd pl, vs = [.ref e, wd, pl] ∧ H e = some (exF (.ref C) none e) ∧ ∀ dx, H dx = none → Q .non (upd (upd H e (exF (.ref C) (some dx) e)) dx (.xd [(f, pl)]))
theorem exI_rem {H : Hp} {e dx : Addr} {o u : HO} (he : H e = none) (hd : upd H e o dx = none) : Same H (rem (upd (upd (upd H e o) e u) dx o') e) := fun b w hb => by
  have n1 : b ≠ e := fun z => by rw [z, he] at hb; cases hb
  have n2 : b ≠ dx := fun z => by
    rw [← z, upd_ne n1, hb] at hd
    cases hd
  rw [rem_ne n1, upd_ne n2, upd_ne n1, upd_ne n1]
  exact hb
theorem raiseI {H : Hp} {C : Addr} {f : Str} {wd pl : V} {E : XK} (h : ∀ x H', Same H H' → H' x = some (.xd [(f, pl)]) → E (.ref C) (some x) H') (e : Addr) (he : H e = none) :
    spExI C f [.ref e, wd, pl] (upd H e (exF (.ref C) none e)) (fun v H2 => v = .non ∧ ∃ dd, H2 e = some (exF (.ref C) dd e) ∧ E (.ref C) dd (rem H2 e)) E0 := by
  refine ⟨e, wd, pl, rfl, upd_same, fun dx hd => ⟨rfl, some dx, ?_, ?_⟩⟩
  · have ne : e ≠ dx := fun z => by rw [← z, upd_same] at hd; cases hd
    rw [upd_ne ne, upd_same]
  · have ne : dx ≠ e := fun z => by rw [z, upd_same] at hd; cases hd
    exact h dx _ (exI_rem he hd) (by rw [rem_ne ne, upd_same])
theorem makeI {H : Hp} {C : Addr} {f : Str} {wd pl : V} {P : Addr → Hp → Prop} (h : ∀ e dx H', Same H H' → XD H' e C dx [(f, pl)] → P e H') (e : Addr) (he : H e = none) :
    spExI C f [.ref e, wd, pl] (upd H e (exF (.ref C) none e)) (fun v H2 => v = .non ∧ P e H2) E0 := by
  refine ⟨e, wd, pl, rfl, upd_same, fun dx hd => ⟨rfl, h e dx _ (fun b u hb => ?_) ⟨.inl ?_, upd_same⟩⟩⟩
  · have n1 : b ≠ e := ne_of_none hb he
    have n2 : b ≠ dx := fun z => by
      rw [← z, upd_ne n1, hb] at hd
      cases hd
    rw [upd_ne n2, upd_ne n1, upd_ne n1]
    exact hb
  · have ne : e ≠ dx := fun z => by rw [← z, upd_same] at hd; cases hd
    rw [upd_ne ne, upd_same]
def XE (H : Hp) (e C : Addr) : Prop := H e = some (exO (.ref C) none e) ∨ ∃ dx fs, XD H e C dx fs
theorem XE.same {H H' : Hp} {e C : Addr} (h : XE H e C) (s : Same H H') : XE H' e C := h.imp (s _ _) fun ⟨dx, fs, x⟩ => ⟨dx, fs, x.same s⟩
theorem rIsiE.xe {K : Frag} {H : Hp} {e C c : Addr} {b : Bool} {Q : VK} (h : XE H e C) (q : XAsk K C) (k : kitOne K (.ref C) (.ref c) = some b) (hQ : Q (.bl b) H) : rIsiE K [.ref e, .ref c] H Q := by
  rcases h with h | ⟨dx, fs, h⟩
  · exact .inl (rIsiA.exc h q k hQ)
  · exact .xd h q k hQ
theorem rIsiE.xeT {K : Frag} {H : Hp} {e C : Addr} {c : String} {b : Bool} {Q : VK} (h : XE H e C) (q : XAsk K C) (k : kitOne K (.ref C) (.type c) = some b) (hQ : Q (.bl b) H) : rIsiE K [.ref e, .ty c] H Q := by
  rcases h with h | ⟨dx, fs, h⟩
  · exact .inl (rIsiA.excT h q k hQ)
  · exact .xdT h q k hQ
theorem XD.caught {H : Hp} {e C dx : Addr} {fs : List (Str × V)} (h : H dx = some (.xd fs)) (he : H e = none) : XD (upd H e (exO (.ref C) (some dx) e)) e C dx fs :=
  ⟨.inr upd_same, Same.new he _ _ h⟩
theorem bt_sum : bootBuiltins "sum" = some (.builtin "sum") := by decide +kernel
theorem call_sum {X : Cx} (hc : X.calm = true) : CallR X (.builtin "sum") (fun xs H Q => ∃ (a : Addr) (ns : List Int), xs = [.ref a] ∧ SqL X.K H a (ns.map V.int) ∧ ∀ r, Q (.int r) H) := by
  unfold CallR at *
  exact by
    intro pins s σ H xs us Q I r h
    obtain ⟨a, ns, rfl, hq, q⟩ := h
    obtain ⟨u, rfl, ru⟩ := vals1 r
    cases ru
    obtain ⟨its, rv, pl, hz⟩ := I.list hq
    have hi : IntsAre its.toArray.toList ns := intsAre_of rv
    obtain ⟨xs, e⟩ := hi.allInts.items
    have hl := pl.isList
    rw [e] at hl
    exact PySem.sum_intListG (I.ok.hd hc) hl fun h' tk t' hk => ⟨.int _, H, I.kept (t' := tk) hk, ⟨t', rfl⟩, q _⟩
theorem MkBinds.of0 {K : Frag} {x qual : Str} {st : Stmt} {f : Addr} {fd : FuncData} {ps : List Str} {na : Nat} (F : FunD K x qual st .none f fd)
    (h : ∀ (kV doc pm : Value) (an : Option Addr) (cdv ct : Value) (y : Value) (us : List Value), us.length = na → bindArgs (PySem.W.fnOf x qual (defArgs st) (defBody st) (defScope st) .none kV doc pm an cdv ct) ⟨y :: us, []⟩ = pure (ps.zip (y :: us)) ∧ (y :: us).length = ps.length) : MkBinds K fd ps [] na (fun us _ => us) (fun us _ => us) := by
  obtain ⟨oc, od, kV, doc, pm, an, cdv, ct, osl, rfl, lk, hcd⟩ := F.ex
  refine ⟨fun s y us ws X h1 h2 => ?_, fun r _ => r⟩
  obtain ⟨e1, e2⟩ := h kV doc pm an cdv ct y us h1
  obtain rfl : ws = [] := List.eq_nil_of_length_eq_zero h2
  exact ⟨.of_eq e1, e2⟩
theorem loop_all {K : Frag} {a l : Addr} {vs : List V} {P : Nat → V → Prop} {g : TG} {te : TE} {σ : St} {H : Hp} {Q : VK} (hl : H l = none) (hA : SqL K H a vs) (lz : vs.length ≤ 1000) (Ps : St → Prop) (h0 : Ps σ)
    (hs : ∀ (i : Nat) x σ G (Kt : St → V → Hp → Prop), vs[i]? = some x → Ps σ → Same H G → (∀ σ2 v G2, Ps σ2 → Same G G2 → P i v → Kt σ2 v G2) → g x σ G fun σ2 H2 => te σ2 H2 (Kt σ2))
    (hd : ∀ G acc, Same H G → G l = some (.lst acc) → acc.length = vs.length → (∀ i v, acc[i]? = some v → P i v) → Q (.ref l) G) : tLoop (Itl K a) l g tAll te σ (upd H l (.lst [])) Q := by
  have sz : 1000 ≤ sizeLine := le_ble rfl
  refine loop_lst (xs := vs) (fun i σ acc G => Ps σ ∧ Same H G ∧ G l = some (.lst acc) ∧ acc.length = i ∧ ∀ (j : Nat) v, acc[j]? = some v → P j v) (by omega) ?_ ?_ ?_ ?_
  · exact ⟨h0, Same.new hl, upd_same, rfl, fun j v h => by rw [List.getElem?_nil] at h; cases h⟩
  · rintro i σ acc G hi ⟨_, sG, h1, h2, _⟩
    exact ⟨h1, sG.seq hA, by omega⟩
  · rintro i x σ acc G hx ⟨hp, sG, h1, h2, h3⟩
    have hi : i < vs.length := (List.getElem?_eq_some_iff.mp hx).1
    refine hs i x σ G _ hx hp sG fun σ2 v G2 p2 s2 hv => ⟨s2 _ _ h1, Nx.mk hi ⟨p2, fun b u hb => ?_, upd_same, by rw [List.length_append, h2]; rfl, fun j w hw => ?_⟩⟩
    · rw [upd_ne (ne_of_none hb hl)]
      exact s2 _ _ (sG _ _ hb)
    · rcases Nat.lt_trichotomy j acc.length with z | z | z
      · rw [List.getElem?_append_left z] at hw
        exact h3 j w hw
      · subst z
        rw [List.getElem?_append_right (Nat.le_refl _), Nat.sub_self] at hw
        cases hw
        rw [h2]
        exact hv
      · rw [List.getElem?_append_right (by omega), List.getElem?_eq_none (by show 1 ≤ _; omega)] at hw
        cases hw
  · rintro σ acc G ⟨_, sG, h1, h2, h3⟩
    exact hd G acc sG h1 h2 h3
theorem loop_allR {lo : Int} {n : Nat} {l : Addr} {P : Nat → V → Prop} {g : TG} {te : TE} {σ : St} {H : Hp} {Q : VK} (hl : H l = none) (lz : n ≤ 1000) (Ps : St → Prop) (h0 : Ps σ)
    (hs : ∀ (i : Nat) σ G (Kt : St → V → Hp → Prop), i < n → Ps σ → Same H G → (∀ σ2 v G2, Ps σ2 → Same G G2 → P i v → Kt σ2 v G2) → g (.int (lo + i)) σ G fun σ2 H2 => te σ2 H2 (Kt σ2))
    (hd : ∀ G acc, Same H G → G l = some (.lst acc) → acc.length = n → (∀ i v, acc[i]? = some v → P i v) → Q (.ref l) G) : tLoop (Itr lo n) l g tAll te σ (upd H l (.lst [])) Q := by
  have sz : 1000 ≤ sizeLine := le_ble rfl
  refine loop_by n (fun i σ acc G => Ps σ ∧ Same H G ∧ G l = some (.lst acc) ∧ acc.length = i ∧ ∀ (j : Nat) v, acc[j]? = some v → P j v) (by omega) ?_ ?_ (fun i σ acc H hi p => hi) ?_ ?_
  · exact ⟨h0, Same.new hl, upd_same, rfl, fun j v h => by rw [List.getElem?_nil] at h; cases h⟩
  · rintro i σ acc G hi ⟨_, sG, h1, h2, _⟩
    exact ⟨h1, by omega⟩
  · rintro i x σ acc G G' hi ⟨hp, sG, h1, h2, h3⟩ ⟨rfl, rfl⟩
    refine hs i σ _ _ hi hp sG fun σ2 v G2 p2 s2 hv => ⟨s2 _ _ h1, Nx.mk hi ⟨p2, fun b u hb => ?_, upd_same, by rw [List.length_append, h2]; rfl, fun j w hw => ?_⟩⟩
    · rw [upd_ne (ne_of_none hb hl)]
      exact s2 _ _ (sG _ _ hb)
    · rcases Nat.lt_trichotomy j acc.length with z | z | z
      · rw [List.getElem?_append_left z] at hw
        exact h3 j w hw
      · subst z
        rw [List.getElem?_append_right (Nat.le_refl _), Nat.sub_self] at hw
        cases hw
        rw [h2]
        exact hv
      · rw [List.getElem?_append_right (by omega), List.getElem?_eq_none (by show 1 ≤ _; omega)] at hw
        cases hw
  · rintro σ acc G ⟨_, sG, h1, h2, h3⟩
    exact ⟨Nat.le_refl _, hd G acc sG h1 h2 h3⟩
theorem ints_of : ∀ {acc : List V}, (∀ (i : Nat) v, acc[i]? = some v → ∃ z, v = V.int z) → ∃ ns : List Int, acc = ns.map V.int
  | [], _ => ⟨[], rfl⟩
  | v :: r, h => by
    obtain ⟨z, rfl⟩ := h 0 v rfl
    obtain ⟨ns, rfl⟩ := ints_of (acc := r) fun i w hw => h (i + 1) w (by simpa using hw)
    exact ⟨z :: ns, rfl⟩
end L2
set_option maxHeartbeats 200000
namespace My
open PySem L2
local macro_rules | `(tactic| walk_at "rd") => `(tactic| repeat (first
  | refine ⟨_, rfl, ?_⟩
  | refine ⟨_, _, rfl, rfl, ?_⟩
  | refine ⟨_, _, rfl, ?_⟩
  | refine ⟨(by show (0 : Int) < _; decide), ?_⟩
  | refine ⟨(⟨by decide, by decide⟩ : CDiv _ _), ?_⟩
  | refine ⟨(⟨by decide, by decide⟩ : CDivB _ _), ?_⟩
  | refine ⟨(⟨by decide, by decide, by decide⟩ : CPow _ _), ?_⟩
  | refine ⟨(.inr ⟨by decide, by decide⟩ : CMul _ _), ?_⟩
  | refine ⟨(.inl ⟨by decide, by decide⟩ : CMul _ _), ?_⟩
  | refine ⟨Own.int, ?_⟩
  | refine ⟨Own.bl, ?_⟩
  | refine ⟨Own.str, ?_⟩
  | refine ⟨Own.non, ?_⟩
  | refine ⟨rfl, ?_⟩))
def isI : V → Bool
  | .int _ => true
  | _ => false
def inR (m : Int) : V → Bool
  | .int i => decide (1 ≤ i) && decide (i ≤ m)
  | _ => false
def spW (K : PySem.W.Frag) : Sp := fun vs H Q _ => ∃ x, vs = [x] ∧ Own K H x ∧ Q (.bl (isI x)) H
def spR (K : PySem.W.Frag) (m : Int) : Sp := fun vs H Q _ => ∃ x, vs = [x] ∧ Own K H x ∧ Q (.bl (inR m x)) H
theorem eqL_self' : ∀ {xs : List V}, xs.all flatV = true → eqL xs xs = true
  | [], _ => rfl
  | x :: r, h => by
    rw [List.all_cons, Bool.and_eq_true] at h
    show (eqV x x && eqL r r) = true
    rw [eqV_self h.1, eqL_self' h.2]
    rfl
theorem sameK {K : PySem.W.Frag} {H : Hp} {q1 q2 : Addr} {xs : List V} (h1 : H q1 = some (.lst xs)) (h2 : H q2 = some (.lst xs)) (fx : xs.all flatV = true) : SeqEq K H (EqD K H 0) (.ref q1) (.ref q2) true := by
  have h := SeqEq.flatL (K := K) (n := 0) (SqL.of h1) (SqL.of h2) fx fx
  rw [eqL_self' fx] at h
  exact h
def deeds : List V := [.str "keep", .str "strike", .str "leave"]
def isDeed : V → Bool
  | .str z => inV (.str z) deeds
  | _ => false
theorem inR_int (m i : Int) : inR m (.int i) = (decide (1 ≤ i) && decide (i ≤ m)) := rfl
theorem inR_of {m i : Int} (h1 : 1 ≤ i) (h2 : i ≤ m) : inR m (.int i) = true := by rw [inR_int, decide_eq_true h1, decide_eq_true h2]; rfl
theorem inR_no {m i : Int} (h : i < 1 ∨ m < i) : inR m (.int i) = false := by
  rw [inR_int]
  rcases h with h | h
  · rw [decide_eq_false (by omega)]; rfl
  · rw [decide_eq_false (p := i ≤ m) (by omega), Bool.and_false]
def spDeed (K : PySem.W.Frag) : Sp := fun vs H Q _ => ∃ x, vs = [x] ∧ Own K H x ∧ Q (.bl (isDeed x)) H
def spRefDay (K : PySem.W.Frag) (C : Addr) : Sp := fun vs H Q E => ∃ x, vs = [x] ∧ Own K H x ∧ (inR 1000000 x = true → Q .non H) ∧ (inR 1000000 x = false → E (.ref C) none H)
def actF (d e n : V) : List (Str × V) := [("day", d), ("deed", e), ("number", n)]
def spAct (K : PySem.W.Frag) (CA ND NA NN : Addr) : Sp := fun vs H Q E => ∃ a dx d e n, vs = [.ref a, d, e, n] ∧ H a = some (.ins CA dx []) ∧ Own K H d ∧ Own K H e ∧ Own K H n ∧
  (inR 1000000 d = false → E (.ref ND) none H) ∧
  (inR 1000000 d = true → isDeed e = false → ∀ x H', Same H H' → H' x = some (.xd [("place", .int 0)]) → E (.ref NA) (some x) H') ∧
  (inR 1000000 d = true → isDeed e = true → inR 1000000000 n = false → E (.ref NN) none H) ∧
  (inR 1000000 d = true → isDeed e = true → inR 1000000000 n = true → ∀ H', (∀ b u, b ≠ a → H b = some u → H' b = some u) → H' a = some (.ins CA dx (actF d e n)) → Q .non H')
def spCell (K : PySem.W.Frag) : Sp := fun vs H Q _ => ∃ (a : Addr) (k : Int) (ns : List Int), vs = [.ref a, .int k] ∧ 0 ≤ k ∧ SqL K H a (ns.map V.int) ∧ ∀ i, Q (.int i) H
def spDraw : Sp := fun vs H Q _ => ∃ n p, vs = [.int n, .int p] ∧ 0 ≤ p ∧ p < 1000 ∧ ∀ r, 0 ≤ r → r < 2147483648 → Q (.int r) H
def spWholeBy : Sp := fun vs H Q _ => ∃ d m, vs = [.int d, .int m] ∧ 1 ≤ m ∧ m ≤ 1000000000 ∧ ∀ r H', Same H H' → 1 ≤ r → r ≤ m → Q (.int r) H'
def spBadN (K : PySem.W.Frag) : Sp := fun vs H Q _ => ∃ d m, vs = [.int d, .int m] ∧ 1 ≤ m ∧ ∀ x H', Same H H' → Own K H' x → inR m x = false → Q x H'
def spBadD (K : PySem.W.Frag) : Sp := fun vs H Q _ => ∃ d, vs = [.int d] ∧ ∀ x H', Same H H' → Own K H' x → isDeed x = false → Q x H'
def whyA (d e n : V) (t : Nat) : Prop := (t = 0 ∧ inR 1000000 d = false) ∨ (t = 1 ∧ inR 1000000 d = true ∧ isDeed e = false) ∨ (t = 2 ∧ inR 1000000 d = true ∧ isDeed e = true ∧ inR 1000000000 n = false)
def truthsA : Nat → List V
  | 0 => [.bl true, .bl true, .bl false, .bl false, .bl false]
  | 1 => [.bl true, .bl false, .bl true, .bl false, .bl false, .bl true]
  | _ => [.bl true, .bl false, .bl false, .bl true, .bl false]
theorem truthsA_flat (t : Nat) : (truthsA t).all flatV = true := by
  match t with
  | 0 => rfl
  | 1 => rfl
  | _ + 2 => rfl
def spOthers (ND NA NN : Addr) : Sp := fun vs H Q _ => ∃ e, vs = [.ref e] ∧ (XE H e ND ∨ XE H e NA ∨ XE H e NN) ∧ Q (.bl false) H
def spRefA (K : PySem.W.Frag) : Sp := fun vs H Q _ => ∃ d e n t, vs = [d, e, n] ∧ Own K H d ∧ Own K H e ∧ Own K H n ∧ whyA d e n t ∧ ∀ q H', Same H H' → H' q = some (.lst (truthsA t)) → Q (.ref q) H'
def spGoodA (K : PySem.W.Frag) : Sp := fun vs H Q _ => ∃ d z n, vs = [.int d, .str z, .int n] ∧ inR 1000000 (.int d) = true ∧ isDeed (.str z) = true ∧ inR 1000000000 (.int n) = true ∧ ∀ H', Same H H' → Q (.bl true) H'
theorem _root_.L2.XE.upd {H : Hp} {e C q : Addr} {xs ys : List V} (h : XE H e C) (hq : H q = some (.lst xs)) : XE (upd H q (.lst ys)) e C := by
  rcases h with z | ⟨dx, fs, z | z, z2⟩
  · exact .inl (by rw [upd_ne (ne_of z hq (by intro y; cases y))]; exact z)
  · exact .inr ⟨dx, fs, .inl (by rw [upd_ne (ne_of z hq (by intro y; cases y))]; exact z), by rw [upd_ne (ne_of z2 hq (by intro y; cases y))]; exact z2⟩
  · exact .inr ⟨dx, fs, .inr (by rw [upd_ne (ne_of z hq (by intro y; cases y))]; exact z), by rw [upd_ne (ne_of z2 hq (by intro y; cases y))]; exact z2⟩
def spLaw (K : PySem.W.Frag) : Sp := fun vs H Q _ => ∃ (a : Addr) (ns : List Int), vs = [.ref a] ∧ SqL K H a (ns.map V.int) ∧ ns.length ≤ 63 ∧ ∀ H', Q (.bl true) H'
def top (i : Nat) : Stmt := PySem.Challenge.pw_rightname_k31_an_act.main.body.getD i (.Pass ⟨0, 0, 0, 0⟩)
abbrev s_is_whole : Stmt := top 18
abbrev s_is_day : Stmt := top 19
abbrev s_is_number : Stmt := top 20
abbrev s_is_deed : Stmt := top 24
abbrev s_refuse_day : Stmt := top 25
abbrev s_Lcell_at : Stmt := top 27
abbrev s_Lwhole : Stmt := top 28
abbrev s_Ldraw : Stmt := top 29
abbrev s_Lwhole_by : Stmt := top 30
abbrev s_Lbad_number : Stmt := top 31
abbrev s_Lbad_deed : Stmt := top 32
abbrev s_Lothers : Stmt := top 33
abbrev s_Lrefused : Stmt := top 34
abbrev s_Lgood : Stmt := top 35
abbrev s_law : Stmt := top 36
abbrev s_Act_init : Stmt := inClass (top 23) 0
abbrev s_NoAct_init : Stmt := inClass (top 3) 0
theorem mb_Act_3 {K : PySem.W.Frag} {f : Addr} {fd : FuncData} (F : FunD K "__init__" "Act.__init__" s_Act_init .none f fd) : MkBinds K fd ["self", "day", "deed", "number"] [] 3 (fun us _ => us) (fun us _ => us) :=
  .of0 F fun _ _ _ _ _ _ y us h1 => by
    obtain ⟨a0, us0, rfl, g0⟩ := lenS h1
    obtain ⟨a1, us1, rfl, g1⟩ := lenS g0
    obtain ⟨a2, us2, rfl, g2⟩ := lenS g1
    obtain rfl := len0 g2
    exact ⟨rfl, rfl⟩
theorem mb_NoAct_1 {K : PySem.W.Frag} {T f : Addr} {fd : FuncData} {o : Obj} {n : Nat} {tk : Tok} (F : FunD K "__init__" "NoAct.__init__" s_NoAct_init (.ref T) f fd) (hT : K.lookup T = some o) (hs : o.data = .seq #[.int 0 tk] n) : MkBinds K fd ["self", "words", "place"] [] 1 (fun us _ => us ++ [.int 0 tk]) (fun us _ => us ++ [.int 0]) :=
  .ofD F hT hs (fun r _ => r.append (.cons ⟨_, rfl⟩ .nil)) fun _ _ _ _ _ _ y us ws h1 h2 => by
    obtain ⟨a0, us0, rfl, g0⟩ := lenS h1
    obtain rfl := len0 g0
    obtain rfl := len0 h2
    exact ⟨⟨_, rfl, rfl⟩, rfl⟩
theorem mb_NoAct_2 {K : PySem.W.Frag} {T f : Addr} {fd : FuncData} {o : Obj} {n : Nat} {tk : Tok} (F : FunD K "__init__" "NoAct.__init__" s_NoAct_init (.ref T) f fd) (hT : K.lookup T = some o) (hs : o.data = .seq #[.int 0 tk] n) : MkBinds K fd ["self", "words", "place"] [] 2 (fun us _ => us ++ []) (fun us _ => us ++ []) :=
  .ofD F hT hs (fun r _ => r.append .nil) fun _ _ _ _ _ _ y us ws h1 h2 => by
    obtain ⟨a0, us0, rfl, g0⟩ := lenS h1
    obtain ⟨a1, us1, rfl, g1⟩ := lenS g0
    obtain rfl := len0 g1
    obtain rfl := len0 h2
    exact ⟨⟨_, rfl, rfl⟩, rfl⟩
structure Fn (K : PySem.W.Frag) (mg : Str → Option Value) (x : Str) (st : Stmt) (ps : List Str) (f : Addr) (fd : FuncData) : Prop where
  fn : Fun K x x st f fd
  mgf : mg x = some (.ref f)
  bi : Binds K fd ps []
theorem Fn.kp {K : PySem.W.Frag} {mg : Str → Option Value} {x : Str} {st : Stmt} {ps : List Str} {f : Addr} {fd : FuncData} (F : Fn K mg x st ps f fd) : PySem.W.keepIn K (.ref f) = true := F.fn.kp
set_option genInjectivity false in
set_option genSizeOfSpec false in
set_option genSizeOf false in
structure Ad where
  a_is_whole : Addr
  d_is_whole : FuncData
  a_is_day : Addr
  d_is_day : FuncData
  a_is_number : Addr
  d_is_number : FuncData
  a_is_deed : Addr
  d_is_deed : FuncData
  a_refuse_day : Addr
  d_refuse_day : FuncData
  a_Lcell_at : Addr
  d_Lcell_at : FuncData
  a_Lwhole : Addr
  d_Lwhole : FuncData
  a_Ldraw : Addr
  d_Ldraw : FuncData
  a_Lwhole_by : Addr
  d_Lwhole_by : FuncData
  a_Lbad_number : Addr
  d_Lbad_number : FuncData
  a_Lbad_deed : Addr
  d_Lbad_deed : FuncData
  a_Lothers : Addr
  d_Lothers : FuncData
  a_Lrefused : Addr
  d_Lrefused : FuncData
  a_Lgood : Addr
  d_Lgood : FuncData
  a_law : Addr
  d_law : FuncData
  c_Act : Addr
  a_Act_init : Addr
  d_Act_init : FuncData
  u_LAST_DAY : Value
  u_LAST_NUMBER : Value
  u_DEEDS : Addr
  c_NoDay : Addr
  c_NoAct : Addr
  c_NoNumber : Addr
  c_RightError : Addr
  c_Late : Addr
  c_NoBook : Addr
  c_NoEntry : Addr
  c_NoPath : Addr
  c_NoRank : Addr
  c_NoRow : Addr
  c_NoSheet : Addr
  c_NoSorting : Addr
  c_NoText : Addr
  c_NoWord : Addr
  a_NoAct_init : Addr
  t_NoAct_init : Addr
  d_NoAct_init : FuncData
  k_NoAct_1 : Tok
  k_NoAct_2 : Tok
structure Txt (w : World) (K : PySem.W.Frag) (mg : Str → Option Value) (c : Ad) : Prop where
  is_whole : Fn K mg "is_whole" s_is_whole ["thing"] c.a_is_whole c.d_is_whole
  is_day : Fn K mg "is_day" s_is_day ["thing"] c.a_is_day c.d_is_day
  is_number : Fn K mg "is_number" s_is_number ["thing"] c.a_is_number c.d_is_number
  is_deed : Fn K mg "is_deed" s_is_deed ["thing"] c.a_is_deed c.d_is_deed
  refuse_day : Fn K mg "refuse_day" s_refuse_day ["day"] c.a_refuse_day c.d_refuse_day
  Lcell_at : Fn K mg "_law_cell_at" s_Lcell_at ["_law_script", "_law_k"] c.a_Lcell_at c.d_Lcell_at
  Lwhole : Fn K mg "_law_whole" s_Lwhole ["_law_found"] c.a_Lwhole c.d_Lwhole
  Ldraw : Fn K mg "_law_draw" s_Ldraw ["_law_cell", "_law_place"] c.a_Ldraw c.d_Ldraw
  Lwhole_by : Fn K mg "_law_whole_by" s_Lwhole_by ["_law_draw_here", "_law_most"] c.a_Lwhole_by c.d_Lwhole_by
  Lbad_number : Fn K mg "_law_bad_number" s_Lbad_number ["_law_draw_here", "_law_most"] c.a_Lbad_number c.d_Lbad_number
  Lbad_deed : Fn K mg "_law_bad_deed" s_Lbad_deed ["_law_draw_here"] c.a_Lbad_deed c.d_Lbad_deed
  Lothers : Fn K mg "_law_others" s_Lothers ["_law_e"] c.a_Lothers c.d_Lothers
  Lrefused : Fn K mg "_law_refused" s_Lrefused ["_law_day", "_law_deed", "_law_number"] c.a_Lrefused c.d_Lrefused
  Lgood : Fn K mg "_law_good" s_Lgood ["_law_day", "_law_deed", "_law_number"] c.a_Lgood c.d_Lgood
  law : Fn K mg "law" s_law ["_law_script"] c.a_law c.d_law
  mg_Act : mg "Act" = some (.ref c.c_Act)
  cl_Act : Cls K c.c_Act
  mk_Act : Mk K c.c_Act c.a_Act_init
  Act_init : FunD K "__init__" "Act.__init__" s_Act_init .none c.a_Act_init c.d_Act_init
  na_Act_day : NoAttr K c.c_Act "day"
  na_Act_deed : NoAttr K c.c_Act "deed"
  na_Act_number : NoAttr K c.c_Act "number"
  b_Act_3 : MkBinds K c.d_Act_init ["self", "day", "deed", "number"] [] 3 (fun us _ => us) (fun us _ => us)
  mg_LAST_DAY : mg "LAST_DAY" = some c.u_LAST_DAY
  rl_LAST_DAY : RelV (.int 1000000) c.u_LAST_DAY
  mg_LAST_NUMBER : mg "LAST_NUMBER" = some c.u_LAST_NUMBER
  rl_LAST_NUMBER : RelV (.int 1000000000) c.u_LAST_NUMBER
  mg_DEEDS : mg "DEEDS" = some (.ref c.u_DEEDS)
  sq_DEEDS : ∀ H, SqT K H c.u_DEEDS [.str "keep", .str "strike", .str "leave"]
  mg_NoDay : mg "NoDay" = some (.ref c.c_NoDay)
  mg_NoAct : mg "NoAct" = some (.ref c.c_NoAct)
  mg_NoNumber : mg "NoNumber" = some (.ref c.c_NoNumber)
  mg_RightError : mg "RightError" = some (.ref c.c_RightError)
  mg_Late : mg "Late" = some (.ref c.c_Late)
  mg_NoBook : mg "NoBook" = some (.ref c.c_NoBook)
  mg_NoEntry : mg "NoEntry" = some (.ref c.c_NoEntry)
  mg_NoPath : mg "NoPath" = some (.ref c.c_NoPath)
  mg_NoRank : mg "NoRank" = some (.ref c.c_NoRank)
  mg_NoRow : mg "NoRow" = some (.ref c.c_NoRow)
  mg_NoSheet : mg "NoSheet" = some (.ref c.c_NoSheet)
  mg_NoSorting : mg "NoSorting" = some (.ref c.c_NoSorting)
  mg_NoText : mg "NoText" = some (.ref c.c_NoText)
  mg_NoWord : mg "NoWord" = some (.ref c.c_NoWord)
  x_NoDay : XCls K c.c_NoDay
  q_NoDay : XAsk K c.c_NoDay
  i_NoDay_Late : PySem.W.kitOne K (.ref c.c_NoDay) (.ref c.c_Late) = some false
  i_NoDay_NoBook : PySem.W.kitOne K (.ref c.c_NoDay) (.ref c.c_NoBook) = some false
  i_NoDay_NoEntry : PySem.W.kitOne K (.ref c.c_NoDay) (.ref c.c_NoEntry) = some false
  i_NoDay_NoPath : PySem.W.kitOne K (.ref c.c_NoDay) (.ref c.c_NoPath) = some false
  i_NoDay_NoRank : PySem.W.kitOne K (.ref c.c_NoDay) (.ref c.c_NoRank) = some false
  i_NoDay_NoRow : PySem.W.kitOne K (.ref c.c_NoDay) (.ref c.c_NoRow) = some false
  i_NoDay_NoSheet : PySem.W.kitOne K (.ref c.c_NoDay) (.ref c.c_NoSheet) = some false
  i_NoDay_NoSorting : PySem.W.kitOne K (.ref c.c_NoDay) (.ref c.c_NoSorting) = some false
  i_NoDay_NoText : PySem.W.kitOne K (.ref c.c_NoDay) (.ref c.c_NoText) = some false
  i_NoDay_NoWord : PySem.W.kitOne K (.ref c.c_NoDay) (.ref c.c_NoWord) = some false
  i_NoDay_NoAct : PySem.W.kitOne K (.ref c.c_NoDay) (.ref c.c_NoAct) = some false
  i_NoDay_ValueError : PySem.W.kitOne K (.ref c.c_NoDay) (.type "ValueError") = some true
  i_NoDay_NoDay : PySem.W.kitOne K (.ref c.c_NoDay) (.ref c.c_NoDay) = some true
  i_NoDay_NoNumber : PySem.W.kitOne K (.ref c.c_NoDay) (.ref c.c_NoNumber) = some false
  e_NoDay_RightError : PySem.W.exmOne K (.ref c.c_NoDay) (.ref c.c_RightError) = some true
  NoAct_init : FunD K "__init__" "NoAct.__init__" s_NoAct_init (.ref c.t_NoAct_init) c.a_NoAct_init c.d_NoAct_init
  xs_NoAct : XSet K c.c_NoAct "place"
  hd_NoAct : PySem.W.hasDictIn K c.c_NoAct = true
  na_NoAct : PySem.W.findIn K (.ref c.c_NoAct) "place" = some none
  bi_RightError : BInit K c.c_RightError
  b_NoAct_1 : MkBinds K c.d_NoAct_init ["self", "words", "place"] [] 1 (fun us _ => us ++ [.int 0 c.k_NoAct_1]) (fun us _ => us ++ [.int 0])
  b_NoAct_2 : MkBinds K c.d_NoAct_init ["self", "words", "place"] [] 2 (fun us _ => us ++ []) (fun us _ => us ++ [])
  x_NoAct : XCli K c.c_NoAct c.a_NoAct_init
  q_NoAct : XAsk K c.c_NoAct
  i_NoAct_Late : PySem.W.kitOne K (.ref c.c_NoAct) (.ref c.c_Late) = some false
  i_NoAct_NoBook : PySem.W.kitOne K (.ref c.c_NoAct) (.ref c.c_NoBook) = some false
  i_NoAct_NoEntry : PySem.W.kitOne K (.ref c.c_NoAct) (.ref c.c_NoEntry) = some false
  i_NoAct_NoPath : PySem.W.kitOne K (.ref c.c_NoAct) (.ref c.c_NoPath) = some false
  i_NoAct_NoRank : PySem.W.kitOne K (.ref c.c_NoAct) (.ref c.c_NoRank) = some false
  i_NoAct_NoRow : PySem.W.kitOne K (.ref c.c_NoAct) (.ref c.c_NoRow) = some false
  i_NoAct_NoSheet : PySem.W.kitOne K (.ref c.c_NoAct) (.ref c.c_NoSheet) = some false
  i_NoAct_NoSorting : PySem.W.kitOne K (.ref c.c_NoAct) (.ref c.c_NoSorting) = some false
  i_NoAct_NoText : PySem.W.kitOne K (.ref c.c_NoAct) (.ref c.c_NoText) = some false
  i_NoAct_NoWord : PySem.W.kitOne K (.ref c.c_NoAct) (.ref c.c_NoWord) = some false
  i_NoAct_NoAct : PySem.W.kitOne K (.ref c.c_NoAct) (.ref c.c_NoAct) = some true
  i_NoAct_ValueError : PySem.W.kitOne K (.ref c.c_NoAct) (.type "ValueError") = some true
  i_NoAct_NoDay : PySem.W.kitOne K (.ref c.c_NoAct) (.ref c.c_NoDay) = some false
  i_NoAct_NoNumber : PySem.W.kitOne K (.ref c.c_NoAct) (.ref c.c_NoNumber) = some false
  e_NoAct_RightError : PySem.W.exmOne K (.ref c.c_NoAct) (.ref c.c_RightError) = some true
  x_NoNumber : XCls K c.c_NoNumber
  q_NoNumber : XAsk K c.c_NoNumber
  i_NoNumber_Late : PySem.W.kitOne K (.ref c.c_NoNumber) (.ref c.c_Late) = some false
  i_NoNumber_NoBook : PySem.W.kitOne K (.ref c.c_NoNumber) (.ref c.c_NoBook) = some false
  i_NoNumber_NoEntry : PySem.W.kitOne K (.ref c.c_NoNumber) (.ref c.c_NoEntry) = some false
  i_NoNumber_NoPath : PySem.W.kitOne K (.ref c.c_NoNumber) (.ref c.c_NoPath) = some false
  i_NoNumber_NoRank : PySem.W.kitOne K (.ref c.c_NoNumber) (.ref c.c_NoRank) = some false
  i_NoNumber_NoRow : PySem.W.kitOne K (.ref c.c_NoNumber) (.ref c.c_NoRow) = some false
  i_NoNumber_NoSheet : PySem.W.kitOne K (.ref c.c_NoNumber) (.ref c.c_NoSheet) = some false
  i_NoNumber_NoSorting : PySem.W.kitOne K (.ref c.c_NoNumber) (.ref c.c_NoSorting) = some false
  i_NoNumber_NoText : PySem.W.kitOne K (.ref c.c_NoNumber) (.ref c.c_NoText) = some false
  i_NoNumber_NoWord : PySem.W.kitOne K (.ref c.c_NoNumber) (.ref c.c_NoWord) = some false
  i_NoNumber_NoAct : PySem.W.kitOne K (.ref c.c_NoNumber) (.ref c.c_NoAct) = some false
  i_NoNumber_ValueError : PySem.W.kitOne K (.ref c.c_NoNumber) (.type "ValueError") = some true
  i_NoNumber_NoDay : PySem.W.kitOne K (.ref c.c_NoNumber) (.ref c.c_NoDay) = some false
  i_NoNumber_NoNumber : PySem.W.kitOne K (.ref c.c_NoNumber) (.ref c.c_NoNumber) = some true
  e_NoNumber_RightError : PySem.W.exmOne K (.ref c.c_NoNumber) (.ref c.c_RightError) = some true
  no_len : mg "len" = none
  no_isinstance : mg "isinstance" = none
  no_int : mg "int" = none
  no_bool : mg "bool" = none
  no_str : mg "str" = none
  no_list : mg "list" = none
  no_range : mg "range" = none
  no_sum : mg "sum" = none
  no_ValueError : mg "ValueError" = none
theorem sc_is_whole : FnScope ["thing"] ["thing"] (defScope s_is_whole) := ⟨rfl, rfl, rfl, by decide +kernel, rfl, by decide +kernel, by decide +kernel⟩
theorem sc_is_day : FnScope ["thing"] ["thing"] (defScope s_is_day) := ⟨rfl, rfl, rfl, by decide +kernel, rfl, by decide +kernel, by decide +kernel⟩
theorem sc_is_number : FnScope ["thing"] ["thing"] (defScope s_is_number) := ⟨rfl, rfl, rfl, by decide +kernel, rfl, by decide +kernel, by decide +kernel⟩
theorem sc_is_deed : FnScope ["thing"] ["thing"] (defScope s_is_deed) := ⟨rfl, rfl, rfl, by decide +kernel, rfl, by decide +kernel, by decide +kernel⟩
theorem sc_refuse_day : FnScope ["day"] ["day"] (defScope s_refuse_day) := ⟨rfl, rfl, rfl, by decide +kernel, rfl, by decide +kernel, by decide +kernel⟩
theorem sc_Lcell_at : FnScope ["_law_script", "_law_k"] ["_law_script", "_law_k"] (defScope s_Lcell_at) := ⟨rfl, rfl, rfl, by decide +kernel, rfl, by decide +kernel, by decide +kernel⟩
theorem sc_Lwhole : FnScope ["_law_found"] ["_law_found"] (defScope s_Lwhole) := ⟨rfl, rfl, rfl, by decide +kernel, rfl, by decide +kernel, by decide +kernel⟩
theorem sc_Ldraw : FnScope ["_law_cell", "_law_place", "_law_own", "_law_number"] ["_law_cell", "_law_place"] (defScope s_Ldraw) := ⟨rfl, rfl, rfl, by decide +kernel, rfl, by decide +kernel, by decide +kernel⟩
theorem sc_Lwhole_by : FnScope ["_law_draw_here", "_law_most"] ["_law_draw_here", "_law_most"] (defScope s_Lwhole_by) := ⟨rfl, rfl, rfl, by decide +kernel, rfl, by decide +kernel, by decide +kernel⟩
theorem sc_Lbad_number : FnScope ["_law_draw_here", "_law_most", "_law_far"] ["_law_draw_here", "_law_most"] (defScope s_Lbad_number) := ⟨rfl, rfl, rfl, by decide +kernel, rfl, by decide +kernel, by decide +kernel⟩
theorem sc_Lbad_deed : FnScope ["_law_draw_here"] ["_law_draw_here"] (defScope s_Lbad_deed) := ⟨rfl, rfl, rfl, by decide +kernel, rfl, by decide +kernel, by decide +kernel⟩
theorem sc_Lothers : FnScope ["_law_e"] ["_law_e"] (defScope s_Lothers) := ⟨rfl, rfl, rfl, by decide +kernel, rfl, by decide +kernel, by decide +kernel⟩
theorem sc_Lrefused : FnScope ["_law_day", "_law_deed", "_law_number", "_law_truths", "_law_e"] ["_law_day", "_law_deed", "_law_number"] (defScope s_Lrefused) := ⟨rfl, rfl, rfl, by decide +kernel, rfl, by decide +kernel, by decide +kernel⟩
theorem sc_Lgood : FnScope ["_law_day", "_law_deed", "_law_number", "_law_act"] ["_law_day", "_law_deed", "_law_number"] (defScope s_Lgood) := ⟨rfl, rfl, rfl, by decide +kernel, rfl, by decide +kernel, by decide +kernel⟩
theorem sc_law : FnScope ["_law_script", "_law_cells", "_law_place", "_law_made", "_law_k", "_law_draws", "_law_good_here", "_law_bad", "_law_some", "_law_more"] ["_law_script"] (defScope s_law) := ⟨rfl, rfl, rfl, by decide +kernel, rfl, by decide +kernel, by decide +kernel⟩
theorem sc_Act_init : FnScope ["self", "day", "deed", "number"] ["self", "day", "deed", "number"] (defScope s_Act_init) := ⟨rfl, rfl, rfl, by decide +kernel, rfl, by decide +kernel, by decide +kernel⟩
theorem sc_NoAct_init : FnScope ["self", "words", "place"] ["self", "words", "place"] (defScope s_NoAct_init) := ⟨rfl, rfl, rfl, by decide +kernel, rfl, by decide +kernel, by decide +kernel⟩
section
variable {P : Program} {w : World} {K : PySem.W.Frag} {mg : Str → Option Value} {base : Heap} {c : Ad}
set_option maxHeartbeats 4000000 in
theorem ok_is_whole (T : Txt w K mg c) : FnOk P w K mg base CX0 1 c.a_is_whole c.d_is_whole ["thing"] (spW K) := by
  refine T.is_whole.fn.ok sc_is_whole (fun vs H Q E h => ?_) (fun cdv A outer s H vs Q E hr h => ?_)
  · obtain ⟨x, rfl, _⟩ := h
    rfl
  · obtain ⟨x, rfl, ow, k⟩ := h
    refine ⟨_, (pss_one (ps_ret (pe_and (pe_callB call_isiA rfl T.no_isinstance bt_isinstance (pa_cons (pv 0) (pa_cons (pe_bltn (v := .ty "int") rfl T.no_int bt_int rfl) pa_nil))) (pe_one (pe_not (pe_callB call_isiA rfl T.no_isinstance bt_isinstance (pa_cons (pv 0) (pa_cons (pe_bltn (v := .ty "bool") rfl T.no_bool bt_bool rfl) pa_nil)))))))), ?_⟩
    refine ⟨x, rfl, rIsiA.int ow ⟨_, rfl, ?_⟩⟩
    cases x with
    | int i => exact iteT ⟨_, rfl, rIsiA.bool ow ⟨_, rfl, k⟩⟩
    | bl b => exact iteT ⟨_, rfl, rIsiA.bool ow ⟨_, rfl, k⟩⟩
    | _ => exact iteF k
set_option maxHeartbeats 4000000 in
theorem ok_is_day (T : Txt w K mg c) : FnOk P w K mg base CX0 2 c.a_is_day c.d_is_day ["thing"] (spR K 1000000) := by
  refine T.is_day.fn.ok sc_is_day (fun vs H Q E h => ?_) (fun cdv A outer s H vs Q E hr h => ?_)
  · obtain ⟨x, rfl, _⟩ := h
    rfl
  · obtain ⟨x, rfl, ow, k⟩ := h
    refine ⟨_, (pss_one (ps_ret (pe_and (pe_call (ok_is_whole T) (hr.mono (by decide)) rfl T.is_whole.mgf T.is_whole.kp T.is_whole.bi .nil pass0 (pa_cons (pv 0) pa_nil)) (pe_one (pe_chain op_le op_le pe_int (pv 0) (pe_glob rfl T.mg_LAST_DAY T.rl_LAST_DAY)))))), ?_⟩
    refine ⟨x, rfl, x, rfl, ow, _, rfl, ?_⟩
    cases x with
    | int i =>
      refine iteT ⟨_, rfl, _, _, rfl, rfl, _, rfl, ?_⟩
      by_cases h1 : 1 ≤ i
      · rw [if_pos (decide_eq_true h1)]
        refine ⟨_, _, rfl, rfl, ?_⟩
        simpa [inR, h1] using k
      · rw [if_neg (by simp [h1])]
        simpa [inR, h1] using k
    | _ => exact iteF k
set_option maxHeartbeats 4000000 in
theorem ok_is_number (T : Txt w K mg c) : FnOk P w K mg base CX0 2 c.a_is_number c.d_is_number ["thing"] (spR K 1000000000) := by
  refine T.is_number.fn.ok sc_is_number (fun vs H Q E h => ?_) (fun cdv A outer s H vs Q E hr h => ?_)
  · obtain ⟨x, rfl, _⟩ := h
    rfl
  · obtain ⟨x, rfl, ow, k⟩ := h
    refine ⟨_, (pss_one (ps_ret (pe_and (pe_call (ok_is_whole T) (hr.mono (by decide)) rfl T.is_whole.mgf T.is_whole.kp T.is_whole.bi .nil pass0 (pa_cons (pv 0) pa_nil)) (pe_one (pe_chain op_le op_le pe_int (pv 0) (pe_glob rfl T.mg_LAST_NUMBER T.rl_LAST_NUMBER)))))), ?_⟩
    refine ⟨x, rfl, x, rfl, ow, _, rfl, ?_⟩
    cases x with
    | int i =>
      refine iteT ⟨_, rfl, _, _, rfl, rfl, _, rfl, ?_⟩
      by_cases h1 : 1 ≤ i
      · rw [if_pos (decide_eq_true h1)]
        refine ⟨_, _, rfl, rfl, ?_⟩
        simpa [inR, h1] using k
      · rw [if_neg (by simp [h1])]
        simpa [inR, h1] using k
    | _ => exact iteF k
set_option maxHeartbeats 4000000 in
theorem ok_NoAct_init (T : Txt w K mg c) : FnOk P w K mg base (CXx P w) 1 c.a_NoAct_init c.d_NoAct_init ["self", "words", "place"] (spExI c.c_NoAct "place") := by
  refine T.NoAct_init.okx sc_NoAct_init (fun vs H Q E h => ?_) (fun cdv A outer s H vs Q E hr h => ?_)
  · obtain ⟨e, wd, pl, rfl, _⟩ := h
    rfl
  · obtain ⟨e, wd, pl, rfl, he, k⟩ := h
    refine ⟨_, (pss_cons (ps_expr (pe_exInit T.bi_RightError rfl T.mg_RightError (pa_cons (pv 0) (pa_cons (pv 1) pa_nil))))
      (pss_one (ps_fldX (pv 0) (pv 2) rfl))), ?_⟩
    refine ⟨_, rfl, _, rfl, e, _, _, _, _, rfl, he, T.x_NoAct, ?_⟩
    exact ⟨_, rfl, _, rfl, e, _, _, rfl, he, T.x_NoAct, T.xs_NoAct, fun dx hd => k dx hd⟩
set_option maxHeartbeats 4000000 in
theorem ok_is_deed (T : Txt w K mg c) : FnOk P w K mg base CX0 1 c.a_is_deed c.d_is_deed ["thing"] (spDeed K) := by
  refine T.is_deed.fn.ok sc_is_deed (fun vs H Q E h => ?_) (fun cdv A outer s H vs Q E hr h => ?_)
  · obtain ⟨x, rfl, _⟩ := h
    rfl
  · obtain ⟨x, rfl, ow, k⟩ := h
    refine ⟨_, (pss_one (ps_ret (pe_and (pe_callB call_isiA rfl T.no_isinstance bt_isinstance (pa_cons (pv 0) (pa_cons (pe_bltn (v := .ty "str") rfl T.no_str bt_str rfl) pa_nil))) (pe_one (pe_cmpR op_in_seq (pv 0) (pe_glob (v := .ref c.u_DEEDS) rfl T.mg_DEEDS rfl) (by with_unfolding_all rfl)))))), ?_⟩
    refine ⟨x, rfl, rIsiA.str ow ⟨_, rfl, ?_⟩⟩
    cases x with
    | str z => exact iteT ⟨_, rfl, c.u_DEEDS, deeds, rfl, .inr (T.sq_DEEDS _), rfl, rfl, k⟩
    | _ => exact iteF k
set_option maxHeartbeats 4000000 in
theorem ok_refuse_day (T : Txt w K mg c) : FnOk P w K mg base (CXx P w) 3 c.a_refuse_day c.d_refuse_day ["day"] (spRefDay K c.c_NoDay) := by
  refine T.refuse_day.fn.okx sc_refuse_day (fun vs H Q E h => ?_) (fun cdv A outer s H vs Q E hr h => ?_)
  · obtain ⟨x, rfl, _⟩ := h
    rfl
  · obtain ⟨x, rfl, ow, k1, k2⟩ := h
    refine ⟨_, (pss_one (ps_if (pt_not (pt_val (pe_call (ok_is_day T) (hr.mono (by decide)) rfl T.is_day.mgf T.is_day.kp T.is_day.bi .nil pass0 (pa_cons (pv 0) pa_nil))))
        (pss_one (ps_raise T.x_NoDay rfl rfl T.mg_NoDay rz_def (pa_cons pe_str pa_nil)))
        pss_nil)), ?_⟩
    refine ⟨_, rfl, x, rfl, ow, _, rfl, ?_⟩
    cases hx : inR 1000000 x with
    | false => exact iteT ⟨le_ble rfl, k2 hx⟩
    | true => exact iteF (k1 hx)
set_option maxHeartbeats 4000000 in
theorem ok_Act_init (T : Txt w K mg c) : FnOk P w K mg base (CXx P w) 4 c.a_Act_init c.d_Act_init ["self", "day", "deed", "number"] (spAct K c.c_Act c.c_NoDay c.c_NoAct c.c_NoNumber) := by
  refine T.Act_init.okx sc_Act_init (fun vs H Q E h => ?_) (fun cdv A outer s H vs Q E hr h => ?_)
  · obtain ⟨a, dx, d, e, n, rfl, _⟩ := h
    rfl
  · obtain ⟨a, dx, d, e, n, rfl, ha, od, oe, on, k1, k2, k3, k4⟩ := h
    refine ⟨_, (pss_cons (ps_expr (pe_callS (ok_refuse_day T) (hr.mono (by decide)) rfl T.refuse_day.mgf T.refuse_day.kp T.refuse_day.bi .nil pass_def (pa_cons (pv 1) pa_nil)))
      (pss_cons (ps_if (pt_not (pt_val (pe_call (ok_is_deed T) (hr.mono (by decide)) rfl T.is_deed.mgf T.is_deed.kp T.is_deed.bi .nil pass0 (pa_cons (pv 2) pa_nil))))
        (pss_one (ps_raiseX T.x_NoAct (ok_NoAct_init T) (hr.mono (by decide)) rfl rfl T.mg_NoAct T.b_NoAct_2 rzx_def (pa_cons pe_str (pa_cons pe_int pa_nil))))
        pss_nil)
      (pss_cons (ps_if (pt_not (pt_val (pe_call (ok_is_number T) (hr.mono (by decide)) rfl T.is_number.mgf T.is_number.kp T.is_number.bi .nil pass0 (pa_cons (pv 3) pa_nil))))
        (pss_one (ps_raise T.x_NoNumber rfl rfl T.mg_NoNumber rz_def (pa_cons pe_str pa_nil)))
        pss_nil)
      (pss_cons (ps_fld (pv 0) (pv 1) rfl)
      (pss_cons (ps_fld (pv 0) (pv 2) rfl)
      (pss_one (ps_fld (pv 0) (pv 3) rfl))))))), ?_⟩
    refine ⟨_, rfl, d, rfl, od, fun hd => ?_, fun hd => k1 hd⟩
    refine ⟨_, rfl, e, rfl, oe, _, rfl, ?_⟩
    cases he : isDeed e with
    | false => exact iteT ⟨rfl, le_ble rfl, raiseI fun x G sG hx => k2 hd he x G sG hx⟩
    | true =>
      refine iteF ⟨_, rfl, n, rfl, on, _, rfl, ?_⟩
      cases hn : inR 1000000000 n with
      | false => exact iteT ⟨le_ble rfl, k3 hd he hn⟩
      | true =>
        refine iteF ?_
        refine ⟨_, rfl, _, rfl, a, _, dx, _, rfl, ha, T.cl_Act, T.na_Act_day, le_ble rfl, ?_⟩
        refine ⟨_, rfl, _, rfl, a, _, dx, _, rfl, upd_same, T.cl_Act, T.na_Act_deed, le_ble rfl, ?_⟩
        refine ⟨_, rfl, _, rfl, a, _, dx, _, rfl, upd_same, T.cl_Act, T.na_Act_number, le_ble rfl, ?_⟩
        refine k4 hd he hn _ (fun b u nb hb => ?_) upd_same
        rw [upd_ne nb, upd_ne nb, upd_ne nb]
        exact hb
set_option maxHeartbeats 4000000 in
theorem ok_Lcell_at (T : Txt w K mg c) : FnOk P w K mg base CX0 1 c.a_Lcell_at c.d_Lcell_at ["_law_script", "_law_k"] (spCell K) := by
  refine T.Lcell_at.fn.ok sc_Lcell_at (fun vs H Q E h => ?_) (fun cdv A outer s H vs Q E hr h => ?_)
  · obtain ⟨a, i, ns, rfl, _⟩ := h
    rfl
  · obtain ⟨a, i, ns, rfl, h0, hS, k⟩ := h
    refine ⟨_, (pss_cons (ps_if (pt_cmpR op_lt (pv 1) (pe_callB call_len_seq rfl T.no_len bt_len (pa_cons (pv 0) pa_nil)) (nomark _))
        (pss_one (ps_ret (pe_ix ix_list (pv 0) (pv 1) (fun _ _ => rfl))))
        pss_nil)
      (pss_one (ps_ret pe_int))), ?_⟩
    refine ⟨_, rfl, _, rfl, a, _, rfl, .inl hS, _, _, rfl, rfl, _, rfl, ?_⟩
    refine ite2 (fun hl => ?_) (fun _ => k 0)
    obtain ⟨v, hv, hm⟩ := atI_in (xs := ns.map V.int) h0 (of_decide_eq_true hl)
    obtain ⟨z, _, rfl⟩ := List.mem_map.mp hm
    exact ⟨_, rfl, _, rfl, a, _, i, _, rfl, rfl, hS, hv, k z⟩
set_option maxHeartbeats 4000000 in
theorem ok_Lwhole (T : Txt w K mg c) : FnOk P w K mg base CX0 1 c.a_Lwhole c.d_Lwhole ["_law_found"] (spW K) := by
  refine T.Lwhole.fn.ok sc_Lwhole (fun vs H Q E h => ?_) (fun cdv A outer s H vs Q E hr h => ?_)
  · obtain ⟨x, rfl, _⟩ := h
    rfl
  · obtain ⟨x, rfl, ow, k⟩ := h
    refine ⟨_, (pss_one (ps_ret (pe_and (pe_callB call_isiA rfl T.no_isinstance bt_isinstance (pa_cons (pv 0) (pa_cons (pe_bltn (v := .ty "int") rfl T.no_int bt_int rfl) pa_nil))) (pe_one (pe_not (pe_callB call_isiA rfl T.no_isinstance bt_isinstance (pa_cons (pv 0) (pa_cons (pe_bltn (v := .ty "bool") rfl T.no_bool bt_bool rfl) pa_nil)))))))), ?_⟩
    refine ⟨x, rfl, rIsiA.int ow ⟨_, rfl, ?_⟩⟩
    cases x with
    | int i => exact iteT ⟨_, rfl, rIsiA.bool ow ⟨_, rfl, k⟩⟩
    | bl b => exact iteT ⟨_, rfl, rIsiA.bool ow ⟨_, rfl, k⟩⟩
    | _ => exact iteF k
set_option maxHeartbeats 4000000 in
theorem okh_Lwhole (T : Txt w K mg c) : FnOkH P w K mg base CX0 1 c.a_Lwhole c.d_Lwhole ["_law_found"] (spW K) := by
  refine T.Lwhole.fn.okH sc_Lwhole (fun vs H Q E h => ?_) (fun cdv A outer s H vs Q E hr h => ?_)
  · obtain ⟨x, rfl, _⟩ := h
    rfl
  · obtain ⟨x, rfl, ow, k⟩ := h
    refine ⟨_, (pss_one (ps_ret (pe_and (pe_callB call_isiA rfl T.no_isinstance bt_isinstance (pa_cons (pv 0) (pa_cons (pe_bltn (v := .ty "int") rfl T.no_int bt_int rfl) pa_nil))) (pe_one (pe_not (pe_callB call_isiA rfl T.no_isinstance bt_isinstance (pa_cons (pv 0) (pa_cons (pe_bltn (v := .ty "bool") rfl T.no_bool bt_bool rfl) pa_nil)))))))), ?_⟩
    refine ⟨x, rfl, rIsiA.int ow ⟨_, rfl, ?_⟩⟩
    cases x with
    | int i => exact iteT ⟨_, rfl, rIsiA.bool ow ⟨_, rfl, k⟩⟩
    | bl b => exact iteT ⟨_, rfl, rIsiA.bool ow ⟨_, rfl, k⟩⟩
    | _ => exact iteF k
set_option maxHeartbeats 4000000 in
theorem ok_Ldraw (T : Txt w K mg c) : FnOk P w K mg base CX0 1 c.a_Ldraw c.d_Ldraw ["_law_cell", "_law_place"] (spDraw) := by
  refine T.Ldraw.fn.ok sc_Ldraw (fun vs H Q E h => ?_) (fun cdv A outer s H vs Q E hr h => ?_)
  · obtain ⟨n, p, rfl, _⟩ := h
    rfl
  · obtain ⟨n, p, rfl, p0, p1, k⟩ := h
    refine ⟨_, (pss_cut (ps_set (i := 2) sc_Ldraw.nd rfl (Or.inl rfl) (pe_op op_shr (pv 0) (pe_op op_add pe_int (pe_op op_mul pe_int (pe_op op_mod (pv 1) pe_int)))))
      (pss_cut (ps_if (PW.pt (pw_and (pt_cmpR op_eq (pe_op op_mod (pv 0) pe_int) pe_int (nomark _)) (pw_and1 (pt_cmpR op_ne (pv 2) pe_int (nomark _)))))
        (pss_one (ps_ret (pe_op op_mod (pv 2) pe_int)))
        pss_nil)
      (pss_cut (ps_set (i := 3) sc_Ldraw.nd rfl (Or.inl rfl) (pe_op op_mod (pe_op op_mul (pe_op op_add (pe_op op_mod (pe_op op_fdiv (pv 0) pe_int) (pe_op op_pow pe_int pe_int)) pe_int) (pe_op op_add pe_int (pe_op op_mul (pe_op op_mul pe_int (pv 1)) (pv 1)))) pe_int))
      (pss_one (ps_ret (pe_op op_mod (pe_op op_mul (pv 3) (pv 3)) pe_int)))))), ?_⟩
    have p2 := Int.emod_nonneg p (b := 64) (by decide)
    have sq : p * p ≤ 1000 * 1000 := Int.mul_le_mul (by omega) (by omega) (by omega) (by omega)
    have sq0 : 0 ≤ p * p := Int.mul_nonneg p0 p0
    have e3 : 7919 * p * p = 7919 * (p * p) := Int.mul_assoc _ _ _
    refine ⟨fun σ G => G = H ∧ ∃ o : Int, σ = [some (.int n), some (.int p), some (.int o), none], ?_, ?_⟩
    · walk_at "rd"
      refine ⟨by omega, ?_⟩
      first | exact ⟨rfl, _, rfl⟩ | exact ⟨_, rfl⟩
    rintro σ G ⟨rfl, o, rfl⟩
    refine ⟨fun σ G' => G' = G ∧ σ = [some (.int n), some (.int p), some (.int o), none], ?_, ?_⟩
    · walk_at "rd"
      refine ite2 (fun _ => ?_) (fun _ => ⟨rfl, rfl⟩)
      walk_at "rd"
      refine ite2 (fun _ => ?_) (fun _ => ⟨rfl, rfl⟩)
      walk_at "rd"
      exact k _ (Int.emod_nonneg _ (by decide)) (Int.emod_lt_of_pos _ (by decide))
    rintro σ G' ⟨rfl, rfl⟩
    refine ⟨fun σ G => G = G' ∧ ∃ m : Int, 0 ≤ m ∧ m < 2147483629 ∧ σ = [some (.int n), some (.int p), some (.int o), some (.int m)], ?_, ?_⟩
    · walk_at "rd"
      refine ⟨.inl ⟨by omega, by omega⟩, ?_⟩
      walk_at "rd"
      refine ⟨.inr ⟨by rw [e3]; omega, by rw [e3]; omega⟩, ?_⟩
      walk_at "rd"
      first | exact ⟨rfl, _, Int.emod_nonneg _ (by decide), Int.emod_lt_of_pos _ (by decide), rfl⟩ | exact ⟨_, Int.emod_nonneg _ (by decide), Int.emod_lt_of_pos _ (by decide), rfl⟩
    rintro σ G ⟨rfl, m, m0, m1, rfl⟩
    walk_at "rd"
    refine ⟨.inl ⟨by omega, by omega⟩, ?_⟩
    walk_at "rd"
    have q1 := Int.emod_lt_of_pos (m * m) (b := 2147483587) (by decide)
    exact k _ (Int.emod_nonneg _ (by decide)) (by omega)
set_option maxHeartbeats 4000000 in
theorem ok_Lwhole_by (T : Txt w K mg c) : FnOk P w K mg base CX0 1 c.a_Lwhole_by c.d_Lwhole_by ["_law_draw_here", "_law_most"] (spWholeBy) := by
  refine T.Lwhole_by.fn.ok sc_Lwhole_by (fun vs H Q E h => ?_) (fun cdv A outer s H vs Q E hr h => ?_)
  · obtain ⟨d, m, rfl, _⟩ := h
    rfl
  · obtain ⟨d, m, rfl, h1, h2, k⟩ := h
    refine ⟨_, (pss_cons (ps_if (pt_cmpR op_eq (pe_op op_mod (pv 0) pe_int) pe_int (nomark _))
        (pss_one (ps_ret (pe_ix ix_list (pe_lst (pa_cons pe_int (pa_cons (pv 1) pa_nil))) (pe_op op_mod (pe_op op_fdiv (pv 0) pe_int) pe_int) (fun _ _ => rfl))))
        pss_nil)
      (pss_one (ps_ret (pe_op op_add pe_int (pe_op op_mod (pe_op op_fdiv (pv 0) pe_int) (pv 1)))))), ?_⟩
    walk_at "rd"
    refine ite2 (fun _ => ?_) (fun _ => ?_)
    · refine ⟨_, rfl, le_ble rfl, fun lo hlo => ?_⟩
      walk_at "rd"
      obtain ⟨pv, hpv, hm⟩ := atI_in (xs := [V.int 1, V.int m]) (i := d / 5 % 2) (Int.emod_nonneg _ (by decide)) (by show _ < (2 : Int); exact Int.emod_lt_of_pos _ (by decide))
      refine ⟨lo, _, _, pv, rfl, rfl, SqL.of upd_same, hpv, ?_⟩
      simp only [List.mem_cons, List.not_mem_nil, or_false] at hm
      rcases hm with rfl | rfl
      · exact k _ _ (Same.new hlo) (by omega) h1
      · exact k _ _ (Same.new hlo) h1 (by omega)
    walk_at "rd"
    refine ⟨by omega, ?_⟩
    walk_at "rd"
    have q0 := Int.emod_nonneg (d / 5) (b := m) (by omega)
    have q1 := Int.emod_lt_of_pos (d / 5) (b := m) (by omega)
    exact k _ _ (Same.refl _) (by omega) (by omega)
set_option maxHeartbeats 4000000 in
theorem ok_Lbad_number (T : Txt w K mg c) : FnOk P w K mg base CX0 1 c.a_Lbad_number c.d_Lbad_number ["_law_draw_here", "_law_most"] (spBadN K) := by
  refine T.Lbad_number.fn.ok sc_Lbad_number (fun vs H Q E h => ?_) (fun cdv A outer s H vs Q E hr h => ?_)
  · obtain ⟨d, m, rfl, _⟩ := h
    rfl
  · obtain ⟨d, m, rfl, h1, k⟩ := h
    refine ⟨_, (pss_cut (ps_set (i := 2) sc_Lbad_number.nd rfl (Or.inl rfl) (pe_op op_mod (pe_op op_fdiv (pv 0) pe_int) (pe_op op_pow pe_int pe_int)))
      (pss_one (ps_ret (pe_ix ix_list (pe_lst (pa_cons pe_int (pa_cons (pe_op op_add (pv 1) pe_int) (pa_cons (pe_op op_sub (pe_un un_neg pe_int) (pv 2)) (pa_cons (pe_op op_add (pe_op op_add (pv 1) pe_int) (pv 2)) (pa_cons pe_bl (pa_cons pe_non (pa_cons pe_str (pa_cons (pe_lst (pa_cons pe_int pa_nil)) (pa_cons pe_str pa_nil)))))))))) (pe_op op_mod (pv 0) pe_int) (fun _ _ => rfl))))), ?_⟩
    have e9 : (10 : Int) ^ Int.toNat 9 = 1000000000 := by decide
    refine ⟨fun σ G => G = H ∧ ∃ fr : Int, 0 ≤ fr ∧ σ = [some (.int d), some (.int m), some (.int fr)], ?_, ?_⟩
    · walk_at "rd"
      first | exact ⟨rfl, _, Int.emod_nonneg _ (by decide), rfl⟩ | exact ⟨_, Int.emod_nonneg _ (by decide), rfl⟩
    rintro σ G ⟨rfl, fr, f0, rfl⟩
    walk_at "rd"
    refine ⟨le_ble rfl, fun l5 h5 => ⟨le_ble rfl, fun lo hlo => ?_⟩⟩
    have t5 := Same.new (o := HO.lst [V.int 1]) h5
    have o5 := Own.lst (K := K) (upd_same (H := G) (a := l5) (o := .lst [V.int 1]))
    generalize upd G l5 (.lst [V.int 1]) = G2 at t5 o5 hlo ⊢
    walk_at "rd"
    obtain ⟨pv, hpv, hm⟩ := atI_in (xs := [V.int 0, V.int (m + 1), V.int (-1 - fr), V.int (m + 1 + fr), V.bl true, V.non, V.str (Str.ofString "1"), V.ref l5, V.str (Str.ofString "")]) (i := d % 9) (Int.emod_nonneg _ (by decide)) (by show _ < (9 : Int); exact Int.emod_lt_of_pos _ (by decide))
    refine ⟨lo, _, _, pv, rfl, rfl, SqL.of upd_same, hpv, ?_⟩
    have t6 := Same.new (o := HO.lst [V.int 0, V.int (m + 1), V.int (-1 - fr), V.int (m + 1 + fr), V.bl true, V.non, V.str (Str.ofString "1"), V.ref l5, V.str (Str.ofString "")]) hlo
    have o6 := o5.same t6
    simp only [List.mem_cons, List.not_mem_nil, or_false] at hm
    rcases hm with rfl | rfl | rfl | rfl | rfl | rfl | rfl | rfl | rfl
    · exact k _ _ (t5.trans t6) Own.int (inR_no (by omega))
    · exact k _ _ (t5.trans t6) Own.int (inR_no (by omega))
    · exact k _ _ (t5.trans t6) Own.int (inR_no (by omega))
    · exact k _ _ (t5.trans t6) Own.int (inR_no (by omega))
    · exact k _ _ (t5.trans t6) Own.bl rfl
    · exact k _ _ (t5.trans t6) Own.non rfl
    · exact k _ _ (t5.trans t6) Own.str rfl
    · exact k _ _ (t5.trans t6) o6 rfl
    · exact k _ _ (t5.trans t6) Own.str rfl
set_option maxHeartbeats 4000000 in
theorem ok_Lbad_deed (T : Txt w K mg c) : FnOk P w K mg base CX0 1 c.a_Lbad_deed c.d_Lbad_deed ["_law_draw_here"] (spBadD K) := by
  refine T.Lbad_deed.fn.ok sc_Lbad_deed (fun vs H Q E h => ?_) (fun cdv A outer s H vs Q E hr h => ?_)
  · obtain ⟨d, rfl, _⟩ := h
    rfl
  · obtain ⟨d, rfl, k⟩ := h
    refine ⟨_, (pss_one (ps_ret (pe_ix ix_list (pe_lst (pa_cons pe_str (pa_cons pe_str (pa_cons pe_str (pa_cons pe_str (pa_cons pe_str (pa_cons pe_str (pa_cons pe_non (pa_cons pe_bl (pa_cons (pe_lst (pa_cons pe_str pa_nil)) (pa_cons pe_int pa_nil))))))))))) (pe_op op_mod (pv 0) pe_int) (fun _ _ => rfl)))), ?_⟩
    refine ⟨le_ble rfl, fun l5 h5 => ⟨le_ble rfl, fun lo hlo => ?_⟩⟩
    have t5 := Same.new (o := HO.lst [V.str (Str.ofString "keep")]) h5
    have o5 := Own.lst (K := K) (upd_same (H := H) (a := l5) (o := .lst [V.str (Str.ofString "keep")]))
    generalize upd H l5 (.lst [V.str (Str.ofString "keep")]) = G2 at t5 o5 hlo ⊢
    walk_at "rd"
    obtain ⟨pv, hpv, hm⟩ := atI_in (xs := [V.str (Str.ofString ""), V.str (Str.ofString "Keep"), V.str (Str.ofString "kep"), V.str (Str.ofString "keeps"), V.str (Str.ofString "kept"), V.str (Str.ofString "strike "), V.non, V.bl true, V.ref l5, V.int 1]) (i := d % 10) (Int.emod_nonneg _ (by decide)) (by show _ < (10 : Int); exact Int.emod_lt_of_pos _ (by decide))
    refine ⟨lo, _, _, pv, rfl, rfl, SqL.of upd_same, hpv, ?_⟩
    have t6 := Same.new (o := HO.lst [V.str (Str.ofString ""), V.str (Str.ofString "Keep"), V.str (Str.ofString "kep"), V.str (Str.ofString "keeps"), V.str (Str.ofString "kept"), V.str (Str.ofString "strike "), V.non, V.bl true, V.ref l5, V.int 1]) hlo
    have o6 := o5.same t6
    simp only [List.mem_cons, List.not_mem_nil, or_false] at hm
    rcases hm with rfl | rfl | rfl | rfl | rfl | rfl | rfl | rfl | rfl | rfl
    · exact k _ _ (t5.trans t6) Own.str (by decide +kernel)
    · exact k _ _ (t5.trans t6) Own.str (by decide +kernel)
    · exact k _ _ (t5.trans t6) Own.str (by decide +kernel)
    · exact k _ _ (t5.trans t6) Own.str (by decide +kernel)
    · exact k _ _ (t5.trans t6) Own.str (by decide +kernel)
    · exact k _ _ (t5.trans t6) Own.str (by decide +kernel)
    · exact k _ _ (t5.trans t6) Own.non rfl
    · exact k _ _ (t5.trans t6) Own.bl rfl
    · exact k _ _ (t5.trans t6) o6 rfl
    · exact k _ _ (t5.trans t6) Own.int rfl
set_option maxHeartbeats 4000000 in
theorem ok_Lothers (T : Txt w K mg c) : FnOkH P w K mg base CX0 1 c.a_Lothers c.d_Lothers ["_law_e"] (spOthers c.c_NoDay c.c_NoAct c.c_NoNumber) := by
  refine T.Lothers.fn.okH sc_Lothers (fun vs H Q E h => ?_) (fun cdv A outer s H vs Q E hr h => ?_)
  · obtain ⟨e, rfl, _⟩ := h
    rfl
  · obtain ⟨e, rfl, hx, k⟩ := h
    refine ⟨_, (pss_cons (ps_if (PW.pt (pw_or (pt_val (pe_callB call_isiE rfl T.no_isinstance bt_isinstance (pa_cons (pv 0) (pa_cons (pe_glob (v := .ref c.c_Late) rfl T.mg_Late rfl) pa_nil)))) (pw_or (pt_val (pe_callB call_isiE rfl T.no_isinstance bt_isinstance (pa_cons (pv 0) (pa_cons (pe_glob (v := .ref c.c_NoBook) rfl T.mg_NoBook rfl) pa_nil)))) (pw_or (pt_val (pe_callB call_isiE rfl T.no_isinstance bt_isinstance (pa_cons (pv 0) (pa_cons (pe_glob (v := .ref c.c_NoEntry) rfl T.mg_NoEntry rfl) pa_nil)))) (pw_or1 (pt_val (pe_callB call_isiE rfl T.no_isinstance bt_isinstance (pa_cons (pv 0) (pa_cons (pe_glob (v := .ref c.c_NoPath) rfl T.mg_NoPath rfl) pa_nil)))))))))
        (pss_one (ps_ret pe_bl))
        pss_nil)
      (pss_cons (ps_if (PW.pt (pw_or (pt_val (pe_callB call_isiE rfl T.no_isinstance bt_isinstance (pa_cons (pv 0) (pa_cons (pe_glob (v := .ref c.c_NoRank) rfl T.mg_NoRank rfl) pa_nil)))) (pw_or (pt_val (pe_callB call_isiE rfl T.no_isinstance bt_isinstance (pa_cons (pv 0) (pa_cons (pe_glob (v := .ref c.c_NoRow) rfl T.mg_NoRow rfl) pa_nil)))) (pw_or (pt_val (pe_callB call_isiE rfl T.no_isinstance bt_isinstance (pa_cons (pv 0) (pa_cons (pe_glob (v := .ref c.c_NoSheet) rfl T.mg_NoSheet rfl) pa_nil)))) (pw_or1 (pt_val (pe_callB call_isiE rfl T.no_isinstance bt_isinstance (pa_cons (pv 0) (pa_cons (pe_glob (v := .ref c.c_NoSorting) rfl T.mg_NoSorting rfl) pa_nil)))))))))
        (pss_one (ps_ret pe_bl))
        pss_nil)
      (pss_one (ps_ret (pe_or (pe_callB call_isiE rfl T.no_isinstance bt_isinstance (pa_cons (pv 0) (pa_cons (pe_glob (v := .ref c.c_NoText) rfl T.mg_NoText rfl) pa_nil))) (pe_one (pe_callB call_isiE rfl T.no_isinstance bt_isinstance (pa_cons (pv 0) (pa_cons (pe_glob (v := .ref c.c_NoWord) rfl T.mg_NoWord rfl) pa_nil))))))))), ?_⟩
    rcases hx with he | he | he
    · refine ⟨_, rfl, rIsiE.xe he T.q_NoDay T.i_NoDay_Late ⟨_, rfl, iteF ?_⟩⟩
      refine ⟨_, rfl, rIsiE.xe he T.q_NoDay T.i_NoDay_NoBook ⟨_, rfl, iteF ?_⟩⟩
      refine ⟨_, rfl, rIsiE.xe he T.q_NoDay T.i_NoDay_NoEntry ⟨_, rfl, iteF ?_⟩⟩
      refine ⟨_, rfl, rIsiE.xe he T.q_NoDay T.i_NoDay_NoPath ⟨_, rfl, iteF ?_⟩⟩
      refine ⟨_, rfl, rIsiE.xe he T.q_NoDay T.i_NoDay_NoRank ⟨_, rfl, iteF ?_⟩⟩
      refine ⟨_, rfl, rIsiE.xe he T.q_NoDay T.i_NoDay_NoRow ⟨_, rfl, iteF ?_⟩⟩
      refine ⟨_, rfl, rIsiE.xe he T.q_NoDay T.i_NoDay_NoSheet ⟨_, rfl, iteF ?_⟩⟩
      refine ⟨_, rfl, rIsiE.xe he T.q_NoDay T.i_NoDay_NoSorting ⟨_, rfl, iteF ?_⟩⟩
      exact ⟨_, rfl, rIsiE.xe he T.q_NoDay T.i_NoDay_NoText ⟨_, rfl, iteF ⟨_, rfl, rIsiE.xe he T.q_NoDay T.i_NoDay_NoWord k⟩⟩⟩
    · refine ⟨_, rfl, rIsiE.xe he T.q_NoAct T.i_NoAct_Late ⟨_, rfl, iteF ?_⟩⟩
      refine ⟨_, rfl, rIsiE.xe he T.q_NoAct T.i_NoAct_NoBook ⟨_, rfl, iteF ?_⟩⟩
      refine ⟨_, rfl, rIsiE.xe he T.q_NoAct T.i_NoAct_NoEntry ⟨_, rfl, iteF ?_⟩⟩
      refine ⟨_, rfl, rIsiE.xe he T.q_NoAct T.i_NoAct_NoPath ⟨_, rfl, iteF ?_⟩⟩
      refine ⟨_, rfl, rIsiE.xe he T.q_NoAct T.i_NoAct_NoRank ⟨_, rfl, iteF ?_⟩⟩
      refine ⟨_, rfl, rIsiE.xe he T.q_NoAct T.i_NoAct_NoRow ⟨_, rfl, iteF ?_⟩⟩
      refine ⟨_, rfl, rIsiE.xe he T.q_NoAct T.i_NoAct_NoSheet ⟨_, rfl, iteF ?_⟩⟩
      refine ⟨_, rfl, rIsiE.xe he T.q_NoAct T.i_NoAct_NoSorting ⟨_, rfl, iteF ?_⟩⟩
      exact ⟨_, rfl, rIsiE.xe he T.q_NoAct T.i_NoAct_NoText ⟨_, rfl, iteF ⟨_, rfl, rIsiE.xe he T.q_NoAct T.i_NoAct_NoWord k⟩⟩⟩
    · refine ⟨_, rfl, rIsiE.xe he T.q_NoNumber T.i_NoNumber_Late ⟨_, rfl, iteF ?_⟩⟩
      refine ⟨_, rfl, rIsiE.xe he T.q_NoNumber T.i_NoNumber_NoBook ⟨_, rfl, iteF ?_⟩⟩
      refine ⟨_, rfl, rIsiE.xe he T.q_NoNumber T.i_NoNumber_NoEntry ⟨_, rfl, iteF ?_⟩⟩
      refine ⟨_, rfl, rIsiE.xe he T.q_NoNumber T.i_NoNumber_NoPath ⟨_, rfl, iteF ?_⟩⟩
      refine ⟨_, rfl, rIsiE.xe he T.q_NoNumber T.i_NoNumber_NoRank ⟨_, rfl, iteF ?_⟩⟩
      refine ⟨_, rfl, rIsiE.xe he T.q_NoNumber T.i_NoNumber_NoRow ⟨_, rfl, iteF ?_⟩⟩
      refine ⟨_, rfl, rIsiE.xe he T.q_NoNumber T.i_NoNumber_NoSheet ⟨_, rfl, iteF ?_⟩⟩
      refine ⟨_, rfl, rIsiE.xe he T.q_NoNumber T.i_NoNumber_NoSorting ⟨_, rfl, iteF ?_⟩⟩
      exact ⟨_, rfl, rIsiE.xe he T.q_NoNumber T.i_NoNumber_NoText ⟨_, rfl, iteF ⟨_, rfl, rIsiE.xe he T.q_NoNumber T.i_NoNumber_NoWord k⟩⟩⟩
set_option maxHeartbeats 4000000 in
theorem ok_Lrefused (T : Txt w K mg c) : FnOk P w K mg base CX0 6 c.a_Lrefused c.d_Lrefused ["_law_day", "_law_deed", "_law_number"] (spRefA K) := by
  refine T.Lrefused.fn.ok sc_Lrefused (fun vs H Q E h => ?_) (fun cdv A outer s H vs Q E hr h => ?_)
  · obtain ⟨d, e, n, t, rfl, _⟩ := h
    rfl
  · obtain ⟨d, e, n, t, rfl, od, oe, on, hw, k⟩ := h
    refine ⟨_, (pss_cons (ps_set (i := 3) sc_Lrefused.nd rfl (Or.inl rfl) (pe_lst pa_nil))
      (pss_cut (ps_try rfl rfl rfl sc_Lrefused.nd (i := 4) rfl rfl rfl T.mg_RightError (fun Ez pins W hp =>
        (pss_one (ps_expr (pe_makeS T.mk_Act (ok_Act_init T) (hr.mono (by decide)) rfl T.mg_Act T.b_Act_3 hp (pa_cons (pv 0) (pa_cons (pv 1) (pa_cons (pv 2) pa_nil))) pk_nil))))
        (fun e => (pss_cons (ps_set (i := 3) sc_Lrefused.nd rfl (Or.inl rfl) (pe_lst (pa_cons (pe_callB call_isiE rfl T.no_isinstance bt_isinstance (pa_cons (pv 4) (pa_cons (pe_bltn (v := .ty "ValueError") rfl T.no_ValueError bt_ValueError rfl) pa_nil))) (pa_cons (pe_callB call_isiE rfl T.no_isinstance bt_isinstance (pa_cons (pv 4) (pa_cons (pe_glob (v := .ref c.c_NoDay) rfl T.mg_NoDay rfl) pa_nil))) (pa_cons (pe_callB call_isiE rfl T.no_isinstance bt_isinstance (pa_cons (pv 4) (pa_cons (pe_glob (v := .ref c.c_NoAct) rfl T.mg_NoAct rfl) pa_nil))) (pa_cons (pe_callB call_isiE rfl T.no_isinstance bt_isinstance (pa_cons (pv 4) (pa_cons (pe_glob (v := .ref c.c_NoNumber) rfl T.mg_NoNumber rfl) pa_nil))) pa_nil))))))
      (pss_cons (ps_expr (pe_bm PySem.F.plainAttrs_list PySem.F.slot_list_append PySem.F.type_list_append (MtM.r mt_append) (pv 3) (pa_cons (pe_callH (ok_Lothers T) (hr.mono (show 1 ≤ 5 by decide)).h rfl T.Lothers.mgf T.Lothers.kp T.Lothers.bi .nil pass0 (pa_cons (pv 4) pa_nil)) pa_nil)))
      (pss_one (ps_if (pt_val (pe_callB call_isiE rfl T.no_isinstance bt_isinstance (pa_cons (pv 4) (pa_cons (pe_glob (v := .ref c.c_NoAct) rfl T.mg_NoAct rfl) pa_nil))))
        (pss_one (ps_expr (pe_bm PySem.F.plainAttrs_list PySem.F.slot_list_append PySem.F.type_list_append (MtM.r mt_append) (pv 3) (pa_cons (pe_and (pe_callH (okh_Lwhole T) (hr.mono (show 1 ≤ 5 by decide)).h rfl T.Lwhole.mgf T.Lwhole.kp T.Lwhole.bi .nil pass0 (pa_cons (pe_fldX (pv 4) rfl) pa_nil)) (pe_one (pe_cmpR op_eq (pe_fldX (pv 4) rfl) pe_int (nomark _)))) pa_nil))))
        pss_nil))))))
      (pss_one (ps_ret (pv 3))))), ?_⟩
    refine ⟨le_ble rfl, fun p0 hp0 => ?_⟩
    have s0 := Same.new (o := HO.lst []) hp0
    generalize upd H p0 (.lst []) = G0 at s0 ⊢
    refine ⟨fun σ G => ∃ q, σ = [some d, some e, some n, some (.ref q), none] ∧ Same H G ∧ G q = some (.lst (truthsA t)), ?_, ?_⟩
    · refine ⟨fun σ1 C dd H1 => σ1 = [some d, some e, some n, some (.ref p0), none] ∧ Same H H1 ∧ ((t = 0 ∧ C = .ref c.c_NoDay ∧ dd = none) ∨ (t = 1 ∧ C = .ref c.c_NoAct ∧ ∃ x, dd = some x ∧ H1 x = some (.xd [("place", V.int 0)])) ∨ (t = 2 ∧ C = .ref c.c_NoNumber ∧ dd = none)), fun pins W => ?_, ?_⟩
      · refine ⟨_, rfl, _, rfl, _, rfl, rfl, rfl, fun x dx hx hdx ndx => ?_⟩
        have s1 : Same G0 (upd (upd G0 dx (.own x)) x (.ins c.c_Act dx [])) := fun b u hb => by
          rw [upd_ne (ne_of_none hb hx), upd_ne (ne_of_none hb hdx)]
          exact hb
        have s01 := s0.trans s1
        refine ⟨x, dx, d, e, n, rfl, upd_same, od.same s01, oe.same s01, on.same s01, fun h => ?_, fun h1 h2 y G sG hy => ?_, fun h1 h2 h3 => ?_, fun h1 h2 h3 => ?_⟩
        · rcases hw with ⟨rfl, _⟩ | ⟨_, h', _⟩ | ⟨_, h', _⟩
          · exact ⟨rfl, s01, .inl ⟨rfl, rfl, rfl⟩⟩
          · exact absurd (h.symm.trans h') (by decide)
          · exact absurd (h.symm.trans h') (by decide)
        · rcases hw with ⟨_, h'⟩ | ⟨rfl, _, h'⟩ | ⟨_, _, h', _⟩
          · exact absurd (h1.symm.trans h') (by decide)
          · exact ⟨rfl, s01.trans sG, .inr (.inl ⟨rfl, rfl, y, rfl, hy⟩)⟩
          · exact absurd (h2.symm.trans h') (by decide)
        · rcases hw with ⟨_, h'⟩ | ⟨_, _, h'⟩ | ⟨rfl, _⟩
          · exact absurd (h1.symm.trans h') (by decide)
          · exact absurd (h2.symm.trans h') (by decide)
          · exact ⟨rfl, s01, .inr (.inr ⟨rfl, rfl, rfl⟩)⟩
        · rcases hw with ⟨_, h'⟩ | ⟨_, _, h'⟩ | ⟨_, _, _, h'⟩
          · exact absurd (h1.symm.trans h') (by decide)
          · exact absurd (h2.symm.trans h') (by decide)
          · exact absurd (h3.symm.trans h') (by decide)
      · rintro σ1 C dd H1 ⟨rfl, sH, ⟨rfl, rfl, rfl⟩ | ⟨rfl, rfl, dx, rfl, hdx⟩ | ⟨rfl, rfl, rfl⟩⟩
        · refine ⟨T.e_NoDay_RightError, fun e0 he0 => ?_⟩
          have xe : XE (upd H1 e0 (exO (.ref c.c_NoDay) none e0)) e0 c.c_NoDay := .inl upd_same
          have sx := sH.trans (Same.new (o := exO (.ref c.c_NoDay) none e0) he0)
          generalize upd H1 e0 (exO (.ref c.c_NoDay) none e0) = G1 at xe sx ⊢
          refine ⟨_, rfl, rIsiE.xeT xe T.q_NoDay T.i_NoDay_ValueError ⟨_, rfl, rIsiE.xe xe T.q_NoDay T.i_NoDay_NoDay ⟨_, rfl, rIsiE.xe xe T.q_NoDay T.i_NoDay_NoAct ⟨_, rfl, rIsiE.xe xe T.q_NoDay T.i_NoDay_NoNumber ?_⟩⟩⟩⟩
          refine ⟨le_ble rfl, fun q0 hq0 => ?_⟩
          have s1 := Same.new (o := HO.lst [V.bl true, V.bl true, V.bl false, V.bl false]) hq0
          have k1 := upd_same (H := G1) (a := q0) (o := .lst [V.bl true, V.bl true, V.bl false, V.bl false])
          have xe := xe.same s1
          generalize upd G1 q0 (.lst [V.bl true, V.bl true, V.bl false, V.bl false]) = G2 at s1 k1 xe ⊢
          refine ⟨_, rfl, .inl ⟨rfl, _, SqL.of k1⟩, _, rfl, e0, rfl, .inl xe, q0, _, _, rfl, rfl, k1, le_ble rfl, ?_⟩
          have sb : Same H (upd G2 q0 (.lst ([V.bl true, V.bl true, V.bl false, V.bl false] ++ [V.bl false]))) := fun b u hb => by
            rw [upd_ne (ne_of_none hb (sx.free hq0))]
            exact s1 _ _ (sx _ _ hb)
          have k2 := upd_same (H := G2) (a := q0) (o := .lst ([V.bl true, V.bl true, V.bl false, V.bl false] ++ [V.bl false]))
          have nq : q0 ≠ e0 := by
            rcases xe with z | ⟨_, _, z | z, _⟩
            · exact ne_of k1 z (by intro y; cases y)
            · exact ne_of k1 z (by intro y; cases y)
            · exact ne_of k1 z (by intro y; cases y)
          have xe : XE (upd G2 q0 (.lst ([V.bl true, V.bl true, V.bl false, V.bl false] ++ [V.bl false]))) e0 c.c_NoDay := xe.upd k1
          exact ⟨_, rfl, rIsiE.xe xe T.q_NoDay T.i_NoDay_NoAct ⟨_, rfl, iteF ⟨q0, rfl, sb, k2⟩⟩⟩
        · refine ⟨T.e_NoAct_RightError, fun e0 he0 => ?_⟩
          have xe : XE (upd H1 e0 (exO (.ref c.c_NoAct) (some dx) e0)) e0 c.c_NoAct := .inr ⟨dx, _, XD.caught hdx he0⟩
          have sx := sH.trans (Same.new (o := exO (.ref c.c_NoAct) (some dx) e0) he0)
          have xd : XD (upd H1 e0 (exO (.ref c.c_NoAct) (some dx) e0)) e0 c.c_NoAct dx [("place", V.int 0)] := XD.caught hdx he0
          generalize upd H1 e0 (exO (.ref c.c_NoAct) (some dx) e0) = G1 at xe sx xd ⊢
          refine ⟨_, rfl, rIsiE.xeT xe T.q_NoAct T.i_NoAct_ValueError ⟨_, rfl, rIsiE.xe xe T.q_NoAct T.i_NoAct_NoDay ⟨_, rfl, rIsiE.xe xe T.q_NoAct T.i_NoAct_NoAct ⟨_, rfl, rIsiE.xe xe T.q_NoAct T.i_NoAct_NoNumber ?_⟩⟩⟩⟩
          refine ⟨le_ble rfl, fun q0 hq0 => ?_⟩
          have s1 := Same.new (o := HO.lst [V.bl true, V.bl false, V.bl true, V.bl false]) hq0
          have k1 := upd_same (H := G1) (a := q0) (o := .lst [V.bl true, V.bl false, V.bl true, V.bl false])
          have xe := xe.same s1
          have xd := xd.same s1
          generalize upd G1 q0 (.lst [V.bl true, V.bl false, V.bl true, V.bl false]) = G2 at s1 k1 xe xd ⊢
          refine ⟨_, rfl, .inl ⟨rfl, _, SqL.of k1⟩, _, rfl, e0, rfl, .inr (.inl xe), q0, _, _, rfl, rfl, k1, le_ble rfl, ?_⟩
          have sb : Same H (upd G2 q0 (.lst ([V.bl true, V.bl false, V.bl true, V.bl false] ++ [V.bl false]))) := fun b u hb => by
            rw [upd_ne (ne_of_none hb (sx.free hq0))]
            exact s1 _ _ (sx _ _ hb)
          have k2 := upd_same (H := G2) (a := q0) (o := .lst ([V.bl true, V.bl false, V.bl true, V.bl false] ++ [V.bl false]))
          have nq : q0 ≠ e0 ∧ q0 ≠ dx := by
            rcases xd with ⟨z | z, z2⟩
            · exact ⟨ne_of k1 z (by intro y; cases y), ne_of k1 z2 (by intro y; cases y)⟩
            · exact ⟨ne_of k1 z (by intro y; cases y), ne_of k1 z2 (by intro y; cases y)⟩
          have xd : XD (upd G2 q0 (.lst ([V.bl true, V.bl false, V.bl true, V.bl false] ++ [V.bl false]))) e0 c.c_NoAct dx [("place", V.int 0)] := ⟨xd.1.imp (fun z => by rw [upd_ne nq.1.symm]; exact z) (fun z => by rw [upd_ne nq.1.symm]; exact z), by rw [upd_ne nq.2.symm]; exact xd.2⟩
          have xe : XE (upd G2 q0 (.lst ([V.bl true, V.bl false, V.bl true, V.bl false] ++ [V.bl false]))) e0 c.c_NoAct := .inr ⟨_, _, xd⟩
          generalize upd G2 q0 (.lst ([V.bl true, V.bl false, V.bl true, V.bl false] ++ [V.bl false])) = G3 at sb k2 xd xe ⊢
          refine ⟨_, rfl, rIsiE.xe xe T.q_NoAct T.i_NoAct_NoAct ⟨_, rfl, iteT ?_⟩⟩
          refine ⟨_, rfl, .inl ⟨rfl, _, SqL.of k2⟩, _, rfl, e0, c.c_NoAct, dx, _, _, rfl, xd, T.q_NoAct, T.hd_NoAct, T.na_NoAct, rfl, _, rfl, Own.int, _, rfl, iteT ?_⟩
          refine ⟨_, rfl, e0, c.c_NoAct, dx, _, _, rfl, xd, T.q_NoAct, T.hd_NoAct, T.na_NoAct, rfl, rfl, ?_⟩
          refine ⟨q0, _, _, rfl, rfl, k2, le_ble rfl, ?_⟩
          exact ⟨q0, rfl, fun b u hb => by rw [upd_ne (ne_of_none hb (sx.free hq0))]; exact sb _ _ hb, upd_same⟩
        · refine ⟨T.e_NoNumber_RightError, fun e0 he0 => ?_⟩
          have xe : XE (upd H1 e0 (exO (.ref c.c_NoNumber) none e0)) e0 c.c_NoNumber := .inl upd_same
          have sx := sH.trans (Same.new (o := exO (.ref c.c_NoNumber) none e0) he0)
          generalize upd H1 e0 (exO (.ref c.c_NoNumber) none e0) = G1 at xe sx ⊢
          refine ⟨_, rfl, rIsiE.xeT xe T.q_NoNumber T.i_NoNumber_ValueError ⟨_, rfl, rIsiE.xe xe T.q_NoNumber T.i_NoNumber_NoDay ⟨_, rfl, rIsiE.xe xe T.q_NoNumber T.i_NoNumber_NoAct ⟨_, rfl, rIsiE.xe xe T.q_NoNumber T.i_NoNumber_NoNumber ?_⟩⟩⟩⟩
          refine ⟨le_ble rfl, fun q0 hq0 => ?_⟩
          have s1 := Same.new (o := HO.lst [V.bl true, V.bl false, V.bl false, V.bl true]) hq0
          have k1 := upd_same (H := G1) (a := q0) (o := .lst [V.bl true, V.bl false, V.bl false, V.bl true])
          have xe := xe.same s1
          generalize upd G1 q0 (.lst [V.bl true, V.bl false, V.bl false, V.bl true]) = G2 at s1 k1 xe ⊢
          refine ⟨_, rfl, .inl ⟨rfl, _, SqL.of k1⟩, _, rfl, e0, rfl, .inr (.inr xe), q0, _, _, rfl, rfl, k1, le_ble rfl, ?_⟩
          have sb : Same H (upd G2 q0 (.lst ([V.bl true, V.bl false, V.bl false, V.bl true] ++ [V.bl false]))) := fun b u hb => by
            rw [upd_ne (ne_of_none hb (sx.free hq0))]
            exact s1 _ _ (sx _ _ hb)
          have k2 := upd_same (H := G2) (a := q0) (o := .lst ([V.bl true, V.bl false, V.bl false, V.bl true] ++ [V.bl false]))
          have nq : q0 ≠ e0 := by
            rcases xe with z | ⟨_, _, z | z, _⟩
            · exact ne_of k1 z (by intro y; cases y)
            · exact ne_of k1 z (by intro y; cases y)
            · exact ne_of k1 z (by intro y; cases y)
          have xe : XE (upd G2 q0 (.lst ([V.bl true, V.bl false, V.bl false, V.bl true] ++ [V.bl false]))) e0 c.c_NoNumber := xe.upd k1
          exact ⟨_, rfl, rIsiE.xe xe T.q_NoNumber T.i_NoNumber_NoAct ⟨_, rfl, iteF ⟨q0, rfl, sb, k2⟩⟩⟩
    rintro σ G ⟨q, rfl, sG, hq⟩
    exact ⟨_, rfl, k q G sG hq⟩
set_option maxHeartbeats 4000000 in
theorem ok_Lgood (T : Txt w K mg c) : FnOk P w K mg base CX0 6 c.a_Lgood c.d_Lgood ["_law_day", "_law_deed", "_law_number"] (spGoodA K) := by
  refine T.Lgood.fn.ok sc_Lgood (fun vs H Q E h => ?_) (fun cdv A outer s H vs Q E hr h => ?_)
  · obtain ⟨d, z, n, rfl, _⟩ := h
    rfl
  · obtain ⟨d, z, n, rfl, hd, he, hn, k⟩ := h
    refine ⟨_, (pss_cons (ps_set (i := 3) sc_Lgood.nd rfl (Or.inl rfl) (pe_makeS T.mk_Act (ok_Act_init T) (hr.mono (by decide)) rfl T.mg_Act T.b_Act_3 passE0 (pa_cons (pv 0) (pa_cons (pv 1) (pa_cons (pv 2) pa_nil))) pk_nil))
      (pss_cons (ps_if (PW.pt (pw_or (pt_not (pt_val (pe_call (ok_Lwhole T) (hr.mono (by decide)) rfl T.Lwhole.mgf T.Lwhole.kp T.Lwhole.bi .nil pass0 (pa_cons (pe_fld (pv 3) rfl) pa_nil)))) (pw_or (pt_not (pt_val (pe_call (ok_Lwhole T) (hr.mono (by decide)) rfl T.Lwhole.mgf T.Lwhole.kp T.Lwhole.bi .nil pass0 (pa_cons (pe_fld (pv 3) rfl) pa_nil)))) (pw_or1 (pt_not (pt_val (pe_callB call_isiA rfl T.no_isinstance bt_isinstance (pa_cons (pe_fld (pv 3) rfl) (pa_cons (pe_bltn (v := .ty "str") rfl T.no_str bt_str rfl) pa_nil)))))))))
        (pss_one (ps_ret pe_bl))
        pss_nil)
      (pss_one (ps_ret (pe_cmpR (op_eqD (hu62 hr)) (pe_lst (pa_cons (pe_fld (pv 3) rfl) (pa_cons (pe_fld (pv 3) rfl) (pa_cons (pe_fld (pv 3) rfl) pa_nil)))) (pe_lst (pa_cons (pv 0) (pa_cons (pv 1) (pa_cons (pv 2) pa_nil)))) (nomark _)))))), ?_⟩
    refine ⟨_, rfl, _, rfl, _, rfl, rfl, rfl, fun x dx hx hdx ndx => ⟨x, dx, .int d, .str z, .int n, rfl, upd_same, Own.int, Own.str, Own.int, fun h => absurd (hd.symm.trans h) (by decide), fun _ h => absurd (he.symm.trans h) (by decide), fun _ _ h => absurd (hn.symm.trans h) (by decide), fun _ _ _ G fG ha => ⟨rfl, ?_⟩⟩⟩
    have sG : Same H G := fun b u hb => fG b u (ne_of_none hb hx) (by rw [upd_ne (ne_of_none hb hx), upd_ne (ne_of_none hb hdx)]; exact hb)
    clear fG
    refine ⟨_, rfl, x, _, dx, _, _, rfl, ha, T.cl_Act, T.na_Act_day, rfl, .int d, rfl, Own.int, _, rfl, iteF ?_⟩
    refine ⟨_, rfl, x, _, dx, _, _, rfl, ha, T.cl_Act, T.na_Act_number, rfl, .int n, rfl, Own.int, _, rfl, iteF ?_⟩
    refine ⟨_, rfl, x, _, dx, _, _, rfl, ha, T.cl_Act, T.na_Act_deed, rfl, rIsiA.str Own.str ⟨_, rfl, iteF ?_⟩⟩
    refine ⟨_, rfl, x, _, dx, _, _, rfl, ha, T.cl_Act, T.na_Act_day, rfl, _, rfl, x, _, dx, _, _, rfl, ha, T.cl_Act, T.na_Act_deed, rfl, _, rfl, x, _, dx, _, _, rfl, ha, T.cl_Act, T.na_Act_number, rfl, le_ble rfl, fun l1 h1 => ?_⟩
    have s1 := Same.new (o := HO.lst [.int d, .str z, .int n]) h1
    have k1 := upd_same (H := G) (a := l1) (o := .lst [.int d, .str z, .int n])
    generalize upd G l1 (.lst [.int d, .str z, .int n]) = G1 at s1 k1 ⊢
    refine ⟨_, rfl, _, rfl, _, rfl, le_ble rfl, fun l2 h2 => ?_⟩
    have s2 := Same.new (o := HO.lst [.int d, .str z, .int n]) h2
    exact ⟨0, true, by decide, sameK (s2 _ _ k1) upd_same rfl, k _ (sG.trans (s1.trans s2))⟩
set_option maxHeartbeats 4000000 in
theorem ok_law (T : Txt w K mg c) : FnOk P w K mg base CX0 7 c.a_law c.d_law ["_law_script"] (spLaw K) := by
  refine T.law.fn.ok sc_law (fun vs H Q E h => ?_) (fun cdv A outer s H vs Q E hr h => ?_)
  · obtain ⟨a, ns, rfl, _⟩ := h
    rfl
  · obtain ⟨a, ns, rfl, hS, hn, k⟩ := h
    refine ⟨_, (pss_cons (ps_set (i := 0) sc_law.nd rfl (Or.inr rfl) (pe_comp (N' := ["_law_cell", "_law_script"]) (js := [none, some 0]) rfl rfl (by decide +kernel) (by decide +kernel) (free_of ["_law_script"] (by decide +kernel) (fm_cons (.inl rfl) fm_nil)) (cap_of rfl (fm_cons (fun j e => nomatch e) (fm_cons (fun j e => by cases e; exact ⟨rfl, rfl, .inl rfl⟩) fm_nil))) (pi_list (pv 0)) (fun B => ⟨(pg_name (i := 0) (show List.Nodup (["_law_cell", "_law_script"] : List Str) by decide +kernel) rfl (Or.inl rfl)), pifs_nil, (pe_op op_add (pe_op op_mul pe_int (pv 0)) (pe_op op_mod (pe_callB (call_sum rfl) rfl T.no_sum bt_sum (pa_cons (pe_slice sl_list (pv 1) po_none (po_some pe_int)) pa_nil)) pe_int))⟩)))
      (pss_cons (ps_set (i := 1) sc_law.nd rfl (Or.inr rfl) (pe_slice sl_list (pv 0) po_none (po_some pe_int)))
      (pss_cut (ps_set (i := 2) sc_law.nd rfl (Or.inl rfl) (pe_op op_mod (pe_call (ok_Ldraw T) (hr.mono (by decide)) rfl T.Ldraw.mgf T.Ldraw.kp T.Ldraw.bi .nil pass0 (pa_cons (pe_call (ok_Lcell_at T) (hr.mono (by decide)) rfl T.Lcell_at.mgf T.Lcell_at.kp T.Lcell_at.bi .nil pass0 (pa_cons (pv 0) (pa_cons pe_int pa_nil))) (pa_cons pe_int pa_nil))) (pe_op op_pow pe_int pe_int)))
      (pss_cons (ps_set (i := 3) sc_law.nd rfl (Or.inl rfl) (pe_lst (pa_cons (pe_fldX (pe_makeX T.x_NoAct (ok_NoAct_init T) (hr.mono (by decide)) rfl T.mg_NoAct T.b_NoAct_1 (pa_cons pe_str pa_nil)) rfl) (pa_cons (pe_fldX (pe_makeX T.x_NoAct (ok_NoAct_init T) (hr.mono (by decide)) rfl T.mg_NoAct T.b_NoAct_2 (pa_cons pe_str (pa_cons (pv 2) pa_nil))) rfl) pa_nil))))
      (pss_cons (ps_if (PW.pt (pw_or (pt_cmpR (op_neD (hu62 hr)) (pv 3) (pe_lst (pa_cons pe_int (pa_cons (pv 2) pa_nil))) (nomark _)) (pw_or1 (pt_not (pt_val (pe_call (ok_Lwhole T) (hr.mono (by decide)) rfl T.Lwhole.mgf T.Lwhole.kp T.Lwhole.bi .nil pass0 (pa_cons (pe_ix ix_list (pv 3) pe_int (fun _ _ => rfl)) pa_nil)))))))
        (pss_one (ps_ret pe_bl))
        pss_nil)
      (pss_cons (ps_for PassesOwn.never rfl (pi_range1 rfl T.no_range (pa_cons (pe_callB call_len_seq rfl T.no_len bt_len (pa_cons (pv 1) pa_nil)) pa_nil)) (pg_name (i := 4) sc_law.nd rfl (Or.inr rfl))
        (pss_cut (ps_setComp (i := 5) sc_law.nd rfl rfl (N' := ["_law_j", "_law_cells", "_law_k"]) (js := [none, some 1, some 4]) rfl rfl (by decide +kernel) (by decide +kernel) (free_of ["_law_cells", "_law_k"] (by decide +kernel) (fm_cons (.inl rfl) (fm_cons (.inl rfl) fm_nil))) (cap_of rfl (fm_cons (fun j e => nomatch e) (fm_cons (fun j e => by cases e; exact ⟨rfl, rfl, .inl rfl⟩) (fm_cons (fun j e => by cases e; exact ⟨rfl, rfl, .inl rfl⟩) fm_nil)))) (pi_range1 rfl T.no_range (pa_cons pe_int pa_nil)) (fun B => ⟨(pg_name (i := 0) (show List.Nodup (["_law_j", "_law_cells", "_law_k"] : List Str) by decide +kernel) rfl (Or.inl rfl)), pifs_nil, (pe_call (ok_Ldraw T) (hr.mono (by decide)) rfl T.Ldraw.mgf T.Ldraw.kp T.Ldraw.bi .nil pass0 (pa_cons (pe_ix ix_list (pv 1) (pv 2) (fun _ _ => rfl)) (pa_cons (pe_op op_add (pe_op op_mul pe_int (pv 2)) (pv 0)) pa_nil)))⟩))
      (pss_cut (ps_set (i := 6) sc_law.nd rfl (Or.inl rfl) (pe_lst (pa_cons (pe_call (ok_Lwhole_by T) (hr.mono (by decide)) rfl T.Lwhole_by.mgf T.Lwhole_by.kp T.Lwhole_by.bi .nil pass0 (pa_cons (pe_ix ix_list (pv 5) pe_int (fun _ _ => rfl)) (pa_cons (pe_op op_pow pe_int pe_int) pa_nil))) (pa_cons (pe_ix ix_list (pe_lst (pa_cons pe_str (pa_cons pe_str (pa_cons pe_str pa_nil)))) (pe_op op_mod (pe_ix ix_list (pv 5) pe_int (fun _ _ => rfl)) pe_int) (fun _ _ => rfl)) pa_nil))))
      (pss_cut (ps_expr (pe_bm PySem.F.plainAttrs_list PySem.F.slot_list_append PySem.F.type_list_append (MtM.r mt_append) (pv 6) (pa_cons (pe_call (ok_Lwhole_by T) (hr.mono (by decide)) rfl T.Lwhole_by.mgf T.Lwhole_by.kp T.Lwhole_by.bi .nil pass0 (pa_cons (pe_ix ix_list (pv 5) pe_int (fun _ _ => rfl)) (pa_cons (pe_op op_pow pe_int pe_int) pa_nil))) pa_nil)))
      (pss_cons (ps_if (pt_not (pt_val (pe_call (ok_Lgood T) (hr.mono (by decide)) rfl T.Lgood.mgf T.Lgood.kp T.Lgood.bi .nil pass0 (pa_cons (pe_ix ix_list (pv 6) pe_int (fun _ _ => rfl)) (pa_cons (pe_ix ix_list (pv 6) pe_int (fun _ _ => rfl)) (pa_cons (pe_ix ix_list (pv 6) pe_int (fun _ _ => rfl)) pa_nil))))))
        (pss_one (ps_ret pe_bl))
        pss_nil)
      (pss_cut (ps_set (i := 7) sc_law.nd rfl (Or.inl rfl) (pe_lst (pa_cons (pe_call (ok_Lbad_number T) (hr.mono (by decide)) rfl T.Lbad_number.mgf T.Lbad_number.kp T.Lbad_number.bi .nil pass0 (pa_cons (pe_ix ix_list (pv 5) pe_int (fun _ _ => rfl)) (pa_cons (pe_op op_pow pe_int pe_int) pa_nil))) (pa_cons (pe_call (ok_Lbad_deed T) (hr.mono (by decide)) rfl T.Lbad_deed.mgf T.Lbad_deed.kp T.Lbad_deed.bi .nil pass0 (pa_cons (pe_ix ix_list (pv 5) pe_int (fun _ _ => rfl)) pa_nil)) (pa_cons (pe_call (ok_Lbad_number T) (hr.mono (by decide)) rfl T.Lbad_number.mgf T.Lbad_number.kp T.Lbad_number.bi .nil pass0 (pa_cons (pe_ix ix_list (pv 5) pe_int (fun _ _ => rfl)) (pa_cons (pe_op op_pow pe_int pe_int) pa_nil))) pa_nil)))))
      (pss_cut (ps_set (i := 8) sc_law.nd rfl (Or.inl rfl) (pe_ix ix_list (pe_lst (pa_cons (pv 7) (pa_cons (pv 6) pa_nil))) (pe_op op_mod (pe_op op_fdiv (pe_ix ix_list (pv 5) pe_int (fun _ _ => rfl)) pe_int) pe_int) (fun _ _ => rfl)))
      (pss_cut (ps_set (i := 9) sc_law.nd rfl (Or.inl rfl) (pe_ix ix_list (pe_lst (pa_cons (pv 7) (pa_cons (pv 6) pa_nil))) (pe_op op_mod (pe_op op_fdiv (pe_ix ix_list (pv 5) pe_int (fun _ _ => rfl)) pe_int) pe_int) (fun _ _ => rfl)))
      (pss_cons (ps_if (pt_cmpR (op_neD (hu62 hr)) (pe_call (ok_Lrefused T) (hr.mono (by decide)) rfl T.Lrefused.mgf T.Lrefused.kp T.Lrefused.bi .nil pass0 (pa_cons (pe_ix ix_list (pv 7) pe_int (fun _ _ => rfl)) (pa_cons (pe_ix ix_list (pv 8) pe_int (fun _ _ => rfl)) (pa_cons (pe_ix ix_list (pv 9) pe_int (fun _ _ => rfl)) pa_nil)))) (pe_lst (pa_cons pe_bl (pa_cons pe_bl (pa_cons pe_bl (pa_cons pe_bl (pa_cons pe_bl pa_nil)))))) (nomark _))
        (pss_one (ps_ret pe_bl))
        pss_nil)
      (pss_cons (ps_if (pt_cmpR (op_neD (hu62 hr)) (pe_call (ok_Lrefused T) (hr.mono (by decide)) rfl T.Lrefused.mgf T.Lrefused.kp T.Lrefused.bi .nil pass0 (pa_cons (pe_ix ix_list (pv 6) pe_int (fun _ _ => rfl)) (pa_cons (pe_ix ix_list (pv 7) pe_int (fun _ _ => rfl)) (pa_cons (pe_ix ix_list (pv 8) pe_int (fun _ _ => rfl)) pa_nil)))) (pe_lst (pa_cons pe_bl (pa_cons pe_bl (pa_cons pe_bl (pa_cons pe_bl (pa_cons pe_bl (pa_cons pe_bl pa_nil))))))) (nomark _))
        (pss_one (ps_ret pe_bl))
        pss_nil)
      (pss_one (ps_if (pt_cmpR (op_neD (hu62 hr)) (pe_call (ok_Lrefused T) (hr.mono (by decide)) rfl T.Lrefused.mgf T.Lrefused.kp T.Lrefused.bi .nil pass0 (pa_cons (pe_ix ix_list (pv 6) pe_int (fun _ _ => rfl)) (pa_cons (pe_ix ix_list (pv 6) pe_int (fun _ _ => rfl)) (pa_cons (pe_ix ix_list (pv 7) pe_int (fun _ _ => rfl)) pa_nil)))) (pe_lst (pa_cons pe_bl (pa_cons pe_bl (pa_cons pe_bl (pa_cons pe_bl (pa_cons pe_bl pa_nil)))))) (nomark _))
        (pss_one (ps_ret pe_bl))
        pss_nil))))))))))))
      (pss_one (ps_ret pe_bl)))))))), ?_⟩
    have sz : 2000 < sizeLine := le_ble rfl
    have lm : (ns.map V.int).length = ns.length := List.length_map ..
    have e6 : (10 : Int) ^ Int.toNat 6 = 1000000 := by decide
    have e9 : (10 : Int) ^ Int.toNat 9 = 1000000000 := by decide
    refine ⟨_, rfl, a, rfl, ⟨_, hS⟩, fun l B hl => ?_⟩
    refine loop_all (P := fun _ v => ∃ z, v = V.int z) hl hS (by omega) (fun σ => ∃ o, σ = [o, some (.ref a)]) ⟨_, rfl⟩ ?_ ?_
    · rintro i x σ G Kt hx ⟨o, rfl⟩ sG kt
      obtain ⟨y, _, rfl⟩ := List.mem_map.mp (List.mem_of_getElem? hx)
      walk_at "rd"
      refine ⟨a, _, rfl, sG.seq hS, fun p hp => ?_⟩
      refine ⟨p, ns.take 1, rfl, SqL.of (by rw [upd_same, show cutV (ns.map V.int) none (some 1) = (ns.map V.int).take 1 from cut_lit _ 1, List.map_take]), fun r => ?_⟩
      walk_at "rd"
      exact kt _ _ _ ⟨_, rfl⟩ (Same.new hp) ⟨_, rfl⟩
    intro G1 acc s1 h1 l1 hp
    obtain ⟨ms, rfl⟩ := ints_of hp
    rw [List.length_map, lm] at l1
    clear hp
    refine ⟨_, rfl, _, rfl, l, _, rfl, SqL.of h1, fun cl hcl => ?_⟩
    have c60 : cutV (ms.map V.int) none (some 60) = (ms.take 60).map V.int := by rw [show cutV (ms.map V.int) none (some 60) = (ms.map V.int).take 60 from cut_lit _ 60, List.map_take]
    rw [c60]
    have t2 := Same.new (o := HO.lst ((ms.take 60).map V.int)) hcl
    have h2 := upd_same (H := G1) (a := cl) (o := .lst ((ms.take 60).map V.int))
    have h1 := t2 _ _ h1
    generalize upd G1 cl (.lst ((ms.take 60).map V.int)) = G2 at t2 h1 h2 ⊢
    refine ⟨fun σ G => G = G2 ∧ ∃ pl : Int, σ = [some (.ref l), some (.ref cl), some (.int pl), none, none, none, none, none, none, none], ?_, ?_⟩
    · refine ⟨_, rfl, l, 0, ms, rfl, by decide, SqL.of h1, fun c0 => ?_⟩
      refine ⟨c0, 5, rfl, by decide, by decide, fun r r0 r1 => ?_⟩
      walk_at "rd"
      first | exact ⟨rfl, _, rfl⟩ | exact ⟨_, rfl⟩
    rintro σ G ⟨rfl, pl, rfl⟩
    refine ⟨rfl, le_ble rfl, makeI fun e1 d1 G3 s3 x1 => ?_⟩
    refine ⟨e1, c.c_NoAct, d1, _, _, rfl, x1, T.q_NoAct, T.hd_NoAct, T.na_NoAct, rfl, ?_⟩
    refine ⟨_, rfl, rfl, le_ble rfl, makeI fun e2 d2 G4 s4 x2 => ?_⟩
    refine ⟨e2, c.c_NoAct, d2, _, _, rfl, x2, T.q_NoAct, T.hd_NoAct, T.na_NoAct, rfl, ?_⟩
    refine ⟨le_ble rfl, fun md hmd => ?_⟩
    have t4 := Same.new (o := HO.lst [V.int 0, V.int pl]) hmd
    have h5 := upd_same (H := G4) (a := md) (o := .lst [V.int 0, V.int pl])
    have h2 := t4 _ _ (s4 _ _ (s3 _ _ h2))
    generalize upd G4 md (.lst [V.int 0, V.int pl]) = G5 at t4 h5 h2 ⊢
    refine ⟨_, rfl, _, rfl, le_ble rfl, fun l0 h0 => ?_⟩
    have t5 := Same.new (o := HO.lst [V.int 0, V.int pl]) h0
    refine ⟨0, true, by decide, sameK (t5 _ _ h5) upd_same rfl, _, rfl, iteF ?_⟩
    have h5 := t5 _ _ h5
    have h2 := t5 _ _ h2
    generalize upd G5 l0 (.lst [V.int 0, V.int pl]) = G6 at h5 h2 ⊢
    refine ⟨_, rfl, md, _, _, _, rfl, rfl, SqL.of h5, atI_nat (j := 0) rfl, .int 0, rfl, Own.int, _, rfl, iteF ?_⟩
    have lc : ((ms.take 60).map V.int).length ≤ 60 := by rw [List.length_map, List.length_take]; omega
    refine ⟨_, rfl, cl, _, rfl, .inl (SqL.of h2), _, rfl, by omega, by omega, ?_⟩
    refine for_range (lo := 0) (fun i σ G => Same G6 G ∧ ∃ z4 z5 z6 z7 z8 z9, σ = [some (.ref l), some (.ref cl), some (.int pl), some (.ref md), z4, z5, z6, z7, z8, z9]) ⟨Same.refl _, _, _, _, _, _, _, rfl⟩ ?_ ?_
    rotate_left
    · rintro σ G ⟨sG, z4, z5, z6, z7, z8, z9, rfl⟩
      exact k _
    rintro i σ G hi ⟨sG, z4, z5, z6, z7, z8, z9, rfl⟩
    have hcl := sG _ _ h2
    refine ⟨fun σ' G' => Same G G' ∧ ∃ dl acc, σ' = [some (.ref l), some (.ref cl), some (.int pl), some (.ref md), some (.int (0 + (i : Int))), some (.ref dl), z6, z7, z8, z9] ∧ G' dl = some (.lst acc) ∧ ∀ j : Nat, j < 6 → ∃ z, 0 ≤ z ∧ z < 2147483648 ∧ atI acc (j : Int) = some (V.int z), ?_, ?_⟩
    · refine ⟨6, rfl, by decide, by decide, fun dl B hdl => ?_⟩
      refine loop_allR (lo := 0) (n := 6) (P := fun _ v => ∃ z, v = V.int z ∧ 0 ≤ z ∧ z < 2147483648) hdl (by decide) (fun σ => ∃ o, σ = [o, some (.ref cl), some (.int (0 + (i : Int)))]) ⟨_, rfl⟩ ?_ ?_
      · rintro j σ G' Kt hj ⟨o, rfl⟩ sG' kt
        obtain ⟨v1, hv1, hm1⟩ := atI_in (xs := (ms.take 60).map V.int) (i := 0 + (i : Int)) (by omega) (by omega)
        obtain ⟨c1, _, rfl⟩ := List.mem_map.mp hm1
        refine ⟨_, rfl, _, rfl, cl, _, _, _, rfl, rfl, SqL.of (sG' _ _ hcl), hv1, ?_⟩
        walk_at "rd"
        first | refine ⟨_, _, rfl, by omega, by omega, fun r r0 r1 => ?_⟩ | refine ⟨by omega, by omega, fun r r0 r1 => ?_⟩ | refine fun r r0 r1 => ?_
        exact kt _ _ _ ⟨_, rfl⟩ (Same.refl _) ⟨r, rfl, r0, r1⟩
      · intro G' acc s' h' la hp
        refine ⟨s', dl, acc, rfl, h', fun j hj => ?_⟩
        obtain ⟨v, hv⟩ : ∃ v, acc[j]? = some v := ⟨_, List.getElem?_eq_getElem (by omega)⟩
        obtain ⟨z, rfl, z0, z1⟩ := hp j v hv
        exact ⟨z, z0, z1, atI_nat hv⟩
    rintro σ' Ga ⟨sa, dl, acc, rfl, hdl, dr⟩
    obtain ⟨x0, _, _, g0⟩ := dr 0 (by decide)
    obtain ⟨x1, _, _, g1⟩ := dr 1 (by decide)
    obtain ⟨x2, _, _, g2⟩ := dr 2 (by decide)
    obtain ⟨x3, _, _, g3⟩ := dr 3 (by decide)
    obtain ⟨x4, _, _, g4⟩ := dr 4 (by decide)
    obtain ⟨x5, _, _, g5⟩ := dr 5 (by decide)
    clear dr
    refine ⟨fun σ' Gb => Same Ga Gb ∧ ∃ gh y0 zd, σ' = [some (.ref l), some (.ref cl), some (.int pl), some (.ref md), some (.int (0 + (i : Int))), some (.ref dl), some (.ref gh), z7, z8, z9] ∧ Gb gh = some (.lst [.int y0, .str zd]) ∧ Ga gh = none ∧ inR 1000000 (.int y0) = true ∧ isDeed (.str zd) = true, ?_, ?_⟩
    · refine ⟨_, rfl, dl, _, _, _, rfl, rfl, SqL.of hdl, g0, ?_⟩
      walk_at "rd"
      first | refine ⟨_, _, rfl, by rw [e6]; decide, by rw [e6]; decide, fun y0 Gb sb b0 b1 => ?_⟩ | refine ⟨by rw [e6]; decide, fun y0 Gb sb b0 b1 => ?_⟩ | refine fun y0 Gb sb b0 b1 => ?_
      rw [e6] at b1
      refine ⟨le_ble rfl, fun l3 h3 => ?_⟩
      have t3 := Same.new (o := HO.lst [V.str (Str.ofString "keep"), V.str (Str.ofString "strike"), V.str (Str.ofString "leave")]) h3
      have k3 := upd_same (H := Gb) (a := l3) (o := .lst [V.str (Str.ofString "keep"), V.str (Str.ofString "strike"), V.str (Str.ofString "leave")])
      generalize upd Gb l3 (.lst [V.str (Str.ofString "keep"), V.str (Str.ofString "strike"), V.str (Str.ofString "leave")]) = Gc at t3 k3 ⊢
      have sc := sb.trans t3
      refine ⟨_, rfl, dl, _, _, _, rfl, rfl, SqL.of (sc _ _ hdl), g1, ?_⟩
      walk_at "rd"
      obtain ⟨pv, hpv, hm⟩ := atI_in (xs := [V.str (Str.ofString "keep"), V.str (Str.ofString "strike"), V.str (Str.ofString "leave")]) (i := x1 % 3) (Int.emod_nonneg _ (by decide)) (by show _ < (3 : Int); exact Int.emod_lt_of_pos _ (by decide))
      refine ⟨l3, _, _, pv, rfl, rfl, SqL.of k3, hpv, ?_⟩
      obtain ⟨zd, rfl, hzd⟩ : ∃ zd, pv = V.str zd ∧ isDeed (.str zd) = true := by
        simp only [List.mem_cons, List.not_mem_nil, or_false] at hm
        rcases hm with rfl | rfl | rfl
        · exact ⟨_, rfl, by decide +kernel⟩
        · exact ⟨_, rfl, by decide +kernel⟩
        · exact ⟨_, rfl, by decide +kernel⟩
      exact ⟨le_ble rfl, fun gh hgh => ⟨sc.trans (Same.new hgh), gh, y0, zd, rfl, upd_same, sc.free hgh, inR_of b0 b1, hzd⟩⟩
    rintro σ' Gb ⟨sb, gh, y0, zd, rfl, hgh, fgh, hy0, hzd⟩
    refine ⟨fun σ' Gc => Same Ga Gc ∧ ∃ y2, σ' = [some (.ref l), some (.ref cl), some (.int pl), some (.ref md), some (.int (0 + (i : Int))), some (.ref dl), some (.ref gh), z7, z8, z9] ∧ Gc gh = some (.lst [.int y0, .str zd, .int y2]) ∧ inR 1000000000 (.int y2) = true, ?_, ?_⟩
    · refine ⟨_, rfl, .inl ⟨rfl, _, SqL.of hgh⟩, _, rfl, dl, _, _, _, rfl, rfl, SqL.of (sb _ _ hdl), g2, ?_⟩
      walk_at "rd"
      first | refine ⟨_, _, rfl, by rw [e9]; decide, by rw [e9]; decide, fun y2 Gc sc b0 b1 => ?_⟩ | refine ⟨by rw [e9]; decide, fun y2 Gc sc b0 b1 => ?_⟩ | refine fun y2 Gc sc b0 b1 => ?_
      rw [e9] at b1
      refine ⟨gh, _, _, rfl, rfl, sc _ _ hgh, le_ble rfl, fun b u hb => ?_, y2, rfl, upd_same, inR_of b0 b1⟩
      rw [upd_ne (ne_of_none hb fgh)]
      exact sc _ _ (sb _ _ hb)
    clear hgh sb
    rintro σ' Gb ⟨sb, y2, rfl, hgh, hy2⟩
    have a0 : atI [V.int y0, V.str zd, V.int y2] 0 = some (.int y0) := atI_nat (j := 0) rfl
    have a1 : atI [V.int y0, V.str zd, V.int y2] 1 = some (.str zd) := atI_nat (j := 1) rfl
    have a2 : atI [V.int y0, V.str zd, V.int y2] 2 = some (.int y2) := atI_nat (j := 2) rfl
    refine ⟨_, rfl, gh, _, _, _, rfl, rfl, SqL.of hgh, a0, _, rfl, gh, _, _, _, rfl, rfl, SqL.of hgh, a1, _, rfl, gh, _, _, _, rfl, rfl, SqL.of hgh, a2, ?_⟩
    refine ⟨y0, zd, y2, rfl, hy0, hzd, hy2, fun Gc sc => ⟨_, rfl, iteF ?_⟩⟩
    have hdl := sc _ _ (sb _ _ hdl)
    have hgh := sc _ _ hgh
    have sac := sb.trans sc
    clear sc sb
    refine ⟨fun σ' Gd => Same Gc Gd ∧ ∃ bd b0 b1 b2, σ' = [some (.ref l), some (.ref cl), some (.int pl), some (.ref md), some (.int (0 + (i : Int))), some (.ref dl), some (.ref gh), some (.ref bd), z8, z9] ∧ Gd bd = some (.lst [b0, b1, b2]) ∧ Own K Gd b0 ∧ Own K Gd b1 ∧ Own K Gd b2 ∧ inR 1000000 b0 = false ∧ isDeed b1 = false ∧ inR 1000000000 b2 = false, ?_, ?_⟩
    · refine ⟨_, rfl, dl, _, _, _, rfl, rfl, SqL.of hdl, g3, ?_⟩
      walk_at "rd"
      first | refine ⟨_, _, rfl, by rw [e6]; decide, fun b0 Gd s0 o0 n0 => ?_⟩ | refine fun b0 Gd s0 o0 n0 => ?_
      rw [e6] at n0
      refine ⟨_, rfl, dl, _, _, _, rfl, rfl, SqL.of (s0 _ _ hdl), g4, ?_⟩
      refine ⟨_, rfl, fun b1 Ge s1 o1 n1 => ?_⟩
      refine ⟨_, rfl, dl, _, _, _, rfl, rfl, SqL.of (s1 _ _ (s0 _ _ hdl)), g5, ?_⟩
      walk_at "rd"
      first | refine ⟨_, _, rfl, by rw [e9]; decide, fun b2 Gf s2 o2 n2 => ?_⟩ | refine fun b2 Gf s2 o2 n2 => ?_
      rw [e9] at n2
      refine ⟨le_ble rfl, fun bd hbd => ?_⟩
      have s3 := Same.new (o := HO.lst [b0, b1, b2]) hbd
      exact ⟨s0.trans (s1.trans (s2.trans s3)), bd, b0, b1, b2, rfl, upd_same, o0.same (s1.trans (s2.trans s3)), o1.same (s2.trans s3), o2.same s3, n0, n1, n2⟩
    rintro σ' Gd ⟨sd, bd, b0, b1, b2, rfl, hbd, o0, o1, o2, n0, n1, n2⟩
    have hdl := sd _ _ hdl
    have hgh := sd _ _ hgh
    have sad := sac.trans sd
    clear sd sac
    have oi : ∀ (G : Hp) (j : Int), Own K G (.int j) := fun _ _ => Own.int
    have os : ∀ (G : Hp) (j : Str), Own K G (.str j) := fun _ _ => Own.str
    refine ⟨fun σ' Ge => Same Gd Ge ∧ ∃ sp s0 s1 s2, σ' = [some (.ref l), some (.ref cl), some (.int pl), some (.ref md), some (.int (0 + (i : Int))), some (.ref dl), some (.ref gh), some (.ref bd), some (.ref sp), z9] ∧ Ge sp = some (.lst [s0, s1, s2]) ∧ Own K Ge s1 ∧ Own K Ge s2, ?_, ?_⟩
    · refine ⟨_, rfl, _, rfl, le_ble rfl, fun lo hlo => ?_⟩
      have t1 := Same.new (o := HO.lst [V.ref bd, V.ref gh]) hlo
      have k1 := upd_same (H := Gd) (a := lo) (o := .lst [V.ref bd, V.ref gh])
      generalize upd Gd lo (.lst [V.ref bd, V.ref gh]) = Ge at t1 k1 ⊢
      refine ⟨_, rfl, dl, _, _, _, rfl, rfl, SqL.of (t1 _ _ hdl), g0, ?_⟩
      walk_at "rd"
      obtain ⟨pv, hpv, hm⟩ := atI_in (xs := [V.ref bd, V.ref gh]) (i := x0 / 10 % 2) (Int.emod_nonneg _ (by decide)) (by show _ < (2 : Int); exact Int.emod_lt_of_pos _ (by decide))
      refine ⟨lo, _, _, pv, rfl, rfl, SqL.of k1, hpv, t1, ?_⟩
      simp only [List.mem_cons, List.not_mem_nil, or_false] at hm
      rcases hm with rfl | rfl
      · exact ⟨bd, b0, b1, b2, rfl, t1 _ _ hbd, o1.same t1, o2.same t1⟩
      · exact ⟨gh, _, _, _, rfl, t1 _ _ hgh, os _ _, oi _ _⟩
    rintro σ' Ge ⟨se, sp, s0', s1', s2', rfl, hsp, os1, os2⟩
    have hdl := se _ _ hdl
    have hgh := se _ _ hgh
    have hbd := se _ _ hbd
    have o0 := o0.same se
    have o1 := o1.same se
    have o2 := o2.same se
    have sae := sad.trans se
    clear se sad
    refine ⟨fun σ' Gf => Same Ge Gf ∧ ∃ mr s0 s1 s2, σ' = [some (.ref l), some (.ref cl), some (.int pl), some (.ref md), some (.int (0 + (i : Int))), some (.ref dl), some (.ref gh), some (.ref bd), some (.ref sp), some (.ref mr)] ∧ Gf mr = some (.lst [s0, s1, s2]) ∧ Own K Gf s2, ?_, ?_⟩
    · refine ⟨_, rfl, _, rfl, le_ble rfl, fun lo hlo => ?_⟩
      have t1 := Same.new (o := HO.lst [V.ref bd, V.ref gh]) hlo
      have k1 := upd_same (H := Ge) (a := lo) (o := .lst [V.ref bd, V.ref gh])
      generalize upd Ge lo (.lst [V.ref bd, V.ref gh]) = Gf at t1 k1 ⊢
      refine ⟨_, rfl, dl, _, _, _, rfl, rfl, SqL.of (t1 _ _ hdl), g1, ?_⟩
      walk_at "rd"
      obtain ⟨pv, hpv, hm⟩ := atI_in (xs := [V.ref bd, V.ref gh]) (i := x1 / 10 % 2) (Int.emod_nonneg _ (by decide)) (by show _ < (2 : Int); exact Int.emod_lt_of_pos _ (by decide))
      refine ⟨lo, _, _, pv, rfl, rfl, SqL.of k1, hpv, t1, ?_⟩
      simp only [List.mem_cons, List.not_mem_nil, or_false] at hm
      rcases hm with rfl | rfl
      · exact ⟨bd, b0, b1, b2, rfl, t1 _ _ hbd, o2.same t1⟩
      · exact ⟨gh, _, _, _, rfl, t1 _ _ hgh, oi _ _⟩
    rintro σ' Gf ⟨sf, mr, m0', m1', m2', rfl, hmr, om2⟩
    have hgh := sf _ _ hgh
    have hbd := sf _ _ hbd
    have hsp := sf _ _ hsp
    have o0 := o0.same sf
    have o1 := o1.same sf
    have o2 := o2.same sf
    have os1 := os1.same sf
    have os2 := os2.same sf
    have saf := sae.trans sf
    clear sf sae
    have at0 : ∀ x y z : V, atI [x, y, z] 0 = some x := fun _ _ _ => atI_nat (j := 0) rfl
    have at1 : ∀ x y z : V, atI [x, y, z] 1 = some y := fun _ _ _ => atI_nat (j := 1) rfl
    have at2 : ∀ x y z : V, atI [x, y, z] 2 = some z := fun _ _ _ => atI_nat (j := 2) rfl
    refine ⟨_, rfl, bd, _, _, _, rfl, rfl, SqL.of hbd, at0 _ _ _, _, rfl, sp, _, _, _, rfl, rfl, SqL.of hsp, at1 _ _ _, _, rfl, mr, _, _, _, rfl, rfl, SqL.of hmr, at2 _ _ _, ?_⟩
    refine ⟨b0, s1', m2', 0, rfl, o0, os1, om2, .inl ⟨rfl, n0⟩, fun q Gg sg hq => ?_⟩
    refine ⟨le_ble rfl, fun l1 h1 => ?_⟩
    have t1 := Same.new (o := HO.lst (truthsA 0)) h1
    refine ⟨0, true, by decide, sameK (t1 _ _ hq) upd_same (truthsA_flat 0), _, rfl, iteF ?_⟩
    have u1 := sg.trans t1
    show tSeq _ _ _ _ (upd Gg l1 (.lst (truthsA 0)))
    generalize upd Gg l1 (.lst (truthsA 0)) = Gh at u1 ⊢
    clear t1 sg hq
    refine ⟨_, rfl, gh, _, _, _, rfl, rfl, SqL.of (u1 _ _ hgh), at0 _ _ _, _, rfl, bd, _, _, _, rfl, rfl, SqL.of (u1 _ _ hbd), at1 _ _ _, _, rfl, sp, _, _, _, rfl, rfl, SqL.of (u1 _ _ hsp), at2 _ _ _, ?_⟩
    refine ⟨.int y0, b1, s2', 1, rfl, oi _ _, o1.same u1, os2.same u1, .inr (.inl ⟨rfl, hy0, n1⟩), fun q Gi si hq => ?_⟩
    refine ⟨le_ble rfl, fun l2 h2 => ?_⟩
    have t2 := Same.new (o := HO.lst (truthsA 1)) h2
    refine ⟨0, true, by decide, sameK (t2 _ _ hq) upd_same (truthsA_flat 1), _, rfl, iteF ?_⟩
    have u2 := u1.trans (si.trans t2)
    show tNext _ _ (upd Gi l2 (.lst (truthsA 1)))
    generalize upd Gi l2 (.lst (truthsA 1)) = Gj at u2 ⊢
    clear t2 si hq
    refine ⟨_, rfl, gh, _, _, _, rfl, rfl, SqL.of (u2 _ _ hgh), at0 _ _ _, _, rfl, gh, _, _, _, rfl, rfl, SqL.of (u2 _ _ hgh), at1 _ _ _, _, rfl, bd, _, _, _, rfl, rfl, SqL.of (u2 _ _ hbd), at2 _ _ _, ?_⟩
    refine ⟨.int y0, .str zd, b2, 2, rfl, oi _ _, os _ _, o2.same u2, .inr (.inr ⟨rfl, hy0, hzd, n2⟩), fun q Gk sk hq => ?_⟩
    refine ⟨le_ble rfl, fun l3 h3 => ?_⟩
    have t3 := Same.new (o := HO.lst (truthsA 2)) h3
    exact ⟨0, true, by decide, sameK (t3 _ _ hq) upd_same (truthsA_flat 2), _, rfl, iteF ⟨sG.trans (sa.trans (saf.trans (u2.trans (sk.trans t3)))), _, _, _, _, _, _, rfl⟩⟩
end
theorem all_mk {l : PySem.W.OpenLaw} {w : World} {K : PySem.W.Frag} {h : Heap} {mg : Str → Option Value} {fa : Addr} (X : K.In h) (G : h.Ns mainGlobals mg) (hfa : mg "law" = some (.ref fa))
    {f0 : Addr} {od0 an0 : Option Addr} {sl0 : Array (Option Value)} {oc0 kV0 dc0 pm0 cd0 ct0 : Value}
    {f1 : Addr} {od1 an1 : Option Addr} {sl1 : Array (Option Value)} {oc1 kV1 dc1 pm1 cd1 ct1 : Value}
    {f2 : Addr} {od2 an2 : Option Addr} {sl2 : Array (Option Value)} {oc2 kV2 dc2 pm2 cd2 ct2 : Value}
    {f3 : Addr} {od3 an3 : Option Addr} {sl3 : Array (Option Value)} {oc3 kV3 dc3 pm3 cd3 ct3 : Value}
    {f4 : Addr} {od4 an4 : Option Addr} {sl4 : Array (Option Value)} {oc4 kV4 dc4 pm4 cd4 ct4 : Value}
    {f5 : Addr} {od5 an5 : Option Addr} {sl5 : Array (Option Value)} {oc5 kV5 dc5 pm5 cd5 ct5 : Value}
    {f6 : Addr} {od6 an6 : Option Addr} {sl6 : Array (Option Value)} {oc6 kV6 dc6 pm6 cd6 ct6 : Value}
    {f7 : Addr} {od7 an7 : Option Addr} {sl7 : Array (Option Value)} {oc7 kV7 dc7 pm7 cd7 ct7 : Value}
    {f8 : Addr} {od8 an8 : Option Addr} {sl8 : Array (Option Value)} {oc8 kV8 dc8 pm8 cd8 ct8 : Value}
    {f9 : Addr} {od9 an9 : Option Addr} {sl9 : Array (Option Value)} {oc9 kV9 dc9 pm9 cd9 ct9 : Value}
    {f10 : Addr} {od10 an10 : Option Addr} {sl10 : Array (Option Value)} {oc10 kV10 dc10 pm10 cd10 ct10 : Value}
    {f11 : Addr} {od11 an11 : Option Addr} {sl11 : Array (Option Value)} {oc11 kV11 dc11 pm11 cd11 ct11 : Value}
    {f12 : Addr} {od12 an12 : Option Addr} {sl12 : Array (Option Value)} {oc12 kV12 dc12 pm12 cd12 ct12 : Value}
    {f13 : Addr} {od13 an13 : Option Addr} {sl13 : Array (Option Value)} {oc13 kV13 dc13 pm13 cd13 ct13 : Value}
    {f14 : Addr} {od14 an14 : Option Addr} {sl14 : Array (Option Value)} {oc14 kV14 dc14 pm14 cd14 ct14 : Value}
    {c_Act f_Act : Addr} {od_Act an_Act : Option Addr} {sl_Act : Array (Option Value)} {oc_Act kV_Act dc_Act pm_Act cd_Act ct_Act : Value}
    {u_LAST_DAY : Value}
    {u_LAST_NUMBER : Value}
    {u_DEEDS : Addr} {o_DEEDS : Obj} {i_DEEDS : List Value} {n_DEEDS : Nat}
    {c_NoDay : Addr}
    {c_NoAct : Addr}
    {c_NoNumber : Addr}
    {c_RightError : Addr}
    {c_Late : Addr}
    {c_NoBook : Addr}
    {c_NoEntry : Addr}
    {c_NoPath : Addr}
    {c_NoRank : Addr}
    {c_NoRow : Addr}
    {c_NoSheet : Addr}
    {c_NoSorting : Addr}
    {c_NoText : Addr}
    {c_NoWord : Addr}
    {N_NoDay A_NoDay : Addr} {nm_NoDay q_NoDay : Str} {bs_NoDay : List Value} {hd_NoDay : Bool} {sn_NoDay : List Str} {sub_NoDay : List Value} {ab_NoDay : Bool} {col_NoDay : Option Bool} {dd_NoDay : Option Addr} {k0_NoDay k1_NoDay k2_NoDay k3_NoDay k5_NoDay : Option Value}
    {es_NoDay : Array DictEntry} {x1_NoDay : Value} {x2_NoDay : Option Addr} {x3_NoDay : Nat} {x4_NoDay : Array (Option Value)} {y0_NoDay : Value} {y1_NoDay : Option Addr} {y2_NoDay : ClassData} {y3_NoDay : Array (Option Value)} {et_NoDay : Array DictEntry} {z1_NoDay : Value} {z2_NoDay : Option Addr} {z3_NoDay : Nat} {z4_NoDay : Array (Option Value)}
    {f_NoAct t_NoAct : Addr} {od_NoAct an_NoAct : Option Addr} {sl_NoAct : Array (Option Value)} {oc_NoAct kV_NoAct dc_NoAct pm_NoAct cd_NoAct ct_NoAct : Value} {o_NoAct : Obj} {n_NoAct : Nat} {tk_NoAct : Tok}
    {N_NoAct A_NoAct : Addr} {nm_NoAct q_NoAct : Str} {bs_NoAct : List Value} {hd_NoAct : Bool} {sn_NoAct : List Str} {sub_NoAct : List Value} {ab_NoAct : Bool} {col_NoAct : Option Bool} {dd_NoAct : Option Addr} {k0_NoAct k1_NoAct k2_NoAct k3_NoAct k5_NoAct : Option Value}
    {es_NoAct : Array DictEntry} {x1_NoAct : Value} {x2_NoAct : Option Addr} {x3_NoAct : Nat} {x4_NoAct : Array (Option Value)} {y0_NoAct : Value} {y1_NoAct : Option Addr} {y2_NoAct : ClassData} {y3_NoAct : Array (Option Value)} {et_NoAct : Array DictEntry} {z1_NoAct : Value} {z2_NoAct : Option Addr} {z3_NoAct : Nat} {z4_NoAct : Array (Option Value)}
    {N_NoNumber A_NoNumber : Addr} {nm_NoNumber q_NoNumber : Str} {bs_NoNumber : List Value} {hd_NoNumber : Bool} {sn_NoNumber : List Str} {sub_NoNumber : List Value} {ab_NoNumber : Bool} {col_NoNumber : Option Bool} {dd_NoNumber : Option Addr} {k0_NoNumber k1_NoNumber k2_NoNumber k3_NoNumber k5_NoNumber : Option Value}
    {es_NoNumber : Array DictEntry} {x1_NoNumber : Value} {x2_NoNumber : Option Addr} {x3_NoNumber : Nat} {x4_NoNumber : Array (Option Value)} {y0_NoNumber : Value} {y1_NoNumber : Option Addr} {y2_NoNumber : ClassData} {y3_NoNumber : Array (Option Value)} {et_NoNumber : Array DictEntry} {z1_NoNumber : Value} {z2_NoNumber : Option Addr} {z3_NoNumber : Nat} {z4_NoNumber : Array (Option Value)}
    (a0 : PySem.W.nsIn K mainGlobals "is_whole" = some (some (.ref f0)))
    (l0 : K.lookup f0 = some ⟨oc0, od0, .func (PySem.W.fnOf "is_whole" "is_whole" (defArgs s_is_whole) (defBody s_is_whole) (defScope s_is_whole) .none kV0 dc0 pm0 an0 cd0 ct0), sl0⟩)
    (c0 : PySem.W.codeIn K cd0 "is_whole" = true)
    (k0 : PySem.W.keepIn K (.ref f0) = true)
    (a1 : PySem.W.nsIn K mainGlobals "is_day" = some (some (.ref f1)))
    (l1 : K.lookup f1 = some ⟨oc1, od1, .func (PySem.W.fnOf "is_day" "is_day" (defArgs s_is_day) (defBody s_is_day) (defScope s_is_day) .none kV1 dc1 pm1 an1 cd1 ct1), sl1⟩)
    (c1 : PySem.W.codeIn K cd1 "is_day" = true)
    (k1 : PySem.W.keepIn K (.ref f1) = true)
    (a2 : PySem.W.nsIn K mainGlobals "is_number" = some (some (.ref f2)))
    (l2 : K.lookup f2 = some ⟨oc2, od2, .func (PySem.W.fnOf "is_number" "is_number" (defArgs s_is_number) (defBody s_is_number) (defScope s_is_number) .none kV2 dc2 pm2 an2 cd2 ct2), sl2⟩)
    (c2 : PySem.W.codeIn K cd2 "is_number" = true)
    (k2 : PySem.W.keepIn K (.ref f2) = true)
    (a3 : PySem.W.nsIn K mainGlobals "is_deed" = some (some (.ref f3)))
    (l3 : K.lookup f3 = some ⟨oc3, od3, .func (PySem.W.fnOf "is_deed" "is_deed" (defArgs s_is_deed) (defBody s_is_deed) (defScope s_is_deed) .none kV3 dc3 pm3 an3 cd3 ct3), sl3⟩)
    (c3 : PySem.W.codeIn K cd3 "is_deed" = true)
    (k3 : PySem.W.keepIn K (.ref f3) = true)
    (a4 : PySem.W.nsIn K mainGlobals "refuse_day" = some (some (.ref f4)))
    (l4 : K.lookup f4 = some ⟨oc4, od4, .func (PySem.W.fnOf "refuse_day" "refuse_day" (defArgs s_refuse_day) (defBody s_refuse_day) (defScope s_refuse_day) .none kV4 dc4 pm4 an4 cd4 ct4), sl4⟩)
    (c4 : PySem.W.codeIn K cd4 "refuse_day" = true)
    (k4 : PySem.W.keepIn K (.ref f4) = true)
    (a5 : PySem.W.nsIn K mainGlobals "_law_cell_at" = some (some (.ref f5)))
    (l5 : K.lookup f5 = some ⟨oc5, od5, .func (PySem.W.fnOf "_law_cell_at" "_law_cell_at" (defArgs s_Lcell_at) (defBody s_Lcell_at) (defScope s_Lcell_at) .none kV5 dc5 pm5 an5 cd5 ct5), sl5⟩)
    (c5 : PySem.W.codeIn K cd5 "_law_cell_at" = true)
    (k5 : PySem.W.keepIn K (.ref f5) = true)
    (a6 : PySem.W.nsIn K mainGlobals "_law_whole" = some (some (.ref f6)))
    (l6 : K.lookup f6 = some ⟨oc6, od6, .func (PySem.W.fnOf "_law_whole" "_law_whole" (defArgs s_Lwhole) (defBody s_Lwhole) (defScope s_Lwhole) .none kV6 dc6 pm6 an6 cd6 ct6), sl6⟩)
    (c6 : PySem.W.codeIn K cd6 "_law_whole" = true)
    (k6 : PySem.W.keepIn K (.ref f6) = true)
    (a7 : PySem.W.nsIn K mainGlobals "_law_draw" = some (some (.ref f7)))
    (l7 : K.lookup f7 = some ⟨oc7, od7, .func (PySem.W.fnOf "_law_draw" "_law_draw" (defArgs s_Ldraw) (defBody s_Ldraw) (defScope s_Ldraw) .none kV7 dc7 pm7 an7 cd7 ct7), sl7⟩)
    (c7 : PySem.W.codeIn K cd7 "_law_draw" = true)
    (k7 : PySem.W.keepIn K (.ref f7) = true)
    (a8 : PySem.W.nsIn K mainGlobals "_law_whole_by" = some (some (.ref f8)))
    (l8 : K.lookup f8 = some ⟨oc8, od8, .func (PySem.W.fnOf "_law_whole_by" "_law_whole_by" (defArgs s_Lwhole_by) (defBody s_Lwhole_by) (defScope s_Lwhole_by) .none kV8 dc8 pm8 an8 cd8 ct8), sl8⟩)
    (c8 : PySem.W.codeIn K cd8 "_law_whole_by" = true)
    (k8 : PySem.W.keepIn K (.ref f8) = true)
    (a9 : PySem.W.nsIn K mainGlobals "_law_bad_number" = some (some (.ref f9)))
    (l9 : K.lookup f9 = some ⟨oc9, od9, .func (PySem.W.fnOf "_law_bad_number" "_law_bad_number" (defArgs s_Lbad_number) (defBody s_Lbad_number) (defScope s_Lbad_number) .none kV9 dc9 pm9 an9 cd9 ct9), sl9⟩)
    (c9 : PySem.W.codeIn K cd9 "_law_bad_number" = true)
    (k9 : PySem.W.keepIn K (.ref f9) = true)
    (a10 : PySem.W.nsIn K mainGlobals "_law_bad_deed" = some (some (.ref f10)))
    (l10 : K.lookup f10 = some ⟨oc10, od10, .func (PySem.W.fnOf "_law_bad_deed" "_law_bad_deed" (defArgs s_Lbad_deed) (defBody s_Lbad_deed) (defScope s_Lbad_deed) .none kV10 dc10 pm10 an10 cd10 ct10), sl10⟩)
    (c10 : PySem.W.codeIn K cd10 "_law_bad_deed" = true)
    (k10 : PySem.W.keepIn K (.ref f10) = true)
    (a11 : PySem.W.nsIn K mainGlobals "_law_others" = some (some (.ref f11)))
    (l11 : K.lookup f11 = some ⟨oc11, od11, .func (PySem.W.fnOf "_law_others" "_law_others" (defArgs s_Lothers) (defBody s_Lothers) (defScope s_Lothers) .none kV11 dc11 pm11 an11 cd11 ct11), sl11⟩)
    (c11 : PySem.W.codeIn K cd11 "_law_others" = true)
    (k11 : PySem.W.keepIn K (.ref f11) = true)
    (a12 : PySem.W.nsIn K mainGlobals "_law_refused" = some (some (.ref f12)))
    (l12 : K.lookup f12 = some ⟨oc12, od12, .func (PySem.W.fnOf "_law_refused" "_law_refused" (defArgs s_Lrefused) (defBody s_Lrefused) (defScope s_Lrefused) .none kV12 dc12 pm12 an12 cd12 ct12), sl12⟩)
    (c12 : PySem.W.codeIn K cd12 "_law_refused" = true)
    (k12 : PySem.W.keepIn K (.ref f12) = true)
    (a13 : PySem.W.nsIn K mainGlobals "_law_good" = some (some (.ref f13)))
    (l13 : K.lookup f13 = some ⟨oc13, od13, .func (PySem.W.fnOf "_law_good" "_law_good" (defArgs s_Lgood) (defBody s_Lgood) (defScope s_Lgood) .none kV13 dc13 pm13 an13 cd13 ct13), sl13⟩)
    (c13 : PySem.W.codeIn K cd13 "_law_good" = true)
    (k13 : PySem.W.keepIn K (.ref f13) = true)
    (a14 : PySem.W.nsIn K mainGlobals "law" = some (some (.ref f14)))
    (l14 : K.lookup f14 = some ⟨oc14, od14, .func (PySem.W.fnOf "law" "law" (defArgs s_law) (defBody s_law) (defScope s_law) .none kV14 dc14 pm14 an14 cd14 ct14), sl14⟩)
    (c14 : PySem.W.codeIn K cd14 "law" = true)
    (k14 : PySem.W.keepIn K (.ref f14) = true)
    (cg_Act : PySem.W.nsIn K mainGlobals "Act" = some (some (.ref c_Act)))
    (pg_Act : PySem.W.plainGet K c_Act Str.empty = true)
    (hd_Act : PySem.W.hasDictIn K c_Act = true)
    (po_Act : PySem.W.plainOver K c_Act = true)
    (sa_Act : PySem.W.findIn K (.ref c_Act) "__setattr__" = some (some (.builtin "object.__setattr__")))
    (mk_Act : PySem.W.makesIn K c_Act = true)
    (in_Act : PySem.W.findIn K (.ref c_Act) "__init__" = some (some (.ref f_Act)))
    (fn_Act : PySem.W.isFn K (.ref f_Act) = true)
    (kc_Act : PySem.W.keepIn K (.ref c_Act) = true)
    (kf_Act : PySem.W.keepIn K (.ref f_Act) = true)
    (lf_Act : K.lookup f_Act = some ⟨oc_Act, od_Act, .func (PySem.W.fnOf "__init__" "Act.__init__" (defArgs s_Act_init) (defBody s_Act_init) (defScope s_Act_init) .none kV_Act dc_Act pm_Act an_Act cd_Act ct_Act), sl_Act⟩)
    (cf_Act : PySem.W.codeIn K cd_Act "Act.__init__" = true)
    (na_Act_day : PySem.W.findIn K (.ref c_Act) "day" = some none)
    (na_Act_deed : PySem.W.findIn K (.ref c_Act) "deed" = some none)
    (na_Act_number : PySem.W.findIn K (.ref c_Act) "number" = some none)
    (cg_LAST_DAY : PySem.W.nsIn K mainGlobals "LAST_DAY" = some (some u_LAST_DAY))
    (cr_LAST_DAY : RelV (.int 1000000) u_LAST_DAY)
    (cg_LAST_NUMBER : PySem.W.nsIn K mainGlobals "LAST_NUMBER" = some (some u_LAST_NUMBER))
    (cr_LAST_NUMBER : RelV (.int 1000000000) u_LAST_NUMBER)
    (cg_DEEDS : PySem.W.nsIn K mainGlobals "DEEDS" = some (some (.ref u_DEEDS)))
    (cl_DEEDS : K.lookup u_DEEDS = some o_DEEDS)
    (cc_DEEDS : o_DEEDS.cls = .type "tuple")
    (cd_DEEDS : o_DEEDS.data = .seq i_DEEDS.toArray n_DEEDS)
    (cv_DEEDS : Vals [.str "keep", .str "strike", .str "leave"] i_DEEDS)
    (cg_NoDay : PySem.W.nsIn K mainGlobals "NoDay" = some (some (.ref c_NoDay)))
    (cg_NoAct : PySem.W.nsIn K mainGlobals "NoAct" = some (some (.ref c_NoAct)))
    (cg_NoNumber : PySem.W.nsIn K mainGlobals "NoNumber" = some (some (.ref c_NoNumber)))
    (cg_RightError : PySem.W.nsIn K mainGlobals "RightError" = some (some (.ref c_RightError)))
    (cg_Late : PySem.W.nsIn K mainGlobals "Late" = some (some (.ref c_Late)))
    (cg_NoBook : PySem.W.nsIn K mainGlobals "NoBook" = some (some (.ref c_NoBook)))
    (cg_NoEntry : PySem.W.nsIn K mainGlobals "NoEntry" = some (some (.ref c_NoEntry)))
    (cg_NoPath : PySem.W.nsIn K mainGlobals "NoPath" = some (some (.ref c_NoPath)))
    (cg_NoRank : PySem.W.nsIn K mainGlobals "NoRank" = some (some (.ref c_NoRank)))
    (cg_NoRow : PySem.W.nsIn K mainGlobals "NoRow" = some (some (.ref c_NoRow)))
    (cg_NoSheet : PySem.W.nsIn K mainGlobals "NoSheet" = some (some (.ref c_NoSheet)))
    (cg_NoSorting : PySem.W.nsIn K mainGlobals "NoSorting" = some (some (.ref c_NoSorting)))
    (cg_NoText : PySem.W.nsIn K mainGlobals "NoText" = some (some (.ref c_NoText)))
    (cg_NoWord : PySem.W.nsIn K mainGlobals "NoWord" = some (some (.ref c_NoWord)))
    (xl_NoDay : K.lookup c_NoDay = some (excClassObj nm_NoDay q_NoDay c_NoDay N_NoDay bs_NoDay (.ref A_NoDay :: vmro) hd_NoDay sn_NoDay sub_NoDay ab_NoDay col_NoDay dd_NoDay k0_NoDay k1_NoDay k2_NoDay k3_NoDay k5_NoDay "ValueError.__new__"))
    (xn_NoDay : K.lookup N_NoDay = some ⟨x1_NoDay, x2_NoDay, .dict es_NoDay x3_NoDay, x4_NoDay⟩)
    (xs_NoDay : strKeysB es_NoDay = true)
    (xi_NoDay : nsFind es_NoDay "__init__" = none)
    (xa_NoDay : K.lookup A_NoDay = some { cls := y0_NoDay, dict := y1_NoDay, data := .cls y2_NoDay, slots := y3_NoDay })
    (xb_NoDay : K.lookup y2_NoDay.ns = some ⟨z1_NoDay, z2_NoDay, .dict et_NoDay z3_NoDay, z4_NoDay⟩)
    (xt_NoDay : strKeysB et_NoDay = true)
    (xj_NoDay : nsFind et_NoDay "__init__" = none)
    (qcs_NoDay : (PySem.W.clsIn K c_NoDay).isSome = true)
    (qga_NoDay : PySem.W.findIn K (.ref c_NoDay) "__getattribute__" = some (some (.builtin "BaseException.__getattribute__")))
    (qgt_NoDay : PySem.W.findIn K (.ref c_NoDay) "__getattr__" = some none)
    (qca_NoDay : PySem.W.findIn K (.ref c_NoDay) "__class__" = some (some (.builtin "object.__class__")))
    (qgg_NoDay : PySem.W.specialIn K (.builtin "object.__class__") "__get__" = some (some (.builtin "getset_descriptor.__get__")))
    (qtk_NoDay : PySem.W.takesIn K (.builtin "object.__class__") = some true)
    (qmo_NoDay : PySem.W.mroIn K c_NoDay (.type "object") = some true)
    (qsb_NoDay : PySem.W.subIn K (.ref c_NoDay) (.type "BaseException") = some true)
    (i_NoDay_Late : PySem.W.kitOne K (.ref c_NoDay) (.ref c_Late) = some false)
    (i_NoDay_NoBook : PySem.W.kitOne K (.ref c_NoDay) (.ref c_NoBook) = some false)
    (i_NoDay_NoEntry : PySem.W.kitOne K (.ref c_NoDay) (.ref c_NoEntry) = some false)
    (i_NoDay_NoPath : PySem.W.kitOne K (.ref c_NoDay) (.ref c_NoPath) = some false)
    (i_NoDay_NoRank : PySem.W.kitOne K (.ref c_NoDay) (.ref c_NoRank) = some false)
    (i_NoDay_NoRow : PySem.W.kitOne K (.ref c_NoDay) (.ref c_NoRow) = some false)
    (i_NoDay_NoSheet : PySem.W.kitOne K (.ref c_NoDay) (.ref c_NoSheet) = some false)
    (i_NoDay_NoSorting : PySem.W.kitOne K (.ref c_NoDay) (.ref c_NoSorting) = some false)
    (i_NoDay_NoText : PySem.W.kitOne K (.ref c_NoDay) (.ref c_NoText) = some false)
    (i_NoDay_NoWord : PySem.W.kitOne K (.ref c_NoDay) (.ref c_NoWord) = some false)
    (i_NoDay_NoAct : PySem.W.kitOne K (.ref c_NoDay) (.ref c_NoAct) = some false)
    (i_NoDay_ValueError : PySem.W.kitOne K (.ref c_NoDay) (.type "ValueError") = some true)
    (i_NoDay_NoDay : PySem.W.kitOne K (.ref c_NoDay) (.ref c_NoDay) = some true)
    (i_NoDay_NoNumber : PySem.W.kitOne K (.ref c_NoDay) (.ref c_NoNumber) = some false)
    (e_NoDay_RightError : PySem.W.exmOne K (.ref c_NoDay) (.ref c_RightError) = some true)
    (in_NoAct : PySem.W.findIn K (.ref c_NoAct) "__init__" = some (some (.ref f_NoAct)))
    (fn_NoAct : PySem.W.isFn K (.ref f_NoAct) = true)
    (kc_NoAct : PySem.W.keepIn K (.ref c_NoAct) = true)
    (kf_NoAct : PySem.W.keepIn K (.ref f_NoAct) = true)
    (lf_NoAct : K.lookup f_NoAct = some ⟨oc_NoAct, od_NoAct, .func (PySem.W.fnOf "__init__" "NoAct.__init__" (defArgs s_NoAct_init) (defBody s_NoAct_init) (defScope s_NoAct_init) (.ref t_NoAct) kV_NoAct dc_NoAct pm_NoAct an_NoAct cd_NoAct ct_NoAct), sl_NoAct⟩)
    (cf_NoAct : PySem.W.codeIn K cd_NoAct "NoAct.__init__" = true)
    (lt_NoAct : K.lookup t_NoAct = some o_NoAct)
    (dt_NoAct : o_NoAct.data = .seq #[.int 0 tk_NoAct] n_NoAct)
    (sa_NoAct : PySem.W.findIn K (.ref c_NoAct) "__setattr__" = some (some (.builtin "object.__setattr__")))
    (na_NoAct : PySem.W.findIn K (.ref c_NoAct) "place" = some none)
    (hz_NoAct : PySem.W.hasDictIn K c_NoAct = true)
    (mo_NoAct : PySem.W.mroIn K c_NoAct (.type "object") = some true)
    (b1_RightError : PySem.W.specialIn K (.ref c_RightError) "__getattribute__" = some (some (.builtin "type.__getattribute__")))
    (b2_RightError : PySem.W.readsIn K c_RightError (.type "type") = true)
    (b3_RightError : PySem.W.findCls K (.ref c_RightError) (.type "type") "__init__" = some (.val (.builtin "ValueError.__init__")))
    (xl_NoAct : K.lookup c_NoAct = some (excClassObj nm_NoAct q_NoAct c_NoAct N_NoAct bs_NoAct (.ref A_NoAct :: vmro) hd_NoAct sn_NoAct sub_NoAct ab_NoAct col_NoAct dd_NoAct k0_NoAct k1_NoAct k2_NoAct k3_NoAct k5_NoAct "ValueError.__new__"))
    (xn_NoAct : K.lookup N_NoAct = some ⟨x1_NoAct, x2_NoAct, .dict es_NoAct x3_NoAct, x4_NoAct⟩)
    (xs_NoAct : strKeysB es_NoAct = true)
    (xi_NoAct : nsFind es_NoAct "__init__" = some (.ref f_NoAct))
    (xa_NoAct : K.lookup A_NoAct = some { cls := y0_NoAct, dict := y1_NoAct, data := .cls y2_NoAct, slots := y3_NoAct })
    (xb_NoAct : K.lookup y2_NoAct.ns = some ⟨z1_NoAct, z2_NoAct, .dict et_NoAct z3_NoAct, z4_NoAct⟩)
    (xt_NoAct : strKeysB et_NoAct = true)
    (xj_NoAct : nsFind et_NoAct "__init__" = none)
    (qcs_NoAct : (PySem.W.clsIn K c_NoAct).isSome = true)
    (qga_NoAct : PySem.W.findIn K (.ref c_NoAct) "__getattribute__" = some (some (.builtin "BaseException.__getattribute__")))
    (qgt_NoAct : PySem.W.findIn K (.ref c_NoAct) "__getattr__" = some none)
    (qca_NoAct : PySem.W.findIn K (.ref c_NoAct) "__class__" = some (some (.builtin "object.__class__")))
    (qgg_NoAct : PySem.W.specialIn K (.builtin "object.__class__") "__get__" = some (some (.builtin "getset_descriptor.__get__")))
    (qtk_NoAct : PySem.W.takesIn K (.builtin "object.__class__") = some true)
    (qmo_NoAct : PySem.W.mroIn K c_NoAct (.type "object") = some true)
    (qsb_NoAct : PySem.W.subIn K (.ref c_NoAct) (.type "BaseException") = some true)
    (i_NoAct_Late : PySem.W.kitOne K (.ref c_NoAct) (.ref c_Late) = some false)
    (i_NoAct_NoBook : PySem.W.kitOne K (.ref c_NoAct) (.ref c_NoBook) = some false)
    (i_NoAct_NoEntry : PySem.W.kitOne K (.ref c_NoAct) (.ref c_NoEntry) = some false)
    (i_NoAct_NoPath : PySem.W.kitOne K (.ref c_NoAct) (.ref c_NoPath) = some false)
    (i_NoAct_NoRank : PySem.W.kitOne K (.ref c_NoAct) (.ref c_NoRank) = some false)
    (i_NoAct_NoRow : PySem.W.kitOne K (.ref c_NoAct) (.ref c_NoRow) = some false)
    (i_NoAct_NoSheet : PySem.W.kitOne K (.ref c_NoAct) (.ref c_NoSheet) = some false)
    (i_NoAct_NoSorting : PySem.W.kitOne K (.ref c_NoAct) (.ref c_NoSorting) = some false)
    (i_NoAct_NoText : PySem.W.kitOne K (.ref c_NoAct) (.ref c_NoText) = some false)
    (i_NoAct_NoWord : PySem.W.kitOne K (.ref c_NoAct) (.ref c_NoWord) = some false)
    (i_NoAct_NoAct : PySem.W.kitOne K (.ref c_NoAct) (.ref c_NoAct) = some true)
    (i_NoAct_ValueError : PySem.W.kitOne K (.ref c_NoAct) (.type "ValueError") = some true)
    (i_NoAct_NoDay : PySem.W.kitOne K (.ref c_NoAct) (.ref c_NoDay) = some false)
    (i_NoAct_NoNumber : PySem.W.kitOne K (.ref c_NoAct) (.ref c_NoNumber) = some false)
    (e_NoAct_RightError : PySem.W.exmOne K (.ref c_NoAct) (.ref c_RightError) = some true)
    (xl_NoNumber : K.lookup c_NoNumber = some (excClassObj nm_NoNumber q_NoNumber c_NoNumber N_NoNumber bs_NoNumber (.ref A_NoNumber :: vmro) hd_NoNumber sn_NoNumber sub_NoNumber ab_NoNumber col_NoNumber dd_NoNumber k0_NoNumber k1_NoNumber k2_NoNumber k3_NoNumber k5_NoNumber "ValueError.__new__"))
    (xn_NoNumber : K.lookup N_NoNumber = some ⟨x1_NoNumber, x2_NoNumber, .dict es_NoNumber x3_NoNumber, x4_NoNumber⟩)
    (xs_NoNumber : strKeysB es_NoNumber = true)
    (xi_NoNumber : nsFind es_NoNumber "__init__" = none)
    (xa_NoNumber : K.lookup A_NoNumber = some { cls := y0_NoNumber, dict := y1_NoNumber, data := .cls y2_NoNumber, slots := y3_NoNumber })
    (xb_NoNumber : K.lookup y2_NoNumber.ns = some ⟨z1_NoNumber, z2_NoNumber, .dict et_NoNumber z3_NoNumber, z4_NoNumber⟩)
    (xt_NoNumber : strKeysB et_NoNumber = true)
    (xj_NoNumber : nsFind et_NoNumber "__init__" = none)
    (qcs_NoNumber : (PySem.W.clsIn K c_NoNumber).isSome = true)
    (qga_NoNumber : PySem.W.findIn K (.ref c_NoNumber) "__getattribute__" = some (some (.builtin "BaseException.__getattribute__")))
    (qgt_NoNumber : PySem.W.findIn K (.ref c_NoNumber) "__getattr__" = some none)
    (qca_NoNumber : PySem.W.findIn K (.ref c_NoNumber) "__class__" = some (some (.builtin "object.__class__")))
    (qgg_NoNumber : PySem.W.specialIn K (.builtin "object.__class__") "__get__" = some (some (.builtin "getset_descriptor.__get__")))
    (qtk_NoNumber : PySem.W.takesIn K (.builtin "object.__class__") = some true)
    (qmo_NoNumber : PySem.W.mroIn K c_NoNumber (.type "object") = some true)
    (qsb_NoNumber : PySem.W.subIn K (.ref c_NoNumber) (.type "BaseException") = some true)
    (i_NoNumber_Late : PySem.W.kitOne K (.ref c_NoNumber) (.ref c_Late) = some false)
    (i_NoNumber_NoBook : PySem.W.kitOne K (.ref c_NoNumber) (.ref c_NoBook) = some false)
    (i_NoNumber_NoEntry : PySem.W.kitOne K (.ref c_NoNumber) (.ref c_NoEntry) = some false)
    (i_NoNumber_NoPath : PySem.W.kitOne K (.ref c_NoNumber) (.ref c_NoPath) = some false)
    (i_NoNumber_NoRank : PySem.W.kitOne K (.ref c_NoNumber) (.ref c_NoRank) = some false)
    (i_NoNumber_NoRow : PySem.W.kitOne K (.ref c_NoNumber) (.ref c_NoRow) = some false)
    (i_NoNumber_NoSheet : PySem.W.kitOne K (.ref c_NoNumber) (.ref c_NoSheet) = some false)
    (i_NoNumber_NoSorting : PySem.W.kitOne K (.ref c_NoNumber) (.ref c_NoSorting) = some false)
    (i_NoNumber_NoText : PySem.W.kitOne K (.ref c_NoNumber) (.ref c_NoText) = some false)
    (i_NoNumber_NoWord : PySem.W.kitOne K (.ref c_NoNumber) (.ref c_NoWord) = some false)
    (i_NoNumber_NoAct : PySem.W.kitOne K (.ref c_NoNumber) (.ref c_NoAct) = some false)
    (i_NoNumber_ValueError : PySem.W.kitOne K (.ref c_NoNumber) (.type "ValueError") = some true)
    (i_NoNumber_NoDay : PySem.W.kitOne K (.ref c_NoNumber) (.ref c_NoDay) = some false)
    (i_NoNumber_NoNumber : PySem.W.kitOne K (.ref c_NoNumber) (.ref c_NoNumber) = some true)
    (e_NoNumber_RightError : PySem.W.exmOne K (.ref c_NoNumber) (.ref c_RightError) = some true)
    (z_len : PySem.W.nsIn K mainGlobals "len" = some none)
    (z_isinstance : PySem.W.nsIn K mainGlobals "isinstance" = some none)
    (z_int : PySem.W.nsIn K mainGlobals "int" = some none)
    (z_bool : PySem.W.nsIn K mainGlobals "bool" = some none)
    (z_str : PySem.W.nsIn K mainGlobals "str" = some none)
    (z_list : PySem.W.nsIn K mainGlobals "list" = some none)
    (z_range : PySem.W.nsIn K mainGlobals "range" = some none)
    (z_sum : PySem.W.nsIn K mainGlobals "sum" = some none)
    (z_ValueError : PySem.W.nsIn K mainGlobals "ValueError" = some none)
    : ∃ fd : FuncData, (∀ (s : Shared) (v : Value), BindsTo s fd ⟨[v], []⟩ [("_law_script", v)]) ∧ ∀ base : Heap, K.In base → base.Ns mainGlobals mg → FnOk l.prog w K mg base CX0 7 fa fd ["_law_script"] (spLaw K) := by
  have e := hfa.symm.trans (PySem.W.mg_of X G a14)
  cases e
  have F0 := fun_mk (st := s_is_whole) l0 c0 k0
  have b0 := F0.binds (ps := ["thing"]) fun _ _ _ _ _ _ us hl => by
    obtain ⟨a0, us0, rfl, g0⟩ := lenS hl
    obtain rfl := len0 g0
    rfl
  have F1 := fun_mk (st := s_is_day) l1 c1 k1
  have b1 := F1.binds (ps := ["thing"]) fun _ _ _ _ _ _ us hl => by
    obtain ⟨a0, us0, rfl, g0⟩ := lenS hl
    obtain rfl := len0 g0
    rfl
  have F2 := fun_mk (st := s_is_number) l2 c2 k2
  have b2 := F2.binds (ps := ["thing"]) fun _ _ _ _ _ _ us hl => by
    obtain ⟨a0, us0, rfl, g0⟩ := lenS hl
    obtain rfl := len0 g0
    rfl
  have F3 := fun_mk (st := s_is_deed) l3 c3 k3
  have b3 := F3.binds (ps := ["thing"]) fun _ _ _ _ _ _ us hl => by
    obtain ⟨a0, us0, rfl, g0⟩ := lenS hl
    obtain rfl := len0 g0
    rfl
  have F4 := fun_mk (st := s_refuse_day) l4 c4 k4
  have b4 := F4.binds (ps := ["day"]) fun _ _ _ _ _ _ us hl => by
    obtain ⟨a0, us0, rfl, g0⟩ := lenS hl
    obtain rfl := len0 g0
    rfl
  have F5 := fun_mk (st := s_Lcell_at) l5 c5 k5
  have b5 := F5.binds (ps := ["_law_script", "_law_k"]) fun _ _ _ _ _ _ us hl => by
    obtain ⟨a0, us0, rfl, g0⟩ := lenS hl
    obtain ⟨a1, us1, rfl, g1⟩ := lenS g0
    obtain rfl := len0 g1
    rfl
  have F6 := fun_mk (st := s_Lwhole) l6 c6 k6
  have b6 := F6.binds (ps := ["_law_found"]) fun _ _ _ _ _ _ us hl => by
    obtain ⟨a0, us0, rfl, g0⟩ := lenS hl
    obtain rfl := len0 g0
    rfl
  have F7 := fun_mk (st := s_Ldraw) l7 c7 k7
  have b7 := F7.binds (ps := ["_law_cell", "_law_place"]) fun _ _ _ _ _ _ us hl => by
    obtain ⟨a0, us0, rfl, g0⟩ := lenS hl
    obtain ⟨a1, us1, rfl, g1⟩ := lenS g0
    obtain rfl := len0 g1
    rfl
  have F8 := fun_mk (st := s_Lwhole_by) l8 c8 k8
  have b8 := F8.binds (ps := ["_law_draw_here", "_law_most"]) fun _ _ _ _ _ _ us hl => by
    obtain ⟨a0, us0, rfl, g0⟩ := lenS hl
    obtain ⟨a1, us1, rfl, g1⟩ := lenS g0
    obtain rfl := len0 g1
    rfl
  have F9 := fun_mk (st := s_Lbad_number) l9 c9 k9
  have b9 := F9.binds (ps := ["_law_draw_here", "_law_most"]) fun _ _ _ _ _ _ us hl => by
    obtain ⟨a0, us0, rfl, g0⟩ := lenS hl
    obtain ⟨a1, us1, rfl, g1⟩ := lenS g0
    obtain rfl := len0 g1
    rfl
  have F10 := fun_mk (st := s_Lbad_deed) l10 c10 k10
  have b10 := F10.binds (ps := ["_law_draw_here"]) fun _ _ _ _ _ _ us hl => by
    obtain ⟨a0, us0, rfl, g0⟩ := lenS hl
    obtain rfl := len0 g0
    rfl
  have F11 := fun_mk (st := s_Lothers) l11 c11 k11
  have b11 := F11.binds (ps := ["_law_e"]) fun _ _ _ _ _ _ us hl => by
    obtain ⟨a0, us0, rfl, g0⟩ := lenS hl
    obtain rfl := len0 g0
    rfl
  have F12 := fun_mk (st := s_Lrefused) l12 c12 k12
  have b12 := F12.binds (ps := ["_law_day", "_law_deed", "_law_number"]) fun _ _ _ _ _ _ us hl => by
    obtain ⟨a0, us0, rfl, g0⟩ := lenS hl
    obtain ⟨a1, us1, rfl, g1⟩ := lenS g0
    obtain ⟨a2, us2, rfl, g2⟩ := lenS g1
    obtain rfl := len0 g2
    rfl
  have F13 := fun_mk (st := s_Lgood) l13 c13 k13
  have b13 := F13.binds (ps := ["_law_day", "_law_deed", "_law_number"]) fun _ _ _ _ _ _ us hl => by
    obtain ⟨a0, us0, rfl, g0⟩ := lenS hl
    obtain ⟨a1, us1, rfl, g1⟩ := lenS g0
    obtain ⟨a2, us2, rfl, g2⟩ := lenS g1
    obtain rfl := len0 g2
    rfl
  have F14 := fun_mk (st := s_law) l14 c14 k14
  have b14 := F14.binds (ps := ["_law_script"]) fun _ _ _ _ _ _ us hl => by
    obtain ⟨a0, us0, rfl, g0⟩ := lenS hl
    obtain rfl := len0 g0
    rfl
  have T : Txt w K mg ⟨f0, _, f1, _, f2, _, f3, _, f4, _, f5, _, f6, _, f7, _, f8, _, f9, _, f10, _, f11, _, f12, _, f13, _, fa, _, c_Act, f_Act, _, u_LAST_DAY, u_LAST_NUMBER, u_DEEDS, c_NoDay, c_NoAct, c_NoNumber, c_RightError, c_Late, c_NoBook, c_NoEntry, c_NoPath, c_NoRank, c_NoRow, c_NoSheet, c_NoSorting, c_NoText, c_NoWord, f_NoAct, t_NoAct, _, tk_NoAct, tk_NoAct⟩ := ⟨⟨F0, PySem.W.mg_of X G a0, b0⟩, ⟨F1, PySem.W.mg_of X G a1, b1⟩, ⟨F2, PySem.W.mg_of X G a2, b2⟩, ⟨F3, PySem.W.mg_of X G a3, b3⟩, ⟨F4, PySem.W.mg_of X G a4, b4⟩, ⟨F5, PySem.W.mg_of X G a5, b5⟩, ⟨F6, PySem.W.mg_of X G a6, b6⟩, ⟨F7, PySem.W.mg_of X G a7, b7⟩, ⟨F8, PySem.W.mg_of X G a8, b8⟩, ⟨F9, PySem.W.mg_of X G a9, b9⟩, ⟨F10, PySem.W.mg_of X G a10, b10⟩, ⟨F11, PySem.W.mg_of X G a11, b11⟩, ⟨F12, PySem.W.mg_of X G a12, b12⟩, ⟨F13, PySem.W.mg_of X G a13, b13⟩, ⟨F14, PySem.W.mg_of X G a14, b14⟩, PySem.W.mg_of X G cg_Act, ⟨pg_Act, hd_Act, po_Act, sa_Act⟩, ⟨mk_Act, in_Act, fn_Act, kc_Act⟩, funD_mk lf_Act cf_Act kf_Act, na_Act_day, na_Act_deed, na_Act_number, mb_Act_3 (funD_mk lf_Act cf_Act kf_Act), PySem.W.mg_of X G cg_LAST_DAY, cr_LAST_DAY, PySem.W.mg_of X G cg_LAST_NUMBER, cr_LAST_NUMBER, PySem.W.mg_of X G cg_DEEDS, fun H => sqT_of cl_DEEDS cc_DEEDS cd_DEEDS (by rw [List.size_toArray, ← Paired.length cv_DEEDS]; exact le_ble rfl) (by simpa using cv_DEEDS), PySem.W.mg_of X G cg_NoDay, PySem.W.mg_of X G cg_NoAct, PySem.W.mg_of X G cg_NoNumber, PySem.W.mg_of X G cg_RightError, PySem.W.mg_of X G cg_Late, PySem.W.mg_of X G cg_NoBook, PySem.W.mg_of X G cg_NoEntry, PySem.W.mg_of X G cg_NoPath, PySem.W.mg_of X G cg_NoRank, PySem.W.mg_of X G cg_NoRow, PySem.W.mg_of X G cg_NoSheet, PySem.W.mg_of X G cg_NoSorting, PySem.W.mg_of X G cg_NoText, PySem.W.mg_of X G cg_NoWord, XCls.mk2 xl_NoDay xn_NoDay xs_NoDay xi_NoDay xa_NoDay xb_NoDay xt_NoDay xj_NoDay, ⟨qcs_NoDay, qga_NoDay, qgt_NoDay, qca_NoDay, qgg_NoDay, qtk_NoDay, qmo_NoDay, qsb_NoDay⟩, i_NoDay_Late, i_NoDay_NoBook, i_NoDay_NoEntry, i_NoDay_NoPath, i_NoDay_NoRank, i_NoDay_NoRow, i_NoDay_NoSheet, i_NoDay_NoSorting, i_NoDay_NoText, i_NoDay_NoWord, i_NoDay_NoAct, i_NoDay_ValueError, i_NoDay_NoDay, i_NoDay_NoNumber, e_NoDay_RightError, funD_mk lf_NoAct cf_NoAct kf_NoAct, ⟨sa_NoAct, na_NoAct, hz_NoAct, mo_NoAct⟩, hz_NoAct, na_NoAct, ⟨b1_RightError, b2_RightError, b3_RightError⟩, mb_NoAct_1 (funD_mk lf_NoAct cf_NoAct kf_NoAct) lt_NoAct dt_NoAct, mb_NoAct_2 (funD_mk lf_NoAct cf_NoAct kf_NoAct) lt_NoAct dt_NoAct, XCli.mk2 xl_NoAct xn_NoAct xs_NoAct xi_NoAct xa_NoAct xb_NoAct xt_NoAct xj_NoAct fn_NoAct kc_NoAct, ⟨qcs_NoAct, qga_NoAct, qgt_NoAct, qca_NoAct, qgg_NoAct, qtk_NoAct, qmo_NoAct, qsb_NoAct⟩, i_NoAct_Late, i_NoAct_NoBook, i_NoAct_NoEntry, i_NoAct_NoPath, i_NoAct_NoRank, i_NoAct_NoRow, i_NoAct_NoSheet, i_NoAct_NoSorting, i_NoAct_NoText, i_NoAct_NoWord, i_NoAct_NoAct, i_NoAct_ValueError, i_NoAct_NoDay, i_NoAct_NoNumber, e_NoAct_RightError, XCls.mk2 xl_NoNumber xn_NoNumber xs_NoNumber xi_NoNumber xa_NoNumber xb_NoNumber xt_NoNumber xj_NoNumber, ⟨qcs_NoNumber, qga_NoNumber, qgt_NoNumber, qca_NoNumber, qgg_NoNumber, qtk_NoNumber, qmo_NoNumber, qsb_NoNumber⟩, i_NoNumber_Late, i_NoNumber_NoBook, i_NoNumber_NoEntry, i_NoNumber_NoPath, i_NoNumber_NoRank, i_NoNumber_NoRow, i_NoNumber_NoSheet, i_NoNumber_NoSorting, i_NoNumber_NoText, i_NoNumber_NoWord, i_NoNumber_NoAct, i_NoNumber_ValueError, i_NoNumber_NoDay, i_NoNumber_NoNumber, e_NoNumber_RightError, PySem.W.mg_none_of X G z_len, PySem.W.mg_none_of X G z_isinstance, PySem.W.mg_none_of X G z_int, PySem.W.mg_none_of X G z_bool, PySem.W.mg_none_of X G z_str, PySem.W.mg_none_of X G z_list, PySem.W.mg_none_of X G z_range, PySem.W.mg_none_of X G z_sum, PySem.W.mg_none_of X G z_ValueError⟩
  exact ⟨_, fun s v => .of_eq rfl, fun base _ _ => ok_law T⟩
end My
theorem PySem.W.Fast.tw8147593404092185958 : True := trivial
theorem PySem.W.Fast.tw2330289139118165005 : True := trivial
theorem PySem.W.Fast.tw17969933432309787364 : True := trivial
theorem PySem.W.Fast.tw132301037220497231 : True := trivial
theorem PySem.W.Fast.tw6778692366050528568 : True := trivial
theorem PySem.W.Fast.tw3871047744465489325 : True := trivial
theorem PySem.W.Fast.tw12267106897437905996 : True := trivial
theorem PySem.W.Fast.tw7920921786449470365 : True := trivial
theorem PySem.W.Fast.tw233555100781370207 : True := trivial
theorem PySem.W.Fast.tw14784106681525180072 : True := trivial
theorem PySem.W.Fast.tw8741247468852590501 : True := trivial
theorem PySem.W.Fast.tw5264779509669926653 : True := trivial
theorem PySem.W.Fast.tw10398623674764423276 : True := trivial
theorem PySem.W.Fast.tw10733219395944349374 : True := trivial
theorem PySem.W.Fast.tw5001016339356893231 : True := trivial
theorem PySem.W.Fast.tw4815725000732176663 : True := trivial
theorem PySem.W.Fast.tw11966370766869407027 : True := trivial
theorem PySem.W.Fast.tw13574855240003943347 : True := trivial
theorem PySem.W.Fast.tw8229470720181196341 : True := trivial
theorem PySem.W.Fast.tw3641344065255762985 : True := trivial
theorem PySem.W.Fast.tw5141965817284415081 : True := trivial
theorem PySem.W.Fast.tw6110704347085441241 : True := trivial
theorem PySem.W.Fast.tw2824794954471702211 : True := trivial
theorem PySem.W.Fast.tw8145748215738835190 : True := trivial
theorem PySem.W.Fast.tw14102686743827875090 : True := trivial
theorem PySem.W.Fast.tw2263622788056480009 : True := trivial
theorem PySem.W.Fast.tw11866502161869823194 : True := trivial
theorem PySem.W.Fast.tw904034810588326820 : True := trivial
theorem PySem.W.Fast.tw13446501409417615569 : True := trivial
theorem PySem.W.Fast.tw10429525387357255941 : True := trivial
theorem PySem.W.Fast.tw7895626441323802329 : True := trivial
theorem PySem.W.Fast.tw3497606353917770834 : True := trivial
theorem PySem.W.Fast.tw10093700452942106642 : True := trivial
theorem PySem.W.Fast.tw14451304013015218903 : True := trivial
theorem PySem.W.Fast.tw13851672276291920024 : True := trivial
theorem PySem.W.Fast.tw15408553833405979996 : True := trivial
theorem PySem.W.Fast.tw4743828359394809222 : True := trivial
theorem PySem.W.Fast.tw14379177031390660894 : True := trivial
theorem PySem.W.Fast.tw2859864982085787297 : True := trivial
theorem PySem.W.Fast.tw7691406526971431786 : True := trivial
theorem PySem.W.Fast.tw10886151140255914418 : True := trivial
theorem PySem.W.Fast.tw13484110000370104341 : True := trivial
theorem PySem.W.Fast.tw3516074468939385989 : True := trivial
theorem PySem.W.Fast.tw13205893896127804747 : True := trivial
theorem PySem.W.Fast.tw10277657377079469912 : True := trivial
theorem PySem.W.Fast.tw16217441048147304545 : True := trivial
theorem PySem.W.Fast.tw17177057879037958562 : True := trivial
theorem PySem.W.Fast.tw7551439301483395497 : True := trivial
theorem PySem.W.Fast.tw18052685680592572462 : True := trivial
theorem PySem.W.Fast.tw15147227059592815436 : True := trivial
theorem PySem.W.Fast.tw8122992247374458383 : True := trivial
theorem PySem.W.Fast.tw13173195415082593459 : True := trivial
theorem PySem.W.Fast.tw1658338228636522996 : True := trivial
theorem PySem.W.Fast.tw10068223011072721987 : True := trivial
theorem PySem.W.Fast.tw6101124028913885518 : True := trivial
theorem PySem.W.Fast.tw3257287905895382840 : True := trivial
theorem PySem.W.Fast.tw8195024153785713566 : True := trivial
theorem PySem.W.Fast.tw2013145205216609068 : True := trivial
theorem PySem.W.Fast.tw2495762300412503828 : True := trivial
theorem PySem.W.Fast.tw17625862464488844548 : True := trivial
theorem PySem.W.Fast.tw3086426984419045381 : True := trivial
theorem PySem.W.Fast.tw16753840329970466366 : True := trivial
theorem PySem.W.Fast.tw551547025967873684 : True := trivial
theorem PySem.W.Fast.tw6889981623115500638 : True := trivial
theorem PySem.W.Fast.tw15703893110892917568 : True := trivial
theorem PySem.W.Fast.tw16992556760475905831 : True := trivial
theorem PySem.W.Fast.tw5587955492097322171 : True := trivial
theorem PySem.W.Fast.tw9565967163820402506 : True := trivial
theorem PySem.W.Fast.tw6878040085121818086 : True := trivial
theorem PySem.W.Fast.tw4788506119686797618 : True := trivial
theorem PySem.W.Fast.tw2877914461707305146 : True := trivial
theorem PySem.W.Fast.tw18004607618528807826 : True := trivial
theorem PySem.W.Fast.tw18085462678932947601 : True := trivial
theorem PySem.W.Fast.tw13655662514378405805 : True := trivial
theorem PySem.W.Fast.tw2641586284305372934 : True := trivial
theorem PySem.W.Fast.tw16745980247461595813 : True := trivial
theorem PySem.W.Fast.tw1129277402588481116 : True := trivial
theorem PySem.W.Fast.tw18308745794446788086 : True := trivial
theorem PySem.W.Fast.tw13621298356086413187 : True := trivial
theorem PySem.W.Fast.tw3378146576764189431 : True := trivial
theorem PySem.W.Fast.tw5784103875416033263 : True := trivial
theorem PySem.W.Fast.tw16196761593624605028 : True := trivial
theorem PySem.W.Fast.tw6241978463357207502 : True := trivial
theorem PySem.W.Fast.tw17602168594413096474 : True := trivial
theorem PySem.W.Fast.tw425040454080201493 : True := trivial
theorem PySem.W.Fast.tw10289181965849608357 : True := trivial
theorem PySem.W.Fast.tw5389337825658000297 : True := trivial
theorem PySem.W.Fast.tw13290810546917413962 : True := trivial
theorem PySem.W.Fast.tw14652904488776846444 : True := trivial
theorem PySem.W.Fast.tw6602245098657006079 : True := trivial
theorem PySem.W.Fast.tw14372383560267235684 : True := trivial
theorem PySem.W.Fast.tw7252548343732039684 : True := trivial
theorem PySem.W.Fast.tw13385668150152093626 : True := trivial
theorem PySem.W.Fast.tw6132535195387825564 : True := trivial
theorem PySem.W.Fast.tw688916518228989713 : True := trivial
theorem PySem.W.Fast.tw11057563432941012837 : True := trivial
theorem PySem.W.Fast.tw9421007217979234591 : True := trivial
theorem PySem.W.Fast.tw3558150475862995775 : True := trivial
theorem PySem.W.Fast.tw17725191666928130860 : True := trivial
theorem PySem.W.Fast.tw16656704147363486414 : True := trivial
theorem PySem.W.Fast.tw2720110469889420774 : True := trivial
theorem PySem.W.Fast.tw14636763065208636617 : True := trivial
theorem PySem.W.Fast.tw6757572788760216584 : True := trivial
theorem PySem.W.Fast.tw7955708073538705374 : True := trivial
theorem PySem.W.Fast.tw1434183287527109944 : True := trivial
theorem PySem.W.Fast.tw2677990533146459339 : True := trivial
theorem PySem.W.Fast.tw443637973094665807 : True := trivial
theorem PySem.W.Fast.tw10583299706999889462 : True := trivial
theorem PySem.W.Fast.tw9200681137969829448 : True := trivial
theorem PySem.W.Fast.tw9905877416424412883 : True := trivial
theorem PySem.W.Fast.tw2266295350606834600 : True := trivial
theorem PySem.W.Fast.tw15453757271732788913 : True := trivial
theorem PySem.W.Fast.tw8284035628612564181 : True := trivial
theorem PySem.W.Fast.tw6784656639515917286 : True := trivial
theorem PySem.W.Fast.tw6517263711655554974 : True := trivial
theorem PySem.W.Fast.tw11938669035456119221 : True := trivial
theorem PySem.W.Fast.tw16408919856990621698 : True := trivial
theorem PySem.W.Fast.tw14427289318982558466 : True := trivial
theorem PySem.W.Fast.tw12053735300937519393 : True := trivial
theorem PySem.W.Fast.tw10064899753216715730 : True := trivial
theorem PySem.W.Fast.tw8283344392337916797 : True := trivial
theorem PySem.W.Fast.tw10749316686750056135 : True := trivial
theorem PySem.W.Fast.tw15279434945573843118 : True := trivial
theorem PySem.W.Fast.tw10404905654514966358 : True := trivial
theorem PySem.W.Fast.tw7754176246341081249 : True := trivial
theorem PySem.W.Fast.tw18059852367573966866 : True := trivial
theorem PySem.W.Fast.tw3571355948207628775 : True := trivial
theorem PySem.W.Fast.tw13488992242982773848 : True := trivial
theorem PySem.W.Fast.tw343174135664924544 : True := trivial
theorem PySem.W.Fast.tw1838095585184646393 : True := trivial
theorem PySem.W.Fast.tw8800892437449712781 : True := trivial
theorem PySem.W.Fast.tw5983829344867992345 : True := trivial
theorem PySem.W.Fast.tw6211120948770204366 : True := trivial
theorem PySem.W.Fast.tw460862177778433777 : True := trivial
theorem PySem.W.Fast.tw5853771631599619511 : True := trivial
theorem PySem.W.Fast.tw3270765059348852159 : True := trivial
theorem PySem.W.Fast.tw559474838646877150 : True := trivial
theorem PySem.W.Fast.tw10685370504435674025 : True := trivial
theorem PySem.W.Fast.tw17329504448366594258 : True := trivial
theorem PySem.W.Fast.tw9279411307099542338 : True := trivial
theorem PySem.W.Fast.tw15519951266625513133 : True := trivial
theorem PySem.W.Fast.tw15908711802698649476 : True := trivial
theorem PySem.W.Fast.tw3710011856180044691 : True := trivial
theorem PySem.W.Fast.tw15268214347628315701 : True := trivial
theorem PySem.W.Fast.tw29125668284839028 : True := trivial
theorem PySem.W.Fast.tw2879305822394074407 : True := trivial
theorem PySem.W.Fast.tw6690723780640891675 : True := trivial
theorem PySem.W.Fast.tw12752589017287623750 : True := trivial
theorem PySem.W.Fast.tw13943817890999957305 : True := trivial
theorem PySem.W.Fast.tw3094072942610819960 : True := trivial
theorem PySem.W.Fast.tw10260209066303165116 : True := trivial
theorem PySem.W.Fast.tw13599458804614127658 : True := trivial
theorem PySem.W.Fast.tw18267834835261174551 : True := trivial
theorem PySem.W.Fast.tw9288965984559209562 : True := trivial
theorem PySem.W.Fast.tw17734975146590418364 : True := trivial
theorem PySem.W.Fast.tw11279871913519830352 : True := trivial
theorem PySem.W.Fast.tw1427783267404720490 : True := trivial
theorem PySem.W.Fast.tw5597765327753668001 : True := trivial
theorem PySem.W.Fast.tw7065743587210926880 : True := trivial
theorem PySem.W.Fast.tw13234509139159132615 : True := trivial
theorem PySem.W.Fast.tw2869419293456546478 : True := trivial
theorem PySem.W.Fast.tw1971241981946240718 : True := trivial
theorem PySem.W.Fast.tw1879029430083003320 : True := trivial
theorem PySem.W.Fast.tw885100436435410176 : True := trivial
theorem PySem.W.Fast.tw712807396545582726 : True := trivial
theorem PySem.W.Fast.tw7011068220007005014 : True := trivial
theorem PySem.W.Fast.tw8244502961337624591 : True := trivial
theorem PySem.W.Fast.tw1587703490507405684 : True := trivial
theorem PySem.W.Fast.tw4632892615748274622 : True := trivial
theorem PySem.W.Fast.tw14519058755292468925 : True := trivial
theorem PySem.W.Fast.tw13182213552849826362 : True := trivial
theorem PySem.W.Fast.tw18056462874229007713 : True := trivial
theorem PySem.W.Fast.tw8696685333398226998 : True := trivial
theorem PySem.W.Fast.tw1347040343058096144 : True := trivial
theorem PySem.W.Fast.tw13461763178869191493 : True := trivial
theorem PySem.W.Fast.tw8886009524845182985 : True := trivial
theorem PySem.W.Fast.tw18217238445023966939 : True := trivial
theorem PySem.W.Fast.tw15095479216551347171 : True := trivial
theorem PySem.W.Fast.tw4386065590633265333 : True := trivial
theorem PySem.W.Fast.tw8544145224022864472 : True := trivial
theorem PySem.W.Fast.tw898311340136210539 : True := trivial
theorem PySem.W.Fast.tw9631561409988801484 : True := trivial
theorem PySem.W.Fast.tw6244839870921584682 : True := trivial
theorem PySem.W.Fast.tw11774869511229002539 : True := trivial
theorem PySem.W.Fast.tw600274761877376729 : True := trivial
theorem PySem.W.Fast.tw11723700427834275794 : True := trivial
theorem PySem.W.Fast.tw9612909787679610492 : True := trivial
theorem PySem.W.Fast.tw9848040891970706428 : True := trivial
theorem PySem.W.Fast.tw18209193044858298192 : True := trivial
theorem PySem.W.Fast.tw3758994374472108343 : True := trivial
theorem PySem.W.Fast.tw9380028845682499535 : True := trivial
theorem PySem.W.Fast.tw17803682481822988640 : True := trivial
theorem PySem.W.Fast.tw3699573158804665674 : True := trivial
theorem PySem.W.Fast.tw7060142854017475412 : True := trivial
theorem PySem.W.Fast.tw13831867305653761976 : True := trivial
theorem PySem.W.Fast.tw16826578001690435038 : True := trivial
theorem PySem.W.Fast.tw15369792586508618130 : True := trivial
theorem PySem.W.Fast.tw2611088490780083788 : True := trivial
theorem PySem.W.Fast.tw7040421967667252547 : True := trivial
theorem PySem.W.Fast.tw6568973178475108402 : True := trivial
theorem PySem.W.Fast.tw5825401442907693943 : True := trivial
theorem PySem.W.Fast.tw2653628361795679468 : True := trivial
theorem PySem.W.Fast.tw13376815108718851677 : True := trivial
theorem PySem.W.Fast.tw13416344222431938569 : True := trivial
theorem PySem.W.Fast.tw15658683606497185314 : True := trivial
theorem PySem.W.Fast.tw2595767542655101318 : True := trivial
theorem PySem.W.Fast.tw8285519427968876444 : True := trivial
theorem PySem.W.Fast.tw5335059498235498931 : True := trivial
theorem PySem.W.Fast.tw514777394678281903 : True := trivial
theorem PySem.W.Fast.tw10478508236959197790 : True := trivial
theorem PySem.W.Fast.tw17572207354891913836 : True := trivial
theorem PySem.W.Fast.tw15549093098558856871 : True := trivial
theorem PySem.W.Fast.tw17258357827192991859 : True := trivial
theorem PySem.W.Fast.tw13964875851251914850 : True := trivial
theorem PySem.W.Fast.tw1549536441061073388 : True := trivial
theorem PySem.W.Fast.tw1090007624286507877 : True := trivial
theorem PySem.W.Fast.tw6886687307544684191 : True := trivial
theorem PySem.W.Fast.tw3938677981680067761 : True := trivial
theorem PySem.W.Fast.tw1684561909346027386 : True := trivial
theorem PySem.W.Fast.tw13220056372873657925 : True := trivial
theorem PySem.W.Fast.tw5255847337118827026 : True := trivial
theorem PySem.W.Fast.tw11086399280834564258 : True := trivial
theorem PySem.W.Fast.tw3053821757160716372 : True := trivial
theorem PySem.W.Fast.tw5263119198505457133 : True := trivial
theorem PySem.W.Fast.tw13459661958844233368 : True := trivial
theorem PySem.W.Fast.tw1549115634271506097 : True := trivial
theorem PySem.W.Fast.tw8552362415731698880 : True := trivial
theorem PySem.W.Fast.tw156857816020124823 : True := trivial
theorem PySem.W.Fast.tw10602140031428983909 : True := trivial
theorem PySem.W.Fast.tw13229606821129246708 : True := trivial
theorem PySem.W.Fast.tw5259090895746804444 : True := trivial
theorem PySem.W.Fast.tw14976802359002611109 : True := trivial
theorem PySem.W.Fast.tw17608982258211269781 : True := trivial
theorem PySem.W.Fast.tw13734457814684774113 : True := trivial
theorem PySem.W.Fast.tw8491361547257982290 : True := trivial
theorem PySem.W.Fast.tw6336364912200600108 : True := trivial
theorem PySem.W.Fast.tw1517757017963336235 : True := trivial
theorem PySem.W.Fast.tw14416039765939956753 : True := trivial
theorem PySem.W.Fast.tw8303954681342485019 : True := trivial
theorem PySem.W.Fast.tw11217992154362929440 : True := trivial
theorem PySem.W.Fast.tw3129176929720300375 : True := trivial
theorem PySem.W.Fast.tw1896529711483344716 : True := trivial
theorem PySem.W.Fast.tw12022764122632620202 : True := trivial
theorem PySem.W.Fast.tw2744088157524731611 : True := trivial
theorem PySem.W.Fast.tw12246935284094896104 : True := trivial
theorem PySem.W.Fast.tw5859693004744646685 : True := trivial
theorem PySem.W.Fast.tw5409544799490296498 : True := trivial
theorem PySem.W.Fast.tw169625762884248743 : True := trivial
theorem PySem.W.Fast.tw15687327354986713963 : True := trivial
theorem PySem.W.Fast.tw4029150294693356910 : True := trivial
theorem PySem.W.Fast.tw12753278602948401982 : True := trivial
theorem PySem.W.Fast.tw18212883943871157752 : True := trivial
theorem PySem.W.Fast.tw10033597912134693129 : True := trivial
theorem PySem.W.Fast.tw14661952611770897341 : True := trivial
theorem PySem.W.Fast.tw14251889414582581071 : True := trivial
theorem PySem.W.Fast.tw13187856114750738797 : True := trivial
theorem PySem.W.Fast.tw3275972807423833378 : True := trivial
theorem PySem.W.Fast.tw4215354637545598180 : True := trivial
theorem PySem.W.Fast.tw9155575554952642599 : True := trivial
theorem PySem.W.Fast.tw3715804953953168024 : True := trivial
theorem PySem.W.Fast.tw8758345911211543638 : True := trivial
theorem PySem.W.Fast.tw11215104460638947196 : True := trivial
theorem PySem.W.Fast.tw18291515083905055791 : True := trivial
theorem PySem.W.Fast.tw5417048589422202275 : True := trivial
theorem PySem.W.Fast.tw4076625629357819191 : True := trivial
theorem PySem.W.Fast.tw11856660172969215814 : True := trivial
theorem PySem.W.Fast.tw13610464446413910054 : True := trivial
theorem PySem.W.Fast.tw15720419884386525245 : True := trivial
theorem PySem.W.Fast.tw16185966646827086849 : True := trivial
theorem PySem.W.Fast.tw17077121147791796149 : True := trivial
theorem PySem.W.Fast.tw17053661848333219405 : True := trivial
theorem PySem.W.Fast.tw14223791428866079837 : True := trivial
theorem PySem.W.Fast.tw3256974528586861131 : True := trivial
theorem PySem.W.Fast.tw248111977869366899 : True := trivial
theorem PySem.W.Fast.tw7402993928631696725 : True := trivial
theorem PySem.W.Fast.tw14131596208582860438 : True := trivial
theorem PySem.W.Fast.tw11971201882904827180 : True := trivial
theorem PySem.W.Fast.tw7653226546175532185 : True := trivial
theorem PySem.W.Fast.tw8797417707674228867 : True := trivial
theorem PySem.W.Fast.tw18420433335708632059 : True := trivial
theorem PySem.W.Fast.tw17234096958093549179 : True := trivial
theorem PySem.W.Fast.tw14228017072819590374 : True := trivial
theorem PySem.W.Fast.tw4690378754720837669 : True := trivial
theorem PySem.W.Fast.tw4896732259261110757 : True := trivial
theorem PySem.W.Fast.tw18398968980837748114 : True := trivial
theorem PySem.W.Fast.tw9740855928587963057 : True := trivial
theorem PySem.W.Fast.tw8018793450071354736 : True := trivial
theorem PySem.W.Fast.tw10211708858164235963 : True := trivial
theorem PySem.W.Fast.tw12332483534616861072 : True := trivial
theorem PySem.W.Fast.tw17387451421494274979 : True := trivial
theorem PySem.W.Fast.tw10002418116328193687 : True := trivial
theorem PySem.W.Fast.tw14774622512157600749 : True := trivial
theorem PySem.W.Fast.tw8992546538352693171 : True := trivial
theorem PySem.W.Fast.tw3429410145031391029 : True := trivial
theorem PySem.W.Fast.tw7796433439571209331 : True := trivial
theorem PySem.W.Fast.tw14378808399056739832 : True := trivial
theorem PySem.W.Fast.tw8628574922307403602 : True := trivial
theorem PySem.W.Fast.tw17773363786476861877 : True := trivial
theorem PySem.W.Fast.tw4651494062233394817 : True := trivial
theorem PySem.W.Fast.tw6922509800562919053 : True := trivial
theorem PySem.W.Fast.tw6335526622595294553 : True := trivial
theorem PySem.W.Fast.tw16425701728157515282 : True := trivial
theorem PySem.W.Fast.tw5503003741481732676 : True := trivial
theorem PySem.W.Fast.tw8944330050218916946 : True := trivial
theorem PySem.W.Fast.tw17900096674905420226 : True := trivial
theorem PySem.W.Fast.tw14680230084629876944 : True := trivial
theorem PySem.W.Fast.tw14556129989571883237 : True := trivial
theorem PySem.W.Fast.tw7255228753825985464 : True := trivial
theorem PySem.W.Fast.tw2053374941592692394 : True := trivial
theorem PySem.W.Fast.tw2582384496135263073 : True := trivial
theorem PySem.W.Fast.tw10643797165740893394 : True := trivial
theorem PySem.W.Fast.tw13775570263514760303 : True := trivial
theorem PySem.W.Fast.tw2564142452505075087 : True := trivial
theorem PySem.W.Fast.tw11037466228257899712 : True := trivial
theorem PySem.W.Fast.tw13867170332875162148 : True := trivial
theorem PySem.W.Fast.tw9798001747710975052 : True := trivial
theorem PySem.W.Fast.tw25971151856524603 : True := trivial
theorem PySem.W.Fast.tw16693453709884220909 : True := trivial
theorem PySem.W.Fast.tw3747885798724797233 : True := trivial
theorem PySem.W.Fast.tw7732545601982866679 : True := trivial
theorem PySem.W.Fast.tw12048094104103298602 : True := trivial
theorem PySem.W.Fast.tw4291128561794873719 : True := trivial
theorem PySem.W.Fast.tw8071087004238026774 : True := trivial
theorem PySem.W.Fast.tw9875102286953541579 : True := trivial
theorem PySem.W.Fast.tw15468747257196423732 : True := trivial
theorem PySem.W.Fast.tw12232933459109261196 : True := trivial
theorem PySem.W.Fast.tw15824723142575363993 : True := trivial
theorem PySem.W.Fast.tw10196823482112758654 : True := trivial
theorem PySem.W.Fast.tw15677068839050388329 : True := trivial
theorem PySem.W.Fast.tw6861535598512035569 : True := trivial
theorem PySem.W.Fast.tw14128310093644597595 : True := trivial
theorem PySem.W.Fast.tw12919799896152481316 : True := trivial
theorem PySem.W.Fast.tw8704574806820580608 : True := trivial
theorem PySem.W.Fast.tw374602429011010616 : True := trivial
theorem PySem.W.Fast.tw18215957508351510476 : True := trivial
theorem PySem.W.Fast.tw8612355367199549898 : True := trivial
theorem PySem.W.Fast.tw18417022749294139246 : True := trivial
theorem PySem.W.Fast.tw15205015778076446900 : True := trivial
theorem PySem.W.Fast.tw18324194935122965101 : True := trivial
theorem PySem.W.Fast.tw9213488289473472051 : True := trivial
theorem PySem.W.Fast.tw16023660316267843549 : True := trivial
theorem PySem.W.Fast.tw16115309277681257795 : True := trivial
theorem PySem.W.Fast.tw11800835172954879016 : True := trivial
theorem PySem.W.Fast.tw9899246017446010108 : True := trivial
theorem PySem.W.Fast.tw2381403296196692217 : True := trivial
theorem PySem.W.Fast.tw12585989689032771709 : True := trivial
theorem PySem.W.Fast.tw12442198219157228769 : True := trivial
theorem PySem.W.Fast.tw9717137966838079421 : True := trivial
theorem PySem.W.Fast.tw12868034532994159030 : True := trivial
theorem PySem.W.Fast.tw12778419483443863665 : True := trivial
theorem PySem.W.Fast.tw7551531617236205757 : True := trivial
theorem PySem.W.Fast.tw1857137178050866878 : True := trivial
theorem PySem.W.Fast.tw3984847023268539513 : True := trivial
theorem PySem.W.Fast.tw8691958879994577879 : True := trivial
theorem PySem.W.Fast.tw15697986862163851897 : True := trivial
theorem PySem.W.Fast.tw9415866257009257197 : True := trivial
theorem PySem.W.Fast.tw13734792686255938922 : True := trivial
theorem PySem.W.Fast.tw2719334850872180097 : True := trivial
theorem PySem.W.Fast.tw10528371445897014428 : True := trivial
theorem PySem.W.Fast.tw988052611273141485 : True := trivial
theorem PySem.W.Fast.tw12165662112775379976 : True := trivial
theorem PySem.W.Fast.tw12211372410817693137 : True := trivial
theorem PySem.W.Fast.tw9163247690901744397 : True := trivial
theorem PySem.W.Fast.tw16390632247944403884 : True := trivial
theorem PySem.W.Fast.tw17445532329223999989 : True := trivial
theorem PySem.W.Fast.tw16549691565620691256 : True := trivial
theorem PySem.W.Fast.tw14007441239274509358 : True := trivial
theorem PySem.W.Fast.tw9484929478799155199 : True := trivial
theorem PySem.W.Fast.tw9186375927105941025 : True := trivial
theorem PySem.W.Fast.tw10806910874084281794 : True := trivial
theorem PySem.W.Fast.tw663662009231841107 : True := trivial
theorem PySem.W.Fast.tw4095436688731606797 : True := trivial
theorem PySem.W.Fast.tw4518602209570525175 : True := trivial
theorem PySem.W.Fast.tw4106662171905070401 : True := trivial
theorem PySem.W.Fast.tw3364508152456873882 : True := trivial
theorem PySem.W.Fast.tw6574079082492686711 : True := trivial
theorem PySem.W.Fast.tw1884648887542925239 : True := trivial
theorem PySem.W.Fast.tw3242615637101710661 : True := trivial
theorem PySem.W.Fast.tw5092685802109092996 : True := trivial
theorem PySem.W.Fast.tw6536008293574494982 : True := trivial
theorem PySem.W.Fast.tw6856717673957176002 : True := trivial
theorem PySem.W.Fast.tw18306396462065670357 : True := trivial
theorem PySem.W.Fast.tw2845996879084589174 : True := trivial
theorem PySem.W.Fast.tw1385385934591887495 : True := trivial
theorem PySem.W.Fast.tw13683648986642683026 : True := trivial
theorem PySem.W.Fast.tw399189092299462295 : True := trivial
theorem PySem.W.Fast.tw4297698116411447988 : True := trivial
theorem PySem.W.Fast.tw2590241238240445340 : True := trivial
theorem PySem.W.Fast.tw17853984486506762420 : True := trivial
theorem PySem.W.Fast.tw7466434187254608638 : True := trivial
theorem PySem.W.Fast.tw7121744176063116773 : True := trivial
theorem PySem.W.Fast.tw4710080917026192155 : True := trivial
theorem PySem.W.Fast.tw1059698760500888044 : True := trivial
theorem PySem.W.Fast.tw16255821183362663336 : True := trivial
theorem PySem.W.Fast.tw9950267320010145234 : True := trivial
theorem PySem.W.Fast.tw16309001310065274668 : True := trivial
theorem PySem.W.Fast.tw5947152044335892128 : True := trivial
theorem PySem.W.Fast.tw15238242118628451253 : True := trivial
theorem PySem.W.Fast.tw15250379717884690066 : True := trivial
open PySem PySem.W PyProof.Rows
set_option maxRecDepth 100000 in
set_option maxHeartbeats 0 in
theorem PySem.Challenge.cw_rightname_k31_an_act_holds : PySem.Challenge.rw_rightname_k31_an_act.Holds := by
  w_on; o_law; k_head; (case hw => w_witness2)
  k_fill
  refine L2.walk_ofK (l := PySem.Challenge.rw_rightname_k31_an_act) (n := 63) (k := 7) (x := "_law_script") (CX := L2.CX0) (sp := My.spLaw) rfl (by decide) rfl ⟨rfl, by decide, by decide⟩ (fun w h Y => PySem.W.kIn_of Y) ?F ?S ?C
  case F =>
    intro w mg fa h KX G hmg
    refine' My.all_mk KX G hmg ?pa0 ?pl0 ?pc0 ?pk0 ?pa1 ?pl1 ?pc1 ?pk1 ?pa2 ?pl2 ?pc2 ?pk2 ?pa3 ?pl3 ?pc3 ?pk3 ?pa4 ?pl4 ?pc4 ?pk4 ?pa5 ?pl5 ?pc5 ?pk5 ?pa6 ?pl6 ?pc6 ?pk6 ?pa7 ?pl7 ?pc7 ?pk7 ?pa8 ?pl8 ?pc8 ?pk8 ?pa9 ?pl9 ?pc9 ?pk9 ?pa10 ?pl10 ?pc10 ?pk10 ?pa11 ?pl11 ?pc11 ?pk11 ?pa12 ?pl12 ?pc12 ?pk12 ?pa13 ?pl13 ?pc13 ?pk13 ?pa14 ?pl14 ?pc14 ?pk14 ?pcg_Act ?ppg_Act ?phd_Act ?ppo_Act ?psa_Act ?pmk_Act ?pin_Act ?pfn_Act ?pkc_Act ?pkf_Act ?plf_Act ?pcf_Act ?pna_Act_day ?pna_Act_deed ?pna_Act_number ?pcg_LAST_DAY ?pcr_LAST_DAY ?pcg_LAST_NUMBER ?pcr_LAST_NUMBER ?pcg_DEEDS ?pcl_DEEDS ?pcc_DEEDS ?pcd_DEEDS ?pcv_DEEDS ?pcg_NoDay ?pcg_NoAct ?pcg_NoNumber ?pcg_RightError ?pcg_Late ?pcg_NoBook ?pcg_NoEntry ?pcg_NoPath ?pcg_NoRank ?pcg_NoRow ?pcg_NoSheet ?pcg_NoSorting ?pcg_NoText ?pcg_NoWord ?pxl_NoDay ?pxn_NoDay ?pxs_NoDay ?pxi_NoDay ?pxa_NoDay ?pxb_NoDay ?pxt_NoDay ?pxj_NoDay ?pqcs_NoDay ?pqga_NoDay ?pqgt_NoDay ?pqca_NoDay ?pqgg_NoDay ?pqtk_NoDay ?pqmo_NoDay ?pqsb_NoDay ?pi_NoDay_Late ?pi_NoDay_NoBook ?pi_NoDay_NoEntry ?pi_NoDay_NoPath ?pi_NoDay_NoRank ?pi_NoDay_NoRow ?pi_NoDay_NoSheet ?pi_NoDay_NoSorting ?pi_NoDay_NoText ?pi_NoDay_NoWord ?pi_NoDay_NoAct ?pi_NoDay_ValueError ?pi_NoDay_NoDay ?pi_NoDay_NoNumber ?pe_NoDay_RightError ?pin_NoAct ?pfn_NoAct ?pkc_NoAct ?pkf_NoAct ?plf_NoAct ?pcf_NoAct ?plt_NoAct ?pdt_NoAct ?psa_NoAct ?pna_NoAct ?phz_NoAct ?pmo_NoAct ?pb1_RightError ?pb2_RightError ?pb3_RightError ?pxl_NoAct ?pxn_NoAct ?pxs_NoAct ?pxi_NoAct ?pxa_NoAct ?pxb_NoAct ?pxt_NoAct ?pxj_NoAct ?pqcs_NoAct ?pqga_NoAct ?pqgt_NoAct ?pqca_NoAct ?pqgg_NoAct ?pqtk_NoAct ?pqmo_NoAct ?pqsb_NoAct ?pi_NoAct_Late ?pi_NoAct_NoBook ?pi_NoAct_NoEntry ?pi_NoAct_NoPath ?pi_NoAct_NoRank ?pi_NoAct_NoRow ?pi_NoAct_NoSheet ?pi_NoAct_NoSorting ?pi_NoAct_NoText ?pi_NoAct_NoWord ?pi_NoAct_NoAct ?pi_NoAct_ValueError ?pi_NoAct_NoDay ?pi_NoAct_NoNumber ?pe_NoAct_RightError ?pxl_NoNumber ?pxn_NoNumber ?pxs_NoNumber ?pxi_NoNumber ?pxa_NoNumber ?pxb_NoNumber ?pxt_NoNumber ?pxj_NoNumber ?pqcs_NoNumber ?pqga_NoNumber ?pqgt_NoNumber ?pqca_NoNumber ?pqgg_NoNumber ?pqtk_NoNumber ?pqmo_NoNumber ?pqsb_NoNumber ?pi_NoNumber_Late ?pi_NoNumber_NoBook ?pi_NoNumber_NoEntry ?pi_NoNumber_NoPath ?pi_NoNumber_NoRank ?pi_NoNumber_NoRow ?pi_NoNumber_NoSheet ?pi_NoNumber_NoSorting ?pi_NoNumber_NoText ?pi_NoNumber_NoWord ?pi_NoNumber_NoAct ?pi_NoNumber_ValueError ?pi_NoNumber_NoDay ?pi_NoNumber_NoNumber ?pe_NoNumber_RightError ?pz_len ?pz_isinstance ?pz_int ?pz_bool ?pz_str ?pz_list ?pz_range ?pz_sum ?pz_ValueError
    (case pa0 => k_is)
    (case pl0 => k_is)
    (case pc0 => k_is)
    (case pk0 => k_is)
    (case pa1 => k_is)
    (case pl1 => k_is)
    (case pc1 => k_is)
    (case pk1 => k_is)
    (case pa2 => k_is)
    (case pl2 => k_is)
    (case pc2 => k_is)
    (case pk2 => k_is)
    (case pa3 => k_is)
    (case pl3 => k_is)
    (case pc3 => k_is)
    (case pk3 => k_is)
    (case pa4 => k_is)
    (case pl4 => k_is)
    (case pc4 => k_is)
    (case pk4 => k_is)
    (case pa5 => k_is)
    (case pl5 => k_is)
    (case pc5 => k_is)
    (case pk5 => k_is)
    (case pa6 => k_is)
    (case pl6 => k_is)
    (case pc6 => k_is)
    (case pk6 => k_is)
    (case pa7 => k_is)
    (case pl7 => k_is)
    (case pc7 => k_is)
    (case pk7 => k_is)
    (case pa8 => k_is)
    (case pl8 => k_is)
    (case pc8 => k_is)
    (case pk8 => k_is)
    (case pa9 => k_is)
    (case pl9 => k_is)
    (case pc9 => k_is)
    (case pk9 => k_is)
    (case pa10 => k_is)
    (case pl10 => k_is)
    (case pc10 => k_is)
    (case pk10 => k_is)
    (case pa11 => k_is)
    (case pl11 => k_is)
    (case pc11 => k_is)
    (case pk11 => k_is)
    (case pa12 => k_is)
    (case pl12 => k_is)
    (case pc12 => k_is)
    (case pk12 => k_is)
    (case pa13 => k_is)
    (case pl13 => k_is)
    (case pc13 => k_is)
    (case pk13 => k_is)
    (case pa14 => k_is)
    (case pl14 => k_is)
    (case pc14 => k_is)
    (case pk14 => k_is)
    (case pcg_Act => k_is)
    (case ppg_Act => k_is)
    (case phd_Act => k_is)
    (case ppo_Act => k_is)
    (case psa_Act => k_is)
    (case pmk_Act => k_is)
    (case pin_Act => k_is)
    (case pfn_Act => k_is)
    (case pkc_Act => k_is)
    (case pkf_Act => k_is)
    (case plf_Act => k_is)
    (case pcf_Act => k_is)
    (case pna_Act_day => k_is)
    (case pna_Act_deed => k_is)
    (case pna_Act_number => k_is)
    (case pcg_LAST_DAY => k_is)
    (case pcr_LAST_DAY => first | exact L2.rel_int | exact L2.rel_str | exact rfl)
    (case pcg_LAST_NUMBER => k_is)
    (case pcr_LAST_NUMBER => first | exact L2.rel_int | exact L2.rel_str | exact rfl)
    (case pcg_DEEDS => k_is)
    (case pcl_DEEDS => k_is)
    (case pcc_DEEDS => exact rfl)
    (case pcd_DEEDS => exact rfl)
    (case pcv_DEEDS => exact (.cons ⟨_, rfl⟩ (.cons ⟨_, rfl⟩ (.cons ⟨_, rfl⟩ .nil))))
    (case pcg_NoDay => k_is)
    (case pcg_NoAct => k_is)
    (case pcg_NoNumber => k_is)
    (case pcg_RightError => k_is)
    (case pcg_Late => k_is)
    (case pcg_NoBook => k_is)
    (case pcg_NoEntry => k_is)
    (case pcg_NoPath => k_is)
    (case pcg_NoRank => k_is)
    (case pcg_NoRow => k_is)
    (case pcg_NoSheet => k_is)
    (case pcg_NoSorting => k_is)
    (case pcg_NoText => k_is)
    (case pcg_NoWord => k_is)
    (case pxl_NoDay => k_is)
    (case pxn_NoDay => k_is)
    (case pxs_NoDay => kernel_rfl)
    (case pxi_NoDay => kernel_rfl)
    (case pxa_NoDay => k_is)
    (case pxb_NoDay => k_is)
    (case pxt_NoDay => kernel_rfl)
    (case pxj_NoDay => kernel_rfl)
    (case pqcs_NoDay => kernel_rfl)
    (case pqga_NoDay => k_is)
    (case pqgt_NoDay => k_is)
    (case pqca_NoDay => k_is)
    (case pqgg_NoDay => k_is)
    (case pqtk_NoDay => k_is)
    (case pqmo_NoDay => k_is)
    (case pqsb_NoDay => k_is)
    (case pi_NoDay_Late => kernel_rfl)
    (case pi_NoDay_NoBook => kernel_rfl)
    (case pi_NoDay_NoEntry => kernel_rfl)
    (case pi_NoDay_NoPath => kernel_rfl)
    (case pi_NoDay_NoRank => kernel_rfl)
    (case pi_NoDay_NoRow => kernel_rfl)
    (case pi_NoDay_NoSheet => kernel_rfl)
    (case pi_NoDay_NoSorting => kernel_rfl)
    (case pi_NoDay_NoText => kernel_rfl)
    (case pi_NoDay_NoWord => kernel_rfl)
    (case pi_NoDay_NoAct => kernel_rfl)
    (case pi_NoDay_ValueError => kernel_rfl)
    (case pi_NoDay_NoDay => kernel_rfl)
    (case pi_NoDay_NoNumber => kernel_rfl)
    (case pe_NoDay_RightError => kernel_rfl)
    (case pin_NoAct => k_is)
    (case pfn_NoAct => k_is)
    (case pkc_NoAct => k_is)
    (case pkf_NoAct => k_is)
    (case plf_NoAct => k_is)
    (case pcf_NoAct => k_is)
    (case plt_NoAct => k_is)
    (case pdt_NoAct => exact rfl)
    (case psa_NoAct => k_is)
    (case pna_NoAct => k_is)
    (case phz_NoAct => k_is)
    (case pmo_NoAct => k_is)
    (case pb1_RightError => k_is)
    (case pb2_RightError => k_is)
    (case pb3_RightError => k_is)
    (case pxl_NoAct => k_is)
    (case pxn_NoAct => k_is)
    (case pxs_NoAct => kernel_rfl)
    (case pxi_NoAct => kernel_rfl)
    (case pxa_NoAct => k_is)
    (case pxb_NoAct => k_is)
    (case pxt_NoAct => kernel_rfl)
    (case pxj_NoAct => kernel_rfl)
    (case pqcs_NoAct => kernel_rfl)
    (case pqga_NoAct => k_is)
    (case pqgt_NoAct => k_is)
    (case pqca_NoAct => k_is)
    (case pqgg_NoAct => k_is)
    (case pqtk_NoAct => k_is)
    (case pqmo_NoAct => k_is)
    (case pqsb_NoAct => k_is)
    (case pi_NoAct_Late => kernel_rfl)
    (case pi_NoAct_NoBook => kernel_rfl)
    (case pi_NoAct_NoEntry => kernel_rfl)
    (case pi_NoAct_NoPath => kernel_rfl)
    (case pi_NoAct_NoRank => kernel_rfl)
    (case pi_NoAct_NoRow => kernel_rfl)
    (case pi_NoAct_NoSheet => kernel_rfl)
    (case pi_NoAct_NoSorting => kernel_rfl)
    (case pi_NoAct_NoText => kernel_rfl)
    (case pi_NoAct_NoWord => kernel_rfl)
    (case pi_NoAct_NoAct => kernel_rfl)
    (case pi_NoAct_ValueError => kernel_rfl)
    (case pi_NoAct_NoDay => kernel_rfl)
    (case pi_NoAct_NoNumber => kernel_rfl)
    (case pe_NoAct_RightError => kernel_rfl)
    (case pxl_NoNumber => k_is)
    (case pxn_NoNumber => k_is)
    (case pxs_NoNumber => kernel_rfl)
    (case pxi_NoNumber => kernel_rfl)
    (case pxa_NoNumber => k_is)
    (case pxb_NoNumber => k_is)
    (case pxt_NoNumber => kernel_rfl)
    (case pxj_NoNumber => kernel_rfl)
    (case pqcs_NoNumber => kernel_rfl)
    (case pqga_NoNumber => k_is)
    (case pqgt_NoNumber => k_is)
    (case pqca_NoNumber => k_is)
    (case pqgg_NoNumber => k_is)
    (case pqtk_NoNumber => k_is)
    (case pqmo_NoNumber => k_is)
    (case pqsb_NoNumber => k_is)
    (case pi_NoNumber_Late => kernel_rfl)
    (case pi_NoNumber_NoBook => kernel_rfl)
    (case pi_NoNumber_NoEntry => kernel_rfl)
    (case pi_NoNumber_NoPath => kernel_rfl)
    (case pi_NoNumber_NoRank => kernel_rfl)
    (case pi_NoNumber_NoRow => kernel_rfl)
    (case pi_NoNumber_NoSheet => kernel_rfl)
    (case pi_NoNumber_NoSorting => kernel_rfl)
    (case pi_NoNumber_NoText => kernel_rfl)
    (case pi_NoNumber_NoWord => kernel_rfl)
    (case pi_NoNumber_NoAct => kernel_rfl)
    (case pi_NoNumber_ValueError => kernel_rfl)
    (case pi_NoNumber_NoDay => kernel_rfl)
    (case pi_NoNumber_NoNumber => kernel_rfl)
    (case pe_NoNumber_RightError => kernel_rfl)
    (case pz_len => k_is)
    (case pz_isinstance => k_is)
    (case pz_int => k_is)
    (case pz_bool => k_is)
    (case pz_str => k_is)
    (case pz_list => k_is)
    (case pz_range => k_is)
    (case pz_sum => k_is)
    (case pz_ValueError => k_is)
  case S => exact fun K H a ns hl hO hS => ⟨a, ns, rfl, hS, hl, fun _ => rfl⟩
  case C => exact fun _ _ _ _ z => z
#print axioms PySem.Challenge.cw_rightname_k31_an_act_holds
