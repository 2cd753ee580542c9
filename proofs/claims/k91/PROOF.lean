import PyProof.Rows.All
import Wide.All
import OpenK.AllK
import Wide.FinOn
import Lean
import PyProof.EqAt
import PyProof.EqKinds
import PyProof.TupleCall
import PySem.Challenge.RW_rightname_k91_rows_of_a_desk
set_option Elab.async false
set_option linter.all false
set_option maxRecDepth 100000
namespace L2
open PySem PySem.Spec PyProof.Rows
abbrev Key := Sum Int Str
def keyIs : Key → Value → Bool
  | .inl k, v => Value.isInt k v
  | .inr x, v => Value.isStrOf x v
def keyH (w : World) : Key → Int
  | .inl k => hashInt k
  | .inr x => hashStr w x
theorem keyIs_shape : ∀ {k : Key} {v : Value}, keyIs k v = true → (∃ i t, k = Sum.inl i ∧ v = Value.int i t) ∨ (∃ x t, k = Sum.inr x ∧ v = Value.str x t)
  | .inl i, v, h => by
    obtain ⟨t, e⟩ := Value.isInt_shape (k := i) (v := v) h
    exact .inl ⟨i, t, rfl, e⟩
  | .inr x, v, h => by
    obtain ⟨t, e⟩ := Value.isStrOf_shape (x := x) (v := v) h
    exact .inr ⟨x, t, rfl, e⟩
theorem keyIs_int (i : Int) (t : Tok) : keyIs (.inl i) (.int i t) = true := by simp [keyIs, Value.isInt]
theorem keyIs_str (x : Str) (t : Tok) : keyIs (.inr x) (.str x t) = true := by simp [keyIs, Value.isStrOf]
theorem key_ll (a b : Int) : decide ((Sum.inl a : Key) = Sum.inl b) = (a == b) := by
  by_cases e : a = b
  · subst e; simp
  · have h : ¬ (Sum.inl a : Key) = Sum.inl b := fun q => e (Sum.inl.inj q)
    rw [decide_eq_false h]
    exact (beq_eq_false_iff_ne.mpr e).symm
theorem key_rr (a b : Str) : decide ((Sum.inr a : Key) = Sum.inr b) = decide (a = b) := by
  by_cases e : a = b
  · subst e; simp
  · have h : ¬ (Sum.inr a : Key) = Sum.inr b := fun q => e (Sum.inr.inj q)
    rw [decide_eq_false h, decide_eq_false e]
theorem key_lr (a : Int) (b : Str) : decide ((Sum.inl a : Key) = Sum.inr b) = false := decide_eq_false (fun q => nomatch q)
theorem key_rl (a : Str) (b : Int) : decide ((Sum.inr a : Key) = Sum.inl b) = false := decide_eq_false (fun q => nomatch q)
def mixKind (prog : Program) (w : World) : PySem.KeyKind prog w Key where
  is := keyIs
  hash := keyH w
  inj := fun v a b ha hb => by
    rcases keyIs_shape ha with ⟨i, t, rfl, rfl⟩ | ⟨x, t, rfl, rfl⟩
    · rcases keyIs_shape hb with ⟨j, u, rfl, e⟩ | ⟨y, u, rfl, e⟩
      · injection e with e1 _; rw [e1]
      · exact nomatch e
    · rcases keyIs_shape hb with ⟨j, u, rfl, e⟩ | ⟨y, u, rfl, e⟩
      · exact nomatch e
      · injection e with e1 _; rw [e1]
  byValue := fun k v h => by
    rcases keyIs_shape h with ⟨i, t, rfl, rfl⟩ | ⟨x, t, rfl, rfl⟩ <;> rfl
  pyHash := fun hv h => by
    rcases keyIs_shape hv with ⟨i, t, rfl, rfl⟩ | ⟨x, t, rfl, rfl⟩
    · exact wpAny_pyHash_int h
    · exact wpAny_pyHash_str h
  eqBool := fun hu hv h => by
    rcases keyIs_shape hu with ⟨i, t, rfl, rfl⟩ | ⟨x, t, rfl, rfl⟩
    · rcases keyIs_shape hv with ⟨j, u, rfl, rfl⟩ | ⟨y, u, rfl, rfl⟩
      · rw [key_ll] at h; exact wpAny_eqBool_int h
      · rw [key_lr] at h; exact SeqAt.EqAt.int_str i t y u _ _ _ _ h
    · rcases keyIs_shape hv with ⟨j, u, rfl, rfl⟩ | ⟨y, u, rfl, rfl⟩
      · rw [key_rl] at h; exact SeqAt.EqAt.str_int x t j u _ _ _ _ h
      · rw [key_rr] at h; exact wpAny_eqBool_str h
  «strs» := fun k x t v h => by
    rcases keyIs_shape h with ⟨i, u, rfl, e⟩ | ⟨y, u, rfl, e⟩
    · exact nomatch e
    · injection e with e1 _
      subst e1
      cases v <;> rfl
theorem mixKind_int (prog : Program) (w : World) (i : Int) (t : Tok) : (mixKind prog w).is (.inl i) (.int i t) = true := keyIs_int i t
theorem mixKind_str (prog : Program) (w : World) (x : Str) (t : Tok) : (mixKind prog w).is (.inr x) (.str x t) = true := keyIs_str x t
end L2
namespace L2
open PySem PySem.Spec PyProof.Rows
inductive V where
  | non | bl (b : Bool) | int (i : Int) | str (x : Str) | byt (b : Array UInt8) | flt (b : UInt64) | ref (a : Addr) | ty (n : String)
  deriving DecidableEq
def RelV : V → Value → Prop
  | .non, u => u = Value.none
  | .bl b, u => u = Value.bool b
  | .int i, u => ∃ t, u = Value.int i t
  | .str x, u => ∃ t, u = Value.str x t
  | .byt b, u => ∃ t, u = Value.bytes b t
  | .flt b, u => ∃ t, u = Value.float b t
  | .ref a, u => u = Value.ref a
  | .ty n, u => u = Value.type n
abbrev Vals : List V → List Value → Prop := Paired RelV
theorem Vals.length {xs : List V} {us : List Value} (r : Vals xs us) : xs.length = us.length := Paired.length r
theorem Vals.get : ∀ {xs : List V} {us : List Value} {i : Nat} {x : V}, Vals xs us → xs[i]? = some x → ∃ u, us[i]? = some u ∧ RelV x u
  | _, _, _, _, .nil, e => by simp at e
  | _, _, 0, _, .cons r _, e => by simp at e; subst e; exact ⟨_, rfl, r⟩
  | _, _, i + 1, x, .cons _ t, e => by
    obtain ⟨u, h1, h2⟩ := Vals.get (i := i) (x := x) t (by simpa using e)
    exact ⟨u, by simpa using h1, h2⟩
theorem Vals.set {x : V} {u : Value} (r : RelV x u) : ∀ {xs : List V} {us : List Value} (i : Nat), Vals xs us → Vals (xs.set i x) (us.set i u)
  | _, _, _, .nil => .nil
  | _, _, 0, .cons _ t => .cons r t
  | _, _, i + 1, .cons q t => .cons q (Vals.set r i t)
theorem Vals.append : ∀ {xs ys : List V} {us ws : List Value}, Vals xs us → Vals ys ws → Vals (xs ++ ys) (us ++ ws)
  | _, _, _, _, .nil, s => s
  | _, _, _, _, .cons r t, s => .cons r (Vals.append t s)
theorem Vals.take : ∀ {xs : List V} {us : List Value} (n : Nat), Vals xs us → Vals (xs.take n) (us.take n)
  | _, _, 0, _ => .nil
  | _, _, _ + 1, .nil => .nil
  | _, _, n + 1, .cons r t => .cons r (Vals.take n t)
theorem Vals.drop : ∀ {xs : List V} {us : List Value} (n : Nat), Vals xs us → Vals (xs.drop n) (us.drop n)
  | _, _, 0, r => r
  | _, _, _ + 1, .nil => .nil
  | _, _, n + 1, .cons _ t => Vals.drop n t
def RelO : Option V → Option Value → Prop
  | some v, some u => RelV v u
  | none, none => True
  | _, _ => False
def KV {κ : Type} : List (κ × V) → List (κ × Value) → Prop := Paired fun (p : κ × V) (q : κ × Value) => p.1 = q.1 ∧ RelV p.2 q.2
def kV : Key → V
  | .inl i => .int i
  | .inr x => .str x
inductive HO where
    | lst (xs : List V)
    | tup (xs : List V)
    | dK (kvs : List (Key × V)) | dT (kvs : List (List Key × V))
    | set (S : Int → Bool) (n : Nat)
    | ins (C dx : Addr) (fs : List (Str × V))
    | own (x : Addr)
    | xd (fs : List (Str × V))
    | met (f x : Addr)
    | rng (lo hi : Int)
    | frz (o : Obj) (u : HO)
    | tbl (ps : Array Value)
    | ext (φ : Heap → Prop)
abbrev Hp := Addr → Option HO
def upd (H : Hp) (a : Addr) (o : HO) : Hp := fun b => if b = a then some o else H b
theorem upd_same {H : Hp} {a : Addr} {o : HO} : upd H a o a = some o := by unfold upd; rw [if_pos rfl]
theorem upd_ne {H : Hp} {a b : Addr} {o : HO} (h : b ≠ a) : upd H a o b = H b := by unfold upd; rw [if_neg h]
theorem upd_upd {H : Hp} {a : Addr} {o u : HO} : upd (upd H a o) a u = upd H a u := by
  funext b; unfold upd; split <;> rfl
theorem ne_of {H : Hp} {a b : Addr} {o u : HO} (h : H a = some o) (h' : H b = some u) (d : o ≠ u) : a ≠ b := by
  intro e; subst e; rw [h] at h'; exact d (Option.some.inj h')
theorem ne_of_none {H : Hp} {a b : Addr} {o : HO} (h : H a = some o) (h' : H b = none) : a ≠ b := by
  intro e; subst e; rw [h] at h'; cases h'
section
variable (P : Program) (w : World)
def ObjOk (H : Hp) (h : Heap) (a : Addr) : HO → Prop
  | .lst xs => xs.length ≤ sizeLine ∧ ∃ (its : List Value) (n : Nat), Vals xs its ∧ h.get? a = some { cls := .type "list", data := .seq its.toArray n }
  | .tup xs => xs.length ≤ sizeLine ∧ ∃ its : List Value, Vals xs its ∧ IsTup h a its.toArray
  | .dK kvs => kvs.length ≤ sizeLine ∧ (a == sysModules) = false ∧ ∃ vs, KV kvs vs ∧ h.DictOf (mixKind P w) a vs
  | .dT kvs => kvs.length ≤ sizeLine ∧ (a == sysModules) = false ∧ ∃ xs : List (List Key × Addr × Value),
      Paired (fun (p : List Key × V) (q : List Key × Addr × Value) => p.1 = q.1 ∧ H q.2.1 = some (.tup (p.1.map kV)) ∧ RelV p.2 q.2.2) kvs xs ∧
      ∃ o es ep, h.get? a = some o ∧ o.ExactDict ∧ o.data = .dict es ep ∧ es.toList = xs.map (entryOfKey (tupleKind (mixKind P w))) ∧ (xs.map (·.1)).Nodup
  | .set S n => h.SetOf (intKind P w) a S n
  | .ins C dx fs => H dx = some (.own a) ∧ fs.length ≤ 1000 ∧ dx ≠ a ∧ h.get? a = some (PySem.W.instObj C dx) ∧
      ∃ mA, h.Ns1 dx mA ∧ (∀ f, RelO (fs.lookup f) (mA f)) ∧ PySem.Within mA (fs.map (·.1))
  | .own _ => ∃ o, h.get? a = some o
  | .xd fs => ∃ mA, h.Ns1 a mA ∧ ∀ f, RelO (fs.lookup f) (mA f)
  | .rng lo hi => ∃ t u v, h.get? a = some { cls := .type "range", data := .fields #[.int lo t, .int hi u, .int 1 v] }
  | .frz o u => h.get? a = some o ∧ ObjOk H h a u
  | .tbl ps => h.get? a = some { cls := .none, data := .fields ps }
  | .met f x => h.get? a = some (PySem.W.methodObj (.ref f) (.ref x))
  | .ext φ => φ h ∧ (∃ o, h.get? a = some o) ∧ ∀ h1 h2 : Heap, φ h1 → (∀ o, h1.get? a = some o → h2.get? a = some o) → φ h2
def HOk (H : Hp) (h : Heap) : Prop := ∀ a o, H a = some o → ObjOk P w H h a o
end
section
variable {P : Program} {w : World} {H H' : Hp} {h h' : Heap} {a : Addr} {o : HO}
theorem ObjOk.lt (x : ObjOk P w H h a o) : a < h.objs.size := by
  cases o with
  | lst xs => obtain ⟨_, _, _, _, e⟩ := x; exact Heap.lt_size e
  | tup xs => obtain ⟨_, _, _, p⟩ := x; exact p.lt
  | dK kvs => obtain ⟨_, _, _, _, o, _, _, e, _⟩ := x; exact Heap.lt_size e
  | dT kvs => obtain ⟨_, _, _, _, o, _, _, e, _⟩ := x; exact Heap.lt_size e
  | set S n => obtain ⟨o, _, _, _, e, _⟩ := x; exact Heap.lt_size e
  | ins C dx fs => obtain ⟨_, _, _, e, _⟩ := x; exact Heap.lt_size e
  | own y => obtain ⟨_, e⟩ := x; exact Heap.lt_size e
  | xd fs => obtain ⟨_, ⟨_, _, _, e, _⟩, _⟩ := x; exact Heap.lt_size e
  | rng lo hi => obtain ⟨_, _, _, e⟩ := x; exact Heap.lt_size e
  | frz ob u => obtain ⟨e, _⟩ := x; exact Heap.lt_size e
  | tbl ps => exact Heap.lt_size (show h.get? a = some _ from x)
  | met f y => exact Heap.lt_size (show h.get? a = some _ from x)
  | ext φ => obtain ⟨_, ⟨_, e⟩, _⟩ := x; exact Heap.lt_size e
theorem Paired.mapP {α β : Type} {F G : α → β → Prop} : ∀ {l₁ : List α} {l₂ : List β}, Paired F l₁ l₂ → (∀ a b, F a b → G a b) → Paired G l₁ l₂
  | _, _, .nil, _ => .nil
  | _, _, .cons r t, f => .cons (f _ _ r) (Paired.mapP t f)
theorem ObjOk.stay (x : ObjOk P w H h a o) (k : ∀ b u, (b = a ∨ H b = some (.own a)) → h.get? b = some u → h'.get? b = some u)
    (ho : ∀ b, H b = some (.own a) → H' b = some (.own a)) (ht : ∀ b xs, H b = some (.tup xs) → H' b = some (.tup xs)) : ObjOk P w H' h' a o := by
  induction o with
  | lst xs => obtain ⟨z, its, n, r, e⟩ := x; exact ⟨z, its, n, r, k _ _ (.inl rfl) e⟩
  | tup xs => obtain ⟨z, its, r, ob, e, c⟩ := x; exact ⟨z, its, r, ob, k _ _ (.inl rfl) e, c⟩
  | dK kvs => obtain ⟨z, y, vs, r, ob, es, ep, e, c⟩ := x; exact ⟨z, y, vs, r, ob, es, ep, k _ _ (.inl rfl) e, c⟩
  | dT kvs =>
    obtain ⟨z, y, xs, r, ob, es, ep, e, c⟩ := x
    exact ⟨z, y, xs, Paired.mapP r fun p q z => ⟨z.1, ht _ _ z.2.1, z.2.2⟩, ob, es, ep, k _ _ (.inl rfl) e, c⟩
  | set S n => obtain ⟨ob, es, ep, t, e, c⟩ := x; exact ⟨ob, es, ep, t, k _ _ (.inl rfl) e, c⟩
  | ins C dx fs =>
    obtain ⟨d, z, ne, e, mA, ⟨od, es, ep, e2, c⟩, r⟩ := x
    exact ⟨ho _ d, z, ne, k _ _ (.inl rfl) e, mA, ⟨od, es, ep, k _ _ (.inr d) e2, c⟩, r⟩
  | own y => obtain ⟨ob, e⟩ := x; exact ⟨ob, k _ _ (.inl rfl) e⟩
  | xd fs => obtain ⟨mA, ⟨od, es, ep, e, c⟩, r⟩ := x; exact ⟨mA, ⟨od, es, ep, k _ _ (.inl rfl) e, c⟩, r⟩
  | rng lo hi => obtain ⟨t, u, v, e⟩ := x; exact ⟨t, u, v, k _ _ (.inl rfl) e⟩
  | frz ob u ih => obtain ⟨e, q⟩ := x; exact ⟨k _ _ (.inl rfl) e, ih q⟩
  | tbl ps =>
    have e : h.get? a = some { cls := .none, data := .fields ps } := x
    show h'.get? a = some { cls := .none, data := .fields ps }
    exact k a _ (.inl rfl) e
  | met f y =>
    have e : h.get? a = some (PySem.W.methodObj (.ref f) (.ref y)) := x
    show h'.get? a = some (PySem.W.methodObj (.ref f) (.ref y))
    exact k a _ (.inl rfl) e
  | ext φ => obtain ⟨p, ⟨o, e⟩, st⟩ := x; exact ⟨st _ _ p fun o q => k _ _ (.inl rfl) q, ⟨o, k _ _ (.inl rfl) e⟩, st⟩
theorem HOk.lt (x : HOk P w H h) (e : H a = some o) : a < h.objs.size := (x a o e).lt
theorem HOk.fresh (x : HOk P w H h) (e : h.objs.size ≤ a) : H a = none := by
  cases q : H a with
  | none => rfl
  | some u => exact absurd (Nat.lt_of_lt_of_le (x.lt q) e) (Nat.lt_irrefl _)
theorem HOk.kept (x : HOk P w H h) (k : ∀ b u, h.get? b = some u → h'.get? b = some u) : HOk P w H h' := fun a o e =>
  (x a o e).stay (fun b u _ q => k b u q) (fun _ q => q) fun _ _ q => q
theorem HOk.laid (x : HOk P w H h) (k : ∀ b u, h.get? b = some u → h'.get? b = some u) (hp : h.objs.size ≤ a) (new : ObjOk P w (upd H a o) h' a o) : HOk P w (upd H a o) h' := fun b u e => by
  have hn := x.fresh hp
  by_cases hb : b = a
  · subst hb; rw [upd_same] at e; cases e; exact new
  · rw [upd_ne hb] at e
    exact (x b u e).stay (fun c v _ q => k c v q) (fun c q => by rw [upd_ne (ne_of_none q hn)]; exact q) fun c xs q => by rw [upd_ne (ne_of_none q hn)]; exact q
end
def Rd (H : Hp) (a : Addr) (u : HO) : Prop := H a = some u ∨ ∃ o, H a = some (.frz o u)
theorem Rd.of {H : Hp} {a : Addr} {u : HO} (h : H a = some u) : Rd H a u := .inl h
theorem Rd.ok {P : Program} {w : World} {H : Hp} {h : Heap} {a : Addr} {u : HO} (r : Rd H a u) (x : HOk P w H h) : ObjOk P w H h a u := by
  rcases r with r | ⟨o, r⟩
  · exact x a u r
  · obtain ⟨_, q⟩ := x a _ r
    exact q
def Mut : Option HO → Prop
  | some (.lst _) => True
  | some (.dK _) => True
  | some (.dT _) => True
  | some (.set _ _) => True
  | some (.ins _ _ _) => True
  | some (.ext _) => True
  | _ => False
section
variable {P : Program} {w : World} {H : Hp} {h h' : Heap} {x e : Addr} {o' : HO}
theorem HOk.write (ok : HOk P w H h) (mu : Mut (H x)) (he : e = x ∨ H e = some (.own x)) (k : ∀ b u, b ≠ e → h.get? b = some u → h'.get? b = some u) (heo : ∃ u, h'.get? e = some u)
    (new : ObjOk P w (upd H x o') h' x o') : HOk P w (upd H x o') h' := fun b u q => by
  have nown : ∀ c y, H c = some (.own y) → c ≠ x := fun c y r z => by subst z; rw [r] at mu; exact mu
  have ntup : ∀ c xs, H c = some (.tup xs) → c ≠ x := fun c xs r z => by subst z; rw [r] at mu; exact mu
  by_cases hb : b = x
  · subst hb; rw [upd_same] at q; cases q; exact new
  · rw [upd_ne hb] at q
    by_cases hbe : b = e
    · have q' : H b = some (.own x) := by
        rcases he with z | z
        · exact absurd (hbe.trans z) hb
        · rw [hbe]; exact z
      rw [q] at q'; cases q'
      obtain ⟨v, hv⟩ := heo
      exact ⟨v, by rw [hbe]; exact hv⟩
    · refine (ok b u q).stay (fun c v hc r => k c v ?_ r) (fun c r => by rw [upd_ne (nown c b r)]; exact r) fun c xs r => by rw [upd_ne (ntup c xs r)]; exact r
      rcases hc with rfl | hc
      · exact hbe
      · rintro rfl
        rcases he with z | z
        · exact nown c b hc z
        · rw [hc] at z; cases z; exact hb rfl
end
structure Un (fs ex : List Addr) (H H' : Hp) (h h' : Heap) : Prop where
  keep : ∀ b o, h.get? b = some o → H b = none → b ∉ fs → b ∉ ex → h'.get? b = some o
  slot : ∀ b o, h.get? b = some o → H b = none → b ∈ fs → b ∉ ex → ∃ sl, h'.get? b = some { o with slots := sl }
  free : ∀ b o, h.get? b = some o → H b = none → b ∉ ex → H' b = none
  there : ∀ b o, h.get? b = some o → b ∉ ex → ∃ o', h'.get? b = some o'
  tups : ∀ b xs, H b = some (.tup xs) → H' b = some (.tup xs)
  frzs : ∀ b o u, H b = some (.frz o u) → H' b = some (.frz o u)
  tbls : ∀ b ps, H b = some (.tbl ps) → ∃ more, H' b = some (.tbl (ps ++ more))
section
variable {fs fs' ex ex' : List Addr} {H H1 H2 : Hp} {h h1 h2 h' : Heap} {a x e : Addr} {o : HO}
theorem Un.any (u : Un fs ex H H1 h h1) {b : Addr} {ob : Obj} (q : h.get? b = some ob) (n : H b = none) (hx : b ∉ ex) : ∃ sl, h1.get? b = some { ob with slots := sl } := by
  by_cases hb : b ∈ fs
  · exact u.slot b ob q n hb hx
  · exact ⟨ob.slots, u.keep b ob q n hb hx⟩
theorem Un.trans (a : Un fs ex H H1 h h1) (b : Un fs ex H1 H2 h1 h2) : Un fs ex H H2 h h2 where
  keep := fun c ob q n hc hx => b.keep c ob (a.keep c ob q n hc hx) (a.free c ob q n hx) hc hx
  slot := fun c ob q n hc hx => by
    obtain ⟨sl, e1⟩ := a.slot c ob q n hc hx
    obtain ⟨sl', e2⟩ := b.slot c _ e1 (a.free c ob q n hx) hc hx
    exact ⟨sl', e2⟩
  free := fun c ob q n hx => by
    obtain ⟨o', e1⟩ := a.there c ob q hx
    exact b.free c o' e1 (a.free c ob q n hx) hx
  there := fun c ob q hx => by
    obtain ⟨o', e1⟩ := a.there c ob q hx
    exact b.there c o' e1 hx
  tups := fun c xs q => b.tups c xs (a.tups c xs q)
  frzs := fun c ob xs q => b.frzs c ob xs (a.frzs c ob xs q)
  tbls := fun c ps q => by
    obtain ⟨m1, e1⟩ := a.tbls c ps q
    obtain ⟨m2, e2⟩ := b.tbls c _ e1
    exact ⟨m1 ++ m2, by rw [e2, Array.append_assoc]⟩
theorem Un.kept (k : ∀ b u, h.get? b = some u → h'.get? b = some u) : Un fs ex H H h h' :=
  ⟨fun b ob q _ _ _ => k b ob q, fun b ob q _ _ _ => ⟨ob.slots, k b ob q⟩, fun _ _ _ n _ => n, fun b ob q _ => ⟨ob, k b ob q⟩, fun _ _ q => q, fun _ _ _ q => q, fun _ ps q => ⟨#[], by rw [q]; simp⟩⟩
theorem Un.refl : Un fs ex H H h h := Un.kept fun _ _ q => q
theorem Un.laid (k : ∀ b u, h.get? b = some u → h'.get? b = some u) (hp : h.objs.size ≤ a) (hn : H a = none) : Un fs ex H (upd H a o) h h' where
  keep := fun b u q _ _ _ => k b u q
  slot := fun b u q _ _ _ => ⟨u.slots, k b u q⟩
  free := fun b u q n _ => by rw [upd_ne (Nat.ne_of_lt (Nat.lt_of_lt_of_le (Heap.lt_size q) hp))]; exact n
  there := fun b u q _ => ⟨u, k b u q⟩
  tups := fun b xs q => by rw [upd_ne (ne_of_none q hn)]; exact q
  frzs := fun b u xs q => by rw [upd_ne (ne_of_none q hn)]; exact q
  tbls := fun b ps q => ⟨#[], by rw [upd_ne (ne_of_none q hn), q]; simp⟩
theorem Un.write (mu : Mut (H x)) (he : e = x ∨ H e = some (.own x)) (k : ∀ b u, b ≠ e → h.get? b = some u → h'.get? b = some u) (heo : ∃ u, h'.get? e = some u) : Un fs ex H (upd H x o) h h' := by
  have hx : ∀ b, H b = none → b ≠ x := fun b n z => by subst z; rw [n] at mu; exact mu
  have hb : ∀ b, H b = none → b ≠ e := fun b n z => by
    subst z
    rcases he with r | r
    · exact hx b n r
    · rw [n] at r; cases r
  have hm : ∀ b u, H b = some u → ¬ Mut (some u) → b ≠ x := fun b u q nm z => by subst z; rw [q] at mu; exact nm mu
  refine ⟨fun b u q n _ _ => k b u (hb b n) q, fun b u q n _ _ => ⟨u.slots, k b u (hb b n) q⟩, fun b u q n _ => by rw [upd_ne (hx b n)]; exact n, fun b u q _ => ?_,
    fun b xs q => by rw [upd_ne (hm b _ q fun z => z)]; exact q, fun b u xs q => by rw [upd_ne (hm b _ q fun z => z)]; exact q, fun b ps q => ⟨#[], by rw [upd_ne (hm b _ q fun z => z), q]; simp⟩⟩
  by_cases hbe : b = e
  · subst hbe; exact heo
  · exact ⟨u, k b u hbe q⟩
theorem Un.mono (u : Un fs ex H H1 h h1) (hs : ∀ b ∈ fs, b ∈ fs') (hx : ∀ b ∈ ex, b ∈ ex') : Un fs' ex' H H1 h h1 :=
  ⟨fun b ob q n hb he => u.keep b ob q n (fun z => hb (hs b z)) fun z => he (hx b z), fun _ _ q n _ he => u.any q n fun z => he (hx _ z), fun b ob q n he => u.free b ob q n fun z => he (hx b z), fun b ob q he => u.there b ob q fun z => he (hx b z), u.tups, u.frzs, u.tbls⟩
end
def trk (h : Heap) (H : Hp) : List Addr := (List.range h.objs.size).filter fun a => (H a).isSome
def hidT (h : Heap) (H : Hp) : Heap := PySem.W.hideAll h (trk h H)
theorem hidT_size (h : Heap) (H : Hp) : (hidT h H).objs.size = h.objs.size := PySem.W.hideAll_size _ _
theorem hidT_get {h : Heap} {H : Hp} {b : Addr} {o : Obj} (e : h.get? b = some o) (n : H b = none) : (hidT h H).get? b = some o :=
  PySem.W.hideAll_get _ e fun hm => by
    have q : (H b).isSome = true := (List.mem_filter.mp hm).2
    rw [n] at q; simp at q
theorem of_hidT {h : Heap} {H : Hp} {b : Addr} {o : Obj} (e : (hidT h H).get? b = some o) : h.get? b = some o ∧ H b = none := by
  have e' : h.get? b = some o := PySem.W.of_hideAll (trk h H) e
  refine ⟨e', ?_⟩
  cases q : H b with
  | none => rfl
  | some x =>
    have hm : b ∈ trk h H := List.mem_filter.mpr ⟨List.mem_range.mpr (Heap.lt_size e'), by simp [q]⟩
    have z : (hidT h H).get? b = none := PySem.W.hideAll_none (trk h H) hm
    rw [z] at e; cases e
def allNews (g h : Heap) (L : Addr) : List (Addr × Obj) := (List.range h.objs.size).filterMap fun a => if a = L ∨ (g.get? a).isSome = true then none else (h.get? a).map fun o => (a, o)
def rest (g h : Heap) (L d : Addr) : List (Addr × Obj) := (allNews g h L).filter fun p => decide (p.1 ≠ d)
end L2
namespace L2
open PySem PySem.Spec PyProof.Rows
structure Mod (K : PySem.W.Frag) (mg : Str → Option Value) (base : Heap) : Prop where
  kin : K.In base
  glob : base.Ns mainGlobals mg
  blt : ∃ mb, base.Ns builtinsNs mb ∧ ∀ x : Str, x ≠ "__name__" → mb x = bootBuiltins x
  nolimit : base.NoLimit
/- the context: a def's body (or a comprehension's block) running. base: fixed through the whole law; s₀, H₀: the entry; outer: the frames whose slots others may change (a def's callers); stack: all frames that run;
   ex: iterators that were made ahead of the entry and are walked here (a comprehension's); fn: the names whose cells were made at the entry (a def: all; a comprehension's block: its own); calm: not within an except suite; pn: pins that every state bears; xe: what is wanted of an exception that leaves the code -/
set_option genInjectivity false in
set_option genSizeOfSpec false in
set_option genSizeOf false in
structure Cx where
  prog : Program
  w : World
  K : PySem.W.Frag
  mg : Str → Option Value
  base : Heap
  A : Around
  N : List Str
  s₀ : Shared
  H₀ : Hp
  env : Env
  outer : List Env
  stack : List Env
  ex : List Addr
  fn : Str → Bool
  calm : Bool
  pn : List (Addr × Obj)
  xe : Value → Shared → Prop
def frs (l : List Env) : List Addr := l.filterMap (·.frame)
abbrev Cx.fs (X : Cx) : List Addr := frs X.outer
def Vis (sc : Scope) (x : Str) : Prop := sc.names.lookup x = some .local ∨ sc.names.lookup x = some .cell ∨ sc.names.lookup x = some .free
def Loc (sc : Scope) (x : Str) : Prop := sc.names.lookup x = some .local ∨ sc.names.lookup x = some .cell
def Look (env : Env) (h : Heap) (m : Str → Option Value) (x : Str) (u : Value) : Prop :=
  (env.kindOf x = some .local ∧ m x = some u) ∨ ((env.kindOf x = some .cell ∨ env.kindOf x = some .free) ∧ ∃ c, env.cells.lookup x = some c ∧ h.IsCell c (some u))
structure Cx.Ok (X : Cx) : Prop where
  mod : Mod X.K X.mg X.base
  kind : X.env.scope.kind = .function
  glob : X.env.globals = mainGlobals
  blt : X.env.builtins = builtinsNs
  above : X.s₀.heap.objs.size ≤ X.env.locals
  inj : ∀ x y c, X.env.cells.lookup x = some c → X.env.cells.lookup y = some c → x = y
  has : ∀ x, (X.env.kindOf x = some .cell ∨ X.env.kindOf x = some .free) → ∃ c, X.env.cells.lookup x = some c
  cab : ∀ x c, X.fn x = true → X.env.cells.lookup x = some c → X.s₀.heap.objs.size ≤ c
  hd : X.calm = true → X.A.handled = none
  frames : X.A.frames = some X.stack
  stk : X.stack = X.outer ∨ (X.stack = X.env :: X.outer ∧ X.env.frame = some X.env.locals)
  exf : ∀ b ∈ X.ex, b ≠ X.env.locals ∧ ∀ x c, X.env.cells.lookup x = some c → c ≠ b
  bs : ∀ b o, X.base.get? b = some o → X.s₀.heap.get? b = some o ∧ X.H₀ b = none
  bsz : X.base.objs.size ≤ X.s₀.heap.objs.size
  noex : ∀ b o, X.base.get? b = some o → b ∉ X.ex
  exfs : ∀ b ∈ X.ex, b ∉ X.fs
  funs : X.s₀.heap.FunFrames X.base X.outer
  frf : ∀ b ∈ X.fs, X.H₀ b = none
structure Inv (X : Cx) (pins : List (Addr × Obj)) (σ : List (Option V)) (H : Hp) (s : Shared) : Prop where
  ok : X.Ok
  os : s.os = X.s₀.os
  bare : AllBare s.gens
  base : Un X.fs X.ex X.H₀ H X.s₀.heap s.heap
  loc : ∃ m, s.heap.Ns X.env.locals m ∧ ∀ (i : Nat) (x : Str) (v : V), X.N[i]? = some x → σ[i]? = some (some v) → Vis X.env.scope x → ∃ u, RelV v u ∧ Look X.env s.heap m x u
  cell : ∀ x c, X.env.cells.lookup x = some c → ∃ v, s.heap.IsCell c v
  free : H X.env.locals = none
  freeC : ∀ x c, X.env.cells.lookup x = some c → H c = none
  pin : ∀ p ∈ X.pn ++ pins, s.heap.get? p.1 = some p.2 ∧ H p.1 = none ∧ p.1 ≠ X.env.locals ∧ p.1 ∉ X.fs ∧ ∀ v, p.2.data ≠ .cell v
  hok : HOk X.prog X.w H s.heap
  len : σ.length = X.N.length
section
variable {X : Cx} {pins : List (Addr × Obj)} {σ : List (Option V)} {H H' : Hp} {s : Shared} {h' : Heap}
theorem Cx.Ok.nofr (ok : X.Ok) {b : Addr} {o : Obj} (e : X.base.get? b = some o) : b ∉ X.fs := fun hb => by
  have := (ok.funs.mem hb).1
  rw [e] at this; cases this
theorem Inv.bs (I : Inv X pins σ H s) : ∀ b o, X.base.get? b = some o → s.heap.get? b = some o ∧ H b = none := fun b o e =>
  ⟨I.base.keep b o (I.ok.bs b o e).1 (I.ok.bs b o e).2 (I.ok.nofr e) (I.ok.noex b o e), I.base.free b o (I.ok.bs b o e).1 (I.ok.bs b o e).2 (I.ok.noex b o e)⟩
theorem Inv.bk (I : Inv X pins σ H s) : ∀ b o, X.base.get? b = some o → s.heap.get? b = some o := fun b o e => (I.bs b o e).1
theorem Inv.mod (I : Inv X pins σ H s) : Mod X.K X.mg X.base := I.ok.mod
theorem Inv.kIn (I : Inv X pins σ H s) : X.K.In s.heap := I.ok.mod.kin.keeps I.bk
theorem Inv.nolimit (I : Inv X pins σ H s) : s.heap.NoLimit := I.ok.mod.nolimit.keeps I.bk
theorem Inv.lt (I : Inv X pins σ H s) : X.env.locals < s.heap.objs.size := let ⟨_, hn, _⟩ := I.loc; hn.lt
theorem Inv.sz (I : Inv X pins σ H s) : X.s₀.heap.objs.size ≤ s.heap.objs.size := Nat.le_trans I.ok.above (Nat.le_of_lt I.lt)
theorem Inv.nofs (I : Inv X pins σ H s) {a : Addr} (h : s.heap.objs.size ≤ a) : a ∉ X.fs := fun hb => by
  obtain ⟨_, o, ho, _⟩ := I.ok.funs.mem hb
  exact absurd (Nat.lt_of_lt_of_le (Heap.lt_size ho) (Nat.le_trans I.sz h)) (Nat.lt_irrefl _)
theorem Inv.cne (I : Inv X pins σ H s) : ∀ x c, X.env.cells.lookup x = some c → c ≠ X.env.locals := fun x c e z => by
  obtain ⟨v, o, ho, hd⟩ := I.cell x c e
  obtain ⟨m, ⟨o', es, ep, ho', hd', _⟩, _⟩ := I.loc
  rw [z, ho'] at ho; cases ho; rw [hd'] at hd; cases hd
theorem Inv.funs (I : Inv X pins σ H s) : s.heap.FunFrames X.base X.outer := by
  have all : ∀ (l : List Env), (∀ b ∈ frs l, b ∈ X.fs) → X.s₀.heap.FunFrames X.base l → s.heap.FunFrames X.base l := by
    intro l
    induction l with
    | nil => intro _ _; trivial
    | cons env r ih =>
      intro hs hl
      obtain ⟨hk, ⟨L, o, hf, hn, ho, hd⟩, hr⟩ := hl
      have hL : L ∈ X.fs := hs L (by unfold frs; rw [List.filterMap_cons, hf]; exact List.mem_cons_self)
      obtain ⟨sl, e⟩ := I.base.slot L o ho (I.ok.frf L hL) hL fun z => I.ok.exfs L z hL
      exact ⟨hk, ⟨L, _, hf, hn, e, hd⟩, ih (fun b hb => hs b (by unfold frs; rw [List.filterMap_cons, hf]; exact List.mem_cons_of_mem _ hb)) hr⟩
  exact all X.outer (fun _ hb => hb) I.ok.funs
theorem Inv.stack (I : Inv X pins σ H s) : s.heap.FunFrames X.base X.stack := by
  rcases I.ok.stk with e | ⟨e, hf⟩
  · rw [e]; exact I.funs
  · rw [e]
    obtain ⟨m, hn, _⟩ := I.loc
    refine .cons (by rw [I.ok.kind]; decide) hf hn ?_ I.funs
    exact Heap.get?_none_of_le (Nat.le_trans I.ok.bsz I.ok.above)
theorem Inv.stkSub (I : Inv X pins σ H s) : ∀ b ∈ frs X.stack, b ∈ X.env.locals :: X.fs := fun b hb => by
  rcases I.ok.stk with e | ⟨e, hf⟩
  · rw [e] at hb; exact List.mem_cons_of_mem _ hb
  · rw [e] at hb
    unfold frs at hb
    rw [List.filterMap_cons, hf] at hb
    exact hb
theorem Inv.stkFree (I : Inv X pins σ H s) : ∀ b ∈ frs X.stack, H b = none := fun b hb => by
  rcases List.mem_cons.mp (I.stkSub b hb) with e | hb
  · rw [e]; exact I.free
  · obtain ⟨_, o, ho, _⟩ := I.ok.funs.mem hb
    exact I.base.free b o ho (I.ok.frf b hb) fun z => I.ok.exfs b z hb
theorem Inv.step {g' : Array GenState} {t' : Nat} {d' : Drawn} {ch : List Addr} (I : Inv X pins σ H s)
    (hch : ∀ b ∈ ch, (b ∈ X.ex ∨ X.s₀.heap.objs.size ≤ b) ∧ b ≠ X.env.locals ∧ (∀ x c, X.env.cells.lookup x = some c → c ≠ b) ∧ ∀ p ∈ X.pn ++ pins, p.1 ≠ b)
    (keep : ∀ b o, b ≠ X.env.locals → b ∉ X.fs → b ∉ ch → s.heap.get? b = some o → H b = none → h'.get? b = some o)
    (slot : ∀ b o, b ≠ X.env.locals → b ∈ X.fs → b ∉ ch → s.heap.get? b = some o → H b = none → ∃ sl, h'.get? b = some { o with slots := sl }) (free : ∀ b o, b ∉ ch → s.heap.get? b = some o → H b = none → H' b = none)
    (there : ∀ b o, b ∉ ch → s.heap.get? b = some o → ∃ o', h'.get? b = some o')
    (tups : ∀ b xs, H b = some (.tup xs) → H' b = some (.tup xs)) (frzs : ∀ b o u, H b = some (.frz o u) → H' b = some (.frz o u)) (tbls : ∀ b ps, H b = some (.tbl ps) → ∃ more, H' b = some (.tbl (ps ++ more)))
    (ns : ∀ m, s.heap.Ns X.env.locals m → h'.Ns X.env.locals m) (hok : HOk X.prog X.w H' h') (hg : AllBare g') :
    Inv X pins σ H' { s with heap := h', gens := g', drawn := d', toks := t' } := by
  have neL : ∀ b o, X.s₀.heap.get? b = some o → b ≠ X.env.locals := fun b o e => Nat.ne_of_lt (Nat.lt_of_lt_of_le (Heap.lt_size e) I.ok.above)
  have neC : ∀ b o, X.s₀.heap.get? b = some o → b ∉ X.ex → b ∉ ch := fun b o e hx hb => by
    rcases (hch b hb).1 with z | z
    · exact hx z
    · exact absurd (Nat.lt_of_lt_of_le (Heap.lt_size e) z) (Nat.lt_irrefl _)
  have cellK : ∀ x c, X.env.cells.lookup x = some c → ∀ v, s.heap.IsCell c v → h'.IsCell c v := fun x c e v ⟨o, ho, hd⟩ => by
    have nch : c ∉ ch := fun z => (hch c z).2.2.1 x c e rfl
    by_cases hc : c ∈ X.fs
    · obtain ⟨sl, q⟩ := slot c o (I.cne x c e) hc nch ho (I.freeC x c e)
      exact ⟨_, q, hd⟩
    · exact ⟨o, keep c o (I.cne x c e) hc nch ho (I.freeC x c e), hd⟩
  refine ⟨I.ok, I.os, hg, ⟨fun b o e n hb hx => ?_, fun b o e n hb hx => ?_, fun b o e n hx => ?_, fun b o e hx => ?_, fun b xs e => tups b xs (I.base.tups b xs e), fun b o xs e => frzs b o xs (I.base.frzs b o xs e), fun b ps e => ?_⟩, ?_, fun x c e => ?_, ?_, fun x c e => ?_, fun p hp => ?_, hok, I.len⟩
  · exact keep b o (neL b o e) hb (neC b o e hx) (I.base.keep b o e n hb hx) (I.base.free b o e n hx)
  · obtain ⟨sl, e1⟩ := I.base.slot b o e n hb hx
    obtain ⟨sl', e2⟩ := slot b _ (neL b o e) hb (neC b o e hx) e1 (I.base.free b o e n hx)
    exact ⟨sl', e2⟩
  · obtain ⟨o', e1⟩ := I.base.there b o e hx
    exact free b o' (neC b o e hx) e1 (I.base.free b o e n hx)
  · obtain ⟨o', e1⟩ := I.base.there b o e hx
    exact there b o' (neC b o e hx) e1
  · obtain ⟨m1, e1⟩ := I.base.tbls b ps e
    obtain ⟨m2, e2⟩ := tbls b _ e1
    exact ⟨m1 ++ m2, by rw [e2, Array.append_assoc]⟩
  · obtain ⟨m, hn, hl⟩ := I.loc
    refine ⟨m, ns m hn, fun i x v e1 e2 e3 => ?_⟩
    obtain ⟨u, r, l⟩ := hl i x v e1 e2 e3
    refine ⟨u, r, ?_⟩
    rcases l with l | ⟨k, c, e, z⟩
    · exact .inl l
    · exact .inr ⟨k, c, e, cellK x c e _ z⟩
  · obtain ⟨v, z⟩ := I.cell x c e
    exact ⟨v, cellK x c e v z⟩
  · obtain ⟨m, ⟨o, _, _, ho, _⟩, _⟩ := I.loc
    exact free _ o (fun z => (hch _ z).2.1 rfl) ho I.free
  · obtain ⟨v, o, ho, hd⟩ := I.cell x c e
    exact free c o (fun z => (hch c z).2.2.1 x c e rfl) ho (I.freeC x c e)
  · obtain ⟨e, n, ne, nf, d⟩ := I.pin p hp
    have nch : p.1 ∉ ch := fun z => (hch p.1 z).2.2.2 p hp rfl
    exact ⟨keep p.1 p.2 ne nf nch e n, free p.1 p.2 nch e n, ne, nf, d⟩
theorem Inv.un {t' : Nat} (I : Inv X pins σ H s) (u : Un X.fs [] H H' s.heap h') (hok : HOk X.prog X.w H' h') : Inv X pins σ H' { s with heap := h', toks := t' } := by
  obtain ⟨m, ⟨o, es, ep, ho, r⟩, _⟩ := id I.loc
  obtain ⟨sl, hL⟩ := u.any ho I.free (by simp)
  exact I.step (g' := s.gens) (d' := s.drawn) (ch := []) (fun _ z => nomatch z) (fun b o _ hb _ e n => u.keep b o e n hb (by simp)) (fun b o _ hb _ e n => u.slot b o e n hb (by simp)) (fun b o _ e n => u.free b o e n (by simp)) (fun b o _ e => u.there b o e (by simp)) u.tups u.frzs u.tbls (fun m' hm => by
    obtain ⟨o', es', ep', ho', r'⟩ := hm
    rw [ho] at ho'; cases ho'
    exact ⟨_, es', ep', hL, r'⟩) hok I.bare
theorem Inv.call {g' : Array GenState} {t' : Nat} {d' : Drawn} {ch : List Addr} (I : Inv X pins σ H s) (u : Un (frs X.stack) ch H H' s.heap h') (hok : HOk X.prog X.w H' h') (hg : AllBare g')
    (hch : ∀ b ∈ ch, (b ∈ X.ex ∨ X.s₀.heap.objs.size ≤ b) ∧ b ≠ X.env.locals ∧ (∀ x c, X.env.cells.lookup x = some c → c ≠ b) ∧ ∀ p ∈ X.pn ++ pins, p.1 ≠ b) :
    Inv X pins σ H' { s with heap := h', gens := g', drawn := d', toks := t' } := by
  obtain ⟨m, ⟨o, es, ep, ho, r⟩, _⟩ := id I.loc
  obtain ⟨sl, hL⟩ := u.any ho I.free fun z => (hch _ z).2.1 rfl
  exact I.step (ch := ch) hch (fun b o hL hb hc e n => u.keep b o e n (fun z => (List.mem_cons.mp (I.stkSub b z)).elim hL hb) hc) (fun b o _ _ hc e n => u.any e n hc) (fun b o hc e n => u.free b o e n hc) (fun b o hc e => u.there b o e hc) u.tups u.frzs u.tbls (fun m' hm => by
    obtain ⟨o', es', ep', ho', r'⟩ := hm
    rw [ho] at ho'; cases ho'
    exact ⟨_, es', ep', hL, r'⟩) hok hg
theorem Inv.turned {t' : Nat} {it : Addr} (I : Inv X pins σ H s) (k : ∀ b o, b ≠ it → s.heap.get? b = some o → h'.get? b = some o) (hn : H it = none) (hL : it ≠ X.env.locals)
    (h1 : it ∈ X.ex ∨ X.s₀.heap.objs.size ≤ it) (h2 : ∀ x c, X.env.cells.lookup x = some c → c ≠ it) (h3 : ∀ p ∈ X.pn ++ pins, p.1 ≠ it) : Inv X pins σ H { s with heap := h', toks := t' } := by
  have nit : ∀ b u, H b = some u → b ≠ it := fun b u e z => by rw [z, hn] at e; cases e
  refine I.step (g' := s.gens) (d' := s.drawn) (ch := [it]) (fun b hb => ?_) (fun b o _ _ hc e _ => k b o (fun z => hc (by simp [z])) e) (fun b o _ _ hc e _ => ⟨o.slots, k b o (fun z => hc (by simp [z])) e⟩) (fun _ _ _ _ n => n)
    (fun b o hc e => ⟨o, k b o (fun z => hc (by simp [z])) e⟩) (fun _ _ e => e) (fun _ _ _ e => e) (fun b ps e => ⟨#[], by rw [e]; simp⟩) (fun m hm => ?_) (fun b u e => ?_) I.bare
  · have e : b = it := by simpa using hb
    subst e
    exact ⟨h1, hL, h2, h3⟩
  · obtain ⟨o, es, ep, ho, r⟩ := hm
    exact ⟨o, es, ep, k _ o (Ne.symm hL) ho, r⟩
  · refine (I.hok b u e).stay (fun c v hc q => k c v ?_ q) (fun _ q => q) fun _ _ q => q
    rcases hc with z | z
    · rw [z]; exact nit b u e
    · exact nit c _ z
theorem Inv.tok (I : Inv X pins σ H s) (t : Nat) : Inv X pins σ H { s with toks := t } := I.un (h' := s.heap) (t' := t) Un.refl I.hok
theorem Inv.kept {t' : Nat} (I : Inv X pins σ H s) (k : ∀ b u, s.heap.get? b = some u → h'.get? b = some u) : Inv X pins σ H { s with heap := h', toks := t' } := I.un (Un.kept k) (I.hok.kept k)
theorem Inv.laid {a : Addr} {o : HO} {t' : Nat} (I : Inv X pins σ H s) (k : ∀ b u, s.heap.get? b = some u → h'.get? b = some u) (hp : s.heap.objs.size ≤ a) (new : ObjOk X.prog X.w (upd H a o) h' a o) :
    Inv X pins σ (upd H a o) { s with heap := h', toks := t' } := I.un (Un.laid k hp (I.hok.fresh hp)) (I.hok.laid k hp new)
theorem Inv.write {x e : Addr} {o : HO} {t' : Nat} (I : Inv X pins σ H s) (mu : Mut (H x)) (he : e = x ∨ H e = some (.own x)) (k : ∀ b u, b ≠ e → s.heap.get? b = some u → h'.get? b = some u) (heo : ∃ u, h'.get? e = some u)
    (new : ObjOk X.prog X.w (upd H x o) h' x o) : Inv X pins σ (upd H x o) { s with heap := h', toks := t' } := I.un (Un.write mu he k heo) (I.hok.write mu he k heo new)
theorem Inv.pins_of {pins' : List (Addr × Obj)} (I : Inv X pins σ H s) (h : ∀ p ∈ pins', s.heap.get? p.1 = some p.2 ∧ H p.1 = none ∧ p.1 ≠ X.env.locals ∧ p.1 ∉ X.fs ∧ ∀ v, p.2.data ≠ .cell v) : Inv X pins' σ H s :=
  ⟨I.ok, I.os, I.bare, I.base, I.loc, I.cell, I.free, I.freeC, fun p hp => (List.mem_append.mp hp).elim (fun z => I.pin p (List.mem_append_left _ z)) (h p), I.hok, I.len⟩
theorem nodup_ix {N : List Str} (hN : N.Nodup) {i j : Nat} {x : Str} (a : N[i]? = some x) (b : N[j]? = some x) : i = j := by
  obtain ⟨h1, e1⟩ := List.getElem?_eq_some_iff.mp a
  obtain ⟨h2, e2⟩ := List.getElem?_eq_some_iff.mp b
  exact (List.getElem_inj hN).mp (e1.trans e2.symm)
theorem store_ok2 {M : Model} {A : Around} {E : Value → Shared → Prop} {i : Nat} {x : Str} {v : V} {u : Value} {Q : Unit → Shared → Prop} (I : Inv X pins σ H s) (hN : X.N.Nodup) (hi : X.N[i]? = some x) (hx : Loc X.env.scope x) (r : RelV v u)
    (h : ∀ s', Inv X pins (σ.set i (some v)) H s' → (∃ a, Heap.SameBut a s.heap s'.heap ∧ (a = X.env.locals ∨ X.env.cells.lookup x = some a)) → Q () s') (hf : X.fn x = true ∨ X.env.scope.names.lookup x = some .local := by first | exact .inl rfl | exact .inr rfl | assumption) : wpAny M A (storeName X.env x u) Q E s := by
  obtain ⟨m, hn, hl⟩ := id I.loc
  have hcls : (X.env.scope.kind == .class || (X.env.scope.kind == .module && X.env.locals != X.env.globals)) = false := by rw [I.ok.kind]; rfl
  have hiσ : i < σ.length := by rw [I.len]; exact (List.getElem?_eq_some_iff.mp hi).1
  have cne := I.cne
  have tracked : ∀ {a : Addr} {h' : Heap}, (∃ o, s.heap.get? a = some o ∧ H a = none) → Heap.SameBut a s.heap h' → HOk X.prog X.w H h' := fun {a h'} ha hs b ob e => by
    obtain ⟨_, _, hfree⟩ := ha
    refine (I.hok b ob e).stay (fun c w' hc q => (hs.2 c ?_).trans q) (fun _ q => q) fun _ _ q => q
    rintro rfl
    rcases hc with rfl | hc
    · rw [hfree] at e; cases e
    · rw [hfree] at hc; cases hc
  rcases hx with hk | hk
  · refine wpAny_storeName_local hk hn (fun h' hn' hs => ?_) hcls
    obtain ⟨oL, _, _, hoL, _⟩ := id hn
    refine h _ ⟨I.ok, I.os, I.bare, ⟨fun b o e n hb hx => ?_, fun b o e n hb hx => ?_, I.base.free, fun b o e hx => ?_, I.base.tups, I.base.frzs, I.base.tbls⟩, ⟨_, hn', fun j y v' e1 e2 e3 => ?_⟩, fun y c e => ?_, I.free, I.freeC, fun p hp => ?_, tracked ⟨oL, hoL, I.free⟩ hs, by simpa using I.len⟩ ⟨_, hs, .inl rfl⟩
    · exact (hs.2 b (Nat.ne_of_lt (Nat.lt_of_lt_of_le (Heap.lt_size e) I.ok.above))).trans (I.base.keep b o e n hb hx)
    · obtain ⟨sl, e1⟩ := I.base.slot b o e n hb hx
      exact ⟨sl, (hs.2 b (Nat.ne_of_lt (Nat.lt_of_lt_of_le (Heap.lt_size e) I.ok.above))).trans e1⟩
    · obtain ⟨o', e1⟩ := I.base.there b o e hx
      exact ⟨o', (hs.2 b (Nat.ne_of_lt (Nat.lt_of_lt_of_le (Heap.lt_size e) I.ok.above))).trans e1⟩
    · by_cases hj : j = i
      · subst hj
        rw [hi] at e1; cases e1
        rw [List.getElem?_set_self hiσ] at e2
        cases e2
        exact ⟨u, r, .inl ⟨hk, by simp⟩⟩
      · rw [List.getElem?_set_ne (Ne.symm hj)] at e2
        obtain ⟨u', r', q⟩ := hl j y v' e1 e2 e3
        refine ⟨u', r', ?_⟩
        rcases q with ⟨k, e⟩ | ⟨k, c, e, z⟩
        · refine .inl ⟨k, ?_⟩
          have : y ≠ x := fun e => hj (nodup_ix hN e1 (e ▸ hi))
          simp [this, e]
        · exact .inr ⟨k, c, e, z.sameBut hs (cne y c e)⟩
    · obtain ⟨w', z⟩ := I.cell y c e
      exact ⟨w', z.sameBut hs (cne y c e)⟩
    · obtain ⟨e, n, ne, nf, d⟩ := I.pin p hp
      exact ⟨(hs.2 p.1 ne).trans e, n, ne, nf, d⟩
  · have hfn : X.fn x = true := by
      rcases hf with z | z
      · exact z
      · rw [z] at hk; cases hk
    obtain ⟨c, hc⟩ := I.ok.has x (.inl hk)
    obtain ⟨w', z⟩ := I.cell x c hc
    refine wpAny_storeName_cell I.ok.kind hk hc z (fun h' hc' hs => ?_)
    obtain ⟨oc, hoc, hocd⟩ := id z
    refine h { s with heap := h' } ⟨I.ok, I.os, I.bare, ⟨fun b o e n hb hx => ?_, fun b o e n hb hx => ?_, I.base.free, fun b o e hx => ?_, I.base.tups, I.base.frzs, I.base.tbls⟩, ⟨m, hn.sameBut hs (Ne.symm (cne x c hc)), fun j y v' e1 e2 e3 => ?_⟩, fun y c' e => ?_, I.free, I.freeC, fun p hp => ?_, tracked ⟨oc, hoc, I.freeC x c hc⟩ hs, by simpa using I.len⟩ ⟨c, hs, .inr hc⟩
    · exact (hs.2 b (Nat.ne_of_lt (Nat.lt_of_lt_of_le (Heap.lt_size e) (I.ok.cab x c hfn hc)))).trans (I.base.keep b o e n hb hx)
    · obtain ⟨sl, e1⟩ := I.base.slot b o e n hb hx
      exact ⟨sl, (hs.2 b (Nat.ne_of_lt (Nat.lt_of_lt_of_le (Heap.lt_size e) (I.ok.cab x c hfn hc)))).trans e1⟩
    · obtain ⟨o', e1⟩ := I.base.there b o e hx
      exact ⟨o', (hs.2 b (Nat.ne_of_lt (Nat.lt_of_lt_of_le (Heap.lt_size e) (I.ok.cab x c hfn hc)))).trans e1⟩
    · by_cases hj : j = i
      · subst hj
        rw [hi] at e1; cases e1
        rw [List.getElem?_set_self hiσ] at e2
        cases e2
        exact ⟨u, r, .inr ⟨.inl hk, c, hc, hc'⟩⟩
      · rw [List.getElem?_set_ne (Ne.symm hj)] at e2
        obtain ⟨u', r', q⟩ := hl j y v' e1 e2 e3
        refine ⟨u', r', ?_⟩
        rcases q with q | ⟨k, c', e, z'⟩
        · exact .inl q
        · refine .inr ⟨k, c', e, z'.sameBut hs ?_⟩
          rintro rfl
          exact hj (nodup_ix hN e1 (I.ok.inj _ _ _ e hc ▸ hi))
    · by_cases hcc : c' = c
      · subst hcc; exact ⟨_, hc'⟩
      · obtain ⟨w2, z2⟩ := I.cell y c' e
        exact ⟨w2, z2.sameBut hs hcc⟩
    · obtain ⟨e, n, ne, nf, d⟩ := I.pin p hp
      refine ⟨(hs.2 p.1 ?_).trans e, n, ne, nf, d⟩
      intro q
      rw [q, hoc] at e
      have q' : oc = p.2 := Option.some.inj e
      exact d w' (by rw [← q']; exact hocd)
theorem store_ok {M : Model} {A : Around} {E : Value → Shared → Prop} {i : Nat} {x : Str} {v : V} {u : Value} {Q : Unit → Shared → Prop} (I : Inv X pins σ H s) (hN : X.N.Nodup) (hi : X.N[i]? = some x) (hx : Loc X.env.scope x) (r : RelV v u)
    (h : ∀ s', Inv X pins (σ.set i (some v)) H s' → Q () s') (hf : X.fn x = true ∨ X.env.scope.names.lookup x = some .local := by first | exact .inl rfl | exact .inr rfl | assumption) : wpAny M A (storeName X.env x u) Q E s :=
  store_ok2 I hN hi hx r (fun s' I' _ => h s' I') hf
theorem Inv.call' {s' : Shared} {ch : List Addr} (I : Inv X pins σ H s) (ho : s'.os = s.os) (u : Un (frs X.stack) ch H H' s.heap s'.heap) (hok : HOk X.prog X.w H' s'.heap) (hg : AllBare s'.gens)
    (hch : ∀ b ∈ ch, (b ∈ X.ex ∨ X.s₀.heap.objs.size ≤ b) ∧ b ≠ X.env.locals ∧ (∀ x c, X.env.cells.lookup x = some c → c ≠ b) ∧ ∀ p ∈ X.pn ++ pins, p.1 ≠ b) : Inv X pins σ H' s' := by
  obtain ⟨h', g', d', t', o'⟩ := s'
  have e : o' = s.os := ho
  subst e
  exact I.call (g' := g') (t' := t') (d' := d') u hok hg hch
end
abbrev XK := Value → Option Addr → Hp → Prop
abbrev St := List (Option V)
abbrev VK := V → Hp → Prop
abbrev TE := St → Hp → VK → Prop
abbrev TT := St → Hp → (Bool → Hp → Prop) → Prop
abbrev TA := St → Hp → (List V → Hp → Prop) → Prop
/- what is wanted behind a statement -/
set_option genInjectivity false in
set_option genSizeOfSpec false in
set_option genSizeOf false in
structure Ends where
  nx : St → Hp → Prop
  rt : VK
  bk : St → Hp → Prop := fun _ _ => False
  ct : St → Hp → Prop := fun _ _ => False
abbrev TS := Ends → St → Hp → Prop
def EP (X : Cx) (pins : List (Addr × Obj)) (σ : St) (Q : VK) (u : Value) (s' : Shared) : Prop := ∃ v H', Inv X pins σ H' s' ∧ RelV v u ∧ Q v H'
def TP (X : Cx) (pins : List (Addr × Obj)) (σ : St) (Q : Bool → Hp → Prop) (b : Bool) (s' : Shared) : Prop := ∃ H', Inv X pins σ H' s' ∧ Q b H'
def AP (X : Cx) (pins : List (Addr × Obj)) (σ : St) (Q : List V → Hp → Prop) (us : List Value) (s' : Shared) : Prop := ∃ vs H', Inv X pins σ H' s' ∧ Vals vs us ∧ Q vs H'
def SP (X : Cx) (pins : List (Addr × Obj)) (D : Ends) (f : Flow) (s' : Shared) : Prop :=
  match f with
  | .next => ∃ σ' H', Inv X pins σ' H' s' ∧ D.nx σ' H'
  | .brk => ∃ σ' H', Inv X pins σ' H' s' ∧ D.bk σ' H'
  | .cont => ∃ σ' H', Inv X pins σ' H' s' ∧ D.ct σ' H'
  | .ret u => ∃ v σ' H', Inv X pins σ' H' s' ∧ RelV v u ∧ D.rt v H'
@[irreducible] def PE (X : Cx) (e : Expr) (t : TE) : Prop :=
  ∀ (pins : List (Addr × Obj)) (s : Shared) (σ : St) (H : Hp) (Q : VK), Inv X pins σ H s → t σ H Q → wpAny (model X.prog X.w) X.A (eval e X.env) (EP X pins σ Q) X.xe s
@[irreducible] def PT (X : Cx) (e : Expr) (t : TT) : Prop :=
  ∀ (pins : List (Addr × Obj)) (s : Shared) (σ : St) (H : Hp) (Q : Bool → Hp → Prop), Inv X pins σ H s → t σ H Q → wpAny (model X.prog X.w) X.A (isTrue e X.env (eval e X.env)) (TP X pins σ Q) X.xe s
@[irreducible] def PW (X : Cx) (e : Expr) (t : TT) : Prop :=
  ∀ (whole : Sem Value) (pins : List (Addr × Obj)) (s : Shared) (σ : St) (H : Hp) (Q : Bool → Hp → Prop), Inv X pins σ H s → t σ H Q → wpAny (model X.prog X.w) X.A (isTrue e X.env whole) (TP X pins σ Q) X.xe s
theorem PW.pt {X : Cx} {e : Expr} {t : TT} (h : PW X e t) : PT X e t := by
  first
  | exact (h _)
  | (unfold PT at *; unfold PW at *; exact (h _))
@[irreducible] def PA (X : Cx) (es : List Expr) (t : TA) : Prop :=
  ∀ (pos : Pos) (pins : List (Addr × Obj)) (s : Shared) (σ : St) (H : Hp) (Q : List V → Hp → Prop), Inv X pins σ H s → t σ H Q → wpAny (model X.prog X.w) X.A (spliced (backTo pos (starEach es X.env))) (AP X pins σ Q) X.xe s
@[irreducible] def PS (X : Cx) (st : Stmt) (t : TS) : Prop :=
  ∀ (pins : List (Addr × Obj)) (s : Shared) (σ : St) (H : Hp) (D : Ends), Inv X pins σ H s → t D σ H → wpAny (model X.prog X.w) X.A (exec st X.env) (SP X pins D) X.xe s
@[irreducible] def PSs (X : Cx) (st : List Stmt) (t : TS) : Prop :=
  ∀ (pins : List (Addr × Obj)) (s : Shared) (σ : St) (H : Hp) (D : Ends), Inv X pins σ H s → t D σ H → wpAny (model X.prog X.w) X.A (execs st X.env) (SP X pins D) X.xe s
theorem thn {α : Type} {t : Sem α} {Q Q' : α → Shared → Prop} {M : Model} {A : Around} {E : Value → Shared → Prop} {s : Shared} (h : wpAny M A t Q E s) (hQ : ∀ a s, Q a s → Q' a s) : wpAny M A t Q' E s := wpAny_mono h hQ fun _ _ x => x
end L2
namespace L2
open PySem PySem.Spec PyProof.Rows
section
variable {X : Cx}
def tVar (i : Nat) : TE := fun σ H Q => ∃ v, σ[i]? = some (some v) ∧ Q v H
def tC (v : V) : TE := fun _ H Q => Q v H
theorem pe_var {i : Nat} {x : Str} {pos : Pos} (hN : X.N[i]? = some x) (hv : Vis X.env.scope x) (hd : (x == ("__debug__" : Str)) = false := by decide) (hcd : (x == ("__classdict__" : Str)) = false := by decide) : PE X (.Name x pos) (tVar i) := by
  unfold PE at *
  exact by
    intro pins s σ H Q I h
    obtain ⟨v, e, h⟩ := h
    obtain ⟨m, hn, hl⟩ := I.loc
    obtain ⟨u, r, l⟩ := hl i x v hN e hv
    have fin : EP X pins σ Q u s := ⟨v, H, I, r, h⟩
    rcases l with ⟨hk, hm⟩ | ⟨hk, c, hc, hcell⟩
    · exact wpAny_Name (wpAny_loadName_local I.ok.kind hk hn hm fin) hd
    · rcases hk with hk | hk
      · exact wpAny_Name (wpAny_loadName_cell I.ok.kind hk hc hcell fin) hd
      · exact wpAny_Name (wpAny_loadName_free I.ok.kind hk hc hcell fin hcd) hd
theorem pe_int {i j pos} : PE X (.Constant (.int i) j pos) (tC (.int i)) := by
  first
  | exact (fun _ _ _ H _ I h => wpAny_Constant_int ⟨.int i, H, I.tok _, ⟨_, rfl⟩, h⟩)
  | (unfold PE at *; exact (fun _ _ _ H _ I h => wpAny_Constant_int ⟨.int i, H, I.tok _, ⟨_, rfl⟩, h⟩))
theorem pe_bl {b j pos} : PE X (.Constant (.bool b) j pos) (tC (.bl b)) := by
  first
  | exact (fun _ _ _ H _ I h => Constant_bool ⟨.bl b, H, I, rfl, h⟩)
  | (unfold PE at *; exact (fun _ _ _ H _ I h => Constant_bool ⟨.bl b, H, I, rfl, h⟩))
theorem pe_non {j pos} : PE X (.Constant .none j pos) (tC .non) := by
  first
  | exact (fun _ _ _ H _ I h => Constant_none ⟨.non, H, I, rfl, h⟩)
  | (unfold PE at *; exact (fun _ _ _ H _ I h => Constant_none ⟨.non, H, I, rfl, h⟩))
theorem pe_str {x j pos} : PE X (.Constant (.str x) j pos) (tC (.str x)) := by
  first
  | exact (fun _ _ _ H _ I h => Calls.Constant_str ⟨.str x, H, I.tok _, ⟨_, rfl⟩, h⟩)
  | (unfold PE at *; exact (fun _ _ _ H _ I h => Calls.Constant_str ⟨.str x, H, I.tok _, ⟨_, rfl⟩, h⟩))
def Gl (X : Cx) (x : Str) : Prop := X.env.kindOf x = some .globalImplicit
theorem ld_glob {E : Value → Shared → Prop} {pins : List (Addr × Obj)} {s : Shared} {σ : St} {H : Hp} {x : Str} {u : Value} {pos : Pos} {Q : Value → Shared → Prop} (I : Inv X pins σ H s) (hg : Gl X x) (hm : X.mg x = some u) (h : Q u s)
    (hd : (x == ("__debug__" : Str)) = false := by decide) : wpAny (model X.prog X.w) X.A (eval (.Name x pos) X.env) Q E s :=
  Calls.Name_function_global I.ok.kind hg (Calls.loadGlobal_global (by rw [I.ok.glob]; exact I.mod.glob.keeps I.bk) hm h) hd
theorem ld_blt {E : Value → Shared → Prop} {pins : List (Addr × Obj)} {s : Shared} {σ : St} {H : Hp} {x : Str} {u : Value} {pos : Pos} {Q : Value → Shared → Prop} (I : Inv X pins σ H s) (hg : Gl X x) (hm : X.mg x = none) (hv : bootBuiltins x = some u) (h : Q u s)
    (hn : x ≠ "__name__" := by decide) (hd : (x == ("__debug__" : Str)) = false := by decide) : wpAny (model X.prog X.w) X.A (eval (.Name x pos) X.env) Q E s := by
  obtain ⟨mb, h1, h2⟩ := I.mod.blt
  exact Calls.Name_function_global I.ok.kind hg (Calls.loadGlobal_builtin (by rw [I.ok.glob]; exact I.mod.glob.keeps I.bk) hm (by rw [I.ok.blt]; exact h1.keeps I.bk) ((h2 x hn).trans hv) h) hd
theorem pe_glob {x : Str} {v : V} {u : Value} {pos : Pos} (hg : Gl X x) (hm : X.mg x = some u) (r : RelV v u) (hd : (x == ("__debug__" : Str)) = false := by decide) : PE X (.Name x pos) (tC v) := by
  first
  | exact (fun _ _ _ H _ I h => ld_glob I hg hm ⟨v, H, I, r, h⟩ hd)
  | (unfold PE at *; exact (fun _ _ _ H _ I h => ld_glob I hg hm ⟨v, H, I, r, h⟩ hd))
theorem pe_bltn {x : Str} {v : V} {u : Value} {pos : Pos} (hg : Gl X x) (hm : X.mg x = none) (hv : bootBuiltins x = some u) (r : RelV v u) (hn : x ≠ "__name__" := by decide) (hd : (x == ("__debug__" : Str)) = false := by decide) : PE X (.Name x pos) (tC v) := by
  first
  | exact (fun _ _ _ H _ I h => ld_blt I hg hm hv ⟨v, H, I, r, h⟩ hn hd)
  | (unfold PE at *; exact (fun _ _ _ H _ I h => ld_blt I hg hm hv ⟨v, H, I, r, h⟩ hn hd))
variable {a b : Expr} {ta tb : TE} {pos : Pos}
@[irreducible] def PC (X : Cx) (op : CmpOp) (a b : Expr) (t : TE) : Prop :=
  ∀ (pins : List (Addr × Obj)) (s : Shared) (σ : St) (H : Hp) (Q : VK), Inv X pins σ H s → t σ H Q →
    wpAny (model X.prog X.w) X.A (eval a X.env) (fun v s₁ => wpAny (model X.prog X.w) X.A (eval b X.env) (fun u s₂ => wpAny (model X.prog X.w) X.A (compareOp op v u) (EP X pins σ Q) X.xe s₂) X.xe s₁) X.xe s
theorem nobehind (b : Expr) {op : CmpOp} (h : op ≠ .In) (h2 : op ≠ .NotIn) : behindInMarks op b = false := by
  have e1 : (op == CmpOp.In) = false := by cases op <;> first | rfl | exact absurd rfl h
  have e2 : (op == CmpOp.NotIn) = false := by cases op <;> first | rfl | exact absurd rfl h2
  cases b <;> simp [behindInMarks, e1, e2]
def tIsN (ta : TE) : TE := fun σ H Q => ta σ H fun x H1 => Q (.bl (decide (x = .non))) H1
def tNotN (ta : TE) : TE := fun σ H Q => ta σ H fun x H1 => Q (.bl (!decide (x = .non))) H1
theorem RelV.none_iff {x : V} {v : Value} (r : RelV x v) : (v == Value.none) = decide (x = .non) := by
  cases x with
  | non => cases r; rfl
  | bl _ => cases r; rfl
  | int _ => obtain ⟨t, rfl⟩ := r; rfl
  | str _ => obtain ⟨t, rfl⟩ := r; rfl
  | byt _ => obtain ⟨t, rfl⟩ := r; rfl
  | flt _ => obtain ⟨t, rfl⟩ := r; rfl
  | ref _ => cases r; rfl
  | ty _ => cases r; rfl
theorem pc_isN {j pos'} (ha : PE X a ta) : PC X .Is a (.Constant .none j pos') (tIsN ta) := by
  unfold PE at *; unfold PC at *
  exact by
    intro pins s σ H Q I h
    refine thn (ha pins s σ H _ I h) fun v s1 ⟨x, H1, I1, r1, q1⟩ => ?_
    exact Constant_none (is_none_gen ⟨.bl _, H1, I1, by rw [r1.none_iff]; rfl, q1⟩)
theorem pc_notN {j pos'} (ha : PE X a ta) : PC X .IsNot a (.Constant .none j pos') (tNotN ta) := by
  unfold PE at *; unfold PC at *
  exact by
    intro pins s σ H Q I h
    refine thn (ha pins s σ H _ I h) fun v s1 ⟨x, H1, I1, r1, q1⟩ => ?_
    exact Constant_none (isnot_none_gen ⟨.bl _, H1, I1, by rw [r1.none_iff]; rfl, q1⟩)
def tB (t : TE) : TT := fun σ H Q => t σ H fun x H1 => ∃ c, x = .bl c ∧ Q c H1
theorem pe_cmp {op : CmpOp} {t : TE} (h : PC X op a b t) (h1 : behindInMarks op b = false := by first | exact nobehind _ (by decide) (by decide) | rfl) : PE X (.Compare a [op] [b] pos) t := by
  first
  | exact (fun pins s σ H Q I hw => wpAny_Compare1 (h pins s σ H Q I hw) h1)
  | (unfold PE at *; unfold PC at *; exact (fun pins s σ H Q I hw => wpAny_Compare1 (h pins s σ H Q I hw) h1))
theorem pt_cmp {op : CmpOp} {t : TE} (h : PC X op a b t) (h1 : behindInMarks op b = false := by first | exact nobehind _ (by decide) (by decide) | rfl) : PT X (.Compare a [op] [b] pos) (tB t) := by
  unfold PT at *; unfold PC at *
  exact by
    intro pins s σ H Q I hw
    refine wpAny_isTrue_Compare1 (thn (h pins s σ H _ I hw) fun v s1 h1 => thn h1 fun u s2 h2 => thn h2 fun c s3 ⟨x, H1, I1, r1, q1⟩ => ?_) h1
    obtain ⟨d, rfl, q⟩ := q1
    cases r1
    exact wpAny_truthy_bool ⟨H1, I1, q⟩
theorem pt_val {e : Expr} {t : TE} (h : PE X e t) (he : ∀ whole, isTrue e X.env whole = (do let v ← whole; standAt e.pos; holding [v] (truthy v)) := by intro _; rfl) : PT X e (tB t) := by
  unfold PE at *; unfold PT at *
  exact by
    intro pins s σ H Q I hw
    refine isTrue_plain (thn (h pins s σ H _ I hw) fun v s1 ⟨x, H1, I1, r1, q1⟩ => ?_) (he _)
    obtain ⟨d, rfl, q⟩ := q1
    cases r1
    exact wpAny_truthy_bool ⟨H1, I1, q⟩
variable {tA tB' : TT} {rest : List Expr}
def tAnd (t u : TT) : TT := fun σ H Q => t σ H fun c H1 => if c = true then u σ H1 Q else Q false H1
def tOr (t u : TT) : TT := fun σ H Q => t σ H fun c H1 => if c = true then Q true H1 else u σ H1 Q
def tNot (t : TT) : TT := fun σ H Q => t σ H fun c H1 => Q (!c) H1
theorem pw_and1 (ha : PT X a tA) : PW X (.BoolOp .And [a] pos) tA := by
  unfold PT at *; unfold PW at *
  exact by
    intro wh pins s σ H Q I h
    refine isTrue_and (thn (ha pins s σ H Q I h) fun c s1 e => ?_)
    cases c with
    | true => exact isTrue_and_nil e
    | false => exact e
theorem pw_or1 (ha : PT X a tA) : PW X (.BoolOp .Or [a] pos) tA := by
  unfold PT at *; unfold PW at *
  exact by
    intro wh pins s σ H Q I h
    refine isTrue_or (thn (ha pins s σ H Q I h) fun c s1 e => ?_)
    cases c with
    | false => exact isTrue_or_nil e
    | true => exact e
theorem pw_and (ha : PT X a tA) (hb : PW X (.BoolOp .And (b :: rest) pos) tB') : PW X (.BoolOp .And (a :: b :: rest) pos) (tAnd tA tB') := by
  unfold PT at *; unfold PW at *
  exact by
    intro wh pins s σ H Q I h
    refine isTrue_and (thn (ha pins s σ H _ I h) fun c s1 ⟨H1, I1, q1⟩ => ?_)
    cases c with
    | true => exact hb wh pins s1 σ H1 Q I1 q1
    | false => exact ⟨H1, I1, q1⟩
theorem pw_or (ha : PT X a tA) (hb : PW X (.BoolOp .Or (b :: rest) pos) tB') : PW X (.BoolOp .Or (a :: b :: rest) pos) (tOr tA tB') := by
  unfold PT at *; unfold PW at *
  exact by
    intro wh pins s σ H Q I h
    refine isTrue_or (thn (ha pins s σ H _ I h) fun c s1 ⟨H1, I1, q1⟩ => ?_)
    cases c with
    | true => exact ⟨H1, I1, q1⟩
    | false => exact hb wh pins s1 σ H1 Q I1 q1
theorem pt_not (ha : PT X a tA) : PT X (.UnaryOp .Not a pos) (tNot tA) := by
  unfold PT at *
  exact by
    intro pins s σ H Q I h
    exact isTrue_not (ha pins s σ H (fun c H1 => Q (!c) H1) I h)
def tAndV (ta tb : TE) : TE := fun σ H Q => ta σ H fun x H1 => ∃ c, x = .bl c ∧ if c = true then tb σ H1 Q else Q (.bl false) H1
def tNotV (ta : TE) : TE := fun σ H Q => ta σ H fun x H1 => ∃ c, x = .bl c ∧ Q (.bl (!c)) H1
theorem pe_one {op} {t : TE} (h : PE X a t) : PE X (.BoolOp op [a] pos) t := by
  first
  | exact (fun pins s σ H Q I hw => BoolOp_one (h pins s σ H Q I hw))
  | (unfold PE at *; exact (fun pins s σ H Q I hw => BoolOp_one (h pins s σ H Q I hw)))
theorem pe_and (ha : PE X a ta) (hb : PE X (.BoolOp .And (b :: rest) pos) tb) : PE X (.BoolOp .And (a :: b :: rest) pos) (tAndV ta tb) := by
  unfold PE at *
  exact by
    intro pins s σ H Q I h
    refine BoolOp_and (thn (ha pins s σ H _ I h) fun v s1 ⟨x, H1, I1, r1, q1⟩ => ?_)
    obtain ⟨c, rfl, q1⟩ := q1
    cases r1
    refine wpAny_truthy_bool ?_
    cases c with
    | true => exact hb pins s1 σ H1 Q I1 q1
    | false => exact ⟨.bl false, H1, I1, rfl, q1⟩
theorem pe_not (ha : PE X a ta) : PE X (.UnaryOp .Not a pos) (tNotV ta) := by
  unfold PE at *
  exact by
    intro pins s σ H Q I h
    refine UnaryOp_ (thn (ha pins s σ H _ I h) fun v s1 ⟨x, H1, I1, r1, q1⟩ => ?_)
    obtain ⟨c, rfl, q1⟩ := q1
    cases r1
    exact not_of (wpAny_truthy_bool ⟨.bl (!c), H1, I1, rfl, q1⟩)
def tIf (t : TT) (ta tb : TE) : TE := fun σ H Q => t σ H fun c H1 => if c = true then ta σ H1 Q else tb σ H1 Q
theorem pe_ifExp {c : Expr} (hc : PT X c tA) (ha : PE X a ta) (hb : PE X b tb) : PE X (.IfExp c a b pos) (tIf tA ta tb) := by
  unfold PE at *; unfold PT at *
  exact by
    intro pins s σ H Q I h
    refine wpAny_IfExp (thn (hc pins s σ H _ I h) fun d s1 ⟨H1, I1, q1⟩ => ?_)
    cases d with
    | true => exact ha pins s1 σ H1 Q I1 q1
    | false => exact hb pins s1 σ H1 Q I1 q1
end
end L2
namespace L2
open PySem PySem.Spec PyProof.Rows
def SqL (K : PySem.W.Frag) (H : Hp) (a : Addr) (xs : List V) : Prop :=
  Rd H a (.lst xs) ∨
    ∃ (o : Obj) (its : Array Value) (n : Nat), K.lookup a = some o ∧ o.cls = .type "list" ∧ o.dict = none ∧ o.data = .seq its n ∧ its.size ≤ sizeLine ∧ Vals xs its.toList
def SqT (K : PySem.W.Frag) (H : Hp) (a : Addr) (xs : List V) : Prop :=
  Rd H a (.tup xs) ∨
    ∃ (o : Obj) (its : Array Value) (n : Nat), K.lookup a = some o ∧ o.cls = .type "tuple" ∧ o.data = .seq its n ∧ its.size ≤ sizeLine ∧ Vals xs its.toList
def absV : Value → Option V
  | .none => some .non
  | .bool b => some (.bl b)
  | .int i _ => some (.int i)
  | .str x _ => some (.str x)
  | .bytes b _ => some (.byt b)
  | .float b _ => some (.flt b)
  | .ref a => some (.ref a)
  | .type n => some (.ty n)
  | _ => none
theorem RelV.abs {x : V} {u : Value} (r : RelV x u) : absV u = some x := by
  cases x with
  | non => cases r; rfl
  | bl _ => cases r; rfl
  | int _ => obtain ⟨t, rfl⟩ := r; rfl
  | str _ => obtain ⟨t, rfl⟩ := r; rfl
  | byt _ => obtain ⟨t, rfl⟩ := r; rfl
  | flt _ => obtain ⟨t, rfl⟩ := r; rfl
  | ref _ => cases r; rfl
  | ty _ => cases r; rfl
theorem RelV.inj {x y : V} {u : Value} (r : RelV x u) (q : RelV y u) : x = y := Option.some.inj (r.abs.symm.trans q.abs)
theorem Vals.inj : ∀ {xs ys : List V} {us : List Value}, Vals xs us → Vals ys us → xs = ys
  | _, _, _, .nil, .nil => rfl
  | _, _, _, .cons r t, .cons r' t' => by rw [r.inj r', Vals.inj t t']
section
variable {X : Cx} {pins : List (Addr × Obj)} {σ : St} {H : Hp} {s : Shared} {a : Addr} {xs ys : List V}
theorem SqL.of {K : PySem.W.Frag} (h : H a = some (.lst xs)) : SqL K H a xs := .inl (.inl h)
theorem SqT.of {K : PySem.W.Frag} (h : H a = some (.tup xs)) : SqT K H a xs := .inl (.inl h)
theorem Inv.list (I : Inv X pins σ H s) (h : SqL X.K H a xs) : ∃ its : List Value, Vals xs its ∧ PlainL s.heap a its.toArray ∧ xs.length ≤ sizeLine := by
  rcases h with h | ⟨o, its, n, hk, hc, hd, hs, hz, r⟩
  · obtain ⟨z, its, n, r, e⟩ := h.ok I.hok
    exact ⟨its, r, ⟨_, n, e, rfl, rfl, rfl⟩, z⟩
  · refine ⟨its.toList, r, ⟨o, n, I.kIn a o hk, hc, hd, by simpa using hs⟩, ?_⟩
    have e := r.length
    simp only [Array.length_toList] at e
    omega
theorem Inv.tuple (I : Inv X pins σ H s) (h : SqT X.K H a xs) : ∃ its : List Value, Vals xs its ∧ IsTup s.heap a its.toArray ∧ xs.length ≤ sizeLine := by
  rcases h with h | ⟨o, its, n, hk, hc, hs, hz, r⟩
  · obtain ⟨z, its, r, p⟩ := h.ok I.hok
    exact ⟨its, r, p, z⟩
  · refine ⟨its.toList, r, ⟨o, I.kIn a o hk, hc, n, by simpa using hs⟩, ?_⟩
    have e := r.length
    simp only [Array.length_toList] at e
    omega
theorem Inv.list_inj (I : Inv X pins σ H s) (h : SqL X.K H a xs) (h' : SqL X.K H a ys) : xs = ys := by
  obtain ⟨its, r, ⟨o, n, e, _, _, d⟩, _⟩ := I.list h
  obtain ⟨its', r', ⟨o', n', e', _, _, d'⟩, _⟩ := I.list h'
  rw [e] at e'; cases e'
  rw [d] at d'
  injection d' with d1 _
  have : its = its' := by simpa using congrArg Array.toList d1
  subst this
  exact r.inj r'
theorem Inv.tuple_inj (I : Inv X pins σ H s) (h : SqT X.K H a xs) (h' : SqT X.K H a ys) : xs = ys := by
  obtain ⟨its, r, ⟨o, e, _, n, d⟩, _⟩ := I.tuple h
  obtain ⟨its', r', ⟨o', e', _, n', d'⟩, _⟩ := I.tuple h'
  rw [e] at e'; cases e'
  rw [d] at d'
  injection d' with d1 _
  have : its = its' := by simpa using congrArg Array.toList d1
  subst this
  exact r.inj r'
end
abbrev Cx.wish (X : Cx) (E : Value → Shared → Prop) : Cx := { X with xe := E }
abbrev Cx.nox (X : Cx) : Cx := X.wish fun _ _ => False
theorem Cx.Ok.wish {X : Cx} (ok : X.Ok) (E : Value → Shared → Prop) : (X.wish E).Ok :=
  ⟨ok.mod, ok.kind, ok.glob, ok.blt, ok.above, ok.inj, ok.has, ok.cab, ok.hd, ok.frames, ok.stk, ok.exf, ok.bs, ok.bsz, ok.noex, ok.exfs, ok.funs, ok.frf⟩
theorem Cx.Ok.unwish {X : Cx} {E : Value → Shared → Prop} (ok : (X.wish E).Ok) : X.Ok :=
  ⟨ok.mod, ok.kind, ok.glob, ok.blt, ok.above, ok.inj, ok.has, ok.cab, ok.hd, ok.frames, ok.stk, ok.exf, ok.bs, ok.bsz, ok.noex, ok.exfs, ok.funs, ok.frf⟩
section
variable {X : Cx} {pins : List (Addr × Obj)} {σ : St} {H : Hp} {s : Shared} {E : Value → Shared → Prop}
theorem Inv.wish (I : Inv X pins σ H s) (E : Value → Shared → Prop) : Inv (X.wish E) pins σ H s := ⟨I.ok.wish E, I.os, I.bare, I.base, I.loc, I.cell, I.free, I.freeC, I.pin, I.hok, I.len⟩
theorem Inv.unwish (I : Inv (X.wish E) pins σ H s) : Inv X pins σ H s := ⟨I.ok.unwish, I.os, I.bare, I.base, I.loc, I.cell, I.free, I.freeC, I.pin, I.hok, I.len⟩
theorem SP.unwish {D : Ends} {f : Flow} {s' : Shared} (h : SP (X.wish E) pins D f s') : SP X pins D f s' := by
  cases f with
  | next => obtain ⟨σ', H', I, q⟩ := h; exact ⟨σ', H', I.unwish, q⟩
  | brk => obtain ⟨σ', H', I, q⟩ := h; exact ⟨σ', H', I.unwish, q⟩
  | cont => obtain ⟨σ', H', I, q⟩ := h; exact ⟨σ', H', I.unwish, q⟩
  | ret u => obtain ⟨v, σ', H', I, r, q⟩ := h; exact ⟨v, σ', H', I.unwish, r, q⟩
theorem PE.nox {e : Expr} {t : TE} (h : PE X.nox e t) : PE X e t := by
  unfold PE at *
  exact (fun pins s σ H Q I hw =>
    wpAny_mono (h pins s σ H Q (I.wish _) hw) (fun _ _ ⟨v, H', I', r, q⟩ => ⟨v, H', I'.unwish, r, q⟩) fun _ _ z => False.elim z)
theorem PT.nox {e : Expr} {t : TT} (h : PT X.nox e t) : PT X e t := by
  unfold PT at *
  exact (fun pins s σ H Q I hw =>
    wpAny_mono (h pins s σ H Q (I.wish _) hw) (fun _ _ ⟨H', I', q⟩ => ⟨H', I'.unwish, q⟩) fun _ _ z => False.elim z)
theorem PSs.nox {st : List Stmt} {t : TS} (h : PSs X.nox st t) : PSs X st t := by
  unfold PSs at *
  exact (fun pins s σ H D I hw =>
    wpAny_mono (h pins s σ H D (I.wish _) hw) (fun _ _ q => q.unwish) fun _ _ z => False.elim z)
end
section
variable {X : Cx} {st : Stmt} {rest : List Stmt} {t u : TS} {e : Expr} {te : TE} {pos : Pos}
def tNext : TS := fun D σ H => D.nx σ H
def tSeq (t u : TS) : TS := fun D σ H => t { D with nx := u D } σ H
theorem pss_nil : PSs X [] tNext := by
  first
  | exact (fun _ _ σ H _ I h => wpAny_execs_nil ⟨σ, H, I, h⟩)
  | (unfold PSs at *; exact (fun _ _ σ H _ I h => wpAny_execs_nil ⟨σ, H, I, h⟩))
theorem pss_cons (h1 : PS X st t) (h2 : PSs X rest u) : PSs X (st :: rest) (tSeq t u) := by
  unfold PS at *; unfold PSs at *
  exact by
    intro pins s σ H D I h
    refine wpAny_execs_cons (thn (h1 pins s σ H { D with nx := u D } I h) fun f s1 q => ?_)
    cases f with
    | next =>
      obtain ⟨σ', H', I', q⟩ := q
      exact h2 pins s1 σ' H' D I' q
    | ret v => exact q
    | brk => exact q
    | cont => exact q
theorem pss_one (h1 : PS X st t) : PSs X [st] t := by
  unfold PS at *; unfold PSs at *
  exact by
    intro pins s σ H D I h
    refine wpAny_execs_cons (thn (h1 pins s σ H D I h) fun f s1 q => ?_)
    cases f with
    | next => exact wpAny_execs_nil q
    | ret v => exact q
    | brk => exact q
    | cont => exact q
theorem Inv.quiet {pins : List (Addr × Obj)} {σ : St} {H : Hp} {s : Shared} (I : Inv X pins σ H s) : interactive X.env = false := by simp [interactive, I.ok.kind]
def tDrop (te : TE) : TS := fun D σ H => te σ H fun _ H1 => D.nx σ H1
theorem ps_expr (he : PE X e te) (hs : swapsWith e none pos.line X.env = pure false := by rfl) : PS X (.Expr e pos) (tDrop te) := by
  unfold PE at *; unfold PS at *
  exact by
    intro pins s σ H D I h
    exact wpAny_Expr_any (thn (he pins s σ H _ I h) fun v s1 ⟨x, H1, I1, r1, q1⟩ => ⟨σ, H1, I1, q1⟩) I.quiet hs
def tRet (te : TE) : TS := fun D σ H => te σ H D.rt
theorem ps_ret (he : PE X e te) : PS X (.Return (some e) pos) (tRet te) := by
  unfold PE at *; unfold PS at *
  exact by
    intro pins s σ H D I h
    exact wpAny_Return_some (thn (he pins s σ H _ I h) fun v s1 ⟨x, H1, I1, r1, q1⟩ => ⟨x, σ, H1, I1, r1, q1⟩)
def tIfS (c : TT) (t u : TS) : TS := fun D σ H => c σ H fun b H1 => if b = true then t D σ H1 else u D σ H1
theorem ps_if {c : Expr} {a b : List Stmt} {tc : TT} (hc : PT X c tc) (ha : PSs X a t) (hb : PSs X b u) : PS X (.If c a b pos) (tIfS tc t u) := by
  unfold PT at *; unfold PS at *; unfold PSs at *
  exact by
    intro pins s σ H D I h
    refine wpAny_If (thn (hc pins s σ H _ I h) fun d s1 ⟨H1, I1, q1⟩ => ?_)
    cases d with
    | true => exact ha pins s1 σ H1 D I1 q1
    | false => exact hb pins s1 σ H1 D I1 q1
end
abbrev TG := V → St → Hp → (St → Hp → Prop) → Prop
abbrev TGs := List V → St → Hp → (St → Hp → Prop) → Prop
@[irreducible] def PG (X : Cx) (target : Expr) (t : TG) : Prop :=
  ∀ (pins : List (Addr × Obj)) (s : Shared) (σ : St) (H : Hp) (v : V) (u : Value) (Q : St → Hp → Prop), Inv X pins σ H s → RelV v u → t v σ H Q →
    wpAny (model X.prog X.w) X.A (assign target X.env u) (fun _ s' => ∃ σ' H', Inv X pins σ' H' s' ∧ Q σ' H') X.xe s
@[irreducible] def PGs (X : Cx) (ts : List Expr) (t : TGs) : Prop :=
  ∀ (pins : List (Addr × Obj)) (s : Shared) (σ : St) (H : Hp) (vs : List V) (us : List Value) (Q : St → Hp → Prop), Inv X pins σ H s → Vals vs us → t vs σ H Q →
    wpAny (model X.prog X.w) X.A (assignInOrder ((assignEach ts X.env).map (·.2)) us) (fun _ s' => ∃ σ' H', Inv X pins σ' H' s' ∧ Q σ' H') X.xe s
abbrev TSet := V → V → V → Hp → (Hp → Prop) → Prop
@[irreducible] def PSet (X : Cx) (t : TSet) : Prop :=
  ∀ (pins : List (Addr × Obj)) (s : Shared) (σ : St) (H : Hp) (o i v : V) (ov iv u : Value) (Q : Hp → Prop), Inv X pins σ H s → RelV o ov → RelV i iv → RelV v u → t o i v H Q →
    wpAny (model X.prog X.w) X.A (setItem ov iv u) (fun _ s' => ∃ H', Inv X pins σ H' s' ∧ Q H') X.xe s
section
variable {X : Cx} {pos : Pos}
def gName (i : Nat) : TG := fun v σ H Q => Q (σ.set i (some v)) H
theorem pg_name {i : Nat} {x : Str} (hN : X.N.Nodup) (hi : X.N[i]? = some x) (hx : Loc X.env.scope x) (hf : X.fn x = true ∨ X.env.scope.names.lookup x = some .local := by first | exact .inl rfl | exact .inr rfl | assumption) : PG X (.Name x pos) (gName i) := by
  unfold PG at *
  exact by
    intro pins s σ H v u Q I r h
    exact wpAny_assign_Name (store_ok I hN hi hx r (fun s' I' => ⟨_, H, I', h⟩) hf)
def gNil : TGs := fun vs σ H Q => vs = [] ∧ Q σ H
def gCons (t : TG) (u : TGs) : TGs := fun vs σ H Q => ∃ v r, vs = v :: r ∧ t v σ H fun σ' H' => u r σ' H' Q
theorem pgs_nil : PGs X [] gNil := by
  unfold PGs at *
  exact by
    intro pins s σ H vs us Q I r h
    obtain ⟨e, h⟩ := h
    subst e
    cases r
    exact assignInOrder_nil ⟨σ, H, I, h⟩
theorem pgs_cons {e : Expr} {es : List Expr} {t : TG} {u : TGs} (h1 : PG X e t) (h2 : PGs X es u)
    (hs : (assignEach (e :: es) X.env).map (·.2) = assign e X.env :: (assignEach es X.env).map (·.2) := by rfl) : PGs X (e :: es) (gCons t u) := by
  unfold PG at *; unfold PGs at *
  exact by
    intro pins s σ H vs us Q I r h
    obtain ⟨v, vr, e1, h⟩ := h
    subst e1
    cases r with
    | cons r rr =>
      rw [hs]
      refine assignInOrder_cons (thn (h1 pins s σ H _ _ _ I r h) fun _ s1 ⟨σ1, H1, I1, q1⟩ => ?_)
      exact h2 pins s1 σ1 H1 _ _ Q I1 rr q1
def gTup (K : PySem.W.Frag) (n : Nat) (t : TGs) : TG := fun v σ H Q => ∃ a xs, v = .ref a ∧ SqT K H a xs ∧ xs.length = n ∧ t xs σ H Q
theorem pg_tup {es : List Expr} {k : Nat} {t : TGs} {n : Nat} (hc : X.calm = true) (h : PGs X es t)
    (hn : (assignEach es X.env).length = n := by rfl) (hst : (assignEach es X.env).findIdx? (·.1) = none := by rfl) : PG X (.Tuple es k pos) (gTup X.K n t) := by
  unfold PG at *; unfold PGs at *
  exact by
    intro pins s σ H v u Q I r hw
    obtain ⟨a, xs, e1, hq, hl, hw⟩ := hw
    subst e1
    cases r
    obtain ⟨its, rv, ht, hz⟩ := I.tuple hq
    refine assign_Tuple_tuple (I.ok.hd hc) ht (by simp [hn, ← hl, rv.length]) hst fun h' hx => ?_
    have I1 : Inv X pins σ H { s with heap := h' } := I.kept (t' := s.toks) fun b o e => hx b o (Nat.ne_of_lt (Heap.lt_size e)) e
    exact h pins _ σ H xs _ Q I1 (by simpa using rv) hw
def gSub (to ti : TE) (t : TSet) : TG := fun v σ H Q => to σ H fun o H1 => ti σ H1 fun i H2 => t o i v H2 fun H3 => Q σ H3
theorem pg_sub {o i : Expr} {to ti : TE} {t : TSet} (ho : PE X o to) (hi : PE X i ti) (hs : PSet X t)
    (ha : ∀ v, assign (.Subscript o i pos) X.env v = (do
      let ov ← holding [v] (eval o X.env)
      let iv ← holding [v, ov] (eval i X.env)
      standAt pos
      holding [v, ov, iv] (setItem ov iv v)
      release [v, ov, iv] []) := by intro _; rfl) : PG X (.Subscript o i pos) (gSub to ti t) := by
  unfold PE at *; unfold PG at *; unfold PSet at *
  exact by
    intro pins s σ H v u Q I r h
    rw [ha]
    refine wpAny_bind (wpAny_holding (thn (ho pins s σ H _ I h) fun ov s1 ⟨x, H1, I1, r1, q1⟩ => ?_))
    refine wpAny_bind (wpAny_holding (thn (hi pins s1 σ H1 _ I1 q1) fun iv s2 ⟨y, H2, I2, r2, q2⟩ => ?_))
    refine wpAny_bind (wpAny_standAt (wpAny_bind (wpAny_holding (thn (hs pins s2 σ H2 x y v ov iv u _ I2 r1 r2 r q2) fun _ s3 ⟨H3, I3, q3⟩ => ?_))))
    exact wpAny_release ⟨σ, H3, I3, q3⟩
def tAsg (te : TE) (g : TG) : TS := fun D σ H => te σ H fun x H1 => g x σ H1 D.nx
theorem ps_asg {tg e : Expr} {te : TE} {g : TG} (he : PE X e te) (hg : PG X tg g) (hs : swapsWithSole [tg] e pos.line X.env = pure false := by rfl) (hw : swappedStores [tg] e X.env = pure none := by rfl)
    (h1 : (assignEach [tg] X.env).map (·.2) = [assign tg X.env] := by rfl) : PS X (.Assign [tg] e pos) (tAsg te g) := by
  unfold PE at *; unfold PS at *; unfold PG at *
  exact by
    intro pins s σ H D I h
    refine wpAny_Assign_stores (thn (he pins s σ H _ I h) fun v s1 ⟨x, H1, I1, r1, q1⟩ => ?_) hs hw
    rw [h1]
    exact thn (hg pins s1 σ H1 x v _ I1 r1 q1) fun _ s2 q => q
theorem ps_set {i : Nat} {x : Str} {e : Expr} {te : TE} {pos' : Pos} (hN : X.N.Nodup) (hi : X.N[i]? = some x) (hx : Loc X.env.scope x) (he : PE X e te) (hs : swapsWith e (some (.Name x pos')) pos.line X.env = pure false := by rfl) (hf : X.fn x = true ∨ X.env.scope.names.lookup x = some .local := by first | exact .inl rfl | exact .inr rfl | assumption) :
    PS X (.Assign [.Name x pos'] e pos) (tAsg te (gName i)) := by
  unfold PE at *; unfold PS at *
  exact by
    intro pins s σ H D I h
    refine wpAny_Assign_Name (thn (he pins s σ H _ I h) fun v s1 ⟨y, H1, I1, r1, q1⟩ => ?_) hs
    exact store_ok I1 hN hi hx r1 (fun s2 I2 => ⟨_, H1, I2, q1⟩) hf
end
section
variable {X : Cx} {pos : Pos}
end
/- at turn i: it yields x (the heap may grow), or it stops -/
set_option genInjectivity false in
set_option genSizeOfSpec false in
set_option genSizeOf false in
structure It where
  go : Nat → Hp → Prop
  yld : Nat → Hp → V → Hp → Prop
  stop : Nat → Hp → Prop
def FpOk (X : Cx) (pins : List (Addr × Obj)) (H : Hp) (b : Addr) : Prop :=
  H b = none ∧ b ≠ X.env.locals ∧ b ∉ X.fs ∧ (b ∈ X.ex ∨ X.s₀.heap.objs.size ≤ b) ∧ (∀ x c, X.env.cells.lookup x = some c → c ≠ b) ∧ ∀ p ∈ X.pn ++ pins, p.1 ≠ b
theorem Inv.fpOk {X : Cx} {pins : List (Addr × Obj)} {σ : St} {H H' : Hp} {s : Shared} {b : Addr} (I : Inv X pins σ H s) (hb : s.heap.objs.size ≤ b) (hn : H' b = none) : FpOk X pins H' b := by
  refine ⟨hn, Nat.ne_of_gt (Nat.lt_of_lt_of_le I.lt hb), I.nofs hb, .inr (Nat.le_trans I.sz hb), fun x c e z => ?_, fun p hp z => ?_⟩
  · obtain ⟨v, q⟩ := I.cell x c e
    exact absurd (Nat.lt_of_lt_of_le q.lt (by rw [z]; exact hb)) (Nat.lt_irrefl _)
  · exact absurd (Nat.lt_of_lt_of_le (Heap.lt_size (I.pin p hp).1) (by rw [z]; exact hb)) (Nat.lt_irrefl _)
structure Turn (P : Program) (w : World) (K : PySem.W.Frag) (tg : Expr) (J : It) (fp : List Addr) (it : Addr) (tn : Nat → Heap → Prop) : Prop where
  mem : it ∈ fp
  obj : ∀ i h, tn i h → ∀ b ∈ fp, ∃ o, h.get? b = some o ∧ ∀ v, o.data ≠ .cell v
  keep : ∀ i h h', tn i h → (∀ b ∈ fp, ∀ o, h.get? b = some o → h'.get? b = some o) → tn i h'
  item : ∀ (X : Cx), X.prog = P → X.w = w → X.K = K → X.calm = true → ∀ (i : Nat) (pins : List (Addr × Obj)) (s : Shared) (σ : St) (H : Hp) (E : Value → Shared → Prop), Inv X pins σ H s → (∀ b ∈ fp, FpOk X pins H b) → tn i s.heap → J.go i H →
    wpAny (model P w) X.A (pyNext (.ref it)) (fun r s1 => ∃ u, r = some u ∧
      wpAny (model P w) X.A (letOwnedTupleGo tg (.ref it) u) (fun _ s2 => ∃ x H', Inv X pins σ H' s2 ∧ RelV x u ∧ J.yld i H x H' ∧ tn (i + 1) s2.heap ∧ ∀ b ∈ fp, H' b = none) E s1) E s
  done : ∀ (X : Cx), X.prog = P → X.w = w → X.K = K → X.calm = true → ∀ (i : Nat) (pins : List (Addr × Obj)) (s : Shared) (σ : St) (H : Hp) (E : Value → Shared → Prop), Inv X pins σ H s → (∀ b ∈ fp, FpOk X pins H b) → tn i s.heap → J.stop i H →
    wpAny (model P w) X.A (pyNext (.ref it)) (fun r s1 => r = none ∧ Inv X pins σ H s1) E s
  self : ∀ (A : Around) (i : Nat) (s : Shared) (Q : Value → Shared → Prop) (E : Value → Shared → Prop), tn i s.heap → Q (.ref it) s → wpAny (model P w) A (pyIter (.ref it)) Q E s
abbrev TI := St → Hp → (It → Hp → Prop) → Prop
def PIE (X : Cx) (pins : List (Addr × Obj)) (σ : St) (tg : Expr) (R : It → Hp → Prop) (itv : Value) (s2 : Shared) : Prop :=
  ∃ (it : Addr) (fp : List Addr) (tn : Nat → Heap → Prop) (J : It) (H' : Hp), itv = .ref it ∧ Inv X pins σ H' s2 ∧ Turn X.prog X.w X.K tg J fp it tn ∧ tn 0 s2.heap ∧ (∀ b ∈ fp, FpOk X pins H' b) ∧ R J H'
@[irreducible] def PI (X : Cx) (tg iter : Expr) (wi : TI) : Prop :=
  ∀ (pins : List (Addr × Obj)) (s : Shared) (σ : St) (H : Hp) (R : It → Hp → Prop), Inv X pins σ H s → wi σ H R →
    wpAny (model X.prog X.w) X.A (eval iter X.env) (fun v s1 => wpAny (model X.prog X.w) X.A (pyIter v) (PIE X pins σ tg R) X.xe s1) X.xe s
theorem go_of {M : Model} {A : Around} {E : Value → Shared → Prop} {s : Shared} {tg : Expr} {it : Addr} {u : Value} {o : Obj} {n : String} {vs : Array Value} {Q : Unit → Shared → Prop} (ho : s.heap.get? it = some o) (hc : o.cls = .type n) (hd : o.data = .fields vs)
    (hn : ["enumerate", "zip", "dict_itemiterator", "dict_reverseitemiterator", "odict_iterator", "itertools.zip_longest", "itertools.pairwise"].contains n = false) (hQ : Q () s) : wpAny M A (letOwnedTupleGo tg (.ref it) u) Q E s := by
  unfold letOwnedTupleGo
  cases tg <;> first
    | exact wpAny_pure hQ
    | (cases u <;> first
        | exact wpAny_pure hQ
        | (refine wpAny_bind (wpAny_load ho ?_)
           rw [hc, hd]
           show wpAny M A (if (["enumerate", "zip", "dict_itemiterator", "dict_reverseitemiterator", "odict_iterator", "itertools.zip_longest", "itertools.pairwise"].contains n && vs[0]? == some (rawInt _)) = true then _ else _) Q E s
           rw [if_neg (by intro h; rw [hn, Bool.false_and] at h; cases h)]
           exact wpAny_pure hQ))
def Itl (K : PySem.W.Frag) (a : Addr) : It :=
  ⟨fun i H => ∃ xs x, SqL K H a xs ∧ xs[i]? = some x, fun i H x H' => H' = H ∧ ∀ xs, SqL K H a xs → xs[i]? = some x, fun i H => ∃ xs, SqL K H a xs ∧ xs.length ≤ i⟩
def Itr (lo : Int) (n : Nat) : It := ⟨fun i _ => i < n, fun i H x H' => H' = H ∧ x = .int (lo + i), fun i _ => n ≤ i⟩
theorem turn_list {P : Program} {w : World} {K : PySem.W.Frag} {tg : Expr} (a it : Addr) : Turn P w K tg (Itl K a) [it] it (fun i h => h.IsListIter it a i) where
  mem := by simp
  obj := fun i h st b hb => by
    have e : b = it := by simpa using hb
    subst e
    obtain ⟨o, e, c, d⟩ := st
    exact ⟨o, e, fun v z => by rw [d] at z; cases z⟩
  keep := fun i h h' st k => st.at fun o e => k it (by simp) o e
  item := by
    intro X hP hw hK hc i pins s σ H E I hf st hg
    subst hP hw hK
    obtain ⟨xs, x, hq, hx⟩ := hg
    obtain ⟨its, rv, p, hz⟩ := I.list hq
    obtain ⟨u, hu, ru⟩ := rv.get hx
    obtain ⟨f0, f1, f2, f3, f4, f5⟩ := hf it (by simp)
    refine wpAny_pyNext_list_item st p.isList (x := u) (by simpa using hu) fun h' st' sb => ?_
    have I1 : Inv X pins σ H { s with heap := h' } := I.turned (t' := s.toks) (fun b o hb e => (sb.2 b hb).trans e) f0 f1 f3 f4 f5
    obtain ⟨o, e, c, d⟩ := id st'
    exact ⟨u, rfl, go_of (s := { s with heap := h' }) e c d (by decide) ⟨x, H, I1, ru, ⟨rfl, fun ys hy => by rw [I.list_inj hy hq]; exact hx⟩, st', fun b hb => (hf b hb).1⟩⟩
  done := by
    intro X hP hw hK hc i pins s σ H E I hf st hg
    subst hP hw hK
    obtain ⟨xs, hq, hx⟩ := hg
    obtain ⟨its, rv, p, hz⟩ := I.list hq
    obtain ⟨f0, f1, f2, f3, f4, f5⟩ := hf it (by simp)
    have hl := rv.length
    exact wpAny_pyNext_list_end (I.ok.hd hc) st p.isList (by simp; omega) fun h' eb => ⟨rfl, I.turned (t' := s.toks) (fun b o hb e => eb b o hb e) f0 f1 f3 f4 f5⟩
  self := fun _ _ _ _ _ st h => wpAny_pyIter_listiter st h
theorem turn_range {P : Program} {w : World} {K : PySem.W.Frag} {tg : Expr} (it : Addr) (lo : Int) (n : Nat) : Turn P w K tg (Itr lo n) [it] it (fun i h => IsRangeIter h it (lo + (i : Nat) * 1) ((n : Int) - (i : Nat)) 1) where
  mem := by simp
  obj := fun i h st b hb => by
    have e : b = it := by simpa using hb
    subst e
    exact ⟨_, st, fun v z => by
      have z' : Data.fields _ = Data.cell v := z
      cases z'⟩
  keep := fun i h h' st k => k it (by simp) _ st
  item := by
    intro X hP hw hK hc i pins s σ H E I hf st hg
    subst hP hw hK
    obtain ⟨f0, f1, f2, f3, f4, f5⟩ := hf it (by simp)
    have W := Walks.range (prog := X.prog) (w := X.w) (I.ok.hd hc) it lo 1 n
    refine W.item i s _ _ hg st fun v h' tk hv st' kk => ?_
    obtain ⟨t, rfl⟩ := hv
    have I1 : Inv X pins σ H { s with heap := h', toks := tk } := I.turned (fun b o hb e => kk b o (by simpa using hb) e) f0 f1 f3 f4 f5
    refine ⟨_, rfl, go_of (s := { s with heap := h', toks := tk }) (n := "range_iterator") st' rfl rfl (by decide) ⟨.int (lo + i), H, I1, ⟨t, ?_⟩, ⟨rfl, rfl⟩, st', fun b hb => (hf b hb).1⟩⟩
    rw [Int.mul_one]
  done := by
    intro X hP hw hK hc i pins s σ H E I hf st hg
    subst hP hw hK
    obtain ⟨f0, f1, f2, f3, f4, f5⟩ := hf it (by simp)
    exact wpAny_pyNext_range_end (I.ok.hd hc) st (by have : n ≤ i := hg; omega) fun h' eb => ⟨rfl, I.turned (t' := s.toks) (fun b o hb e => eb b o hb e) f0 f1 f3 f4 f5⟩
  self := fun _ _ _ _ _ st h => wpAny_pyIter_rangeiter st h
end L2
namespace L2
open PySem PySem.Spec PyProof.Rows
section
variable {X : Cx} {tg : Expr}
def iList (K : PySem.W.Frag) (tl : TE) : TI := fun σ H R => tl σ H fun x H1 => ∃ a, x = .ref a ∧ (∃ xs, SqL K H1 a xs) ∧ R (Itl K a) H1
theorem pi_list {l : Expr} {tl : TE} (hl : PE X l tl) : PI X tg l (iList X.K tl) := by
  unfold PE at *; unfold PI at *
  exact by
    intro pins s σ H R I h
    refine thn (hl pins s σ H _ I h) fun v s1 ⟨x, H1, I1, r1, q1⟩ => ?_
    obtain ⟨a, e, ⟨xs, hq⟩, q⟩ := q1
    subst e
    cases r1
    obtain ⟨its, rv, p, hz⟩ := I1.list hq
    refine wpAny_pyIter_list p.isList ?_
    refine ⟨s1.heap.objs.size, [s1.heap.objs.size], _, _, H1, rfl, I1.kept (t' := s1.toks) fun b o e => Heap.get?_push_of_some _ e, turn_list a _, ⟨_, Heap.get?_push_size _ rfl, rfl, rfl⟩, fun b hb => ?_, q⟩
    have e : b = s1.heap.objs.size := by simpa using hb
    subst e
    exact I1.fpOk (Nat.le_refl _) (I1.hok.fresh (Nat.le_refl _))
theorem range_it {pins : List (Addr × Obj)} {σ : St} {H : Hp} {s : Shared} {R : It → Hp → Prop} {E : Value → Shared → Prop} {lo hi : Int} {t u v : Tok} {tk : Nat} (I : Inv X pins σ H s) (h1 : -(2 ^ 62) ≤ lo) (h2 : lo < 2 ^ 62) (h3 : -(2 ^ 62) ≤ hi) (h4 : hi < 2 ^ 62)
    (q : R (Itr lo (hi - lo).toNat) H) : wpAny (model X.prog X.w) X.A (pyIter (.ref s.heap.objs.size)) (PIE X pins σ tg R) E { s with heap := s.heap.push { cls := .type "range", data := .fields #[.int lo t, .int hi u, .int 1 v] }, toks := tk } := by
  refine wpAny_pyIter_range (IsRange.new ..) (small_one h1 h2 h3 h4) ?_
  have I1 : Inv X pins σ H { s with heap := s.heap.push { cls := .type "range", data := .fields #[.int lo t, .int hi u, .int 1 v] }, toks := tk } := I.kept fun b o e => Heap.get?_push_of_some _ e
  refine ⟨(s.heap.push { cls := .type "range", data := .fields #[.int lo t, .int hi u, .int 1 v] }).objs.size, [(s.heap.push { cls := .type "range", data := .fields #[.int lo t, .int hi u, .int 1 v] }).objs.size], _, _, H, rfl,
    I1.kept (t' := tk) fun b o e => Heap.get?_push_of_some _ e, turn_range _ lo (hi - lo).toNat, ?_, fun b hb => ?_, q⟩
  · have e1 : lo + ((0 : Nat) : Int) * 1 = lo := by simp
    have e2 : (((hi - lo).toNat : Nat) : Int) - ((0 : Nat) : Int) = Builtin.Range.rangeSize lo hi 1 := by rw [rangeSize_one]; split <;> omega
    show IsRangeIter _ _ (lo + ((0 : Nat) : Int) * 1) ((((hi - lo).toNat : Nat) : Int) - ((0 : Nat) : Int)) 1
    rw [e1, e2]
    exact Heap.get?_push_size _ rfl
  · have e : b = (s.heap.push { cls := .type "range", data := .fields #[.int lo t, .int hi u, .int 1 v] }).objs.size := by simpa using hb
    subst e
    exact I1.fpOk (Nat.le_refl _) (I1.hok.fresh (Nat.le_refl _))
def iRng1 (ta : TA) : TI := fun σ H R => ta σ H fun vs H1 => ∃ j : Int, vs = [.int j] ∧ -(2 ^ 62) ≤ j ∧ j < 2 ^ 62 ∧ R (Itr 0 j.toNat) H1
theorem pi_range1 {a : Expr} {ta : TA} {p pos : Pos} (hg : Gl X "range") (hm : X.mg "range" = none) (ha : PA X [a] ta) (hs : starEach [a] X.env = [(false, eval a X.env)] := by rfl) : PI X tg (.Call (.Name "range" p) [a] [] pos) (iRng1 ta) := by
  unfold PA at *; unfold PI at *
  exact by
    intro pins s σ H R I h
    refine Call_ (ld_blt I hg hm boot_range (PyProof.Rows.callWith_type1 (thn (ha pos pins s σ H _ I h) fun us s1 ⟨vs, H1, I1, r1, q1⟩ => ?_) hs rfl))
    obtain ⟨j, e, q1, q2, q⟩ := q1
    subst e
    cases r1 with
    | cons r rr =>
      cases rr
      obtain ⟨t, rfl⟩ := r
      exact call_range_1 (range_it I1 (by omega) (by omega) q1 q2 (by simpa using q))
def tFor (wi : TI) (g : TG) (tb : TS) : TS := fun D σ H => wi σ H fun J H1 => ∃ W : Nat → Nat → St → Hp → Prop, (∃ m, W 0 m σ H1) ∧ ∀ i m σ H, W i m σ H →
  (J.stop i H ∧ D.nx σ H) ∨ (J.go i H ∧ ∃ N : St → Hp → Prop, (∀ σ' H', N σ' H' → ∃ m', m' < m ∧ W (i + 1) m' σ' H') ∧ ∀ x H', J.yld i H x H' → g x σ H' fun σ2 H2 => tb { D with nx := N, ct := N, bk := D.nx } σ2 H2)
def pinsAt (fp : List Addr) (h : Heap) : List (Addr × Obj) := fp.filterMap fun b => (h.get? b).map fun o => (b, o)
theorem mem_pinsAt {fp : List Addr} {h : Heap} {b : Addr} {o : Obj} (hb : b ∈ fp) (e : h.get? b = some o) : (b, o) ∈ pinsAt fp h := List.mem_filterMap.mpr ⟨b, hb, by rw [e]; rfl⟩
theorem of_pinsAt {fp : List Addr} {h : Heap} {p : Addr × Obj} (hp : p ∈ pinsAt fp h) : p.1 ∈ fp ∧ h.get? p.1 = some p.2 := by
  obtain ⟨b, hb, e⟩ := List.mem_filterMap.mp hp
  cases q : h.get? b with
  | none => rw [q] at e; cases e
  | some o =>
    rw [q] at e
    have e' : (b, o) = p := Option.some.inj e
    subst e'
    exact ⟨hb, q⟩
theorem Inv.pinned {pins : List (Addr × Obj)} {σ : St} {H : Hp} {s : Shared} {fp : List Addr} (I : Inv X pins σ H s) (hf : ∀ b ∈ fp, FpOk X pins H b) (ho : ∀ b ∈ fp, ∃ o, s.heap.get? b = some o ∧ ∀ v, o.data ≠ .cell v) : Inv X (pins ++ pinsAt fp s.heap) σ H s :=
  I.pins_of fun p hp => (List.mem_append.mp hp).elim (fun z => I.pin p (List.mem_append_right _ z)) fun z => by
    obtain ⟨hb, e⟩ := of_pinsAt z
    obtain ⟨f0, f1, f2, _⟩ := hf p.1 hb
    obtain ⟨o, e', d⟩ := ho p.1 hb
    rw [e] at e'; cases e'
    exact ⟨e, f0, f1, f2, d⟩
theorem Inv.unpinned {pins pl : List (Addr × Obj)} {σ : St} {H : Hp} {s : Shared} (I : Inv X (pins ++ pl) σ H s) : Inv X pins σ H s := I.pins_of fun p hp => I.pin p (List.mem_append_right _ (List.mem_append_left _ hp))
theorem ps_for {iter : Expr} {body : List Stmt} {wi : TI} {g : TG} {tb : TS} {pos : Pos} (hp : PassesOwn (model X.prog X.w) X.A X.env X.xe) (hc : X.calm = true) (hi : PI X tg iter wi) (hg : PG X tg g) (hb : PSs X body tb)
    (hs : ∀ x, foldedSetIterable iter X.env x = pure x := by intro _; rfl) : PS X (.For tg iter body [] pos) (tFor wi g tb) := by
  unfold PS at *; unfold PSs at *; unfold PG at *; unfold PI at *
  exact by
    intro pins s σ H D I h
    refine wpAny_For (thn (hi pins s σ H _ I h) fun v s1 h1 => thn h1 fun itv s2 h2 => ?_) hs
    obtain ⟨it, fp, tn, J, H2, e, I2, T, st2, f2, W, ⟨m0, w0⟩, turn⟩ := h2
    subst e
    -- what stays true of the iterator's objects through the loop
    have stat : ∀ {H' : Hp}, (∀ b ∈ fp, H' b = none) → ∀ b ∈ fp, FpOk X pins H' b := fun hn b hb => ⟨hn b hb, (f2 b hb).2⟩
    refine codeAny_forLoop_any (fun n s' => ∃ i σ' H', Inv X pins σ' H' s' ∧ tn i s'.heap ∧ (∀ b ∈ fp, H' b = none) ∧ W i n σ' H') ?_ m0 ⟨0, σ, H2, I2, st2, fun b hb => (f2 b hb).1, w0⟩
    rintro n s3 ⟨i, σ3, H3, I3, st3, fr3, w3⟩
    rcases turn i n σ3 H3 w3 with ⟨stop, qn⟩ | ⟨go, N, hN, step⟩
    · refine wpAny_passesOwn hp (thn (T.done X rfl rfl rfl hc i pins s3 σ3 H3 X.xe I3 (stat fr3) st3 stop) fun r s4 ⟨hr, I4⟩ => ?_)
      subst hr
      exact wpAny_execs_nil ⟨σ3, H3, I4, qn⟩
    · refine wpAny_passesOwn hp (thn (T.item X rfl rfl rfl hc i pins s3 σ3 H3 X.xe I3 (stat fr3) st3 go) fun r s4 ⟨u, hr, h4⟩ => ?_)
      subst hr
      refine wpAny_passesOwn hp (thn h4 fun _ s5 ⟨x, H5, I5, r5, y5, st5, fr5⟩ => ?_)
      have I5' := I5.pinned (stat fr5) (T.obj _ _ st5)
      refine wpAny_passesOwn hp (thn (hg _ s5 σ3 H5 x u _ I5' r5 (step x H5 y5)) fun _ s6 ⟨σ6, H6, I6, q6⟩ => ?_)
      refine wpAny_passesOwn hp (thn (hb _ s6 σ6 H6 _ I6 q6) fun f s7 q7 => ?_)
      have again : ∀ {σ7 : St} {H7 : Hp}, Inv X (pins ++ pinsAt fp s5.heap) σ7 H7 s7 → N σ7 H7 → ∃ m, m < n ∧ ∃ i σ' H', Inv X pins σ' H' s7 ∧ tn i s7.heap ∧ (∀ b ∈ fp, H' b = none) ∧ W i m σ' H' := fun {σ7 H7} I7 n7 => by
        obtain ⟨m', hm, w7⟩ := hN σ7 H7 n7
        refine ⟨m', hm, i + 1, σ7, H7, I7.unpinned, T.keep _ _ _ st5 fun b hb o e => (I7.pin (b, o) (List.mem_append_right _ (List.mem_append_right _ (mem_pinsAt hb e)))).1, fun b hb => ?_, w7⟩
        obtain ⟨o, e, d⟩ := T.obj _ _ st5 b hb
        exact (I7.pin (b, o) (List.mem_append_right _ (List.mem_append_right _ (mem_pinsAt hb e)))).2.1
      cases f with
      | next => obtain ⟨σ7, H7, I7, n7⟩ := q7; exact again I7 n7
      | cont => obtain ⟨σ7, H7, I7, n7⟩ := q7; exact again I7 n7
      | brk => obtain ⟨σ7, H7, I7, q7⟩ := q7; exact ⟨σ7, H7, I7.unpinned, q7⟩
      | ret v => obtain ⟨x7, σ7, H7, I7, r7, q7⟩ := q7; exact ⟨x7, σ7, H7, I7.unpinned, r7, q7⟩
end
theorem for_range {lo : Int} {n : Nat} {g : TG} {tb : TS} {D : Ends} {σ : St} {H : Hp} (Pv : Nat → St → Hp → Prop) (h0 : Pv 0 σ H)
    (hs : ∀ i σ H, i < n → Pv i σ H → g (.int (lo + i)) σ H fun σ2 H2 => tb { D with nx := Pv (i + 1), ct := Pv (i + 1), bk := D.nx } σ2 H2) (hd : ∀ σ H, Pv n σ H → D.nx σ H) :
    ∃ W : Nat → Nat → St → Hp → Prop, (∃ m, W 0 m σ H) ∧ ∀ i m σ H, W i m σ H →
      ((Itr lo n).stop i H ∧ D.nx σ H) ∨ ((Itr lo n).go i H ∧ ∃ N : St → Hp → Prop, (∀ σ' H', N σ' H' → ∃ m', m' < m ∧ W (i + 1) m' σ' H') ∧ ∀ x H', (Itr lo n).yld i H x H' → g x σ H' fun σ2 H2 => tb { D with nx := N, ct := N, bk := D.nx } σ2 H2) := by
  refine ⟨fun i m σ H => m = n - i ∧ i ≤ n ∧ Pv i σ H, ⟨n, by simp, Nat.zero_le _, h0⟩, ?_⟩
  rintro i m σ H ⟨rfl, hi, p⟩
  by_cases hlt : i < n
  · refine .inr ⟨hlt, Pv (i + 1), fun σ' H' p' => ⟨n - (i + 1), by omega, rfl, hlt, p'⟩, fun x H' y => ?_⟩
    obtain ⟨e, y⟩ := y
    subst e y
    exact hs i σ _ hlt p
  · have e : i = n := by omega
    subst e
    exact .inl ⟨Nat.le_refl _, hd σ H p⟩
end L2
namespace L2
open PySem PySem.Spec PyProof.Rows
abbrev R2 := V → V → Hp → VK → Prop
@[irreducible] def OpR (X : Cx) (f : Value → Value → Sem Value) (r : R2) : Prop :=
  ∀ (pins : List (Addr × Obj)) (s : Shared) (σ : St) (H : Hp) (x y : V) (v u : Value) (Q : VK), Inv X pins σ H s → RelV x v → RelV y u → r x y H Q →
    wpAny (model X.prog X.w) X.A (f v u) (EP X pins σ Q) X.xe s
@[irreducible] def UnR (X : Cx) (f : Value → Sem Value) (r : V → Hp → VK → Prop) : Prop :=
  ∀ (pins : List (Addr × Obj)) (s : Shared) (σ : St) (H : Hp) (x : V) (v : Value) (Q : VK), Inv X pins σ H s → RelV x v → r x H Q →
    wpAny (model X.prog X.w) X.A (f v) (EP X pins σ Q) X.xe s
@[irreducible] def CallR (X : Cx) (f : Value) (r : List V → Hp → VK → Prop) : Prop :=
  ∀ (pins : List (Addr × Obj)) (s : Shared) (σ : St) (H : Hp) (xs : List V) (us : List Value) (Q : VK), Inv X pins σ H s → Vals xs us → r xs H Q →
    wpAny (model X.prog X.w) X.A (call f us) (EP X pins σ Q) X.xe s
def tOp (r : R2) (ta tb : TE) : TE := fun σ H Q => ta σ H fun x H1 => tb σ H1 fun y H2 => r x y H2 Q
def tUn (r : V → Hp → VK → Prop) (ta : TE) : TE := fun σ H Q => ta σ H fun x H1 => r x H1 Q
def rI (C : Int → Int → Prop) (g : Int → Int → V) : R2 := fun x y H Q => ∃ i j, x = .int i ∧ y = .int j ∧ C i j ∧ Q (g i j) H
def rI0 (g : Int → Int → V) : R2 := fun x y H Q => ∃ i j, x = .int i ∧ y = .int j ∧ Q (g i j) H
def rU (g : Int → V) : V → Hp → VK → Prop := fun x H Q => ∃ i, x = .int i ∧ Q (g i) H
section
variable {X : Cx} {a b c : Expr} {ta tb tc : TE} {pos : Pos}
theorem binT (ha : PE X a ta) (hb : PE X b tb) {pins : List (Addr × Obj)} {s : Shared} {σ : St} {H : Hp} {R : V → V → Hp → Prop} (I : Inv X pins σ H s)
    (h : ta σ H fun x H1 => tb σ H1 fun y H2 => R x y H2) {Q : Value → Shared → Prop} {f : Value → Value → Sem Value}
    (hf : ∀ v u s2 x y H2, Inv X pins σ H2 s2 → RelV x v → RelV y u → R x y H2 → wpAny (model X.prog X.w) X.A (f v u) Q X.xe s2) :
    wpAny (model X.prog X.w) X.A (eval a X.env) (fun v s₁ => wpAny (model X.prog X.w) X.A (eval b X.env) (fun u s₂ => wpAny (model X.prog X.w) X.A (f v u) Q X.xe s₂) X.xe s₁) X.xe s := by
  unfold PE at *
  exact by
    refine thn (ha pins s σ H _ I h) fun v s1 ⟨x, H1, I1, r1, q1⟩ => ?_
    refine thn (hb pins s1 σ H1 _ I1 q1) fun u s2 ⟨y, H2, I2, r2, q2⟩ => ?_
    exact hf v u s2 x y H2 I2 r1 r2 q2
theorem pe_op {op : Operator} {r : R2} (ho : OpR X (binaryOp op) r) (ha : PE X a ta) (hb : PE X b tb) : PE X (.BinOp a op b pos) (tOp r ta tb) := by
  unfold PE; unfold OpR at ho
  exact by
    intro pins s σ H Q I h
    exact wpAny_BinOp (binT ha hb I h fun v u s2 x y H2 I2 rx ry q => ho pins s2 σ H2 x y v u Q I2 rx ry q)
theorem pe_un {op : UnaryOp} {r : V → Hp → VK → Prop} (ho : UnR X (unaryOp op) r) (ha : PE X a ta) : PE X (.UnaryOp op a pos) (tUn r ta) := by
  unfold PE at *; unfold UnR at *
  exact by
    intro pins s σ H Q I h
    exact UnaryOp_ (thn (ha pins s σ H _ I h) fun v s1 ⟨x, H1, I1, r1, q1⟩ => ho pins s1 σ H1 x v Q I1 r1 q1)
theorem opI {f : Value → Value → Sem Value} {C : Int → Int → Prop} {g : Int → Int → Int}
    (rule : ∀ (i j : Int) (t u : Tok) (s : Shared) (Q : Value → Shared → Prop) (E : Value → Shared → Prop), C i j → Q (.int (g i j) s.toks) { s with toks := s.toks + 1 } → wpAny (model X.prog X.w) X.A (f (.int i t) (.int j u)) Q E s) :
    OpR X f (rI C fun i j => .int (g i j)) := by
  unfold OpR at *
  exact by
    intro pins s σ H x y v u Q I rx ry h
    obtain ⟨i, j, rfl, rfl, hc, q⟩ := h
    obtain ⟨t, rfl⟩ := rx
    obtain ⟨t', rfl⟩ := ry
    exact rule i j t t' s _ _ hc ⟨.int (g i j), H, I.tok _, ⟨_, rfl⟩, q⟩
theorem opI0 {f : Value → Value → Sem Value} {g : Int → Int → Int}
    (rule : ∀ (i j : Int) (t u : Tok) (s : Shared) (Q : Value → Shared → Prop) (E : Value → Shared → Prop), Q (.int (g i j) s.toks) { s with toks := s.toks + 1 } → wpAny (model X.prog X.w) X.A (f (.int i t) (.int j u)) Q E s) :
    OpR X f (rI0 fun i j => .int (g i j)) := by
  unfold OpR at *
  exact by
    intro pins s σ H x y v u Q I rx ry h
    obtain ⟨i, j, rfl, rfl, q⟩ := h
    obtain ⟨t, rfl⟩ := rx
    obtain ⟨t', rfl⟩ := ry
    exact rule i j t t' s _ _ ⟨.int (g i j), H, I.tok _, ⟨_, rfl⟩, q⟩
theorem opB0 {f : Value → Value → Sem Value} {g : Int → Int → Bool}
    (rule : ∀ (i j : Int) (t u : Tok) (s : Shared) (Q : Value → Shared → Prop) (E : Value → Shared → Prop), Q (.bool (g i j)) s → wpAny (model X.prog X.w) X.A (f (.int i t) (.int j u)) Q E s) :
    OpR X f (rI0 fun i j => .bl (g i j)) := by
  unfold OpR at *
  exact by
    intro pins s σ H x y v u Q I rx ry h
    obtain ⟨i, j, rfl, rfl, q⟩ := h
    obtain ⟨t, rfl⟩ := rx
    obtain ⟨t', rfl⟩ := ry
    exact rule i j t t' s _ _ ⟨.bl (g i j), H, I, rfl, q⟩
def CDiv (i j : Int) : Prop := 0 < j ∧ j < 1073741824
def CPow (i j : Int) : Prop := 0 ≤ j ∧ j ≤ 1000000 ∧ i.natAbs < 2 ^ 64
def CMul (i j : Int) : Prop := (-(2 ^ 64) < i ∧ i < 2 ^ 64) ∨ (-(2 ^ 64) < j ∧ j < 2 ^ 64)
theorem CMul.ok {i j : Int} (h : CMul i j) : IntMulOk i j := by
  rcases h with ⟨h1, h2⟩ | ⟨h1, h2⟩
  · exact .of_left (intBits_le_64 h1 h2)
  · exact .of_right (intBits_le_64 h1 h2)
theorem op_add : OpR X (binaryOp .Add) (rI0 fun i j => .int (i + j)) := by
  first
  | exact (opI0 fun _ _ _ _ _ _ _ q => add_int q)
  | (unfold OpR at *; exact (opI0 fun _ _ _ _ _ _ _ q => add_int q))
theorem op_sub : OpR X (binaryOp .Sub) (rI0 fun i j => .int (i - j)) := by
  first
  | exact (opI0 fun _ _ _ _ _ _ _ q => sub_int q)
  | (unfold OpR at *; exact (opI0 fun _ _ _ _ _ _ _ q => sub_int q))
theorem op_mul : OpR X (binaryOp .Mult) (rI CMul fun i j => .int (i * j)) := by
  first
  | exact (opI fun _ _ _ _ _ _ _ hc q => mul_int q hc.ok)
  | (unfold OpR at *; exact (opI fun _ _ _ _ _ _ _ hc q => mul_int q hc.ok))
theorem op_fdiv : OpR X (binaryOp .FloorDiv) (rI CDiv fun i j => .int (i / j)) := opI fun i j _ _ _ _ _ hc q => by
  have h1 : (0 : Int) < j := hc.1
  have h2 : j < 1073741824 := hc.2
  exact floordiv_int (by omega) (by rw [Int.fdiv_eq_ediv_of_nonneg i (by omega)]; exact q) (.inl (PyProof.noPylong_small (by omega)))
theorem op_mod : OpR X (binaryOp .Mod) (rI (fun _ j => 0 < j) fun i j => .int (i % j)) := opI fun i j _ _ _ _ _ hc q => by
  have h1 : (0 : Int) < j := hc
  exact mod_int' (by omega) (by rw [Int.fmod_eq_emod_of_nonneg i (by omega)]; exact q)
theorem op_pow : OpR X (binaryOp .Pow) (rI CPow fun i j => .int (i ^ j.toNat)) := by
  first
  | exact (opI fun _ _ _ _ _ _ _ hc q => pow_int_small hc.1 hc.2.1 hc.2.2 q)
  | (unfold OpR at *; exact (opI fun _ _ _ _ _ _ _ hc q => pow_int_small hc.1 hc.2.1 hc.2.2 q))
theorem unI {f : Value → Sem Value} {g : Int → Int}
    (rule : ∀ (i : Int) (t : Tok) (s : Shared) (Q : Value → Shared → Prop) (E : Value → Shared → Prop), Q (.int (g i) s.toks) { s with toks := s.toks + 1 } → wpAny (model X.prog X.w) X.A (f (.int i t)) Q E s) :
    UnR X f (rU fun i => .int (g i)) := by
  unfold UnR at *
  exact by
    intro pins s σ H x v Q I rx h
    obtain ⟨i, rfl, q⟩ := h
    obtain ⟨t, rfl⟩ := rx
    exact rule i t s _ _ ⟨.int (g i), H, I.tok _, ⟨_, rfl⟩, q⟩
theorem un_neg : UnR X (unaryOp .USub) (rU fun i => .int (-i)) := by
  first
  | exact (unI fun _ _ _ _ _ q => neg_int q)
  | (unfold UnR at *; exact (unI fun _ _ _ _ _ q => neg_int q))
end
def scal : V → V → Bool
  | .non, .non => true | .non, .int _ => true | .int _, .non => true | .non, .bl _ => true | .bl _, .non => true | .non, .str _ => true | .str _, .non => true
  | .int _, .int _ => true | .bl _, .bl _ => true | .str _, .str _ => true | .byt _, .byt _ => true
  | .int _, .str _ => true | .str _, .int _ => true | .bl _, .str _ => true | .str _, .bl _ => true
  | _, _ => false
def rEq : R2 := fun x y H Q => scal x y = true ∧ Q (.bl (decide (x = y))) H
def rNe : R2 := fun x y H Q => scal x y = true ∧ Q (.bl (!decide (x = y))) H
theorem dec_int {i j : Int} : decide (V.int i = V.int j) = (i == j) := by
  rw [Bool.eq_iff_iff]
  simp
theorem dec_bl {i j : Bool} : decide (V.bl i = V.bl j) = (i == j) := by
  rw [Bool.eq_iff_iff]
  simp
theorem dec_str {i j : Str} : decide (V.str i = V.str j) = (i == j) := by
  rw [Bool.eq_iff_iff]
  simp
theorem dec_byt {i j : Array UInt8} : decide (V.byt i = V.byt j) = (i.toList == j.toList) := by
  rw [Bool.eq_iff_iff]
  cases i
  cases j
  simp
section
variable {X : Cx} {a b c : Expr} {ta tb tc : TE} {pos : Pos}
theorem fin_bl {pins : List (Addr × Obj)} {σ : St} {H : Hp} {s : Shared} {Q : VK} {k k' : Bool} (I : Inv X pins σ H s) (q : Q (.bl k) H) (e : k = k') : EP X pins σ Q (.bool k') s := by
  subst e
  exact ⟨.bl k, H, I, rfl, q⟩
theorem op_eq : OpR X (compareOp .Eq) rEq := by
  unfold OpR at *
  exact by
    intro pins s σ H x y v u Q I rx ry h
    obtain ⟨hs, q⟩ := h
    cases x with
    | non =>
      cases rx
      cases y with
      | non => cases ry; exact PySem.EqNone.eq_none_none (fin_bl I q (by simp))
      | bl j => cases ry; exact PySem.EqNone.eq_none_bool (fin_bl I q (by simp))
      | int j => obtain ⟨t', rfl⟩ := ry; exact PySem.EqNone.eq_none_int (fin_bl I q (by simp))
      | str j => obtain ⟨t', rfl⟩ := ry; exact PySem.EqNone.eq_none_str (fin_bl I q (by simp))
      | _ => exact absurd (show false = true from hs) Bool.false_ne_true
    | bl i =>
      cases rx
      cases y with
      | non => cases ry; exact PySem.EqNone.eq_bool_none (fin_bl I q (by simp))
      | bl j => cases ry; exact eq_bool (fin_bl I q dec_bl)
      | str j => obtain ⟨t', rfl⟩ := ry; exact PySem.EqMixed.eq_bool_str (fin_bl I q (by simp))
      | _ => exact absurd (show false = true from hs) Bool.false_ne_true
    | int i =>
      obtain ⟨t, rfl⟩ := rx
      cases y with
      | non => cases ry; exact PySem.EqNone.eq_int_none (fin_bl I q (by simp))
      | int j => obtain ⟨t', rfl⟩ := ry; exact eq_int (fin_bl I q dec_int)
      | str j => obtain ⟨t', rfl⟩ := ry; exact PySem.EqMixed.eq_int_str (fin_bl I q (by simp))
      | _ => exact absurd (show false = true from hs) Bool.false_ne_true
    | str i =>
      obtain ⟨t, rfl⟩ := rx
      cases y with
      | non => cases ry; exact PySem.EqNone.eq_str_none (fin_bl I q (by simp))
      | bl j => cases ry; exact PySem.EqMixed.eq_str_bool (fin_bl I q (by simp))
      | int j => obtain ⟨t', rfl⟩ := ry; exact PySem.EqMixed.eq_str_int (fin_bl I q (by simp))
      | str j => obtain ⟨t', rfl⟩ := ry; exact eq_str (fin_bl I q dec_str)
      | _ => exact absurd (show false = true from hs) Bool.false_ne_true
    | byt i =>
      obtain ⟨t, rfl⟩ := rx
      cases y with
      | byt j => obtain ⟨t', rfl⟩ := ry; exact PySem.W.eq_bytes (fin_bl I q dec_byt)
      | _ => exact absurd (show false = true from hs) Bool.false_ne_true
    | _ => cases y <;> exact absurd (show false = true from hs) Bool.false_ne_true
theorem op_ne : OpR X (compareOp .NotEq) rNe := by
  unfold OpR at *
  exact by
    intro pins s σ H x y v u Q I rx ry h
    obtain ⟨hs, q⟩ := h
    cases x with
    | non =>
      cases rx
      cases y with
      | non => cases ry; exact PySem.EqNone.ne_none_none (fin_bl I q (by simp))
      | bl j => cases ry; exact PySem.EqNone.ne_none_bool (fin_bl I q (by simp))
      | int j => obtain ⟨t', rfl⟩ := ry; exact PySem.EqNone.ne_none_int (fin_bl I q (by simp))
      | str j => obtain ⟨t', rfl⟩ := ry; exact PySem.EqNone.ne_none_str (fin_bl I q (by simp))
      | _ => exact absurd (show false = true from hs) Bool.false_ne_true
    | bl i =>
      cases rx
      cases y with
      | non => cases ry; exact PySem.EqNone.ne_bool_none (fin_bl I q (by simp))
      | bl j => cases ry; exact ne_bool (fin_bl I q (congrArg not dec_bl))
      | str j => obtain ⟨t', rfl⟩ := ry; exact PySem.EqMixed.ne_bool_str (fin_bl I q (by simp))
      | _ => exact absurd (show false = true from hs) Bool.false_ne_true
    | int i =>
      obtain ⟨t, rfl⟩ := rx
      cases y with
      | non => cases ry; exact PySem.EqNone.ne_int_none (fin_bl I q (by simp))
      | int j => obtain ⟨t', rfl⟩ := ry; exact ne_int (fin_bl I q (congrArg not dec_int))
      | str j => obtain ⟨t', rfl⟩ := ry; exact PySem.EqMixed.ne_int_str (fin_bl I q (by simp))
      | _ => exact absurd (show false = true from hs) Bool.false_ne_true
    | str i =>
      obtain ⟨t, rfl⟩ := rx
      cases y with
      | non => cases ry; exact PySem.EqNone.ne_str_none (fin_bl I q (by simp))
      | bl j => cases ry; exact PySem.EqMixed.ne_str_bool (fin_bl I q (by simp))
      | int j => obtain ⟨t', rfl⟩ := ry; exact PySem.EqMixed.ne_str_int (fin_bl I q (by simp))
      | str j => obtain ⟨t', rfl⟩ := ry; exact ne_str (fin_bl I q (congrArg not dec_str))
      | _ => exact absurd (show false = true from hs) Bool.false_ne_true
    | byt i =>
      obtain ⟨t, rfl⟩ := rx
      cases y with
      | byt j => obtain ⟨t', rfl⟩ := ry; exact PySem.W.ne_bytes (fin_bl I q (congrArg not dec_byt))
      | _ => exact absurd (show false = true from hs) Bool.false_ne_true
    | _ => cases y <;> exact absurd (show false = true from hs) Bool.false_ne_true
theorem op_lt : OpR X (compareOp .Lt) (rI0 fun i j => .bl (decide (i < j))) := by
  first
  | exact (opB0 fun _ _ _ _ _ _ _ q => lt_int q)
  | (unfold OpR at *; exact (opB0 fun _ _ _ _ _ _ _ q => lt_int q))
theorem op_le : OpR X (compareOp .LtE) (rI0 fun i j => .bl (decide (i ≤ j))) := by
  first
  | exact (opB0 fun _ _ _ _ _ _ _ q => le_int q)
  | (unfold OpR at *; exact (opB0 fun _ _ _ _ _ _ _ q => le_int q))
theorem op_gt : OpR X (compareOp .Gt) (rI0 fun i j => .bl (decide (j < i))) := by
  first
  | exact (opB0 fun _ _ _ _ _ _ _ q => gt_int q)
  | (unfold OpR at *; exact (opB0 fun _ _ _ _ _ _ _ q => gt_int q))
theorem OpR.or {f : Value → Value → Sem Value} {r r' : R2} (h : OpR X f r) (h' : OpR X f r') : OpR X f (fun x y H Q => r x y H Q ∨ r' x y H Q) := by
  unfold OpR at *
  exact by
    intro pins s σ H x y v u Q I rx ry q
    rcases q with q | q
    · exact h pins s σ H x y v u Q I rx ry q
    · exact h' pins s σ H x y v u Q I rx ry q
theorem nomark (b : Expr) {op : CmpOp} (h : op ≠ .In := by decide) (h2 : op ≠ .NotIn := by decide) : behindInMarks op b = false := by
  have e1 : (op == CmpOp.In) = false := by cases op <;> first | rfl | exact absurd rfl h
  have e2 : (op == CmpOp.NotIn) = false := by cases op <;> first | rfl | exact absurd rfl h2
  cases b <;> simp [behindInMarks, e1, e2]
theorem pe_cmpR {op : CmpOp} {r : R2} (ho : OpR X (compareOp op) r) (ha : PE X a ta) (hb : PE X b tb) (hm : behindInMarks op b = false) : PE X (.Compare a [op] [b] pos) (tOp r ta tb) := by
  unfold PE; unfold OpR at ho
  exact by
    intro pins s σ H Q I h
    exact wpAny_Compare1 (binT ha hb I h fun v u s2 x y H2 I2 rx ry q => ho pins s2 σ H2 x y v u Q I2 rx ry q) hm
def tTest (t : TE) : TT := fun σ H Q => t σ H fun x H' => ∃ k, x = .bl k ∧ Q k H'
theorem pt_cmpR {op : CmpOp} {r : R2} (ho : OpR X (compareOp op) r) (ha : PE X a ta) (hb : PE X b tb) (hm : behindInMarks op b = false) : PT X (.Compare a [op] [b] pos) (tTest (tOp r ta tb)) := by
  unfold PE at *; unfold PT at *; unfold OpR at *
  exact by
    intro pins s σ H Q I h
    refine wpAny_isTrue_Compare1 (thn (ha pins s σ H _ I h) fun v s1 ⟨x, H1, I1, r1, q1⟩ => thn (hb pins s1 σ H1 _ I1 q1) fun u s2 ⟨y, H2, I2, r2, q2⟩ =>
      thn (ho pins s2 σ H2 x y v u _ I2 r1 r2 q2) fun c s3 ⟨z, H3, I3, r3, k, e, q3⟩ => ?_) hm
    subst e
    cases r3
    exact wpAny_truthy_bool ⟨H3, I3, q3⟩
def tChain (r r' : R2) (ta tb tc : TE) : TE := fun σ H Q => ta σ H fun x H1 => tb σ H1 fun y H2 => r x y H2 fun z H3 => ∃ k, z = .bl k ∧
  (if k = true then tc σ H3 fun w' H4 => r' y w' H4 Q else Q (.bl false) H3)
theorem pe_chain {op op' : CmpOp} {r r' : R2} (ho : OpR X (compareOp op) r) (ho' : OpR X (compareOp op') r') (ha : PE X a ta) (hb : PE X b tb) (hc : PE X c tc)
    (hm : lastMarks [op, op'] [b, c] = false := by with_unfolding_all rfl) : PE X (.Compare a [op, op'] [b, c] pos) (tChain r r' ta tb tc) := by
  unfold PE at *; unfold OpR at *
  exact by
    intro pins s σ H Q I h
    refine Compare_chain (thn (ha pins s σ H _ I h) fun v s1 ⟨x, H1, I1, r1, q1⟩ => chain_link (thn (hb pins s1 σ H1 _ I1 q1) fun u s2 ⟨y, H2, I2, r2, q2⟩ =>
      thn (ho pins s2 σ H2 x y v u _ I2 r1 r2 q2) fun d s3 ⟨z, H3, I3, r3, k, e, q3⟩ => ?_)) hm
    subst e
    cases r3
    refine wpAny_truthy_bool ?_
    cases k with
    | false => exact ite_ff ⟨.bl false, H3, I3, rfl, q3⟩
    | true => exact ite_tt (chain_last (thn (hc pins s3 σ H3 _ I3 q3) fun w' s4 ⟨z', H4, I4, r4, q4⟩ => ho' pins s4 σ H4 y z' u w' Q I4 r2 r4 q4))
theorem pt_chain {op op' : CmpOp} {r r' : R2} (ho : OpR X (compareOp op) r) (ho' : OpR X (compareOp op') r') (ha : PE X a ta) (hb : PE X b tb) (hc : PE X c tc)
    (hm : lastMarks [op, op'] [b, c] = false := by with_unfolding_all rfl) : PT X (.Compare a [op, op'] [b, c] pos) (tTest (tChain r r' ta tb tc)) := by
  unfold PE at *; unfold PT at *; unfold OpR at *
  exact by
    intro pins s σ H Q I h
    refine isTrue_chain (thn (ha pins s σ H _ I h) fun v s1 ⟨x, H1, I1, r1, q1⟩ => test_link (thn (hb pins s1 σ H1 _ I1 q1) fun u s2 ⟨y, H2, I2, r2, q2⟩ =>
      thn (ho pins s2 σ H2 x y v u _ I2 r1 r2 q2) fun d s3 ⟨z, H3, I3, r3, k, e, q3⟩ => ?_)) hm
    subst e
    cases r3
    refine wpAny_truthy_bool ?_
    cases k with
    | false =>
      obtain ⟨k', e', q'⟩ := q3
      cases e'
      exact ite_ff ⟨H3, I3, q'⟩
    | true =>
      refine ite_tt (test_last (thn (hc pins s3 σ H3 _ I3 q3) fun w' s4 ⟨z', H4, I4, r4, q4⟩ => thn (ho' pins s4 σ H4 y z' u w' _ I4 r2 r4 q4) fun d' s5 ⟨z2, H5, I5, r5, k2, e2, q5⟩ => ?_))
      subst e2
      cases r5
      exact wpAny_truthy_bool ⟨H5, I5, q5⟩
theorem line63 : (sizeLine : Nat) < 2 ^ 63 := by rw [sizeLine_eq]; decide
theorem op_add_str : OpR X (binaryOp .Add) (fun x y H Q => ∃ i j, x = .str i ∧ y = .str j ∧ i.length + j.length ≤ sizeLine ∧ Q (.str (i ++ j)) H) := by
  unfold OpR at *
  exact by
    intro pins s σ H x y v u Q I rx ry h
    obtain ⟨i, j, rfl, rfl, hz, q⟩ := h
    obtain ⟨t, rfl⟩ := rx
    obtain ⟨t', rfl⟩ := ry
    exact add_str (fun t' tk => ⟨.str (i ++ j), H, I.tok _, ⟨_, rfl⟩, q⟩) hz
theorem vals1 {x : V} {us : List Value} (r : Vals [x] us) : ∃ u, us = [u] ∧ RelV x u := by
  cases r with
  | cons r1 r2 => cases r2; exact ⟨_, rfl, r1⟩
theorem call_str_int : CallR X (.type "str") (fun xs H Q => ∃ i, xs = [.int i] ∧ i.natAbs.log2 < 1920 ∧ Q (.str (toString i)) H) := by
  unfold CallR at *
  exact by
    intro pins s σ H xs us Q I r h
    obtain ⟨i, rfl, hz, q⟩ := h
    obtain ⟨u, rfl, t, rfl⟩ := vals1 r
    exact PySem.P.str_of_int hz ⟨.str _, H, I.tok _, ⟨_, rfl⟩, q⟩
end
end L2
namespace L2
open PySem PySem.Spec PyProof.Rows
structure ObjM (h : Heap) (x dx C : Addr) (mA : Str → Option Value) : Prop where
  obj : h.get? x = some (PySem.W.instObj C dx)
  ns : h.Ns1 dx mA
  ne : dx ≠ x
theorem lookIn_ns {h : Heap} {dx : Addr} {mA : Str → Option Value} (n : h.Ns1 dx mA) : ∃ od, h.get? dx = some od ∧ ∀ name, PySem.W.lookIn name od = some (mA name) := by
  obtain ⟨o, es, ep, ho, hd, hk, _, hm⟩ := n
  refine ⟨o, ho, fun name => ?_⟩
  have e := hm name
  unfold nsFind findBy at e
  rw [← Array.find?_toList] at e
  unfold PySem.W.lookIn
  rw [hd]
  dsimp only
  split
  · rename_i y q
    rw [q] at e
    exact congrArg some e
  · rename_i q
    rw [q] at e
    have a : es.toList.any (·.refKey) = false := by
      rw [List.any_eq_false]
      intro y hy
      obtain ⟨z, t, hkey⟩ := hk y (Array.mem_toList_iff.mp hy)
      simp [DictEntry.refKey, hkey]
    have a' : ¬ es.toList.any (·.refKey) = true := by rw [a]; exact Bool.false_ne_true
    rw [if_neg a']
    exact congrArg some e
theorem ObjM.look {h : Heap} {x dx C : Addr} {mA : Str → Option Value} (I : ObjM h x dx C mA) : ∃ od, PySem.W.InstAt h x (PySem.W.instObj C dx) C (some od) ∧ ∀ name, PySem.W.lookIn name od = some (mA name) :=
  let ⟨od, ho, hl⟩ := lookIn_ns I.ns
  ⟨od, ⟨I.obj, rfl, rfl, ho⟩, hl⟩
section
variable {prog : Program} {w : World} {A : Around} {E : Value → Shared → Prop} {s : Shared} {K : PySem.W.Frag} {x dx C f : Addr} {mA : Str → Option Value} {name : Str} {v : Value}
theorem get_map {expr : Bool} {Q : Value → Shared → Prop} (X : K.In s.heap) (I : ObjM s.heap x dx C mA) (hg : PySem.W.plainGet K C name = true) (hh : PySem.W.hasDictIn K C = true)
    (ha : PySem.W.findIn K (.ref C) name = some none) (hv : mA name = some v) (hv' : PySem.W.handedIn v = true) (h : Q v { s with toks := s.toks + 1 }) :
    wpAny (model prog w) A (getAttr (.ref x) name expr) Q E s := by
  obtain ⟨od, J, hl⟩ := I.look
  exact PySem.W.get_value X J (PySem.W.plainGet_of hg).1 (PySem.W.findObj_own hh ha rfl (by rw [hl, hv])) hv' h
theorem set_map {ns : List Str} {Q : Unit → Shared → Prop} (X : K.In s.heap) (I : ObjM s.heap x dx C mA)
    (hs : PySem.W.findIn K (.ref C) "__setattr__" = some (some (.builtin "object.__setattr__"))) (hp : PySem.W.plainOver K C = true) (ht : PySem.W.takerIn K C name = some none) (hh : PySem.W.hasDictIn K C = true)
    (hw : PySem.Within mA ns) (hsz : ns.length ≤ sizeLine)
    (h : ∀ h', ObjM h' x dx C (fun y => if y = name then some v else mA y) → Heap.SameBut dx s.heap h' → Q () { s with heap := h', toks := s.toks + 2 }) :
    wpAny (model prog w) A (setAttr (.ref x) name v) Q E s := by
  obtain ⟨od, J, hl⟩ := I.look
  refine PySem.W.set_plain X J hs (PySem.W.osa_open (s := { s with toks := s.toks + 1 }) (r := none) X J hp ht fun b => ?_)
  obtain ⟨cd, hc, hd'⟩ := PySem.W.any_some hh
  have hx : s.heap.get? x = some ⟨.ref C, some dx, .plain, #[]⟩ := I.obj
  refine wpAny_bind (wpAny_pure (wpAny_bind (wpAny_bind (wpAny_loadPart hx (wpAny_bind (PySem.W.Looks.here (s := { s with toks := s.toks + 1 }) (PySem.W.looks_clsIn X hc) ?_))))))
  rw [hd']
  refine wpAny_pure (a := some dx) (wpAny_bind (wpAny_pure (wpAny_bind ?_)))
  refine wpAny_nsSet1 (s := { s with toks := s.toks + 1 }) I.ns fun h' hn2 hs2 => ?_
  obtain ⟨oD, esD, epD, hoD, hdD, hcD⟩ := hn2.count (PySem.Within.cons name v hw)
  refine wpAny_bind (wpAny_lookBehind hoD (by rw [hdD]; exact pastItsLine_dict (Nat.le_trans hcD (by rw [List.length_cons]; omega))) ?_)
  exact wpAny_pure (h _ ⟨(hs2.2 _ (Ne.symm I.ne)).trans I.obj, hn2, I.ne⟩ hs2)
theorem make_map {R : Result → Shared → Prop} {vs : List Value} {kw : List (Str × Value)} (X : K.In s.heap) (hm : PySem.W.makesIn K C = true)
    (hi : PySem.W.findIn K (.ref C) "__init__" = some (some (.ref f))) (hf : PySem.W.typeIn K (.ref f) = some (.type "function"))
    (h : codeAny (model prog w) (A.under (.builtin "type.__call__" ⟨.ref C :: vs, kw⟩)) (.call (.ref f) ⟨.ref (s.heap.objs.size + 1) :: vs, kw⟩) (PySem.W.InitBack (s.heap.objs.size + 1) R)
      { s with heap := (s.heap.push PySem.W.emptyDict).push (PySem.W.instObj C s.heap.objs.size) }) :
    codeAny (model prog w) A (.call (.ref C) ⟨vs, kw⟩) R s := by
  obtain ⟨hh, g, d, t, os⟩ := s
  exact PySem.W.make_core (PySem.W.makes_of X hm) (PySem.W.looks_findIn X hi) (fun self => PySem.W.bind_fn X self hf) (.inl rfl) h
end
def putF (f : Str) (v : V) : List (Str × V) → List (Str × V)
  | [] => [(f, v)]
  | (g, x) :: r => if g = f then (g, v) :: r else (g, x) :: putF f v r
theorem lookup_putF (f g : Str) (v : V) : ∀ fs : List (Str × V), (putF f v fs).lookup g = if g = f then some v else fs.lookup g
  | [] => by
    show List.lookup g [(f, v)] = _
    by_cases h : g = f
    · have hb : (g == f) = true := beq_iff_eq.mpr h
      simp only [List.lookup, hb, if_pos h]
    · have hb : (g == f) = false := beq_eq_false_iff_ne.mpr h
      simp only [List.lookup, hb, if_neg h]
  | (k, x) :: r => by
    have ih := lookup_putF f g v r
    rw [show putF f v ((k, x) :: r) = (if k = f then (k, v) :: r else (k, x) :: putF f v r) from rfl]
    by_cases hk : k = f
    · rw [if_pos hk]
      by_cases h : g = k
      · have hb : (g == k) = true := beq_iff_eq.mpr h
        simp only [List.lookup, hb, if_pos (h.trans hk)]
      · have hb : (g == k) = false := beq_eq_false_iff_ne.mpr h
        simp only [List.lookup, hb, if_neg (fun e : g = f => h (e.trans hk.symm))]
    · rw [if_neg hk]
      by_cases h : g = k
      · have hb : (g == k) = true := beq_iff_eq.mpr h
        simp only [List.lookup, hb, if_neg (fun e : g = f => hk (h.symm.trans e))]
      · have hb : (g == k) = false := beq_eq_false_iff_ne.mpr h
        simp only [List.lookup, hb]
        exact ih
theorem keys_putF (f : Str) (v : V) : ∀ fs : List (Str × V), f ∈ (putF f v fs).map (·.1) ∧ ∀ g, g ∈ fs.map (·.1) → g ∈ (putF f v fs).map (·.1)
  | [] => ⟨by simp [putF], fun g h => by simp at h⟩
  | (k, x) :: r => by
    obtain ⟨i1, i2⟩ := keys_putF f v r
    rw [show putF f v ((k, x) :: r) = (if k = f then (k, v) :: r else (k, x) :: putF f v r) from rfl]
    by_cases hk : k = f
    · rw [if_pos hk]
      subst hk
      exact ⟨by simp, fun g h => by simpa using h⟩
    · rw [if_neg hk]
      refine ⟨?_, fun g h => ?_⟩
      · rw [List.map_cons]
        exact List.mem_cons_of_mem _ i1
      · rw [List.map_cons] at h ⊢
        rcases List.mem_cons.mp h with e | e
        · exact List.mem_cons.mpr (.inl e)
        · exact List.mem_cons_of_mem _ (i2 g e)
theorem length_putF (f : Str) (v : V) : ∀ fs : List (Str × V), (putF f v fs).length ≤ fs.length + 1
  | [] => by simp [putF]
  | (k, x) :: r => by
    have ih := length_putF f v r
    rw [show putF f v ((k, x) :: r) = (if k = f then (k, v) :: r else (k, x) :: putF f v r) from rfl]
    by_cases hk : k = f
    · rw [if_pos hk, List.length_cons, List.length_cons]; omega
    · rw [if_neg hk, List.length_cons, List.length_cons]; omega
theorem RelO.some_of {v : V} {o : Option Value} (r : RelO (some v) o) : ∃ u, o = some u ∧ RelV v u := by
  cases o with
  | none => exact (show False from r).elim
  | some u => exact ⟨u, rfl, r⟩
theorem handed_of {v : V} {u : Value} (r : RelV v u) : PySem.W.handedIn u = true := by
  cases v with
  | non => cases (show u = Value.none from r); rfl
  | bl b => cases (show u = Value.bool b from r); rfl
  | int i => obtain ⟨t, e⟩ := (show ∃ t, u = Value.int i t from r); cases e; rfl
  | str x => obtain ⟨t, e⟩ := (show ∃ t, u = Value.str x t from r); cases e; rfl
  | byt b => obtain ⟨t, e⟩ := (show ∃ t, u = Value.bytes b t from r); cases e; rfl
  | flt b => obtain ⟨t, e⟩ := (show ∃ t, u = Value.float b t from r); cases e; rfl
  | ref a => cases (show u = Value.ref a from r); rfl
  | ty n => cases (show u = Value.type n from r); rfl
section
variable {P : Program} {w : World} {H H' : Hp} {h h' : Heap} {a C dx : Addr} {fs fs' : List (Str × V)}
theorem ins_get (hok : HOk P w H h) (e : H a = some (.ins C dx fs)) : ∃ mA, ObjM h a dx C mA ∧ (∀ f, RelO (fs.lookup f) (mA f)) ∧ PySem.Within mA (fs.map (·.1)) ∧ fs.length ≤ 1000 ∧ H dx = some (.own a) := by
  obtain ⟨d, z, ne, ob, mA, n, r, q⟩ := (show ObjOk P w H h a (.ins C dx fs) from hok a _ e)
  exact ⟨mA, ⟨ob, n, ne⟩, r, q, z, d⟩
end
structure Cls (K : PySem.W.Frag) (C : Addr) : Prop where
  pg : PySem.W.plainGet K C Str.empty = true
  hd : PySem.W.hasDictIn K C = true
  po : PySem.W.plainOver K C = true
  sa : PySem.W.findIn K (.ref C) "__setattr__" = some (some (.builtin "object.__setattr__"))
theorem Cls.get {K : PySem.W.Frag} {C : Addr} (c : Cls K C) (f : Str) : PySem.W.plainGet K C f = true := c.pg
def NoAttr (K : PySem.W.Frag) (C : Addr) (f : Str) : Prop := PySem.W.findIn K (.ref C) f = some none
theorem NoAttr.taker {K : PySem.W.Frag} {C : Addr} {f : Str} (n : NoAttr K C f) : PySem.W.takerIn K C f = some none := by
  unfold PySem.W.takerIn
  rw [show PySem.W.findIn K (.ref C) f = some none from n]
  rfl
section
variable {X : Cx} {pins : List (Addr × Obj)} {σ : St} {H : Hp} {s : Shared} {a C dx : Addr} {fs : List (Str × V)} {f : Str} {v : V} {A : Around} {E : Value → Shared → Prop}
theorem getattr_ok {b : Bool} {Q : Value → Shared → Prop} (I : Inv X pins σ H s) (e : H a = some (.ins C dx fs)) (c : Cls X.K C) (n : NoAttr X.K C f) (l : fs.lookup f = some v)
    (h : ∀ u s', Inv X pins σ H s' → RelV v u → Q u s') : wpAny (model X.prog X.w) A (getAttr (.ref a) f b) Q E s := by
  obtain ⟨mA, O, r, _, _, _⟩ := ins_get I.hok e
  obtain ⟨u, hu, ru⟩ := RelO.some_of (v := v) (o := mA f) (by rw [← l]; exact r f)
  exact get_map I.kIn O (c.get f) c.hd n hu (handed_of ru) (h u _ (I.tok _) ru)
theorem setattr_ok {y : V} {u : Value} {Q : Unit → Shared → Prop} (I : Inv X pins σ H s) (e : H a = some (.ins C dx fs)) (c : Cls X.K C) (n : NoAttr X.K C f) (hl : fs.length < 1000) (ry : RelV y u)
    (h : ∀ s', Inv X pins σ (upd H a (.ins C dx (putF f y fs))) s' → Q () s') : wpAny (model X.prog X.w) A (setAttr (.ref a) f u) Q E s := by
  obtain ⟨mA, O, r, wi, _, ho⟩ := ins_get I.hok e
  have hz : (fs.map (·.1)).length ≤ sizeLine := by rw [List.length_map, sizeLine_eq]; omega
  refine set_map I.kIn O c.sa c.po n.taker c.hd wi hz fun h' O' sb => h _ ?_
  have hd : ∃ o, h'.get? dx = some o := let ⟨o, _, _, e', _⟩ := O'.ns; ⟨o, e'⟩
  refine I.write (x := a) (e := dx) (by rw [e]; exact True.intro) (.inr ho) (fun b q hb z => (sb.2 b hb).trans z) hd ?_
  refine ⟨by rw [upd_ne O.ne]; exact ho, ?_, O.ne, O'.obj, _, O'.ns, fun g => ?_, fun g hg => ?_⟩
  · have := length_putF f y fs; omega
  · show RelO ((putF f y fs).lookup g) (if g = f then some u else mA g)
    rw [lookup_putF]
    by_cases q : g = f
    · rw [if_pos q, if_pos q]; exact ry
    · rw [if_neg q, if_neg q]; exact r g
  · by_cases q : g = f
    · rw [q]; exact (keys_putF f y fs).1
    · refine (keys_putF f y fs).2 g (wi g fun z => hg ?_)
      show (if g = f then some u else mA g) = none
      rw [if_neg q]; exact z
theorem Inv.made (I : Inv X pins σ H s) : Inv X pins σ (upd (upd H s.heap.objs.size (.own (s.heap.objs.size + 1))) (s.heap.objs.size + 1) (.ins C s.heap.objs.size []))
    { s with heap := (s.heap.push PySem.W.emptyDict).push (PySem.W.instObj C s.heap.objs.size) } := by
  have e1 : (s.heap.push PySem.W.emptyDict).get? s.heap.objs.size = some PySem.W.emptyDict := Heap.get?_push_size s.heap rfl
  have e2 : ((s.heap.push PySem.W.emptyDict).push (PySem.W.instObj C s.heap.objs.size)).get? (s.heap.objs.size + 1) = some (PySem.W.instObj C s.heap.objs.size) := by
    have := Heap.get?_push_size (s.heap.push PySem.W.emptyDict) (o := PySem.W.instObj C s.heap.objs.size) rfl
    rwa [Heap.size_push] at this
  have e3 : (s.heap.push PySem.W.emptyDict).Ns s.heap.objs.size (fun _ => none) := ⟨PySem.W.emptyDict, #[], _, e1, rfl, (fun e he => absurd he (by simp)), fun _ => rfl⟩
  have I1 := I.laid (a := s.heap.objs.size) (o := .own (s.heap.objs.size + 1)) (h' := s.heap.push PySem.W.emptyDict) (t' := s.toks) (fun b u q => Heap.get?_push_of_some _ q) (Nat.le_refl _) ⟨_, e1⟩
  refine I1.laid (a := s.heap.objs.size + 1) (o := .ins C s.heap.objs.size []) (t' := s.toks) (fun b u q => Heap.get?_push_of_some _ q) (Nat.le_of_eq (Heap.size_push _ _)) ?_
  have ne : s.heap.objs.size ≠ s.heap.objs.size + 1 := Nat.ne_of_lt (Nat.lt_succ_self _)
  refine ⟨by rw [upd_ne ne, upd_same], Nat.zero_le _, ne, e2, fun _ => none, (Heap.Ns1.of_empty e3).at fun o q => Heap.get?_push_of_some _ q, fun _ => True.intro, fun y hy => absurd rfl hy⟩
theorem attr_of {prog : Program} {w : World} {env : Env} {e : Expr} {f : Str} {pos : Pos} {s : Shared} {Q : Value → Shared → Prop} (hb : attributeBase e f env (eval e env) = eval e env)
    (h : wpAny (model prog w) A (eval e env) (fun o s₁ => wpAny (model prog w) A (getAttr o f true) Q E s₁) E s) : wpAny (model prog w) A (eval (.Attribute e f pos) env) Q E s :=
  Attribute_any_ h (by rw [arm_eval_Attribute, hb])
end
def tFld (K : PySem.W.Frag) (ta : TE) (f : Str) : TE := fun σ H Q => ta σ H fun x H1 => ∃ a C dx fs v, x = .ref a ∧ H1 a = some (.ins C dx fs) ∧ Cls K C ∧ NoAttr K C f ∧ fs.lookup f = some v ∧ Q v H1
def sFld (K : PySem.W.Frag) (ta tv : TE) (f : Str) : TS := fun D σ H => tv σ H fun y H1 => ta σ H1 fun x H2 => ∃ a C dx fs, x = .ref a ∧ H2 a = some (.ins C dx fs) ∧ Cls K C ∧ NoAttr K C f ∧ fs.length < 1000 ∧
  D.nx σ (upd H2 a (.ins C dx (putF f y fs)))
section
variable {X : Cx} {o e value : Expr} {f : Str} {pos pos' tpos : Pos} {ta tv : TE}
theorem pe_fld (he : PE X e ta) (hb : attributeBase e f X.env (eval e X.env) = eval e X.env) : PE X (.Attribute e f pos) (tFld X.K ta f) := by
  unfold PE at *
  exact by
    intro pins s σ H Q I h
    refine attr_of hb (thn (he pins s σ H _ I h) fun u s1 ⟨x, H1, I1, rx, a, C, dx, fs, v, ex, ea, c, n, l, q⟩ => ?_)
    subst ex
    obtain rfl : u = Value.ref a := rx
    exact getattr_ok I1 ea c n l fun u' s2 I2 ru => ⟨v, H1, I2, ru, q⟩
theorem ps_fld (ha : PE X o ta) (hv : PE X value tv) (hs : swapsWith value (some (.Attribute o f pos')) pos.line X.env = pure false) : PS X (.Assign [.Attribute o f pos'] value pos) (sFld X.K ta tv f) := by
  unfold PE at *; unfold PS at *
  exact by
    intro pins s σ H D I h
    refine plainObj_wpAny_Assign_Attribute (thn (hv pins s σ H _ I h) fun u s1 ⟨y, H1, I1, ry, q⟩ => thn (ha pins s1 σ H1 _ I1 q) fun ov s2 ⟨x, H2, I2, rx, a, C, dx, fs, ex, ea, c, n, l, q2⟩ => ?_) hs
    subst ex
    obtain rfl : ov = Value.ref a := rx
    exact setattr_ok I2 ea c n l ry fun s3 I3 => ⟨σ, _, I3, q2⟩
end
section
variable {X : Cx} {pins : List (Addr × Obj)} {σ : St} {H : Hp} {s : Shared} {A : Around} {E : Value → Shared → Prop} {Q : Value → Shared → Prop} {c : Value} {b : Bool}
inductive TyOf (K : PySem.W.Frag) (H : Hp) : V → Value → Prop where
  | non : TyOf K H .non (.type "NoneType")
  | bl (x : Bool) : TyOf K H (.bl x) (.type "bool")
  | int (i : Int) : TyOf K H (.int i) (.type "int")
  | str (x : Str) : TyOf K H (.str x) (.type "str")
  | flt (x : UInt64) : TyOf K H (.flt x) (.type "float")
  | lst {a : Addr} {xs : List V} (e : H a = some (.lst xs)) : TyOf K H (.ref a) (.type "list")
  | frz {a : Addr} {o : Obj} {xs : List V} (e : H a = some (.frz o (.lst xs))) : TyOf K H (.ref a) (.type "list")
  | tup {a : Addr} {xs : List V} (e : H a = some (.tup xs)) : TyOf K H (.ref a) (.type "tuple")
  | dK {a : Addr} {kvs : List (Key × V)} (e : H a = some (.dK kvs)) : TyOf K H (.ref a) (.type "dict")
  | dT {a : Addr} {kvs : List (List Key × V)} (e : H a = some (.dT kvs)) : TyOf K H (.ref a) (.type "dict")
  | ins {a C dx : Addr} {fs : List (Str × V)} (e : H a = some (.ins C dx fs)) (cl : Cls K C) (ha : PySem.W.findIn K (.ref C) "__class__" = some (some (.builtin "object.__class__")))
      (hn : PySem.W.specialIn K (.builtin "object.__class__") "__get__" = some (some (.builtin "getset_descriptor.__get__"))) (htk : PySem.W.takesIn K (.builtin "object.__class__") = some true)
      (hm : PySem.W.mroIn K C (.type "object") = some true) : TyOf K H (.ref a) (.ref C)
theorem isinst_ok {x : V} {u t : Value} (I : Inv X pins σ H s) (rx : RelV x u) (ty : TyOf X.K H x t) (e : PySem.W.kitOne X.K t c = some b) (h : ∀ tk, Q (.bool b) { s with toks := tk }) :
    wpAny (model X.prog X.w) A (call (.builtin "isinstance") [u, c]) Q E s := by
  cases ty with
  | non => cases (show u = Value.none from rx); exact PySem.W.kia_one PySem.W.kitx_none I.kIn True.intro e (fun z => nomatch z) h
  | bl y => cases (show u = Value.bool y from rx); exact PySem.W.kia_one PySem.W.kitx_bool I.kIn True.intro e (fun z => nomatch z) h
  | int i => obtain ⟨t, q⟩ := (show ∃ t, u = Value.int i t from rx); cases q; exact PySem.W.kia_one PySem.W.kitx_int I.kIn True.intro e (fun z => nomatch z) h
  | str y => obtain ⟨t, q⟩ := (show ∃ t, u = Value.str y t from rx); cases q; exact PySem.W.kia_one PySem.W.kitx_str I.kIn True.intro e (fun z => nomatch z) h
  | flt y => obtain ⟨t, q⟩ := (show ∃ t, u = Value.float y t from rx); cases q; exact PySem.W.kia_one PySem.W.kitx_float I.kIn True.intro e (fun z => nomatch z) h
  | @lst a xs ea =>
    cases (show u = Value.ref a from rx)
    obtain ⟨_, _, n, _, h1⟩ := (show ObjOk X.prog X.w H s.heap a (.lst xs) from I.hok a _ ea)
    exact PySem.W.kia_one PySem.W.kitx_list I.kIn ⟨_, h1, rfl⟩ e (fun z => nomatch z) h
  | @frz a ob xs ea =>
    cases (show u = Value.ref a from rx)
    obtain ⟨_, _, _, n, _, h1⟩ := (show ObjOk X.prog X.w H s.heap a (.frz ob (.lst xs)) from I.hok a _ ea)
    exact PySem.W.kia_one PySem.W.kitx_list I.kIn ⟨_, h1, rfl⟩ e (fun z => nomatch z) h
  | @tup a xs ea =>
    cases (show u = Value.ref a from rx)
    obtain ⟨_, _, _, p⟩ := (show ObjOk X.prog X.w H s.heap a (.tup xs) from I.hok a _ ea)
    obtain ⟨o, h1, h2, _⟩ := p
    exact PySem.W.kia_one PySem.W.kitx_tuple I.kIn ⟨o, h1, h2⟩ e (fun z => nomatch z) h
  | @dK a kvs ea =>
    cases (show u = Value.ref a from rx)
    obtain ⟨_, _, vs, _, p⟩ := (show ObjOk X.prog X.w H s.heap a (.dK kvs) from I.hok a _ ea)
    obtain ⟨o, es, ep, h1, h2, _⟩ := p
    exact PySem.W.kia_one PySem.W.kitx_dict I.kIn ⟨o, h1, h2.1⟩ e (fun z => nomatch z) h
  | @dT a kvs ea =>
    cases (show u = Value.ref a from rx)
    obtain ⟨_, _, xs, _, o, es, ep, h1, h2, _⟩ := (show ObjOk X.prog X.w H s.heap a (.dT kvs) from I.hok a _ ea)
    exact PySem.W.kia_one PySem.W.kitx_dict I.kIn ⟨o, h1, h2.1⟩ e (fun z => nomatch z) h
  | @ins a C dx fs ea cl ha hn htk hm =>
    cases (show u = Value.ref a from rx)
    obtain ⟨mA, O, _⟩ := ins_get I.hok ea
    obtain ⟨od, J, _⟩ := O.look
    exact PySem.W.kia_one (PySem.W.kitx_own (cl.get _) cl.hd ha hn htk hm) I.kIn J e (fun z => nomatch z) h
end
end L2
namespace L2
open PySem PySem.Spec PyProof.Rows
structure Room (k : Nat) (A : Around) : Prop where
  hd : A.handled = none
  dp : A.depth + 3 * k + 5 < recursionLimit
  un : A.units + 16 * k + 200 < cLine
theorem Room.mono {j k : Nat} {A : Around} (r : Room k A) (h : j ≤ k) : Room j A := ⟨r.hd, by have := r.dp; omega, by have := r.un; omega⟩
theorem Room.deeper {k : Nat} {A : Around} (r : Room (k + 1) A) (env : Env) : Room k (A.deeper env) :=
  ⟨r.hd, by have := r.dp; show A.depth + 1 + 3 * k + 5 < _; omega, by have := r.un; show A.units + 3 + 16 * k + 200 < _; omega⟩
theorem Room.in1 {k : Nat} {A : Around} (r : Room (k + 1) A) : Room k A.in1 :=
  ⟨r.hd, by have := r.dp; show A.depth + 3 * k + 5 < _; omega, by have := r.un; show A.units + 1 + 16 * k + 200 < _; omega⟩
theorem make_depth {A : Around} {C : Addr} {us : List Value} {kw : List (Str × Value)} : (A.under (.builtin "type.__call__" ⟨.ref C :: us, kw⟩)).depth = A.depth + 1 := by
  first | rfl | simp [Around.under, Code.weight, Code.isCreation, Code.isGuard, Code.isCaller, Code.frames, Code.isFrame, guardIds]
theorem make_units {A : Around} {C : Addr} {us : List Value} {kw : List (Str × Value)} : (A.under (.builtin "type.__call__" ⟨.ref C :: us, kw⟩)).units = A.units + 1 := by
  first | rfl | simp [Around.under, Code.cUnits, Code.frames, Code.isFrame]
theorem Room.make {k : Nat} {A : Around} (r : Room (k + 1) A) (C : Addr) (us : List Value) (kw : List (Str × Value)) : Room k (A.under (.builtin "type.__call__" ⟨.ref C :: us, kw⟩)) :=
  ⟨r.hd, by have := r.dp; rw [make_depth]; omega, by have := r.un; rw [make_units]; omega⟩
theorem Room.depth {k : Nat} {A : Around} (r : Room k A) : A.depth < recursionLimit := by have := r.dp; omega
theorem Room.units {k : Nat} {A : Around} (r : Room k A) : A.units + 64 < cLine := by have := r.un; omega
def tNil : TA := fun _ H Q => Q [] H
def tCons (ta : TE) (tr : TA) : TA := fun σ H Q => ta σ H fun x H1 => tr σ H1 fun xs H2 => Q (x :: xs) H2
section
variable {X : Cx} {e : Expr} {es : List Expr} {te : TE} {t : TA} {pos : Pos}
theorem pa_nil : PA X [] tNil := by
  first
  | exact (fun _ _ _ _ H Q I h => Calls.spliced_nil ⟨[], H, I, .nil, h⟩)
  | (unfold PA at *; exact (fun _ _ _ _ H Q I h => Calls.spliced_nil ⟨[], H, I, .nil, h⟩))
theorem pa_cons (ha : PE X e te) (hr : PA X es t) (hs : starEach (e :: es) X.env = (false, eval e X.env) :: starEach es X.env := by rfl) : PA X (e :: es) (tCons te t) := by
  unfold PE at *; unfold PA at *
  exact by
    intro pos pins s σ H Q I h
    rw [hs]
    show wpAny _ _ (spliced ((false, eval e X.env) :: backTo pos (starEach es X.env))) _ _ s
    refine Calls.spliced_cons (thn (ha pins s σ H _ I h) fun u s1 ⟨x, H1, I1, r1, q1⟩ => ?_)
    exact thn (hr pos pins s1 σ H1 _ I1 q1) fun us s2 ⟨xs, H2, I2, r2, q2⟩ => ⟨x :: xs, H2, I2, .cons r1 r2, q2⟩
def tTup (t : TA) : TE := fun σ H Q => t σ H fun xs H1 => xs.length ≤ sizeLine ∧ ∀ p, H1 p = none → Q (.ref p) (upd H1 p (.tup xs))
def tLst (t : TA) : TE := fun σ H Q => t σ H fun xs H1 => xs.length ≤ sizeLine ∧ ∀ p, H1 p = none → Q (.ref p) (upd H1 p (.lst xs))
theorem pe_tup {x1} (h : PA X es t) : PE X (.Tuple es x1 pos) (tTup t) := by
  unfold PE at *; unfold PA at *
  exact by
    intro pins s σ H Q I hq
    refine wpAny_Tuple_spliced (thn (h pos pins s σ H _ I hq) fun us s1 ⟨xs, H1, I1, r, z, q⟩ => ⟨by rw [← r.length]; exact z, ?_⟩)
    have hf : H1 s1.heap.objs.size = none := I1.hok.fresh (Nat.le_refl _)
    refine ⟨.ref s1.heap.objs.size, upd H1 s1.heap.objs.size (.tup xs), I1.laid (t' := s1.toks) (fun b u e => Heap.get?_push_of_some _ e) (Nat.le_refl _) ?_, rfl, q _ hf⟩
    exact ⟨z, us, r, ⟨_, Heap.get?_push_size _ rfl, rfl, _, rfl⟩⟩
theorem pe_lst (h : PA X es t) : PE X (.List es pos) (tLst t) := by
  unfold PE at *; unfold PA at *
  exact by
    intro pins s σ H Q I hq
    refine wpAny_List_spliced (thn (h pos pins s σ H _ I hq) fun us s1 ⟨xs, H1, I1, r, z, q⟩ => ⟨by rw [← r.length]; exact z, ?_⟩)
    have hf : H1 s1.heap.objs.size = none := I1.hok.fresh (Nat.le_refl _)
    refine ⟨.ref s1.heap.objs.size, upd H1 s1.heap.objs.size (.lst xs), I1.laid (t' := s1.toks) (fun b u e => Heap.get?_push_of_some _ e) (Nat.le_refl _) ?_, rfl, q _ hf⟩
    exact ⟨z, us, 0, r, Heap.get?_push_size _ rfl⟩
end
abbrev Sp := List V → Hp → VK → XK → Prop
abbrev CXT := List Env → Hp → Shared → XK → Value → Shared → Prop
structure Env0 (P : Program) (w : World) (K : PySem.W.Frag) (mg : Str → Option Value) (base : Heap) (A : Around) (outer : List Env) (s : Shared) (H : Hp) : Prop where
  frames : A.frames = some outer
  mod : Mod K mg base
  bs : ∀ b o, base.get? b = some o → s.heap.get? b = some o ∧ H b = none
  bsz : base.objs.size ≤ s.heap.objs.size
  funs : s.heap.FunFrames base outer
  frf : ∀ b ∈ frs outer, H b = none
  hok : HOk P w H s.heap
  bare : AllBare s.gens
def CE (outer : List Env) (P : Program) (w : World) (H : Hp) (s : Shared) (Q : VK) (u : Value) (s' : Shared) : Prop :=
  ∃ v H', s'.os = s.os ∧ AllBare s'.gens ∧ Un (frs outer) [] H H' s.heap s'.heap ∧ HOk P w H' s'.heap ∧ RelV v u ∧ Q v H'
def CR (CX : CXT) (outer : List Env) (P : Program) (w : World) (H : Hp) (s : Shared) (Q : VK) (E : XK) (r : Result) (s' : Shared) : Prop :=
  match r with
  | .ok (.ret u) => CE outer P w H s Q u s'
  | .ok _ => False
  | .error e => CX outer H s E e s'
structure FnOk (P : Program) (w : World) (K : PySem.W.Frag) (mg : Str → Option Value) (base : Heap) (CX : CXT) (k : Nat) (f : Addr) (fd : FuncData) (ps : List Str) (sp : Sp) : Prop where
  len : ∀ vs H Q E, sp vs H Q E → vs.length = ps.length
  run : ∀ (A : Around) (outer : List Env) (s : Shared) (H : Hp) (args : Args) (us : List Value) (vs : List V) (Q : VK) (E : XK), Room k A → Env0 P w K mg base A outer s H → BindsTo s fd args (ps.zip us) → Vals vs us → sp vs H Q E →
    codeAny (model P w) A (.call (.ref f) args) (CR CX outer P w H s Q E) s
theorem FnOk.mono {P : Program} {w : World} {K : PySem.W.Frag} {mg : Str → Option Value} {base : Heap} {CX : CXT} {j k : Nat} {f : Addr} {fd : FuncData} {ps : List Str} {sp : Sp} (F : FnOk P w K mg base CX j f fd ps sp) (h : j ≤ k) :
    FnOk P w K mg base CX k f fd ps sp := ⟨F.len, fun A outer s H args us vs Q E hr => F.run A outer s H args us vs Q E (hr.mono h)⟩
theorem FnOk.imp {P : Program} {w : World} {K : PySem.W.Frag} {mg : Str → Option Value} {base : Heap} {CX : CXT} {k : Nat} {f : Addr} {fd : FuncData} {ps : List Str} {sp sp' : Sp} (F : FnOk P w K mg base CX k f fd ps sp)
    (h : ∀ vs H Q E, sp' vs H Q E → sp vs H Q E) : FnOk P w K mg base CX k f fd ps sp' :=
  ⟨fun vs H Q E q => F.len vs H Q E (h _ _ _ _ q), fun A outer s H args us vs Q E hr he hb hv hs => F.run A outer s H args us vs Q E hr he hb hv (h _ _ _ _ hs)⟩
theorem Env0.make {P : Program} {w : World} {K : PySem.W.Frag} {mg : Str → Option Value} {base : Heap} {A : Around} {outer : List Env} {s : Shared} {H : Hp} (e : Env0 P w K mg base A outer s H) (C : Addr) (us : List Value) (kw : List (Str × Value)) :
    Env0 P w K mg base (A.under (.builtin "type.__call__" ⟨.ref C :: us, kw⟩)) outer s H := ⟨by first | exact e.frames | (simpa [Around.under, Code.envs, Code.isFrame, pushEnvs] using e.frames), e.mod, e.bs, e.bsz, e.funs, e.frf, e.hok, e.bare⟩
theorem Env0.in1 {P : Program} {w : World} {K : PySem.W.Frag} {mg : Str → Option Value} {base : Heap} {A : Around} {outer : List Env} {s : Shared} {H : Hp} (e : Env0 P w K mg base A outer s H) :
    Env0 P w K mg base A.in1 outer s H := ⟨e.frames, e.mod, e.bs, e.bsz, e.funs, e.frf, e.hok, e.bare⟩
section
variable {X : Cx} {pins : List (Addr × Obj)} {σ : St} {H : Hp} {s s' : Shared}
theorem Inv.env0 (I : Inv X pins σ H s) : Env0 X.prog X.w X.K X.mg X.base X.A X.stack s H :=
  ⟨I.ok.frames, I.ok.mod, I.bs, Nat.le_trans I.ok.bsz I.sz, I.stack, I.stkFree, I.hok, I.bare⟩
theorem Inv.after {Q : VK} {u : Value} (I : Inv X pins σ H s) (h : CE X.stack X.prog X.w H s Q u s') : EP X pins σ Q u s' := by
  obtain ⟨v, H', os, bare, un, hok, r, q⟩ := h
  obtain ⟨hh, g, d, t, os'⟩ := s'
  obtain rfl : os' = s.os := os
  exact ⟨v, H', I.call (h' := hh) (g' := g) (d' := d) (t' := t) (ch := []) un hok bare (fun b z => absurd z (by simp)), r, q⟩
end
def tCall (sp : Sp) (dvs : List V) (E : XK) (t : TA) : TE := fun σ H Q => t σ H fun vs H1 => sp (vs ++ dvs) H1 Q E
def Binds (K : PySem.W.Frag) (fd : FuncData) (ps : List Str) (ds : List Value) : Prop :=
  ∀ (s : Shared) (us : List Value), K.In s.heap → (us ++ ds).length = ps.length → BindsTo s fd ⟨us, []⟩ (ps.zip (us ++ ds))
theorem Binds.all {K : PySem.W.Frag} {fd : FuncData} {ps : List Str} (h : ∀ us : List Value, us.length = ps.length → bindArgs fd ⟨us, []⟩ = pure (ps.zip us)) : Binds K fd ps [] := fun s us _ hl => by
  rw [List.append_nil] at hl ⊢
  exact .of_eq (h us hl)
def Passes (CX : CXT) (X : Cx) (E : XK) : Prop := ∀ (pins : List (Addr × Obj)) (σ : St) (H : Hp) (s : Shared) (e : Value) (s' : Shared), Inv X pins σ H s → CX X.stack H s E e s' → X.xe e s'
section
variable {X : Cx} {CX : CXT} {k : Nat} {f C : Addr} {fd : FuncData} {ps : List Str} {sp : Sp} {dvs : List V} {ds : List Value} {E : XK} {x m : Str} {p pos apos : Pos} {e o : Expr} {es : List Expr} {ta : TE} {t : TA}
theorem run_fn {pins : List (Addr × Obj)} {σ : St} {H : Hp} {s : Shared} {Q : VK} {us : List Value} {vs : List V} (F : FnOk X.prog X.w X.K X.mg X.base CX k f fd ps sp) (hr : Room k X.A) (hb : Binds X.K fd ps ds) (hd : Vals dvs ds) (hx : Passes CX X E)
    (I : Inv X pins σ H s) (r : Vals vs us) (h : sp (vs ++ dvs) H Q E) : wpAny (model X.prog X.w) X.A (call (.ref f) us) (EP X pins σ Q) X.xe s := by
  have r2 : Vals (vs ++ dvs) (us ++ ds) := r.append hd
  have hl : (us ++ ds).length = ps.length := by rw [← r2.length]; exact F.len _ _ _ _ h
  refine wpAny_call (codeAny_mono (F.run X.A X.stack s H ⟨us, []⟩ (us ++ ds) (vs ++ dvs) Q E hr I.env0 (hb s us I.kIn hl) r2 h) fun r s' hq => ?_)
  cases r with
  | error e => exact hx pins σ H s e s' I hq
  | ok fl =>
    cases fl with
    | ret u => exact I.after hq
    | next => exact False.elim hq
    | brk => exact False.elim hq
    | cont => exact False.elim hq
theorem pe_call (F : FnOk X.prog X.w X.K X.mg X.base CX k f fd ps sp) (hr : Room k X.A) (hg : Gl X x) (hm : X.mg x = some (.ref f)) (hk : PySem.W.keepIn X.K (.ref f) = true) (hb : Binds X.K fd ps ds) (hd : Vals dvs ds) (hx : Passes CX X E)
    (ha : PA X (e :: es) t) (hdb : (x == ("__debug__" : Str)) = false := by decide) (he : starEach (e :: es) X.env = (false, eval e X.env) :: starEach es X.env := by rfl) (hpl : (backTo pos (starEach es X.env)).any (·.1) = false := by rfl) :
    PE X (.Call (.Name x p) (e :: es) [] pos) (tCall sp dvs E t) := by
  unfold PE at *; unfold PA at *
  exact by
    intro pins s σ H Q I h
    refine wpAny_Call_Name_kw (ld_glob I hg hm ?_ hdb)
    refine PySem.W.callWith_K (h₀ := X.base) I.ok.mod.kin hk (thn (ha pos pins s σ H _ I h) fun us s1 ⟨vs, H1, I1, r, q⟩ => ⟨I1.kIn, ?_⟩) he hpl
    exact run_fn F hr hb hd hx I1 r q
structure Mk (K : PySem.W.Frag) (C f : Addr) : Prop where
  makes : PySem.W.makesIn K C = true
  init : PySem.W.findIn K (.ref C) "__init__" = some (some (.ref f))
  fn : PySem.W.isFn K (.ref f) = true
  kp : PySem.W.keepIn K (.ref C) = true
end
@[irreducible] def PK (X : Cx) (kws : List Keyword) (t : TA) : Prop :=
  ∀ (pos : Pos) (pins : List (Addr × Obj)) (s : Shared) (σ : St) (H : Hp) (Q : List V → Hp → Prop), Inv X pins σ H s → t σ H Q → wpAny (model X.prog X.w) X.A (evalAll ((backToKw pos (keywordEach kws X.env)).map (·.2))) (AP X pins σ Q) X.xe s
section
variable {X : Cx} {CX : CXT} {k : Nat} {f C : Addr} {fd : FuncData} {ps ks : List Str} {sp : Sp} {E : XK} {x m : Str} {p pos apos kpos : Pos} {e o : Expr} {es : List Expr} {kws : List Keyword} {te ta : TE} {t tk : TA} {nm : Option Str}
theorem pk_nil : PK X [] tNil := by
  first
  | exact (fun _ _ _ _ H Q I h => wpAny_evalAll_nil ⟨[], H, I, .nil, h⟩)
  | (unfold PK at *; exact (fun _ _ _ _ H Q I h => wpAny_evalAll_nil ⟨[], H, I, .nil, h⟩))
variable {g : List Value → List Value → List Value} {gV : List V → List V → List V}
end
structure FnScope (N P : List Str) (sc : Scope) : Prop where
  kind : sc.kind = .function
  co : sc.isCoroutine = false
  gen : sc.isGenerator = false
  nd : N.Nodup
  pre : N.take P.length = P
  par : ∀ x ∈ P, sc.names.lookup x = some .local ∨ sc.names.lookup x = some .cell
  nofree : ∀ y ∈ sc.names, y.2 ≠ .free
theorem bindL_out {kindOf : Str → Option NameKind} {x : Str} : ∀ {binds : List (Str × Value)} {m : Str → Option Value}, (∀ v, (x, v) ∉ binds) → bindL kindOf binds m x = m x
  | [], _, _ => rfl
  | (n, v) :: r, m, h => by
    unfold bindL
    rw [bindL_out fun w hw => h w (List.mem_cons_of_mem _ hw)]
    split
    · have : x ≠ n := by rintro rfl; exact h v List.mem_cons_self
      simp [this]
    · rfl
theorem bindC_out {kindOf : Str → Option NameKind} {x : Str} : ∀ {binds : List (Str × Value)} {m : Str → Option Value}, (∀ v, (x, v) ∉ binds) → bindC kindOf binds m x = m x
  | [], _, _ => rfl
  | (n, v) :: r, m, h => by
    unfold bindC
    rw [bindC_out fun w hw => h w (List.mem_cons_of_mem _ hw)]
    split
    · rfl
    · have : x ≠ n := by rintro rfl; exact h v List.mem_cons_self
      simp [this]
theorem bindL_get {kindOf : Str → Option NameKind} {x : Str} {v : Value} : ∀ {P : List Str} {vs : List Value} {i : Nat} {m : Str → Option Value}, P.Nodup → P[i]? = some x → vs[i]? = some v → kindOf x = some .local →
    bindL kindOf (P.zip vs) m x = some v
  | [], _, _, _, _, h, _, _ => by simp at h
  | _ :: _, [], _, _, _, _, h, _ => by simp at h
  | p :: P, w :: vs, 0, m, nd, h1, h2, hk => by
    simp at h1 h2; subst h1; subst h2
    show bindL kindOf ((p, w) :: P.zip vs) m p = _
    unfold bindL
    rw [bindL_out fun v hv => (List.nodup_cons.mp nd).1 (List.of_mem_zip hv).1, if_pos hk]
    simp
  | p :: P, w :: vs, i + 1, m, nd, h1, h2, hk => by
    show bindL kindOf ((p, w) :: P.zip vs) m x = _
    unfold bindL
    exact bindL_get (i := i) (List.nodup_cons.mp nd).2 (by simpa using h1) (by simpa using h2) hk
theorem bindC_get {kindOf : Str → Option NameKind} {x : Str} {v : Value} : ∀ {P : List Str} {vs : List Value} {i : Nat} {m : Str → Option Value}, P.Nodup → P[i]? = some x → vs[i]? = some v → kindOf x ≠ some .local →
    bindC kindOf (P.zip vs) m x = some v
  | [], _, _, _, _, h, _, _ => by simp at h
  | _ :: _, [], _, _, _, _, h, _ => by simp at h
  | p :: P, w :: vs, 0, m, nd, h1, h2, hk => by
    simp at h1 h2; subst h1; subst h2
    show bindC kindOf ((p, w) :: P.zip vs) m p = _
    unfold bindC
    rw [bindC_out fun v hv => (List.nodup_cons.mp nd).1 (List.of_mem_zip hv).1, if_neg hk]
    simp
  | p :: P, w :: vs, i + 1, m, nd, h1, h2, hk => by
    show bindC kindOf ((p, w) :: P.zip vs) m x = _
    unfold bindC
    exact bindC_get (i := i) (List.nodup_cons.mp nd).2 (by simpa using h1) (by simpa using h2) hk
def start (N : List Str) (vs : List V) : St := vs.map some ++ List.replicate (N.length - vs.length) none
def cxOf (CX : CXT) (P : Program) (w : World) (K : PySem.W.Frag) (mg : Str → Option Value) (base : Heap) (N : List Str) (qual : Str) (scope : Scope) (f : Addr) (cd : Value) (A : Around) (outer : List Env) (s : Shared) (H : Hp) (E : XK) : Cx where
  prog := P
  w := w
  K := K
  mg := mg
  base := base
  A := A.deeper (envOfC qual scope s.heap.objs.size f cd)
  N := N
  s₀ := s
  H₀ := H
  env := envOfC qual scope s.heap.objs.size f cd
  outer := outer
  stack := envOfC qual scope s.heap.objs.size f cd :: outer
  ex := []
  calm := true
  fn := fun _ => true
  pn := []
  xe := fun e s' => wpAny (model P w) (A.deeper (envOfC qual scope s.heap.objs.size f cd)) (leaving (envOfC qual scope s.heap.objs.size f cd) e) (fun _ s'' => CX outer H s E e s'') (fun e' s'' => CX outer H s E e' s'') s'
theorem cell_has {sc : Scope} {n : Nat} {x : Str} (h : sc.names.lookup x = some .cell) : ∃ c, (cellsFrom n sc.names []).lookup x = some c := by
  have q := PySem.W.cellsFrom_some sc.names n [] (.inl h)
  exact Option.isSome_iff_exists.mp q
theorem inv_start {CX : CXT} {P : Program} {w : World} {K : PySem.W.Frag} {mg : Str → Option Value} {base : Heap} {N ps : List Str} {qual : Str} {scope : Scope} {f : Addr} {cd : Value} {A : Around} {outer : List Env} {s s1 : Shared} {H : Hp} {E : XK} {us : List Value} {vs : List V}
    (S : FnScope N ps scope) (hd : A.handled = none) (e0 : Env0 P w K mg base A outer s H) (hl : vs.length = ps.length) (r : Vals vs us)
    (x : InCallC s s.heap.objs.size (bindL (envOfC qual scope s.heap.objs.size f cd).kindOf (ps.zip us) fun _ => none) (cellsFrom (s.heap.objs.size + 1) scope.names []) (bindC (envOfC qual scope s.heap.objs.size f cd).kindOf (ps.zip us) fun _ => none) s1) :
    Inv (cxOf CX P w K mg base N qual scope f cd A outer s H E) [] (start N vs) H s1 := by
  have hpl : ps.length ≤ N.length := by have := congrArg List.length S.pre; rw [List.length_take] at this; omega
  obtain ⟨h1, tk, rfl, hk⟩ := x.done
  have noA : ∀ b : Addr, b ∉ (cxOf CX P w K mg base N qual scope f cd A outer s H E).ex := fun b z => absurd (show b ∈ ([] : List Addr) from z) (by simp)
  refine ⟨⟨e0.mod, S.kind, rfl, rfl, Nat.le_refl _, fun y z c h1 h2 => ?_, fun y hy => ?_, fun y c _ h => ?_, fun _ => hd, Around.frames_deeper e0.frames, .inr ⟨rfl, rfl⟩, fun b z => absurd z (noA b), e0.bs, e0.bsz, fun b _ _ => noA b, fun b z => absurd z (noA b), e0.funs, e0.frf⟩,
    rfl, e0.bare, Un.kept hk, ⟨_, x.toInCall.ns, fun i y v h1 h2 h3 => ?_⟩, fun y c h => ⟨_, x.cell y c h⟩, e0.hok.fresh (Nat.le_refl _), fun y c h => ?_, fun p hp => absurd (show p ∈ ([] : List (Addr × Obj)) from hp) (by simp), e0.hok.kept hk, ?_⟩
  · exact name_of_addr x.apart (PySem.mem_of_lookup h1) (PySem.mem_of_lookup h2)
  · have hy : scope.names.lookup y = some .cell ∨ scope.names.lookup y = some .free := hy
    rcases hy with hy | hy
    · exact cell_has hy
    · exact absurd rfl (S.nofree _ (PySem.mem_of_lookup hy))
  · exact Nat.le_of_lt (x.above y c (PySem.mem_of_lookup h))
  · have hi : i < vs.length := by
      unfold start at h2
      by_cases hi : i < vs.length
      · exact hi
      · rw [List.getElem?_append_right (by simpa using hi)] at h2
        rw [List.getElem?_replicate] at h2
        split at h2 <;> cases h2
    have ha : vs[i]? = some v := by
      unfold start at h2
      rw [List.getElem?_append_left (by simpa using hi), List.getElem?_map] at h2
      cases e : vs[i]? with
      | none => rw [e] at h2; cases h2
      | some a => rw [e] at h2; cases h2; rfl
    obtain ⟨u, hu, rv⟩ := r.get ha
    have hp : ps[i]? = some y := by
      rw [← S.pre, List.getElem?_take_of_lt (by omega)]; exact h1
    have ndP : ps.Nodup := by rw [← S.pre]; exact S.nd.sublist (List.take_sublist _ _)
    refine ⟨u, rv, ?_⟩
    rcases S.par y (List.mem_of_getElem? hp) with k | k
    · exact .inl ⟨k, bindL_get ndP hp hu k⟩
    · obtain ⟨c, e⟩ := cell_has (n := s.heap.objs.size + 1) k
      refine .inr ⟨.inl k, c, e, ?_⟩
      have q := x.cell y c e
      rw [bindC_get ndP hp hu (by show scope.names.lookup y ≠ _; rw [k]; decide)] at q
      exact q
  · exact e0.hok.fresh (Nat.le_of_lt (x.above y c (PySem.mem_of_lookup h)))
  · unfold start
    show _ = N.length
    rw [List.length_append, List.length_map, List.length_replicate]
    omega
theorem fn_of {CX : CXT} {P : Program} {w : World} {K : PySem.W.Frag} {mg : Str → Option Value} {base : Heap} {k : Nat} {f : Addr} {name qual : Str} {params : Arguments} {body : List Stmt} {scope : Scope} {dV kV doc pm cdv ct oc : Value} {an od : Option Addr}
    {osl : Array (Option Value)} {N ps : List Str} {sp : Sp} (lk : K.lookup f = some ⟨oc, od, .func (PySem.W.fnOf name qual params body scope dV kV doc pm an cdv ct), osl⟩) (hcd : PySem.W.codeIn K cdv qual = true) (S : FnScope N ps scope)
    (len : ∀ vs H Q E, sp vs H Q E → vs.length = ps.length)
    (hbody : ∀ (A : Around) (outer : List Env) (s : Shared) (H : Hp) (vs : List V) (Q : VK) (E : XK), Room k (A.deeper (envOfC qual scope s.heap.objs.size f cdv)) → sp vs H Q E →
      ∃ t, PSs (cxOf CX P w K mg base N qual scope f cdv A outer s H E) body t ∧ t { nx := fun _ H' => Q .non H', rt := Q } (start N vs) H) :
    FnOk P w K mg base CX (k + 1) f (PySem.W.fnOf name qual params body scope dV kV doc pm an cdv ct) ps sp := by
  unfold PSs at *
  exact by
    refine ⟨len, fun A outer s H args us vs Q E hr e0 hb r hsp => ?_⟩
    have hl := len _ _ _ _ hsp
    have KX : K.In s.heap := e0.mod.kin.keeps fun b o e => (e0.bs b o e).1
    have lim : s.heap.NoLimit := e0.mod.nolimit.keeps fun b o e => (e0.bs b o e).1
    have hkind : ∀ y ∈ ps.zip us, scope.names.lookup y.1 = some .local ∨ (scope.names.lookup y.1 = some .cell ∧ ((cellsFrom (s.heap.objs.size + 1) scope.names []).lookup y.1).isSome = true) := fun ⟨n, v⟩ hy => by
      rcases S.par n (List.of_mem_zip hy).1 with q | q
      · exact .inl q
      · exact .inr ⟨q, PySem.W.cellsFrom_some _ _ _ (.inl q)⟩
    refine codeAny_call_function hr.depth (KX _ _ lk) rfl S.co S.gen rfl (PySem.W.codeRec_of KX hcd) (hb _ _ _ _ ?_)
    refine wpAny_newFunctionEnv_cells S.kind hkind fun env he s1 x => ?_
    subst he
    refine ⟨lim.keeps x.toInCall.keep, codeAny_func ?_⟩
    obtain ⟨t, ht, hq⟩ := hbody A outer s H vs Q E (hr.deeper _) hsp
    have I : Inv (cxOf CX P w K mg base N qual scope f cdv A outer s H E) [] (start N vs) H s1 := inv_start S hr.hd e0 hl r x
    refine wpAny_mono (ht [] s1 (start N vs) H _ I hq) (fun fl s' hs => ?_) fun e s' hs => hs
    have fin : ∀ {σ' : St} {H' : Hp} {v : V} {u : Value}, Inv (cxOf CX P w K mg base N qual scope f cdv A outer s H E) [] σ' H' s' → RelV v u → Q v H' → CE outer P w H s Q u s' :=
      fun {σ' H' v u} J rv q => ⟨v, H', J.os, J.bare, J.base, J.hok, rv, q⟩
    cases fl with
    | ret u =>
      obtain ⟨v, σ', H', J, rv, q⟩ := hs
      exact fin J rv q
    | next =>
      obtain ⟨σ', H', J, q⟩ := hs
      exact fin (v := V.non) (u := Value.none) J rfl q
    | brk =>
      obtain ⟨_, _, _, q⟩ := hs
      exact False.elim q
    | cont =>
      obtain ⟨_, _, _, q⟩ := hs
      exact False.elim q
end L2
namespace L2
open PySem PySem.Spec PyProof.Rows
section
variable {X : Cx} {x : Str} {p pos : Pos} {e : Expr} {es : List Expr} {t : TA} {id T : String} {r : List V → Hp → VK → Prop}
def tCB (r : List V → Hp → VK → Prop) (t : TA) : TE := fun σ H Q => t σ H fun vs H1 => r vs H1 Q
theorem pe_callB (hc : CallR X (.builtin id) r) (hg : Gl X x) (hm : X.mg x = none) (hv : bootBuiltins x = some (.builtin id)) (ha : PA X (e :: es) t) (hn : x ≠ "__name__" := by decide) (hdb : (x == ("__debug__" : Str)) = false := by decide)
    (he : starEach (e :: es) X.env = (false, eval e X.env) :: starEach es X.env := by rfl) (hpl : (backTo pos (starEach es X.env)).any (·.1) = false := by rfl) : PE X (.Call (.Name x p) (e :: es) [] pos) (tCB r t) := by
  unfold PE at *; unfold PA at *; unfold CallR at *
  exact by
    intro pins s σ H Q I h
    refine wpAny_Call_Name_kw (ld_blt I hg hm hv ?_ hn hdb)
    exact PyProof.Rows.callWith_builtin1 (thn (ha pos pins s σ H _ I h) fun us s1 ⟨vs, H1, I1, r1, q1⟩ => hc pins s1 σ H1 vs us Q I1 r1 q1) he hpl
theorem pe_callTy (hc : CallR X (.type T) r) (hg : Gl X x) (hm : X.mg x = none) (hv : bootBuiltins x = some (.type T)) (ha : PA X (e :: es) t) (hn : x ≠ "__name__" := by decide) (hdb : (x == ("__debug__" : Str)) = false := by decide)
    (he : starEach (e :: es) X.env = (false, eval e X.env) :: starEach es X.env := by rfl) (hpl : (backTo pos (starEach es X.env)).any (·.1) = false := by rfl) : PE X (.Call (.Name x p) (e :: es) [] pos) (tCB r t) := by
  unfold PE at *; unfold PA at *; unfold CallR at *
  exact by
    intro pins s σ H Q I h
    refine wpAny_Call_Name_kw (ld_blt I hg hm hv ?_ hn hdb)
    exact PyProof.Rows.callWith_type1 (thn (ha pos pins s σ H _ I h) fun us s1 ⟨vs, H1, I1, r1, q1⟩ => hc pins s1 σ H1 vs us Q I1 r1 q1) he hpl
end
end L2
namespace HT
open PySem PyProof.Rows
section
open PySem.SeqAt
open PySem.AutoSeq1 (wpAny_loadPart')
open PySem.MeetsSeq PySem.MeetsSeq2 PySem.MeetsSeq3
end
section
variable {prog : Program} {w : World} {A : Around} {E : Value → Shared → Prop} {s : Shared}
def sIx (n d : Nat) : Option Int → Nat
  | none => d
  | some v => if v < 0 then (v + (n : Int)).toNat else min v.toNat n
theorem sIx_none (n d : Nat) : sIx n d none = d := rfl
theorem sIx_nat (n d k : Nat) : sIx n d (some (k : Int)) = min k n := by
  show (if (k : Int) < 0 then ((k : Int) + (n : Int)).toNat else min (k : Int).toNat n) = min k n
  rw [if_neg (by omega), Int.toNat_natCast]
theorem sIx_le (n d : Nat) (hd : d ≤ n) (o : Option Int) : sIx n d o ≤ n := by
  cases o with
  | none => exact hd
  | some v =>
    show (if v < 0 then (v + (n : Int)).toNat else min v.toNat n) ≤ n
    by_cases hv : v < 0
    · rw [if_pos hv]; omega
    · rw [if_neg hv]; exact Nat.min_le_right _ _
theorem clip_eq (v : Int) (n d : Nat) : (if v < 0 then max (v + (n : Int)) 0 else min v (n : Int)) = ((sIx n d (some v) : Nat) : Int) := by
  show (if v < 0 then max (v + (n : Int)) 0 else min v (n : Int)) = (((if v < 0 then (v + (n : Int)).toNat else min v.toNat n) : Nat) : Int)
  by_cases hv : v < 0
  · simp only [if_pos hv]; omega
  · simp only [if_neg hv]; omega
end
end HT
namespace L2
open PySem PySem.Spec PyProof.Rows
abbrev TO := St → Hp → (Option Int → Hp → Prop) → Prop
@[irreducible] def PO (X : Cx) (e : Option Expr) (t : TO) : Prop :=
  ∀ (pins : List (Addr × Obj)) (s : Shared) (σ : St) (H : Hp) (Q : Option Int → Hp → Prop), Inv X pins σ H s → t σ H Q →
    wpAny (model X.prog X.w) X.A (evalPart e X.env) (fun u s' => ∃ o H', Inv X pins σ H' s' ∧ IsPart u o ∧ Q o H') X.xe s
def tNoPart : TO := fun _ H Q => Q none H
def tPart (t : TE) : TO := fun σ H Q => t σ H fun x H1 => ∃ i, x = .int i ∧ Q (some i) H1
section
variable {X : Cx} {e : Expr} {te : TE} {lo hi : Option Expr} {tl th : TO} {pos p2 : Pos}
theorem po_none : PO X none tNoPart := by
  unfold PO at *
  exact by
    intro pins s σ H Q I h
    rw [evalPart_none]
    exact wpAny_pure ⟨none, H, I, .none, h⟩
theorem po_some (h : PE X e te) : PO X (some e) (tPart te) := by
  unfold PE at *; unfold PO at *
  exact by
    intro pins s σ H Q I hw
    rw [evalPart_some]
    refine thn (h pins s σ H _ I hw) fun u s1 ⟨x, H1, I1, r1, q1⟩ => ?_
    obtain ⟨i, rfl, q⟩ := q1
    obtain ⟨t, rfl⟩ := r1
    exact ⟨some i, H1, I1, .int i t, q⟩
@[irreducible] def SlR (X : Cx) (r : V → Option Int → Option Int → Hp → VK → Prop) : Prop :=
  ∀ (pins : List (Addr × Obj)) (s : Shared) (σ : St) (H : Hp) (x : V) (v vl vu : Value) (lo hi : Option Int) (sl : Addr) (Q : VK), Inv X pins σ H s → RelV x v → s.heap.IsSliceOf sl vl vu .none → IsPart vl lo → IsPart vu hi → r x lo hi H Q →
    ∃ T id, typeLookup (.type T) "__getitem__" = pure (some (.builtin id)) ∧ s.TypeIs v T ∧ wpAny (model X.prog X.w) X.A (getItem v (.ref sl)) (EP X pins σ Q) X.xe s
theorem SlR.or {r r' : V → Option Int → Option Int → Hp → VK → Prop} (h : SlR X r) (h' : SlR X r') : SlR X (fun x lo hi H Q => r x lo hi H Q ∨ r' x lo hi H Q) := by
  unfold SlR at *
  exact by
    intro pins s σ H x v vl vu lo hi sl Q I rx hs pl pu q
    rcases q with q | q
    · exact h pins s σ H x v vl vu lo hi sl Q I rx hs pl pu q
    · exact h' pins s σ H x v vl vu lo hi sl Q I rx hs pl pu q
def tSl (r : V → Option Int → Option Int → Hp → VK → Prop) (te : TE) (tl th : TO) : TE := fun σ H Q => te σ H fun x H1 => tl σ H1 fun l H2 => th σ H2 fun u H3 => r x l u H3 Q
theorem pe_slice {r : V → Option Int → Option Int → Hp → VK → Prop} (hr : SlR X r) (he : PE X e te) (hl : PO X lo tl) (hu : PO X hi th) : PE X (.Subscript e (.Slice lo hi none p2) pos) (tSl r te tl th) := by
  unfold PE at *; unfold PO at *; unfold SlR at *
  exact by
    intro pins s σ H Q I h
    refine Subscript_ (thn (he pins s σ H _ I h) fun v s1 ⟨x, H1, I1, r1, q1⟩ => ?_)
    refine wpAny_Slice (thn (hl pins s1 σ H1 _ I1 q1) fun vl s2 ⟨l, H2, I2, pl, q2⟩ => thn (hu pins s2 σ H2 _ I2 q2) fun vu s3 ⟨u, H3, I3, pu, q3⟩ => ?_)
    rw [evalPart_none]
    refine wpAny_pure ?_
    have I4 : Inv X pins σ H3 { s3 with heap := s3.heap.push { cls := .type "slice", data := .fields #[vl, vu, .none] } } := I3.kept (t' := s3.toks) fun b ob q => Heap.get?_push_of_some _ q
    obtain ⟨T, id, hT, ht, hg⟩ := hr pins { s3 with heap := s3.heap.push { cls := .type "slice", data := .fields #[vl, vu, .none] } } σ H3 x v vl vu l u s3.heap.objs.size Q I4 r1 (Heap.IsSliceOf.new ..) pl pu q3
    show wpAny (model X.prog X.w) X.A (subscriptTail e (.Slice lo hi none p2) v (.ref s3.heap.objs.size)) (EP X pins σ Q) X.xe { s3 with heap := s3.heap.push { cls := .type "slice", data := .fields #[vl, vu, .none] } }
    exact tail_any (ops := [.ref s3.heap.objs.size, v]) ht hT hg (by with_unfolding_all rfl)
def cutV (xs : List V) (lo hi : Option Int) : List V := (xs.drop (HT.sIx xs.length 0 lo)).take (HT.sIx xs.length xs.length hi - HT.sIx xs.length 0 lo)
theorem cutV_length (xs : List V) (lo hi : Option Int) : (cutV xs lo hi).length ≤ xs.length := by
  unfold cutV
  rw [List.length_take, List.length_drop]
  omega
end
end L2
namespace L2
open PySem PySem.Spec PyProof.Rows
def ixN (n : Nat) (i : Int) : Option Nat := if 0 ≤ i then (if i < n then some i.toNat else none) else if -(n : Int) ≤ i then some (i + n).toNat else none
def atI {α : Type} (xs : List α) (i : Int) : Option α := (ixN xs.length i).bind fun j => xs[j]?
theorem ixN_seq {n : Nat} {i : Int} {j : Nat} (h : ixN n i = some j) : seqIndex? i n = some j ∧ j < n ∧ -(n : Int) ≤ i ∧ i < n := by
  unfold ixN at h
  by_cases h0 : 0 ≤ i
  · rw [if_pos h0] at h
    by_cases h1 : i < n
    · rw [if_pos h1] at h
      have e : i.toNat = j := Option.some.inj h
      exact ⟨by rw [seqIndex_of h0 h1, e], by omega, by omega, h1⟩
    · rw [if_neg h1] at h; cases h
  · rw [if_neg h0] at h
    by_cases h1 : -(n : Int) ≤ i
    · rw [if_pos h1] at h
      have e : (i + n).toNat = j := Option.some.inj h
      exact ⟨by rw [seqIndex_neg (by omega) h1, e], by omega, h1, by omega⟩
    · rw [if_neg h1] at h; cases h
theorem atI_get {α : Type} {xs : List α} {i : Int} {v : α} (h : atI xs i = some v) : ∃ j, seqIndex? i xs.length = some j ∧ xs[j]? = some v ∧ j < xs.length ∧ -(xs.length : Int) ≤ i ∧ i < xs.length := by
  unfold atI at h
  cases e : ixN xs.length i with
  | none => rw [e] at h; cases h
  | some j =>
    rw [e] at h
    obtain ⟨h1, h2, h3, h4⟩ := ixN_seq e
    exact ⟨j, h1, h, h2, h3, h4⟩
theorem atI_nat {α : Type} {xs : List α} {j : Nat} {v : α} (h : xs[j]? = some v) : atI xs (j : Int) = some v := by
  have hj : j < xs.length := (List.getElem?_eq_some_iff.mp h).1
  have e : ixN xs.length (j : Int) = some j := by
    unfold ixN
    rw [if_pos (by omega), if_pos (by omega)]; simp
  unfold atI; rw [e]; exact h
theorem atI_last {α : Type} (xs : List α) (v : α) : atI (xs ++ [v]) (-1) = some v := by
  have hl : (xs ++ [v]).length = xs.length + 1 := by simp
  have e : ixN (xs ++ [v]).length (-1) = some xs.length := by
    unfold ixN
    rw [hl, if_neg (by decide), if_pos (by omega)]
    congr 1
    omega
  unfold atI
  rw [e]
  show (xs ++ [v])[xs.length]? = some v
  simp
def PlainIx (b : Expr) : Prop := ∀ o i, subscripted b false o i = operate [o, i] (getItem o i)
@[irreducible] def IxR (X : Cx) (r : R2) : Prop :=
  ∀ (value slice : Expr) (pins : List (Addr × Obj)) (s : Shared) (σ : St) (H : Hp) (x y : V) (v u : Value) (Q : VK), Inv X pins σ H s → RelV x v → RelV y u → r x y H Q →
    subscripted slice false v u = operate [v, u] (getItem v u) → wpAny (model X.prog X.w) X.A (subscriptTail value slice v u) (EP X pins σ Q) X.xe s
@[irreducible] def MtR (X : Cx) (id : String) (r : V → List V → Hp → VK → Prop) : Prop :=
  ∀ (pins : List (Addr × Obj)) (s : Shared) (σ : St) (H : Hp) (x : V) (xs : List V) (v : Value) (us : List Value) (Q : VK), Inv X pins σ H s → RelV x v → Vals xs us → r x xs H Q →
    wpAny (model X.prog X.w) X.A (call (.builtin id) (v :: us)) (EP X pins σ Q) X.xe s
section
variable {X : Cx} {a b : Expr} {ta tb : TE} {pos : Pos}
theorem IxR.or {r r' : R2} (h : IxR X r) (h' : IxR X r') : IxR X (fun x y H Q => r x y H Q ∨ r' x y H Q) := by
  unfold IxR at *
  exact by
    intro value slice pins s σ H x y v u Q I rx ry q hs
    rcases q with q | q
    · exact h value slice pins s σ H x y v u Q I rx ry q hs
    · exact h' value slice pins s σ H x y v u Q I rx ry q hs
theorem MtR.or {id : String} {r r' : V → List V → Hp → VK → Prop} (h : MtR X id r) (h' : MtR X id r') : MtR X id (fun x xs H Q => r x xs H Q ∨ r' x xs H Q) := by
  unfold MtR at *
  exact by
    intro pins s σ H x xs v us Q I rx rs q
    rcases q with q | q
    · exact h pins s σ H x xs v us Q I rx rs q
    · exact h' pins s σ H x xs v us Q I rx rs q
theorem pe_ix {r : R2} (hr : IxR X r) (ha : PE X a ta) (hb : PE X b tb) (hs : PlainIx b) : PE X (.Subscript a b pos) (tOp r ta tb) := by
  unfold PE; unfold IxR at hr
  exact by
    intro pins s σ H Q I h
    exact Subscript_ (binT ha hb I h fun v u s2 x y H2 I2 rx ry q => hr a b pins s2 σ H2 x y v u Q I2 rx ry q (hs _ _))
def rIxL (K : PySem.W.Frag) : R2 := fun x y H Q => ∃ p xs i v, x = .ref p ∧ y = .int i ∧ SqL K H p xs ∧ atI xs i = some v ∧ Q v H
def rIxT (K : PySem.W.Frag) : R2 := fun x y H Q => ∃ p xs i v, x = .ref p ∧ y = .int i ∧ SqT K H p xs ∧ atI xs i = some v ∧ Q v H
def rIxS : R2 := fun x y H Q => ∃ z i c, x = .str z ∧ y = .int i ∧ z.length ≤ sizeLine ∧ atI z.cps.toList i = some c ∧ Q (.str ⟨#[c]⟩) H
theorem ix_list : IxR X (rIxL X.K) := by
  unfold IxR at *
  exact by
    intro value slice pins s σ H x y v u Q I rx ry h hs
    obtain ⟨p, xs, i, z, rfl, rfl, hq, he, q⟩ := h
    cases rx
    obtain ⟨t, rfl⟩ := ry
    obtain ⟨its, r, pl, hz⟩ := I.list hq
    obtain ⟨j, h1, h2, h3, h4, h5⟩ := atI_get he
    obtain ⟨w, ew, rw'⟩ := r.get h2
    have hl := r.length
    have hn := line63
    have fin : EP X pins σ Q w s := ⟨z, H, I, rw', q⟩
    by_cases h0 : 0 ≤ i
    · have hj : i.toNat = j := by
        rw [seqIndex_of h0 h5] at h1
        exact Option.some.inj h1
      exact item_listR pl.isList h0 (by omega) (by rw [hj]; simpa using ew) fin hs
    · have hj : (i + (its.toArray.size : Int)).toNat = j := by
        rw [seqIndex_neg (by omega) h4] at h1
        rw [List.size_toArray, ← hl]
        exact Option.some.inj h1
      exact subscriptTail_builtinR (x := w) pl.isList.typeIs slot_list_getitem.lookup
        (wpAny_getItem_list_neg (Q := fun r s' => r = w ∧ EP X pins σ Q r s') pl.isList (by omega) (by rw [List.size_toArray] <;> omega) (by omega) (by rw [hj]; simpa using ew) ⟨rfl, fin⟩) hs
theorem ix_tup : IxR X (rIxT X.K) := by
  unfold IxR at *
  exact by
    intro value slice pins s σ H x y v u Q I rx ry h hs
    obtain ⟨p, xs, i, z, rfl, rfl, hq, he, q⟩ := h
    cases rx
    obtain ⟨t, rfl⟩ := ry
    obtain ⟨its, r, pl, hz⟩ := I.tuple hq
    obtain ⟨j, h1, h2, h3, h4, h5⟩ := atI_get he
    obtain ⟨w, ew, rw'⟩ := r.get h2
    have hl := r.length
    have hn := line63
    have fin : EP X pins σ Q w s := ⟨z, H, I, rw', q⟩
    exact subscriptTail_builtinR (x := w) pl.typeIs slot_tuple_getitem.lookup
      (getItem_tuple (j := j) (Q := fun r s' => r = w ∧ EP X pins σ Q r s') pl (by omega) (by omega) (by rw [List.size_toArray, ← hl]; exact h1) (by simpa using ew) ⟨rfl, fin⟩) hs
theorem ix_str : IxR X rIxS := by
  unfold IxR at *
  exact by
    intro value slice pins s σ H x y v u Q I rx ry h hs
    obtain ⟨z, i, c, rfl, rfl, hz, he, q⟩ := h
    obtain ⟨t, rfl⟩ := rx
    obtain ⟨t', rfl⟩ := ry
    obtain ⟨j, h1, h2, h3, h4, h5⟩ := atI_get he
    have hl : z.cps.toList.length = z.length := by simp [Str.length]
    rw [hl] at h1 h4 h5
    have hn := line63
    exact tail_any (typeIs_str s z t) slot_str_getitem.lookup (getItem_str (c := c) (by
      have e1 : decide (i < -(2 ^ 63 : Int)) = false := decide_eq_false (by omega)
      have e2 : decide (i ≥ 2 ^ 63) = false := decide_eq_false (by omega)
      rw [e1, e2, Bool.or_false]) (by rw [h1]; simpa using h2) ⟨.str ⟨#[c]⟩, H, I.tok _, ⟨_, rfl⟩, q⟩) hs
theorem mapSeq_set (its : List Value) (n j : Nat) (u : Value) : Obj.mapSeq (·.setIfInBounds j u) { cls := .type "list", data := .seq its.toArray n } = { cls := .type "list", data := .seq (its.set j u).toArray n } := by
  simp [Obj.mapSeq]
theorem Inv.lst {pins : List (Addr × Obj)} {σ : St} {H : Hp} {s : Shared} {p : Addr} {xs : List V} (I : Inv X pins σ H s) (h : H p = some (.lst xs)) :
    ∃ (its : List Value) (n : Nat), Vals xs its ∧ s.heap.get? p = some { cls := .type "list", data := .seq its.toArray n } ∧ xs.length ≤ sizeLine := by
  obtain ⟨z, its, n, r, e⟩ := I.hok p _ h
  exact ⟨its, n, r, e, z⟩
theorem Inv.lstUpd {pins : List (Addr × Obj)} {σ : St} {H : Hp} {s : Shared} {p : Addr} {xs ys : List V} {its its' : List Value} {n n' : Nat} {f : Obj → Obj} (I : Inv X pins σ H s) (h : H p = some (.lst xs))
    (ho : s.heap.get? p = some { cls := .type "list", data := .seq its.toArray n }) (hf : f { cls := .type "list", data := .seq its.toArray n } = { cls := .type "list", data := .seq its'.toArray n' }) (r : Vals ys its') (hz : ys.length ≤ sizeLine) (t : Nat) :
    Inv X pins σ (upd H p (.lst ys)) { s with heap := s.heap.update p f, toks := t } := by
  have e : (s.heap.update p f).get? p = some { cls := .type "list", data := .seq its'.toArray n' } := by
    rw [Heap.get?_update_self f ho (by rw [hf] <;> rfl), hf]
  refine I.write (x := p) (e := p) (by rw [h]; trivial) (.inl rfl) (fun b u hb q => (Heap.get?_update_other _ _ (Ne.symm hb)).trans q) ⟨_, e⟩ ?_
  exact ⟨hz, its', n', r, e⟩
def rSetL : V → V → V → Hp → (Hp → Prop) → Prop := fun o i v H Q => ∃ p xs k j, o = .ref p ∧ i = .int k ∧ H p = some (.lst xs) ∧ ixN xs.length k = some j ∧ Q (upd H p (.lst (xs.set j v)))
theorem set_list : PSet X rSetL := by
  unfold PSet at *
  exact by
    intro pins s σ H o i v ov iv u Q I ro ri rv h
    obtain ⟨p, xs, k, j, rfl, rfl, hp, hj, q⟩ := h
    cases ro
    obtain ⟨t, rfl⟩ := ri
    obtain ⟨its, n, r, ho, hz⟩ := I.lst hp
    obtain ⟨h1, h2, h3, h4⟩ := ixN_seq hj
    have hl := r.length
    have hn := line63
    have I' : Inv X pins σ (upd H p (.lst (xs.set j v))) { s with heap := s.heap.update p (Obj.mapSeq (·.setIfInBounds j u)) } :=
      I.lstUpd hp ho (mapSeq_set its n j u) (r.set rv j) (by rw [List.length_set]; exact hz) s.toks
    by_cases h0 : 0 ≤ k
    · have hk : k.toNat = j := by
        rw [seqIndex_of h0 h4] at h1
        exact Option.some.inj h1
      exact PySem.W.ki_setAt ho h0 (by omega) (by rw [List.size_toArray, ← hl]; exact h4) (by rw [hk]; exact ⟨_, I', q⟩)
    · have hk : (k + (its.toArray.size : Int)).toNat = j := by
        rw [seqIndex_neg (by omega) h3] at h1
        rw [List.size_toArray, ← hl]
        exact Option.some.inj h1
      exact PySem.W.ki_setBack ho (by omega) (by rw [List.size_toArray, ← hl]; exact h3) (by omega) (by rw [hk]; exact ⟨_, I', q⟩)
theorem slice_bounds (lo hi : Option Int) (n : Nat) : (sliceBounds lo hi none n).1 = ((HT.sIx n 0 lo : Nat) : Int) ∧ (sliceBounds lo hi none n).2.1 = ((HT.sIx n n hi : Nat) : Int) ∧ (sliceBounds lo hi none n).2.2 = 1 := by
  refine ⟨?_, ?_, rfl⟩
  · cases lo with
    | none => simp [sliceBounds, HT.sIx]
    | some i =>
      simp only [sliceBounds, HT.sIx, Option.getD_none, show (1 : Int) > 0 by decide, if_true]
      by_cases h : i < 0
      · simp only [h, if_true] <;> omega
      · simp only [h, if_false] <;> omega
  · cases hi with
    | none => simp [sliceBounds, HT.sIx]
    | some i =>
      simp only [sliceBounds, HT.sIx, Option.getD_none, show (1 : Int) > 0 by decide, if_true]
      by_cases h : i < 0
      · simp only [h, if_true] <;> omega
      · simp only [h, if_false] <;> omega
theorem slicePick_cut (its : List Value) (lo hi : Option Int) : slicePick its.toArray lo hi none = ((its.drop (HT.sIx its.length 0 lo)).take (HT.sIx its.length its.length hi - HT.sIx its.length 0 lo)).toArray := by
  obtain ⟨h1, h2, h3⟩ := slice_bounds lo hi its.toArray.size
  unfold slicePick
  rw [h1, h2, h3]
  simp only [sliceRange_one, pick_run, List.size_toArray] <;> rfl
def rSlL (K : PySem.W.Frag) : V → Option Int → Option Int → Hp → VK → Prop := fun x lo hi H Q => ∃ a xs, x = .ref a ∧ SqL K H a xs ∧ ∀ p, H p = none → Q (.ref p) (upd H p (.lst (cutV xs lo hi)))
theorem sl_list : SlR X (rSlL X.K) := by
  unfold SlR at *
  exact by
    intro pins s σ H x v vl vu lo hi sl Q I rx hs pl pu h
    obtain ⟨a, xs, rfl, hx, q⟩ := h
    cases rx
    obtain ⟨its, r, ht, hz⟩ := I.list hx
    have hlen := r.length
    refine ⟨"list", _, slot_list_getitem.lookup, ht.isList.typeIs, ?_⟩
    refine wpAny_getItem_list_slice ht.isList hs pl pu .none (by simp) ?_ (by rw [List.size_toArray] <;> omega)
    rw [slicePick_cut, ← hlen]
    refine ⟨.ref s.heap.objs.size, _, I.laid (t' := s.toks) (o := .lst (cutV xs lo hi)) (fun b ob q => Heap.get?_push_of_some _ q) (Nat.le_refl _) ?_, rfl, q _ (I.hok.fresh (Nat.le_refl _))⟩
    exact ⟨Nat.le_trans (cutV_length xs lo hi) hz, _, 0, (r.drop (HT.sIx xs.length 0 lo)).take (HT.sIx xs.length xs.length hi - HT.sIx xs.length 0 lo), Heap.get?_push_size _ rfl⟩
def flatV : V → Bool
  | .non => true
  | .bl _ => true
  | .int _ => true
  | .str _ => true
  | _ => false
def eqV : V → V → Bool
  | .non, .non => true
  | .bl a, .bl b => a == b
  | .bl a, .int b => (if a then 1 else 0) == b
  | .int a, .bl b => a == (if b then 1 else 0)
  | .int a, .int b => a == b
  | .str a, .str b => a == b
  | _, _ => false
theorem eqAt_V {A : Around} {s : Shared} {y x : V} {u v : Value} (ry : RelV y u) (rx : RelV x v) (fy : flatV y = true) (fx : flatV x = true) : SeqAt.EqAt A s u v (eqV y x) := by
  cases y with
  | non =>
    cases ry
    cases x with
    | non => cases rx; exact SeqAt.EqAt.same _
    | bl b => cases rx; exact SeqAt.EqAt.none_bool b
    | int b => obtain ⟨t, rfl⟩ := rx; exact SeqAt.EqAt.none_int b t
    | str b => obtain ⟨t, rfl⟩ := rx; exact SeqAt.EqAt.none_str b t
    | _ => exact absurd (show false = true from fx) Bool.false_ne_true
  | bl a =>
    cases ry
    cases x with
    | non => cases rx; exact SeqAt.EqAt.bool_none a
    | bl b => cases rx; exact SeqAt.EqAt.bool_bool a b
    | int b => obtain ⟨t, rfl⟩ := rx; exact SeqAt.EqAt.bool_int a b t
    | str b => obtain ⟨t, rfl⟩ := rx; exact SeqAt.EqAt.bool_str a b t
    | _ => exact absurd (show false = true from fx) Bool.false_ne_true
  | int a =>
    obtain ⟨t', rfl⟩ := ry
    cases x with
    | non => cases rx; exact SeqAt.EqAt.int_none a t'
    | bl b => cases rx; exact SeqAt.EqAt.int_bool a t' b
    | int b => obtain ⟨t, rfl⟩ := rx; exact SeqAt.EqAt.int_int a t' b t
    | str b => obtain ⟨t, rfl⟩ := rx; exact SeqAt.EqAt.int_str a t' b t
    | _ => exact absurd (show false = true from fx) Bool.false_ne_true
  | str a =>
    obtain ⟨t', rfl⟩ := ry
    cases x with
    | non => cases rx; exact SeqAt.EqAt.str_none a t'
    | bl b => cases rx; exact SeqAt.EqAt.str_bool a t' b
    | int b => obtain ⟨t, rfl⟩ := rx; exact SeqAt.EqAt.str_int a t' b t
    | str b => obtain ⟨t, rfl⟩ := rx; exact SeqAt.EqAt.str_str a t' b t
    | _ => exact absurd (show false = true from fx) Bool.false_ne_true
  | _ => exact absurd (show false = true from fy) Bool.false_ne_true
def eqU (x : V) (u : Value) : Bool := match u with
  | .none => eqV .non x
  | .bool b => eqV (.bl b) x
  | .int i _ => eqV (.int i) x
  | .str z _ => eqV (.str z) x
  | _ => false
theorem eqU_of {x y : V} {u : Value} (r : RelV y u) (f : flatV y = true) : eqU x u = eqV y x := by
  cases y with
  | non => cases r; rfl
  | bl b => cases r; rfl
  | int i => obtain ⟨t, rfl⟩ := r; rfl
  | str z => obtain ⟨t, rfl⟩ := r; rfl
  | _ => exact absurd (show false = true from f) Bool.false_ne_true
theorem any_eqU {x : V} : ∀ {xs : List V} {us : List Value}, Vals xs us → xs.all flatV = true → us.any (eqU x) = xs.any fun y => eqV y x
  | _, _, .nil, _ => rfl
  | y :: xs, u :: us, .cons r t, f => by
    rw [List.all_cons, Bool.and_eq_true] at f
    rw [List.any_cons, List.any_cons, eqU_of r f.1, any_eqU t f.2]
theorem mem_eqAt {A : Around} {s : Shared} {x : V} {v : Value} (rx : RelV x v) (fx : flatV x = true) : ∀ {xs : List V} {us : List Value}, Vals xs us → xs.all flatV = true → ∀ u ∈ us, SeqAt.EqAt A s u v (eqU x u)
  | _, _, .nil, _ => fun u hu => by cases hu
  | y :: xs, u :: us, .cons r t, f => fun u' hu => by
    rw [List.all_cons, Bool.and_eq_true] at f
    rcases List.mem_cons.mp hu with rfl | hu
    · rw [eqU_of r f.1]; exact eqAt_V r rx f.1 fx
    · exact mem_eqAt rx fx t f.2 u' hu
def inV (x : V) (xs : List V) : Bool := xs.any fun y => eqV y x
def rIn (K : PySem.W.Frag) (neg : Bool) : R2 := fun x y H Q => ∃ p xs, y = .ref p ∧ (SqL K H p xs ∨ SqT K H p xs) ∧ flatV x = true ∧ xs.all flatV = true ∧ Q (.bl (if neg then !inV x xs else inV x xs)) H
theorem op_in_seq : OpR X (compareOp .In) (rIn X.K false) := by
  unfold OpR at *
  exact by
    intro pins s σ H x y v u Q I rx ry h
    obtain ⟨p, xs, rfl, hq, fx, fs, q⟩ := h
    cases ry
    rcases hq with hq | hq
    · obtain ⟨its, r, pl, hz⟩ := I.list hq
      refine SeqAt.in_listAt (eqU x) pl.isList (fun w hw => mem_eqAt rx fx r fs w (by simpa using hw)) ⟨.bl _, H, I, rfl, ?_⟩
      rw [show its.toArray.any (eqU x) = its.any (eqU x) by simp, any_eqU r fs]
      exact q
    · obtain ⟨its, r, pl, hz⟩ := I.tuple hq
      refine SeqAt.in_tupleAt (eqU x) pl (fun w hw => mem_eqAt rx fx r fs w (by simpa using hw)) ⟨.bl _, H, I, rfl, ?_⟩
      rw [show its.toArray.any (eqU x) = its.any (eqU x) by simp, any_eqU r fs]
      exact q
theorem call_len_seq : CallR X (.builtin "len") (fun xs H Q => ∃ p ys, xs = [.ref p] ∧ (SqL X.K H p ys ∨ SqT X.K H p ys) ∧ Q (.int ys.length) H) := by
  unfold CallR at *
  exact by
    intro pins s σ H xs us Q I r h
    obtain ⟨p, ys, rfl, hq, q⟩ := h
    obtain ⟨u, rfl, rx⟩ := vals1 r
    cases rx
    have hn := line63
    rcases hq with hq | hq
    · obtain ⟨its, r', pl, hz⟩ := I.list hq
      have hlen := r'.length
      exact Calls.call_len_list pl.isList (by simp only [List.size_toArray] <;> omega) ⟨.int ys.length, H, I.tok _, ⟨s.toks + 1, by rw [List.size_toArray, hlen]⟩, q⟩
    · obtain ⟨its, r', pl, hz⟩ := I.tuple hq
      have hlen := r'.length
      exact len_tuple pl (by simp only [List.size_toArray] <;> omega) ⟨.int ys.length, H, I.tok _, ⟨s.toks + 1, by rw [List.size_toArray, hlen]⟩, q⟩
theorem call_len_str : CallR X (.builtin "len") (fun xs H Q => ∃ z, xs = [.str z] ∧ z.length ≤ sizeLine ∧ Q (.int z.length) H) := by
  unfold CallR at *
  exact by
    intro pins s σ H xs us Q I r h
    obtain ⟨z, rfl, hz, q⟩ := h
    obtain ⟨u, rfl, t, rfl⟩ := vals1 r
    have hn := line63
    exact len_str (by omega) ⟨.int z.length, H, I.tok _, ⟨_, rfl⟩, q⟩
theorem CallR.or {f : Value} {r r' : List V → Hp → VK → Prop} (h : CallR X f r) (h' : CallR X f r') : CallR X f (fun xs H Q => r xs H Q ∨ r' xs H Q) := by
  unfold CallR at *
  exact by
    intro pins s σ H xs us Q I rs q
    rcases q with q | q
    · exact h pins s σ H xs us Q I rs q
    · exact h' pins s σ H xs us Q I rs q
theorem call_tuple_of : CallR X (.type "tuple") (fun xs H Q => ∃ p ys, xs = [.ref p] ∧ ((SqL X.K H p ys ∧ ∀ l, H l = none → Q (.ref l) (upd H l (.tup ys))) ∨ (SqT X.K H p ys ∧ Q (.ref p) H))) := by
  unfold CallR at *
  exact by
    intro pins s σ H xs us Q I r h
    obtain ⟨p, ys, rfl, h⟩ := h
    obtain ⟨u, rfl, rx⟩ := vals1 r
    cases rx
    rcases h with ⟨hq, q⟩ | ⟨hq, q⟩
    · obtain ⟨its, r', pl, hz⟩ := I.list hq
      have hlen := r'.length
      refine call_tuple_list pl.isList (fun h' kp => ?_) (by simp only [List.size_toArray] <;> omega)
      have I1 : Inv X pins σ H { s with heap := h' } := I.kept (t' := s.toks) kp
      have I2 : Inv X pins σ (upd H h'.objs.size (.tup ys)) { s with heap := h'.push { cls := .type "tuple", data := .seq its.toArray } } :=
        I1.laid (t' := s.toks) (fun b o e => Heap.get?_push_of_some _ e) (Nat.le_refl _) (show ObjOk X.prog X.w _ _ _ (.tup ys) from ⟨hz, its, r', IsTup.new _ _⟩)
      exact ⟨.ref h'.objs.size, _, I2, rfl, q _ (I1.hok.fresh (Nat.le_refl _))⟩
    · obtain ⟨its, r', pl, hz⟩ := I.tuple hq
      exact call_tuple_same pl ⟨.ref p, H, I, rfl, q⟩
def tyV (K : PySem.W.Frag) (T : String) (x : V) (H : Hp) : Prop := match x with
  | .str _ => T = "str"
  | .int _ => T = "int"
  | .ref p => (T = "list" ∧ ∃ xs, SqL K H p xs) ∨ (T = "tuple" ∧ ∃ o, K.lookup p = some o ∧ o.cls = .type "tuple" ∧ o.dict = none) ∨
      (T = "dict" ∧ ((∃ kvs, H p = some (.dK kvs)) ∨ ∃ kvs, H p = some (.dT kvs))) ∨ (T = "set" ∧ ∃ S n, H p = some (.set S n))
  | _ => False
theorem tyV_is {pins : List (Addr × Obj)} {σ : St} {H : Hp} {s : Shared} {T : String} {x : V} {v : Value} (I : Inv X pins σ H s) (r : RelV x v) (ty : tyV X.K T x H) :
    s.TypeIs v T ∧ ∀ a, v = .ref a → ∃ ob, s.heap.get? a = some ob ∧ ob.dict = none := by
  cases x with
  | str z =>
    obtain ⟨t, rfl⟩ := r
    cases (show T = "str" from ty)
    exact ⟨typeIs_str s z t, fun _ e => nomatch e⟩
  | int i =>
    obtain ⟨t, rfl⟩ := r
    cases (show T = "int" from ty)
    exact ⟨typeIs_int s i t, fun _ e => nomatch e⟩
  | ref p =>
    cases r
    rcases ty with ⟨rfl, xs, hq⟩ | ⟨rfl, o, hk, hc, hd⟩ | ⟨rfl, hk⟩ | ⟨rfl, S, n, hk⟩
    · obtain ⟨its, _, pl, _⟩ := I.list hq
      refine ⟨pl.isList.typeIs, fun a e => ?_⟩
      cases e
      obtain ⟨o, n, e, c, hd, _⟩ := pl
      exact ⟨o, e, hd⟩
    · refine ⟨⟨o, I.kIn p o hk, hc⟩, fun a e => ?_⟩
      cases e
      exact ⟨o, I.kIn _ o hk, hd⟩
    · have z : ∃ o, s.heap.get? p = some o ∧ o.ExactDict := by
        rcases hk with ⟨kvs, hk⟩ | ⟨kvs, hk⟩
        · obtain ⟨_, _, _, _, o, _, _, e, ex, _⟩ := I.hok p _ hk
          exact ⟨o, e, ex⟩
        · obtain ⟨_, _, _, _, o, _, _, e, ex, _⟩ := I.hok p _ hk
          exact ⟨o, e, ex⟩
      obtain ⟨o, e, ex⟩ := z
      refine ⟨⟨o, e, ex.1⟩, fun a e2 => ?_⟩
      cases e2
      exact ⟨o, e, ex.2.1⟩
    · obtain ⟨o, _, _, _, e, ex, _⟩ := I.hok p _ hk
      refine ⟨⟨o, e, ex.1⟩, fun a e2 => ?_⟩
      cases e2
      exact ⟨o, e, ex.2.1⟩
  | _ => exact False.elim ty
def tBM0 (K : PySem.W.Frag) (T : String) (r : V → List V → Hp → VK → Prop) (to : TE) : TE := fun σ H Q => to σ H fun x H1 => tyV K T x H1 ∧ r x [] H1 Q
def tBM (K : PySem.W.Frag) (T : String) (r : V → List V → Hp → VK → Prop) (to : TE) (t : TA) : TE := fun σ H Q => to σ H fun x H1 => tyV K T x H1 ∧ t σ H1 fun xs H2 => r x xs H2 Q
variable {o e : Expr} {es : List Expr} {to : TE} {t : TA} {name : Str} {apos cpos : Pos} {T id : String} {r : V → List V → Hp → VK → Prop}
theorem pe_bm0 (pa : PlainAttrs T) (slot : Slot T name id) (hty : typeOf (.builtin id) = pure (.type "method_descriptor")) (hm : MtR X id r) (ho : PE X o to)
    (hbase : attributeBase o name X.env (eval o X.env) = eval o X.env := by rfl) (hline : (apos.endLine == cpos.line) = true := by rfl) : PE X (.Call (.Attribute o name apos) [] [] cpos) (tBM0 X.K T r to) := by
  unfold PE at *; unfold MtR at *
  exact by
    intro pins s σ H Q I h
    refine wpAny_Call_method0_late hbase hline (thn (ho pins s σ H _ I h) fun v s1 ⟨x, H1, I1, r1, ty, q1⟩ => ?_)
    obtain ⟨h1, h2⟩ := tyV_is I1 r1 ty
    exact ⟨T, id, pa, slot, hty, h1, h2, Calls.callWith_builtin rfl (PySem.evalArgs_none (hm pins s1 σ H1 x [] v [] Q I1 r1 .nil q1))⟩
theorem pe_bm (pa : PlainAttrs T) (slot : Slot T name id) (hty : typeOf (.builtin id) = pure (.type "method_descriptor")) (hm : MtR X id r) (ho : PE X o to) (ha : PA X (e :: es) t)
    (hbase : attributeBase o name X.env (eval o X.env) = eval o X.env := by rfl)
    (hfew : ((backTo cpos (starEach (e :: es) X.env)).all (fun x => !x.1) && (backToKw cpos (keywordEach [] X.env)).all (fun x => x.1.isSome)
      && decide ((e :: es).length + ([] : List Keyword).length + (if ([] : List Keyword).isEmpty then 0 else 1) < 30)) = true := by rfl)
    (hline : (apos.endLine == cpos.line) = true := by rfl) (hs : starEach (e :: es) X.env = (false, eval e X.env) :: starEach es X.env := by rfl) (hplain : (backTo cpos (starEach es X.env)).any (·.1) = false := by rfl) :
    PE X (.Call (.Attribute o name apos) (e :: es) [] cpos) (tBM X.K T r to t) := by
  unfold PE at *; unfold PA at *; unfold MtR at *
  exact by
    intro pins s σ H Q I h
    refine wpAny_Call_method_late hbase hfew hline rfl (thn (ho pins s σ H _ I h) fun v s1 ⟨x, H1, I1, r1, ty, q1⟩ => ?_)
    obtain ⟨h1, h2⟩ := tyV_is I1 r1 ty
    refine ⟨T, id, pa, slot, hty, h1, h2, ?_⟩
    have hA := ha cpos pins s1 σ H1 _ I1 q1
    rw [hs] at hA ⊢
    refine Calls.callWith_builtin (by show (false || (backTo cpos (starEach es X.env)).any (·.1)) = false; rw [hplain] <;> rfl) (Calls.evalArgs_plain ?_)
    exact thn hA fun us s2 ⟨vs, H2, I2, r2, q2⟩ => hm pins s2 σ H2 x vs v us Q I2 r1 r2 q2
/- xs.append(e), list.index on a module's tuple .. are MtR facts of 06m -/
end
end L2
namespace L2
open PySem PySem.Spec PyProof.Rows
@[irreducible] def MtM (X : Cx) (id : String) (r : V → List V → Hp → VK → Prop) : Prop :=
  ∀ (pins : List (Addr × Obj)) (s : Shared) (σ : St) (H : Hp) (x : V) (xs : List V) (v : Value) (us : List Value) (Q : VK), Inv X pins σ H s → RelV x v → Vals xs us → r x xs H Q →
    wpAny (model X.prog X.w) X.A (call (.builtin id) (v :: us)) (EP X pins σ Q) X.xe s
theorem Vals.one : ∀ {x : V} {us : List Value}, Vals [x] us → ∃ u, us = [u] ∧ RelV x u
  | _, _, .cons r .nil => ⟨_, rfl, r⟩
theorem Vals.two : ∀ {x y : V} {us : List Value}, Vals [x, y] us → ∃ u v, us = [u, v] ∧ RelV x u ∧ RelV y v
  | _, _, _, .cons r (.cons q .nil) => ⟨_, _, rfl, r, q⟩
theorem Vals.dropLast {xs : List V} {us : List Value} (h : Vals xs us) : Vals xs.dropLast us.dropLast := by
  induction h with
  | nil => exact .nil
  | cons r t ih =>
    cases t with
    | nil => exact .nil
    | cons q t' => exact .cons r ih
theorem Vals.reverse {xs : List V} {us : List Value} (h : Vals xs us) : Vals xs.reverse us.reverse := by
  induction h with
  | nil => exact .nil
  | cons r t ih => rw [List.reverse_cons, List.reverse_cons]; exact Vals.append ih (.cons r .nil)
section
variable {X : Cx} {pins : List (Addr × Obj)} {σ : St} {H : Hp} {s : Shared} {l b : Addr} {xs ys zs : List V}
theorem Inv.lset {its its' : List Value} {n : Nat} {f : Array Value → Array Value} {t' : Nat} (I : Inv X pins σ H s) (hH : H l = some (.lst xs))
    (e : s.heap.get? l = some { cls := .type "list", data := .seq its.toArray n }) (hf : f its.toArray = its'.toArray) (hv : Vals ys its') (hz : ys.length ≤ sizeLine) :
    Inv X pins σ (upd H l (.lst ys)) { s with heap := s.heap.update l (Obj.mapSeq f), toks := t' } := by
  have q := PySem.IsL.update e f
  rw [hf] at q
  refine I.write (x := l) (e := l) (by rw [hH]; exact trivial) (.inl rfl) (fun b' u hb hu => (Heap.get?_update_other s.heap (Obj.mapSeq f) (Ne.symm hb)).trans hu) ⟨_, q⟩ ?_
  exact ⟨hz, its', _, hv, q⟩
theorem Inv.lnew {its : List Value} {t' : Nat} (I : Inv X pins σ H s) (hv : Vals ys its) (hz : ys.length ≤ sizeLine) :
    Inv X pins σ (upd H s.heap.objs.size (.lst ys)) { s with heap := s.heap.push { cls := .type "list", data := .seq its.toArray }, toks := t' } :=
  I.laid (fun _ _ q => Heap.get?_push_of_some _ q) (Nat.le_refl _) ⟨hz, its, 0, hv, Heap.get?_push_size _ rfl⟩
theorem Inv.fresh (I : Inv X pins σ H s) : H s.heap.objs.size = none := I.hok.fresh (Nat.le_refl _)
theorem Inv.lstM (I : Inv X pins σ H s) (hH : H l = some (.lst xs)) : xs.length ≤ sizeLine ∧ ∃ (its : List Value) (n : Nat), Vals xs its ∧ xs.length = its.length ∧ s.heap.get? l = some { cls := .type "list", data := .seq its.toArray n } := by
  obtain ⟨z, its, n, r, e⟩ := I.hok l _ hH
  exact ⟨z, its, n, r, r.length, e⟩
end
section
variable {X : Cx}
def rAppend : V → List V → Hp → VK → Prop := fun x vs H Q => ∃ l xs y, x = .ref l ∧ vs = [y] ∧ H l = some (.lst xs) ∧ xs.length < sizeLine ∧ Q .non (upd H l (.lst (xs ++ [y])))
theorem mt_append : MtM X "list.append" rAppend := by
  unfold MtM at *
  exact by
    intro pins s σ H x vs v us Q I rx rv h
    obtain ⟨l, xs, y, rfl, rfl, hH, hz, q⟩ := h
    cases rx
    obtain ⟨u, rfl, ru⟩ := rv.one
    obtain ⟨z, its, n, r, hl, e⟩ := I.lstM hH
    refine call_meets F.slot_list_append ⟨_, e, rfl⟩ F.entry_list_append (F.args_list_append_2 _ _) (PySem.list_append l its.toArray n u (by rw [List.size_toArray]; omega)) ⟨e, ?_⟩
    refine ⟨.non, _, I.lset (its' := its ++ [u]) hH e (by simp) (r.append (.cons ru .nil)) ?_, rfl, q⟩
    rw [List.length_append, List.length_singleton]
    omega
def rCat : R2 := fun x y H Q => ∃ l b xs zs, x = .ref l ∧ y = .ref b ∧ H l = some (.lst xs) ∧ H b = some (.lst zs) ∧ xs.length + zs.length ≤ sizeLine ∧ ∀ p, H p = none → Q (.ref p) (upd H p (.lst (xs ++ zs)))
theorem op_cat : OpR X (binaryOp .Add) rCat := by
  unfold OpR at *
  exact by
    intro pins s σ H x y v u Q I rx ry h
    obtain ⟨l, b, xs, zs, rfl, rfl, hH, hB, hz, q⟩ := h
    cases rx
    cases ry
    obtain ⟨z, its, n, r, hl, e⟩ := I.lstM hH
    obtain ⟨z2, its2, n2, r2, hl2, e2⟩ := I.lstM hB
    refine PySem.P.add_list e e2 ?_ (by rw [List.size_toArray, List.size_toArray]; omega)
    have ea : its.toArray ++ its2.toArray = (its ++ its2).toArray := by simp
    rw [ea]
    exact ⟨.ref _, _, I.lnew (t' := s.toks) (r.append r2) (by rw [List.length_append]; omega), rfl, q _ I.fresh⟩
end
section
variable {prog : Program} {w : World} {A : Around} {E : Value → Shared → Prop} {s : Shared}
set_option maxRecDepth 100000 in
end
section
variable {X : Cx}
end
end L2
namespace L2
open PySem PySem.Spec PyProof.Rows
section
variable {κ : Type} [DecidableEq κ]
def valV (kvs : List (κ × V)) (k : κ) : Option V := (kvs.find? fun kv => decide (kv.1 = k)).map (·.2)
def putK (kvs : List (κ × V)) (k : κ) (v : V) : List (κ × V) :=
  if (kvs.any fun kv => decide (kv.1 = k)) = true then kvs.map (fun kv => if kv.1 = k then (kv.1, v) else kv) else kvs ++ [(k, v)]
def dropK (kvs : List (κ × V)) (k : κ) : List (κ × V) := kvs.filter fun kv => decide (kv.1 ≠ k)
theorem valV_pos {p : κ × V} {r : List (κ × V)} {k : κ} (e : p.1 = k) : valV (p :: r) k = some p.2 := by simp [valV, List.find?_cons, e]
theorem valV_neg {p : κ × V} {r : List (κ × V)} {k : κ} (e : ¬ p.1 = k) : valV (p :: r) k = valV r k := by simp [valV, List.find?_cons, e]
theorem valV_any (k : κ) : ∀ kvs : List (κ × V), (kvs.any fun kv => decide (kv.1 = k)) = (valV kvs k).isSome
  | [] => rfl
  | p :: r => by
    rw [List.any_cons]
    by_cases e : p.1 = k
    · simp only [valV_pos e, decide_eq_true e, Bool.true_or, Option.isSome_some]
    · rw [valV_neg e, decide_eq_false e, Bool.false_or]; exact valV_any k r
theorem RelO.isSome_eq {o : Option V} {u : Option Value} (r : RelO o u) : o.isSome = u.isSome := by
  cases o with
  | none => cases u with
    | none => rfl
    | some _ => exact (show False from r).elim
  | some _ => cases u with
    | none => exact (show False from r).elim
    | some _ => rfl
theorem RelO.getD {o : Option V} {u : Option Value} {d : V} {d' : Value} (r : RelO o u) (rd : RelV d d') : RelV (o.getD d) (u.getD d') := by
  cases o with
  | none => cases u with
    | none => exact rd
    | some _ => exact (show False from r).elim
  | some _ => cases u with
    | none => exact (show False from r).elim
    | some _ => exact r
theorem KV.val {kvs : List (κ × V)} {vs : List (κ × Value)} (r : KV kvs vs) (k : κ) : RelO (valV kvs k) (valueAt vs k) := by
  unfold KV at r
  induction r with
  | nil => exact True.intro
  | @cons p q ps qs h t ih =>
    obtain ⟨h1, h2⟩ := h
    by_cases e : p.1 = k
    · have e' : q.1 = k := h1.symm.trans e
      have b : valueAt (q :: qs) k = some q.2 := by simp [valueAt, List.find?_cons, e']
      rw [valV_pos e, b]; exact h2
    · have e' : ¬ q.1 = k := fun z => e (h1.trans z)
      have b : valueAt (q :: qs) k = valueAt qs k := by simp [valueAt, List.find?_cons, e']
      rw [valV_neg e, b]; exact ih
theorem KV.any {kvs : List (κ × V)} {vs : List (κ × Value)} (r : KV kvs vs) (k : κ) : (kvs.any fun kv => decide (kv.1 = k)) = vs.any fun kv => decide (kv.1 = k) := by
  unfold KV at r
  induction r with
  | nil => rfl
  | cons h t ih => rw [List.any_cons, List.any_cons, ih, h.1]
theorem KV.repl {kvs : List (κ × V)} {vs : List (κ × Value)} (r : KV kvs vs) (k : κ) {y : V} {u : Value} (ry : RelV y u) :
    KV (kvs.map fun kv => if kv.1 = k then (kv.1, y) else kv) (vs.map fun kv => if kv.1 = k then (kv.1, u) else kv) := by
  unfold KV at r ⊢
  induction r with
  | nil => exact .nil
  | @cons p q ps qs h t ih =>
    rw [List.map_cons, List.map_cons]
    refine .cons ?_ ih
    obtain ⟨h1, h2⟩ := h
    by_cases e : p.1 = k
    · rw [if_pos e, if_pos (h1.symm.trans e)]; exact ⟨h1, ry⟩
    · rw [if_neg e, if_neg (fun z => e (h1.trans z))]; exact ⟨h1, h2⟩
theorem KV.put {kvs : List (κ × V)} {vs : List (κ × Value)} (r : KV kvs vs) (k : κ) {y : V} {u : Value} (ry : RelV y u) : KV (putK kvs k y) (stored vs k u) := by
  unfold putK stored
  rw [r.any k]
  by_cases e : (vs.any fun kv => decide (kv.1 = k)) = true
  · rw [if_pos e, if_pos e]; exact r.repl k ry
  · rw [if_neg e, if_neg e]; exact Paired.snoc r ⟨rfl, ry⟩
theorem KV.drop {kvs : List (κ × V)} {vs : List (κ × Value)} (r : KV kvs vs) (k : κ) : KV (dropK kvs k) (without vs k) := by
  unfold KV at r ⊢
  unfold dropK without
  induction r with
  | nil => exact .nil
  | @cons p q ps qs h t ih =>
    obtain ⟨h1, h2⟩ := h
    rw [List.filter_cons, List.filter_cons]
    by_cases e : p.1 = k
    · have a : ¬ decide (p.1 ≠ k) = true := by simp [e]
      have b : ¬ decide (q.1 ≠ k) = true := by simp [h1.symm.trans e]
      rw [if_neg a, if_neg b]; exact ih
    · have e' : ¬ q.1 = k := fun z => e (h1.trans z)
      have a : decide (p.1 ≠ k) = true := by simp [e]
      have b : decide (q.1 ≠ k) = true := by simp [e']
      rw [if_pos a, if_pos b]; exact .cons ⟨h1, h2⟩ ih
theorem KV.length {kvs : List (κ × V)} {vs : List (κ × Value)} (r : KV kvs vs) : kvs.length = vs.length := Paired.length r
end
theorem kV_is {P : Program} {w : World} {k : Key} {u : Value} (r : RelV (kV k) u) : (mixKind P w).is k u = true := by
  cases k with
  | inl i => obtain ⟨t, e⟩ := (show ∃ t, u = Value.int i t from r); subst e; exact mixKind_int P w i t
  | inr x => obtain ⟨t, e⟩ := (show ∃ t, u = Value.str x t from r); subst e; exact mixKind_str P w x t
theorem items_are {P : Program} {w : World} : ∀ {ks : List Key} {us : List Value}, Vals (ks.map kV) us → ItemsAre (mixKind P w) ks us
  | [], _, r => by rw [List.map_nil] at r; cases r; exact .nil
  | k :: ks, _, r => by
    rw [List.map_cons] at r
    cases r with
    | cons h t => exact .cons (kV_is h) (items_are t)
abbrev KT (H : Hp) : List (List Key × V) → List (List Key × Addr × Value) → Prop := Paired fun p q => p.1 = q.1 ∧ H q.2.1 = some (.tup (p.1.map kV)) ∧ RelV p.2 q.2.2
theorem KT.val {H : Hp} {kvs : List (List Key × V)} {xs : List (List Key × Addr × Value)} (r : KT H kvs xs) (k : List Key) : RelO (valV kvs k) ((atKey xs k).map (·.2)) := by
  induction r with
  | nil => exact True.intro
  | @cons p q ps qs h t ih =>
    obtain ⟨h1, _, h2⟩ := h
    by_cases e : p.1 = k
    · have e' : q.1 = k := h1.symm.trans e
      have b : atKey (q :: qs) k = some q.2 := by simp [atKey, List.find?_cons, e']
      rw [valV_pos e, b]; exact h2
    · have e' : ¬ q.1 = k := fun z => e (h1.trans z)
      have b : atKey (q :: qs) k = atKey qs k := by simp [atKey, List.find?_cons, e']
      rw [valV_neg e, b]; exact ih
theorem KT.repl {H : Hp} {kvs : List (List Key × V)} {xs : List (List Key × Addr × Value)} (r : KT H kvs xs) (k : List Key) {y : V} {u : Value} (ry : RelV y u) :
    KT H (kvs.map fun kv => if kv.1 = k then (kv.1, y) else kv) (xs.map (putAt k u)) := by
  induction r with
  | nil => exact .nil
  | @cons p q ps qs h t ih =>
    rw [List.map_cons, List.map_cons]
    refine .cons ?_ ih
    obtain ⟨h1, h2, h3⟩ := h
    unfold putAt
    by_cases e : p.1 = k
    · rw [if_pos e, if_pos (h1.symm.trans e)]; exact ⟨h1, h2, ry⟩
    · rw [if_neg e, if_neg (fun z => e (h1.trans z))]; exact ⟨h1, h2, h3⟩
theorem KT.put {H : Hp} {kvs : List (List Key × V)} {xs : List (List Key × Addr × Value)} (r : KT H kvs xs) (k : List Key) {b : Addr} {y : V} {u : Value} (hb : H b = some (.tup (k.map kV))) (ry : RelV y u) :
    KT H (putK kvs k y) (storedH xs k b u) := by
  have e : (kvs.any fun kv => decide (kv.1 = k)) = (atKey xs k).isSome := by
    rw [valV_any, (r.val k).isSome_eq, Option.isSome_map]
  unfold putK storedH
  rw [e]
  by_cases q : (atKey xs k).isSome = true
  · rw [if_pos q, if_pos q]; exact r.repl k ry
  · rw [if_neg q, if_neg q]; exact Paired.snoc r ⟨rfl, hb, ry⟩
theorem KT.keeps {H H' : Hp} {kvs : List (List Key × V)} {xs : List (List Key × Addr × Value)} (r : KT H kvs xs) (ht : ∀ b ys, H b = some (.tup ys) → H' b = some (.tup ys)) : KT H' kvs xs :=
  Paired.mapP r fun _ _ z => ⟨z.1, ht _ _ z.2.1, z.2.2⟩
section
variable {P : Program} {w : World} {H : Hp} {h : Heap} {a : Addr}
theorem rd_of {u : HO} (ok : HOk P w H h) (e : Rd H a u) : ObjOk P w H h a u := e.ok ok
theorem dk_rd {kvs : List (Key × V)} (ok : HOk P w H h) (e : Rd H a (.dK kvs)) : kvs.length ≤ sizeLine ∧ (a == sysModules) = false ∧ ∃ vs, KV kvs vs ∧ h.DictOf (mixKind P w) a vs :=
  show ObjOk P w H h a (.dK kvs) from rd_of ok e
theorem key_of {ks : List Key} (ok : HOk P w H h) (e : H a = some (.tup (ks.map kV))) : (tupleKind (mixKind P w)).is h ks a := by
  obtain ⟨_, its, r, o, h1, h2, n, h3⟩ := (show ObjOk P w H h a (.tup (ks.map kV)) from ok a _ e)
  exact ⟨o, its.toArray, n, h1, h2, h3, by simpa using items_are r⟩
end
def DGet (H : Hp) (a : Addr) (y : V) (r : Option V) : Prop :=
  (∃ kvs k, Rd H a (.dK kvs) ∧ y = kV k ∧ r = valV kvs k) ∨ ∃ kvs k b, Rd H a (.dT kvs) ∧ y = .ref b ∧ H b = some (.tup (k.map kV)) ∧ r = valV kvs k
def DPut (H : Hp) (a : Addr) (y v : V) (H' : Hp) : Prop :=
  (∃ kvs k, H a = some (.dK kvs) ∧ y = kV k ∧ kvs.length < sizeLine ∧ H' = upd H a (.dK (putK kvs k v))) ∨
  ∃ kvs k b, H a = some (.dT kvs) ∧ y = .ref b ∧ H b = some (.tup (k.map kV)) ∧ kvs.length < sizeLine ∧ H' = upd H a (.dT (putK kvs k v))
theorem DGet.k {H : Hp} {a : Addr} {kvs : List (Key × V)} {k : Key} (e : H a = some (.dK kvs)) : DGet H a (kV k) (valV kvs k) := .inl ⟨kvs, k, .inl e, rfl, rfl⟩
theorem DPut.k {H : Hp} {a : Addr} {kvs : List (Key × V)} {k : Key} {v : V} (e : H a = some (.dK kvs)) (hl : kvs.length < sizeLine) : DPut H a (kV k) v (upd H a (.dK (putK kvs k v))) := .inl ⟨kvs, k, e, rfl, hl, rfl⟩
section
variable {X : Cx} {pins : List (Addr × Obj)} {σ : St} {H : Hp} {s : Shared} {a : Addr} {y v : V} {u r : Value} {o : Option V} {A : Around} {E : Value → Shared → Prop}
theorem Inv.big (I : Inv X pins σ H s) : sysModules < s.heap.objs.size := by
  have h : mainGlobals < s.heap.objs.size := (I.mod.glob.keeps I.bk).lt
  exact Nat.lt_trans (by decide) h
end
section
variable {X : Cx} {pins : List (Addr × Obj)} {σ : St} {H : Hp} {s : Shared} {a : Addr} {kvs : List (Key × V)} {k : Key} {u : Value} {A : Around} {E : Value → Shared → Prop}
end
section
variable {X : Cx} {o i e value : Expr} {pos pos' tpos : Pos} {td ty tv : TE}
end
theorem dk_empty {P : Program} {w : World} {H : Hp} (h : Heap) (hb : sysModules < h.objs.size) : ObjOk P w H (h.push { cls := .type "dict", data := .dict #[] }) h.objs.size (.dK []) :=
  ⟨Nat.zero_le _, beq_eq_false_iff_ne.mpr (Ne.symm (Nat.ne_of_lt hb)), [], .nil, Heap.DictOf.new h⟩
def tDNewK : TE := fun _ H Q => ∀ p, H p = none → Q (.ref p) (upd H p (.dK []))
section
variable {X : Cx} {pos : Pos}
theorem pe_dnewK : PE X (.Dict [] [] pos) tDNewK := by
  unfold PE at *
  exact (fun pins s σ H Q I h =>
    wpAny_Dict_empty ⟨.ref s.heap.objs.size, _, I.laid (a := s.heap.objs.size) (o := .dK []) (t' := s.toks) (fun _ _ q => Heap.get?_push_of_some _ q) (Nat.le_refl _) (dk_empty s.heap I.big), rfl, h _ (I.hok.fresh (Nat.le_refl _))⟩)
end
section
variable {X : Cx} {pins : List (Addr × Obj)} {σ : St} {H : Hp} {s : Shared} {a : Addr} {y d : V} {u r : Value} {o : Option V} {A : Around} {E : Value → Shared → Prop}
end
section
variable {X : Cx} {o e f : Expr} {apos cpos : Pos} {td ty tx : TE}
end
section
variable {X : Cx} {pins : List (Addr × Obj)} {σ : St} {H : Hp} {s : Shared} {a : Addr} {kvs : List (Key × V)} {A : Around} {E : Value → Shared → Prop}
end
section
variable {X : Cx} {pins : List (Addr × Obj)} {σ : St} {H : Hp} {s : Shared} {a : Addr} {y : V} {u : Value} {A : Around} {E : Value → Shared → Prop}
end
end L2
namespace Att
open PySem PySem.W PySem.Calls PyProof.Rows
theorem ints_of_wellAll {P : Params} {h : Heap} : ∀ (ns : List Int) (vs : List Value), WellAll P h vs (ns.map WData.int) → IntsAre vs ns := by
  intro ns
  induction ns with
  | nil =>
    intro vs w
    rw [List.map_nil] at w
    cases w
    exact .nil
  | cons n ns ih =>
    intro vs w
    rw [List.map_cons] at w
    cases w with
    | cons a b =>
      cases a
      exact .cons _ _ (ih _ b)
theorem script_of {l : OpenLaw} {n : Nat} (hn : l.most = some n) {P : Params} {h : Heap} {args : List WData} {vals : List Value}
    (hpre : l.row.toRowW.claim.pre args = true) (hwl : WellAll P h vals args) :
    ∃ a vs ns, vals = [Value.ref a] ∧ args = [WData.list (ns.map WData.int)] ∧ h.get? a = some { cls := .type "list", data := .seq vs.toArray } ∧ IntsAre vs ns ∧ ns.length ≤ n := by
  have hsh : WShape.hasAll [] args [.list .int] = true := (pre_splitW hpre).1
  have hc : l.pre.holds [] { args := args } = true := (pre_splitW hpre).2
  obtain ⟨d, r, rfl, h1, h2⟩ := hasAllW_cons hsh
  obtain rfl := hasAllW_nil h2
  obtain ⟨xs, rfl, h3⟩ := hasW_list h1
  obtain ⟨ns, rfl⟩ := items_int h3
  have hlen : ns.length ≤ n := by
    unfold OpenLaw.pre at hc
    have h4 : (WTm.not (.lt (.lit (.int (n : Int))) (.len (.arg 0)))).holds [] { args := [.list (ns.map .int)] } = true := by
      have h4 := (holds_andW hc).1
      rw [hn] at h4
      exact h4
    have h5 := condW_of h4 (w_not (w_lt w_lit (w_len_list (w_arg rfl))))
    rw [List.length_map] at h5
    refine Nat.le_of_not_lt fun q => ?_
    have q' : (n : Int) < ((ns.length : Nat) : Int) := by omega
    first
      | (rw [decide_eq_true q'] at h5; exact absurd h5 (by decide))
      | (simp at h5; omega)
  cases hwl with
  | cons w1 w2 =>
    cases w2
    cases w1 with
    | list ho hall => exact ⟨_, _, ns, rfl, rfl, ho, ints_of_wellAll ns _ hall, hlen⟩
theorem post_true (l : OpenLaw) (args : List WData) : l.row.toRowW.claim.post args (.bool true) args = true :=
  postW_of (r := l.row.toRowW) (X := (true == true))
    (show WShape.has [] (.bool true) .bool = true by first | rfl | decide | simp [WShape.has, WShape.arms, WShape.armsAll])
    (show (WTm.eq .res (.lit (.bool true))).value [] { args := args, res := some (.bool true), after := args } = some (.bool (true == true)) from w_eq_bool (w_res rfl) w_lit) rfl
theorem attach_call {l : OpenLaw} {n : Nat} {q : Program} {loose : List Str} {XP : (Str → Option Value) → Heap → Prop} {YP : World → Heap → Prop} {d : DefRec}
    (hn : l.most = some n) (hdf : d.params.defaults = [])
    (call : ∀ (w : World) (s₀ s₁ : Shared) (mg mb : Str → Option Value) (fa : Addr) (o : Obj) (pm cd doc : Value) (a : Addr) (vs : List Value) (ns : List Int),
      Ground q loose [] XP w s₀ mg mb s₁.heap → YP w s₁.heap →
      s₁.heap.get? fa = some o → o.data = .func (docDef d.name d.params d.body d.scope pm cd doc) → s₁.heap.CodeRec cd d.name → mg d.name = some (.ref fa) →
      s₁.heap.get? a = some { cls := .type "list", data := .seq vs.toArray } → IntsAre vs ns → ns.length ≤ n → s₁.gens = #[] →
      codeAny (model l.prog w) callerA (.call (.ref fa) ⟨[.ref a], []⟩) (fun r s' => r = .ok (.ret (.bool true)) ∧ OldK s₁.heap s'.heap ∧ s'.os = s₁.os ∧ AllBare s'.gens) s₁) :
    WalkO q loose XP YP l.row.toRowW d [] (fun f vs => PySem.call f vs) := by
  intro w s₀ s₁ mg mb G Y fa o pm cd doc dV kV ho hd hcd hD hmg hg args vals as hpre hlay hrd hwl hlo
  obtain rfl : dV = .none := Dflts.none hD hdf
  obtain rfl : kV = .none := Dflts.noKw hD
  obtain ⟨a, vs, ns, rfl, rfl, hobj, hints, hlen⟩ := script_of hn hpre hwl
  refine enter_call (codeAny_mono (call w s₀ s₁ mg mb fa o pm cd doc a vs ns G Y ho (fd_plain hd) hcd hmg hobj hints hlen hg) fun r s' hq => ?_)
  obtain ⟨rfl, h2, h3, h4⟩ := hq
  exact ⟨.inl ⟨.bool true, .bool true, [], rfl, fun _ => rfl, .bool true, post_true l _, fun _ => ⟨List.Pairwise.nil, fun _ hm => (nomatch hm)⟩⟩, h2, h3, h4⟩
section
variable {prog : Program} {w : World} {A : Around} {E : Value → Shared → Prop} {s : Shared} {K : Frag}
def ledger (h : Heap) (L d : Addr) : List (Addr × Obj) := (List.range h.objs.size).filterMap fun a => if a = L ∨ a = d then none else (h.get? a).map fun o => (a, o)
end
end Att
namespace L2
open PySem PySem.Spec PyProof.Rows
theorem vals_ints : ∀ {vs : List Value} {ns : List Int}, IntsAre vs ns → Vals (ns.map V.int) vs
  | _, _, .nil => .nil
  | _, _, .cons n t h => .cons ⟨t, rfl⟩ (vals_ints h)
def Only (H : Hp) : Prop := ∀ b, H b = none ∨ ∃ o xs, H b = some (.frz o (.lst xs))
theorem law_call {P : Program} {w : World} {K : PySem.W.Frag} {mg mb : Str → Option Value} {CX : CXT} {k : Nat} {fa a : Addr} {fd : FuncData} {x : Str} {sp : Sp} {s₁ : Shared} {vs : List Value} {ns : List Int}
    (KX : K.In s₁.heap) (hns : s₁.heap.Ns mainGlobals mg) (hb : s₁.heap.Ns builtinsNs mb) (hbb : ∀ x : Str, x ≠ "__name__" → mb x = bootBuiltins x) (hlim : s₁.heap.NoLimit) (hg : s₁.gens = #[])
    (ha : s₁.heap.get? a = some { cls := .type "list", data := .seq vs.toArray }) (hi : IntsAre vs ns) (hl : ns.length ≤ sizeLine) (hr : Room k callerA)
    (F : ∀ base : Heap, K.In base → base.Ns mainGlobals mg → FnOk P w K mg base CX k fa fd [x] sp) (hbind : ∀ (s : Shared) (u : Value), BindsTo s fd ⟨[u], []⟩ [(x, u)])
    (hsp : ∀ H : Hp, Only H → SqL K H a (ns.map V.int) → sp [.ref a] H (fun v _ => v = .bl true) fun _ _ _ => False)
    (hCX : ∀ H e s', CX [] H s₁ (fun _ _ _ => False) e s' → False) :
    codeAny (model P w) callerA (.call (.ref fa) ⟨[.ref a], []⟩) (fun r s' => r = .ok (.ret (.bool true)) ∧ OldK s₁.heap s'.heap ∧ s'.os = s₁.os ∧ AllBare s'.gens) s₁ := by
  have rv := vals_ints hi
  have lenV := hi.length
  -- from an abstract heap in which nothing but the script may be tracked
  have core : ∀ H : Hp, Only H → SqL K H a (ns.map V.int) → HOk P w H s₁.heap → (∀ b, H b ≠ none → b = a) → (H a ≠ none → K.lookup a = none) →
      codeAny (model P w) callerA (.call (.ref fa) ⟨[.ref a], []⟩) (fun r s' => r = .ok (.ret (.bool true)) ∧ OldK s₁.heap s'.heap ∧ s'.os = s₁.os ∧ AllBare s'.gens) s₁ := by
    intro H hO hS hok hA hK
    have base_of : ∀ {b : Addr} {o : Obj}, s₁.heap.get? b = some o → H b = none → (hidT s₁.heap H).get? b = some o := fun e n => hidT_get e n
    have noA : ∀ {b : Addr} {o : Obj} {es : Array DictEntry} {ep : Nat}, s₁.heap.get? b = some o → o.data = .dict es ep → H b = none := fun {b o es ep} e d => by
      cases q : H b with
      | none => rfl
      | some u =>
        have e' : b = a := hA b (by rw [q]; simp)
        subst e'
        rw [ha] at e; cases e
        have d' : Data.seq vs.toArray _ = Data.dict es ep := d
        cases d'
    have nsK : ∀ {b : Addr} {m : Str → Option Value}, s₁.heap.Ns b m → (hidT s₁.heap H).Ns b m := fun {b m} ⟨o, es, ep, e, d, r⟩ => ⟨o, es, ep, base_of e (noA e d), d, r⟩
    have hKb : K.In (hidT s₁.heap H) := fun b o e => base_of (KX b o e) (by
      cases q : H b with
      | none => rfl
      | some u =>
        have e' : b = a := hA b (by rw [q]; simp)
        subst e'
        rw [hK (by rw [q]; simp)] at e; cases e)
    have hM : Mod K mg (hidT s₁.heap H) := ⟨hKb, nsK hns, ⟨mb, nsK hb, hbb⟩, let ⟨mc, h1, h2⟩ := hlim; ⟨mc, nsK h1, h2⟩⟩
    have e0 : Env0 P w K mg (hidT s₁.heap H) callerA [] s₁ H := ⟨rfl, hM, fun b o e => of_hidT e, Nat.le_of_eq (hidT_size _ _), trivial, fun b hb => absurd (show b ∈ ([] : List Addr) from hb) (by simp), hok, .of_eq hg⟩
    refine codeAny_mono ((F _ hKb (nsK hns)).run callerA [] s₁ H ⟨[.ref a], []⟩ [.ref a] [.ref a] _ _ hr e0 (hbind s₁ (.ref a)) (.cons rfl .nil) (hsp H hO hS)) fun r s' h => ?_
    cases r with
    | error e => exact (hCX H e s' h).elim
    | ok fl =>
      cases fl with
      | next => exact False.elim h
      | brk => exact False.elim h
      | cont => exact False.elim h
      | ret u =>
        obtain ⟨v, H', os, bare, un, hok', r', q⟩ := h
        have q' : v = .bl true := q
        subst q'
        obtain rfl : u = Value.bool true := r'
        refine ⟨rfl, OldK.of_keep fun b o e => ?_, os, bare⟩
        cases q : H b with
        | none => exact un.keep b o e q (by intro z; exact absurd (show b ∈ ([] : List Addr) from z) (by simp)) (by simp)
        | some u =>
          rcases hO b with z | ⟨ob, xs, z⟩
          · rw [q] at z; cases z
          · have z2 := un.frzs b ob _ z
            obtain ⟨e1, _⟩ := hok b _ z
            obtain ⟨e2, _⟩ := hok' b _ z2
            rw [e] at e1; cases e1
            exact e2
  cases hk : K.lookup a with
  | some o =>
    -- the script is one of the module's own objects
    have e := KX a o hk
    rw [ha] at e
    cases e
    refine core (fun _ => none) (fun _ => .inl rfl) (.inr ⟨_, vs.toArray, _, hk, rfl, rfl, rfl, by rw [List.size_toArray, lenV]; exact hl, by simpa using rv⟩) (fun b u z => by have z' : (none : Option HO) = some u := z; cases z') (fun b z => absurd rfl z) fun z => absurd rfl z
  | none =>
    refine core (fun b => if b = a then some (.frz { cls := .type "list", data := .seq vs.toArray } (.lst (ns.map V.int))) else none) (fun b => ?_) (.inl (.inr ⟨{ cls := .type "list", data := .seq vs.toArray }, if_pos rfl⟩)) (fun b u z => ?_) (fun b z => ?_) fun _ => hk
    · by_cases hb : b = a
      · exact .inr ⟨_, _, if_pos hb⟩
      · exact .inl (if_neg hb)
    · by_cases hb : b = a
      · have z' := (if_pos hb).symm.trans z
        cases z'
        subst hb
        exact ⟨ha, by rw [List.length_map]; exact hl, vs, _, rv, ha⟩
      · have z' := (if_neg hb).symm.trans z
        cases z'
    · by_cases hb : b = a
      · exact hb
      · exact absurd (if_neg hb) z
end L2
namespace L2
open PySem PySem.Spec PyProof.Rows
theorem walk_of {l : PySem.W.OpenLaw} {n k : Nat} {q : Program} {loose : List Str} {XP : (Str → Option Value) → Heap → Prop} {YP : World → Heap → Prop} {d : DefRec} {K : Params → PySem.W.Frag} {CX : World → CXT} {sp : World → Sp} {x : Str}
    (hn : l.most = some n) (hn2 : n ≤ sizeLine) (hdf : d.params.defaults = []) (hr : Room k callerA)
    (hY : ∀ (w : World) (h : Heap), YP w h → (K w.params).In h)
    (F : ∀ (w : World) (mg : Str → Option Value) (fa : Addr) (h : Heap), (K w.params).In h → h.Ns mainGlobals mg → mg d.name = some (.ref fa) →
      ∃ fd : FuncData, (∀ (s : Shared) (u : Value), BindsTo s fd ⟨[u], []⟩ [(x, u)]) ∧
        ∀ base : Heap, (K w.params).In base → base.Ns mainGlobals mg → FnOk l.prog w (K w.params) mg base (CX w) k fa fd [x] (sp w))
    (hsp : ∀ (w : World) (H : Hp) (a : Addr) (ns : List Int), ns.length ≤ n → Only H → SqL (K w.params) H a (ns.map V.int) → sp w [.ref a] H (fun v _ => v = .bl true) fun _ _ _ => False)
    (hCX : ∀ (w : World) (H : Hp) (s : Shared) (e : Value) (s' : Shared), CX w [] H s (fun _ _ _ => False) e s' → False) :
    PySem.W.WalkO q loose XP YP l.row.toRowW d [] (fun f vs => PySem.call f vs) := by
  refine Att.attach_call hn hdf fun w s₀ s₁ mg mb fa o pm cd doc a vs ns G Y ho hd hcd hmg hobj hints hlen hg => ?_
  have KX := hY w _ Y
  obtain ⟨fd, hb, hF⟩ := F w mg fa _ KX G.T.g hmg
  exact law_call KX G.T.g G.T.b G.T.builtins G.T.nolimit hg hobj hints (Nat.le_trans hlen hn2) hr hF hb (fun H hO hS => hsp w H a ns hlen hO hS) fun H e s' => hCX w H s₁ e s'
theorem walk_ofK {l : PySem.W.OpenLaw} {n k : Nat} {q : Program} {loose : List Str} {XP : (Str → Option Value) → Heap → Prop} {YP : World → Heap → Prop} {d : DefRec} {K : Params → PySem.W.Frag} {CX : CXT} {sp : PySem.W.Frag → Sp} {x : Str}
    (hn : l.most = some n) (hn2 : n ≤ sizeLine) (hdf : d.params.defaults = []) (hr : Room k callerA)
    (hY : ∀ (w : World) (h : Heap), YP w h → (K w.params).In h)
    (F : ∀ (w : World) (mg : Str → Option Value) (fa : Addr) (h : Heap), (K w.params).In h → h.Ns mainGlobals mg → mg d.name = some (.ref fa) →
      ∃ fd : FuncData, (∀ (s : Shared) (u : Value), BindsTo s fd ⟨[u], []⟩ [(x, u)]) ∧
        ∀ base : Heap, (K w.params).In base → base.Ns mainGlobals mg → FnOk l.prog w (K w.params) mg base CX k fa fd [x] (sp (K w.params)))
    (hsp : ∀ (K : PySem.W.Frag) (H : Hp) (a : Addr) (ns : List Int), ns.length ≤ n → Only H → SqL K H a (ns.map V.int) → sp K [.ref a] H (fun v _ => v = .bl true) fun _ _ _ => False)
    (hCX : ∀ (H : Hp) (s : Shared) (e : Value) (s' : Shared), CX [] H s (fun _ _ _ => False) e s' → False) :
    PySem.W.WalkO q loose XP YP l.row.toRowW d [] (fun f vs => PySem.call f vs) :=
  walk_of (K := K) (CX := fun _ => CX) (sp := fun w => sp (K w.params)) hn hn2 hdf hr hY F (fun w H a ns h1 h2 h3 => hsp (K w.params) H a ns h1 h2 h3) fun _ H s e s' => hCX H s e s'
end L2
/- THE LAST THEOREM (shape; LID, My.* are yours):
   My.Adr: a structure of the addresses that your layer names (classes, functions); My.Txt K t: a structure (Prop) of the equations over K;
   My.txt_mk : {K} {implicit addresses ..} (e1 : nsIn K mainGlobals "law" = some (some (.ref f))) (e2 : K.lookup f = some ⟨oc, od, .func (fnOf "law" "law" params body scope dV kV doc pm an cdv ct), sl⟩) (e3 : codeIn K cdv "law" = true) .. : ∃ t, My.Txt K t
set_option maxRecDepth 100000 in
set_option maxHeartbeats 0 in
(the tactic k_is has no namespace: write k_is) -/
namespace L2
open PySem PySem.Spec PyProof.Rows
def inClass (s : Stmt) (j : Nat) : Stmt := match s with
  | .ClassDef _ _ _ body _ _ _ _ _ _ _ => body.getD j (.Pass ⟨0, 0, 0, 0⟩)
  | _ => .Pass ⟨0, 0, 0, 0⟩
def defArgs (s : Stmt) : Arguments := match s with
  | .FunctionDef _ a _ _ _ _ _ _ _ _ => a
  | _ => { posonlyargs := [], args := [], vararg := none, kwonlyargs := [], kw_defaults := [], kwarg := none, defaults := [] }
def defBody (s : Stmt) : List Stmt := match s with
  | .FunctionDef _ _ b _ _ _ _ _ _ _ => b
  | _ => []
def defScope (s : Stmt) : Scope := match s with
  | .FunctionDef _ _ _ _ _ _ sc _ _ _ => sc
  | _ => { kind := .function, names := [], isGenerator := false, isCoroutine := false }
abbrev CX0 : CXT := fun _ _ _ _ _ _ => False
abbrev E0 : XK := fun _ _ _ => False
theorem pass0 {X : Cx} : Passes CX0 X E0 := fun _ _ _ _ _ _ _ h => h.elim
structure Fun (K : PySem.W.Frag) (x qual : Str) (st : Stmt) (f : Addr) (fd : FuncData) : Prop where
  ex : ∃ (oc : Value) (od : Option Addr) (kV doc pm : Value) (an : Option Addr) (cdv ct : Value) (osl : Array (Option Value)),
    fd = PySem.W.fnOf x qual (defArgs st) (defBody st) (defScope st) .none kV doc pm an cdv ct ∧ K.lookup f = some ⟨oc, od, .func fd, osl⟩ ∧ PySem.W.codeIn K cdv qual = true
  kp : PySem.W.keepIn K (.ref f) = true
section
variable {P : Program} {w : World} {K : PySem.W.Frag} {mg : Str → Option Value} {base : Heap}
theorem Fun.ok {x qual : Str} {st : Stmt} {f : Addr} {fd : FuncData} {N ps : List Str} {k : Nat} {sp : Sp} (F : Fun K x qual st f fd) (S : FnScope N ps (defScope st)) (len : ∀ vs H Q E, sp vs H Q E → vs.length = ps.length)
    (hbody : ∀ (cdv : Value) (A : Around) (outer : List Env) (s : Shared) (H : Hp) (vs : List V) (Q : VK) (E : XK), Room k (A.deeper (envOfC qual (defScope st) s.heap.objs.size f cdv)) → sp vs H Q E →
      ∃ t, PSs (cxOf CX0 P w K mg base N qual (defScope st) f cdv A outer s H E).nox (defBody st) t ∧ t { nx := fun _ H' => Q .non H', rt := Q } (start N vs) H) : FnOk P w K mg base CX0 (k + 1) f fd ps sp := by
  obtain ⟨oc, od, kV, doc, pm, an, cdv, ct, osl, rfl, lk, hcd⟩ := F.ex
  refine fn_of lk hcd S len fun A outer s H vs Q E hr hsp => ?_
  obtain ⟨t, h, q⟩ := hbody cdv A outer s H vs Q E hr hsp
  exact ⟨t, h.nox, q⟩
theorem Fun.binds {x qual : Str} {st : Stmt} {f : Addr} {fd : FuncData} {ps : List Str} (F : Fun K x qual st f fd)
    (h : ∀ (kV doc pm : Value) (an : Option Addr) (cdv ct : Value) (us : List Value), us.length = ps.length → bindArgs (PySem.W.fnOf x qual (defArgs st) (defBody st) (defScope st) .none kV doc pm an cdv ct) ⟨us, []⟩ = pure (ps.zip us)) : Binds K fd ps [] := by
  obtain ⟨oc, od, kV, doc, pm, an, cdv, ct, osl, rfl, lk, hcd⟩ := F.ex
  exact .all (h kV doc pm an cdv ct)
theorem fun_mk {x qual : Str} {st : Stmt} {f : Addr} {oc : Value} {od an : Option Addr} {osl : Array (Option Value)} {kV doc pm cdv ct : Value} (l : K.lookup f = some ⟨oc, od, .func (PySem.W.fnOf x qual (defArgs st) (defBody st) (defScope st) .none kV doc pm an cdv ct), osl⟩)
    (c : PySem.W.codeIn K cdv qual = true) (k : PySem.W.keepIn K (.ref f) = true) : Fun K x qual st f (PySem.W.fnOf x qual (defArgs st) (defBody st) (defScope st) .none kV doc pm an cdv ct) := ⟨⟨oc, od, kV, doc, pm, an, cdv, ct, osl, rfl, l, c⟩, k⟩
end
section
variable {X : Cx}
theorem pv (i : Nat) {x : Str} {pos : Pos} (hN : X.N[i]? = some x := by rfl) (hv : Vis X.env.scope x := by first | exact Or.inl rfl | exact Or.inr (Or.inl rfl) | exact Or.inr (Or.inr rfl)) (hd : (x == ("__debug__" : Str)) = false := by decide)
    (hcd : (x == ("__classdict__" : Str)) = false := by decide) : PE X (.Name x pos) (tVar i) := by
  first
  | exact (pe_var hN hv hd hcd)
  | (unfold PE at *; exact (pe_var hN hv hd hcd))
end
theorem iteF {A B : Prop} (h : B) : if false = true then A else B := by
  rw [if_neg Bool.false_ne_true]
  exact h
theorem iteT {A B : Prop} (h : A) : if true = true then A else B := by
  rw [if_pos rfl]
  exact h
theorem ite2 {c A B : Prop} [Decidable c] (h1 : c → A) (h2 : ¬ c → B) : if c then A else B := by
  by_cases h : c
  · rw [if_pos h]
    exact h1 h
  · rw [if_neg h]
    exact h2 h
def Same (H H' : Hp) : Prop := ∀ b o, H b = some o → H' b = some o
theorem Same.refl (H : Hp) : Same H H := fun _ _ h => h
theorem Same.trans {H H1 H2 : Hp} (a : Same H H1) (b : Same H1 H2) : Same H H2 := fun c o h => b c o (a c o h)
theorem Same.free {H H' : Hp} (e : Same H H') {l : Addr} (h : H' l = Option.none) : H l = Option.none := by
  cases q : H l with
  | none => rfl
  | some o =>
    rw [e l o q] at h
    cases h
theorem Same.seq {K : PySem.W.Frag} {H H' : Hp} {a : Addr} {xs : List V} (e : Same H H') (h : SqL K H a xs) : SqL K H' a xs := by
  rcases h with (h | ⟨o, h⟩) | h
  · exact .inl (.inl (e _ _ h))
  · exact .inl (.inr ⟨o, e _ _ h⟩)
  · exact .inr h
section
variable {κ : Type} [DecidableEq κ]
end
end L2
set_option maxHeartbeats 4000000
namespace L2
open PySem PySem.Spec PyProof.Rows
section
variable {X : Cx} {a b c : Expr} {ta tb tc : TE} {pos : Pos}
inductive ClsV : V → Value → Prop where
  | ty (n : String) : ClsV (.ty n) (.type n)
  | own (C : Addr) : ClsV (.ref C) (.ref C)
def rIsi (K : PySem.W.Frag) : List V → Hp → VK → Prop := fun xs H Q => ∃ x c cv t b, xs = [x, c] ∧ ClsV c cv ∧ TyOf K H x t ∧ PySem.W.kitOne K t cv = some b ∧ Q (.bl b) H
theorem call_isi : CallR X (.builtin "isinstance") (rIsi X.K) := by
  unfold CallR at *
  exact by
    intro pins s σ H xs us Q I rv h
    obtain ⟨x, c, cv, t, b, rfl, hc, ty, e, q⟩ := h
    obtain ⟨u, cu, rfl, ru, rc⟩ := rv.two
    have ec : cu = cv := by cases hc <;> exact rc
    subst ec
    exact isinst_ok I ru ty e fun tk => ⟨.bl b, H, I.tok tk, rfl, q⟩
end
end L2
namespace L2
open PySem PySem.Spec PyProof.Rows
/- what a block's context hangs on: the closure's cells, the state and abstract heap ahead of the block, the iterator's records -/
set_option genInjectivity false in
set_option genSizeOfSpec false in
set_option genSizeOf false in
structure Bk where
  cl : List (Str × Addr)
  s2 : Shared
  H2 : Hp
  fp : List Addr
def cxComp (X : Cx) (scope : Scope) (N' : List Str) (B : Bk) : Cx :=
  { X with N := N', s₀ := B.s2, H₀ := B.H2, env := compEnvC scope B.cl B.s2.heap.objs.size X.env, outer := X.stack, stack := X.stack, ex := B.fp, fn := fun _ => false, pn := [], xe := fun _ _ => False }
def capS (js : List (Option Nat)) (σ : St) : St := js.map fun o => o.bind fun j => (σ[j]?).join
structure Cap (X : Cx) (scope : Scope) (N' : List Str) (js : List (Option Nat)) : Prop where
  len : js.length = N'.length
  ok : ∀ (i j : Nat) (x : Str), js[i]? = some (some j) → N'[i]? = some x → X.N[j]? = some x ∧ scope.names.lookup x = some .free ∧ (X.env.kindOf x = some .cell ∨ X.env.kindOf x = some .free)
theorem closure_go {env : Env} : ∀ (names : List (Str × NameKind)) (cs : List (Str × Addr)), (∀ x ∈ names, x.2 = .free → ∃ c, env.cells.lookup x.1 = some c) → (∀ x c, cs.lookup x = some c → env.cells.lookup x = some c) →
    ∃ cl, (forIn names cs (fun (x : Str × NameKind) (r : List (Str × Addr)) => match x with
      | (name, kind) => if (kind == NameKind.free) = true then (do let y ← cellOf env name; pure (ForInStep.yield ((name, y) :: r))) else pure (ForInStep.yield r)) : Sem (List (Str × Addr))) = pure cl ∧
      (∀ x c, cl.lookup x = some c → env.cells.lookup x = some c) ∧ (∀ x c, cs.lookup x = some c → ∃ c', cl.lookup x = some c') ∧ ∀ x, (x, NameKind.free) ∈ names → ∃ c, cl.lookup x = some c := by
  intro names
  induction names with
  | nil => intro cs _ h2; exact ⟨cs, rfl, h2, fun x c e => ⟨c, e⟩, fun x hx => absurd hx (by simp)⟩
  | cons y r ih =>
    intro cs h1 h2
    obtain ⟨n, k⟩ := y
    have h1r : ∀ x ∈ r, x.2 = .free → ∃ c, env.cells.lookup x.1 = some c := fun x hx => h1 x (List.mem_cons_of_mem _ hx)
    by_cases hk : k = .free
    · subst hk
      obtain ⟨c, hc⟩ := h1 (n, .free) List.mem_cons_self rfl
      have h2' : ∀ x d, List.lookup x ((n, c) :: cs) = some d → env.cells.lookup x = some d := fun x d e => by
        by_cases hx : x = n
        · subst hx
          simp only [List.lookup_cons, beq_self_eq_true] at e
          rw [hc]; exact e
        · have hb : (x == n) = false := by simpa using hx
          simp only [List.lookup_cons, hb] at e
          exact h2 x d e
      obtain ⟨cl, e1, e2, e3, e4⟩ := ih ((n, c) :: cs) h1r h2'
      refine ⟨cl, ?_, e2, fun x d e => ?_, fun x hx => ?_⟩
      · rw [List.forIn_cons]
        have q : cellOf env n = pure c := by unfold cellOf; rw [hc]
        show ((if (NameKind.free == NameKind.free) = true then (do let y ← cellOf env n; pure (ForInStep.yield ((n, y) :: cs))) else pure (ForInStep.yield cs)) >>= _) = _
        rw [if_pos (by decide), q]
        exact e1
      · by_cases hx : x = n
        · exact e3 x c (by subst hx; simp [List.lookup_cons])
        · exact e3 x d (by have hb : (x == n) = false := by simpa using hx
                           simp only [List.lookup_cons, hb]; exact e)
      · rcases List.mem_cons.mp hx with z | z
        · injection z with z1 _
          exact e3 x c (by subst z1; simp [List.lookup_cons])
        · exact e4 x z
    · obtain ⟨cl, e1, e2, e3, e4⟩ := ih cs h1r h2
      refine ⟨cl, ?_, e2, e3, fun x hx => ?_⟩
      · rw [List.forIn_cons]
        have hb : (k == NameKind.free) = false := by simpa using hk
        show ((if (k == NameKind.free) = true then _ else pure (ForInStep.yield cs)) >>= _) = _
        rw [if_neg (by rw [hb]; decide)]
        exact e1
      · rcases List.mem_cons.mp hx with z | z
        · injection z with _ z2
          exact absurd z2.symm hk
        · exact e4 x z
theorem closure_of {scope : Scope} {env : Env} (h : ∀ x ∈ scope.names, x.2 = .free → ∃ c, env.cells.lookup x.1 = some c) :
    ∃ cl, closureFor scope env = pure cl ∧ (∀ x c, cl.lookup x = some c → env.cells.lookup x = some c) ∧ ∀ x, (x, NameKind.free) ∈ scope.names → ∃ c, cl.lookup x = some c := by
  obtain ⟨cl, e1, e2, _, e4⟩ := closure_go (env := env) scope.names [] h (fun x c e => by simp at e)
  refine ⟨cl, ?_, e2, e4⟩
  have q : closureFor scope env = (forIn scope.names [] (fun (x : Str × NameKind) (r : List (Str × Addr)) => match x with
      | (name, kind) => if (kind == NameKind.free) = true then (do let y ← cellOf env name; pure (ForInStep.yield ((name, y) :: r))) else pure (ForInStep.yield r)) : Sem (List (Str × Addr))) >>= fun r => pure r := rfl
  rw [q, e1]
  rfl
theorem relabel_free {env : Env} : ∀ {names : List (Str × NameKind)} {x : Str}, names.lookup x = some .free →
    (names.map fun (n, k) => if (k == NameKind.free && env.scope.kind == .function && env.kindOf n == some .cell) then (n, NameKind.cell) else (n, k)).lookup x = some .cell ∨
    (names.map fun (n, k) => if (k == NameKind.free && env.scope.kind == .function && env.kindOf n == some .cell) then (n, NameKind.cell) else (n, k)).lookup x = some .free
  | [], _, h => by simp at h
  | (n, k) :: r, x, h => by
    have ih := @relabel_free env r x
    simp only [List.map_cons]
    cases hx : x == n with
    | true =>
      simp only [List.lookup_cons, hx] at h
      cases h
      by_cases hc : (NameKind.free == NameKind.free && env.scope.kind == .function && env.kindOf n == some .cell) = true
      · rw [if_pos hc]; left; simp only [List.lookup_cons, hx]
      · rw [if_neg hc]; right; simp only [List.lookup_cons, hx]
    | false =>
      simp only [List.lookup_cons, hx] at h
      by_cases hc : (k == NameKind.free && env.scope.kind == .function && env.kindOf n == some .cell) = true
      · rw [if_pos hc]; simp only [List.lookup_cons, hx]; exact ih h
      · rw [if_neg hc]; simp only [List.lookup_cons, hx]; exact ih h
theorem relabel_inv {env : Env} : ∀ {names : List (Str × NameKind)} {x : Str},
    ((names.map fun (n, k) => if (k == NameKind.free && env.scope.kind == .function && env.kindOf n == some .cell) then (n, NameKind.cell) else (n, k)).lookup x = some .cell ∨
    (names.map fun (n, k) => if (k == NameKind.free && env.scope.kind == .function && env.kindOf n == some .cell) then (n, NameKind.cell) else (n, k)).lookup x = some .free) →
    names.lookup x = some .cell ∨ names.lookup x = some .free
  | [], _, h => by simp at h
  | (n, k) :: r, x, h => by
    have ih := @relabel_inv env r x
    simp only [List.map_cons] at h
    cases hx : x == n with
    | true =>
      simp only [List.lookup_cons, hx]
      by_cases hc : (k == NameKind.free && env.scope.kind == .function && env.kindOf n == some .cell) = true
      · right
        have : k = .free := by
          simp only [Bool.and_eq_true] at hc
          simpa using hc.1.1
        rw [this]
      · rw [if_neg hc] at h
        simp only [List.lookup_cons, hx] at h
        exact h
    | false =>
      simp only [List.lookup_cons, hx]
      apply ih
      by_cases hc : (k == NameKind.free && env.scope.kind == .function && env.kindOf n == some .cell) = true
      · rw [if_pos hc] at h; simp only [List.lookup_cons, hx] at h; exact h
      · rw [if_neg hc] at h; simp only [List.lookup_cons, hx] at h; exact h
theorem comp_start {X : Cx} {pins : List (Addr × Obj)} {σ : St} {H2 : Hp} {s2 : Shared} {scope : Scope} {cl : List (Str × Addr)} {N' : List Str} {js : List (Option Nat)} {fp : List Addr} {h' : Heap} {t' : Nat} {m0 : Str → Option Value}
    (I : Inv X pins σ H2 s2) (hk : scope.kind = .function) (hcell : ∀ y ∈ scope.names, y.2 ≠ .cell)
    (hf : ∀ b ∈ fp, FpOk X pins H2 b) (ho : ∀ b ∈ fp, ∃ o, s2.heap.get? b = some o)
    (c1 : ∀ x c, cl.lookup x = some c → X.env.cells.lookup x = some c) (c2 : ∀ x, (x, NameKind.free) ∈ scope.names → ∃ c, cl.lookup x = some c)
    (cap : Cap X scope N' js) (ns : h'.Ns s2.heap.objs.size m0) (sb : ∀ b o, s2.heap.get? b = some o → h'.get? b = some o) :
    Inv (cxComp X scope N' ⟨cl, s2, H2, fp⟩) [] (capS js σ) H2 { s2 with heap := h', toks := t' } := by
  have isc : ∀ c v, s2.heap.IsCell c v → h'.IsCell c v := fun c v ⟨o, e, d⟩ => ⟨o, sb _ _ e, d⟩
  refine ⟨⟨I.ok.mod, hk, I.ok.glob, I.ok.blt, Nat.le_refl _, fun x y c h1 h2 => I.ok.inj x y c (c1 x c h1) (c1 y c h2), fun x hx => ?_, fun x c h => absurd h (by simp [cxComp]), I.ok.hd, I.ok.frames, .inl rfl, fun b hb => ⟨?_, fun x c e => ?_⟩, I.bs, Nat.le_trans I.ok.bsz I.sz,
    fun b o e hb => ?_, fun b hb hs => ?_, I.stack, I.stkFree⟩, rfl, I.bare, Un.kept sb, ⟨m0, ns, fun i x v e1 e2 e3 => ?_⟩, fun x c e => ?_, I.hok.fresh (Nat.le_refl _), fun x c e => I.freeC x c (c1 x c e), fun p hp => absurd hp (by simp [cxComp]), I.hok.kept sb, ?_⟩
  · have hx' := relabel_inv (env := X.env) (names := scope.names) (x := x) hx
    rcases hx' with z | z
    · exact absurd rfl (hcell _ (PySem.mem_of_lookup z))
    · exact c2 x (PySem.mem_of_lookup z)
  · obtain ⟨o, e⟩ := ho b hb
    exact Nat.ne_of_lt (Heap.lt_size e)
  · exact (hf b hb).2.2.2.2.1 x c (c1 x c e)
  · rcases (hf b hb).2.2.2.1 with z | z
    · exact I.ok.noex b o e z
    · exact absurd (Nat.lt_of_lt_of_le (Heap.lt_size e) (Nat.le_trans I.ok.bsz z)) (Nat.lt_irrefl _)
  · rcases List.mem_cons.mp (I.stkSub b hs) with z | z
    · exact (hf b hb).2.1 z
    · exact (hf b hb).2.2.1 z
  · have e2' : ((js.map fun o => o.bind fun j => (σ[j]?).join) : St)[i]? = some (some v) := e2
    rw [List.getElem?_map] at e2'
    cases q : js[i]? with
    | none => rw [q] at e2'; cases e2'
    | some o =>
      rw [q] at e2'
      cases o with
      | none => simp at e2'
      | some j =>
        have q2 : (σ[j]?).join = some v := by simpa using e2'
        have q3 : σ[j]? = some (some v) := by
          cases z : σ[j]? with
          | none => rw [z] at q2; cases q2
          | some w => rw [z] at q2; exact congrArg some q2
        obtain ⟨n1, n2, n3⟩ := cap.ok i j x q e1
        obtain ⟨m, hm, hl⟩ := I.loc
        obtain ⟨u, r, l⟩ := hl j x v n1 q3 (.inr n3)
        refine ⟨u, r, .inr ⟨relabel_free (env := X.env) n2, ?_⟩⟩
        obtain ⟨c, hc⟩ := c2 x (PySem.mem_of_lookup n2)
        refine ⟨c, hc, ?_⟩
        rcases l with ⟨l, _⟩ | ⟨_, c', e', z'⟩
        · rcases n3 with n3 | n3 <;> (rw [n3] at l; cases l)
        · have := c1 x c hc
          rw [e'] at this; cases this
          exact isc _ _ z'
  · obtain ⟨v, z⟩ := I.cell x c (c1 x c e)
    exact ⟨v, isc _ _ z⟩
  · show (js.map _).length = N'.length
    rw [List.length_map]; exact cap.len
@[irreducible] def PIfs (X : Cx) (ifs : List Expr) (t : TT) : Prop :=
  ∀ (pins : List (Addr × Obj)) (s : Shared) (σ : St) (H : Hp) (Q : Bool → Hp → Prop), Inv X pins σ H s → t σ H Q →
    wpAny (model X.prog X.w) X.A (forIn ifs true fun c r => if r = true then do let ok ← isTrue c X.env (eval c X.env); pure (ForInStep.yield ok) else pure (ForInStep.yield r)) (TP X pins σ Q) X.xe s
def tAll : TT := fun _ H Q => Q true H
theorem pifs_nil {X : Cx} : PIfs X [] tAll := by
  first
  | exact (fun _ _ _ H _ I h => wpAny_tests_nil ⟨H, I, h⟩)
  | (unfold PIfs at *; exact (fun _ _ _ H _ I h => wpAny_tests_nil ⟨H, I, h⟩))
theorem pifs_one {X : Cx} {c : Expr} {t : TT} (hc : PT X c t) : PIfs X [c] t := by
  first
  | exact (fun pins s σ H Q I h => wpAny_tests_one (hc pins s σ H Q I h))
  | (unfold PT at *; unfold PIfs at *; exact (fun pins s σ H Q I h => wpAny_tests_one (hc pins s σ H Q I h)))
section
variable {prog : Program} {w : World} {A : Around} {R : Result → Shared → Prop} {s : Shared}
theorem compLoop_go {elt target iter : Expr} {ifs : List Expr} {scope : Scope} {pos : Pos} {it acc : Value} {env : Env} (I : Nat → Shared → Prop)
    (turn : ∀ n s, I n s → wpAny (model prog w) A (pyNext it) (fun r s₁ => match r with
      | none => R (.ok .next) s₁
      | some v => wpAny (model prog w) A (letOwnedTupleGo target it v) (fun _ s₁ => wpAny (model prog w) A (assign target env v) (fun _ s₂ =>
          wpAny (model prog w) A (forIn ifs true fun c r => if r = true then do let ok ← isTrue c env (eval c env); pure (ForInStep.yield ok) else pure (ForInStep.yield r)) (fun ok s₃ =>
            if ok = true then wpAny (model prog w) A (eval elt env) (fun x s₄ =>
              wpAny (model prog w) A (call (.builtin "list.append") [acc, x]) (fun _ s₅ => ∃ m, m < n ∧ I m s₅) (fun _ _ => False) s₄) (fun _ _ => False) s₃
            else ∃ m, m < n ∧ I m s₃) (fun _ _ => False) s₂) (fun _ _ => False) s₁) (fun _ _ => False) s₁) (fun _ _ => False) s)
    (n : Nat) (h : I n s) :
    codeAny (model prog w) A (.compLoop (.ListComp elt [⟨target, iter, ifs, 0⟩] scope pos) 0 it acc env) R s := by
  refine codeAny_loop rfl I (fun n s hI => ?_) n h
  show wpAny _ A ((compTurn (.ListComp elt [⟨target, iter, ifs, 0⟩] scope pos) 0 it acc env).onRaise (fun x => do noteFrame x env; theTreesLotGoes x)) _ _ s
  refine wpAny_noted ?_
  rw [compTurn_list]
  refine wpAny_bind (wpAny_standAt (wpAny_bind (wpAny_mono (turn n s hI) (fun r s₁ h₁ => ?_) fun _ _ h' => h'.elim)))
  cases r with
  | none => exact wpAny_pure h₁
  | some v =>
    refine wpAny_bind (wpAny_mono h₁ (fun _ s₁ h₁ => ?_) fun _ _ h' => h'.elim)
    refine wpAny_bind (wpAny_mono h₁ (fun _ s₂ h₂ => wpAny_bind (wpAny_mono h₂ (fun ok s₃ h₃ => ?_) fun _ _ h' => h'.elim)) fun _ _ h' => h'.elim)
    cases ok with
    | false => exact wpAny_pure ⟨rfl, h₃⟩
    | true =>
      exact wpAny_bind (wpAny_bind (wpAny_mono h₃ (fun x s₄ h₄ => wpAny_bind (wpAny_mono h₄ (fun _ s₅ h₅ => wpAny_pure (wpAny_pure ⟨rfl, h₅⟩)) fun _ _ h' => h'.elim)) fun _ _ h' => h'.elim))
end
def tLoop (J : It) (l : Addr) (g : TG) (tc : TT) (te : TE) (σ : St) (H : Hp) (Q : VK) : Prop :=
  ∃ W : Nat → Nat → St → List V → Hp → Prop, (∃ m, W 0 m σ [] H) ∧ ∀ i m σ acc H, W i m σ acc H → H l = some (.lst acc) ∧ ((J.stop i H ∧ Q (.ref l) H) ∨
    (J.go i H ∧ acc.length < sizeLine ∧ ∀ x H', J.yld i H x H' → g x σ H' fun σ2 H2 => tc σ2 H2 fun b H3 => if b = true then
      te σ2 H3 fun v H4 => H4 l = some (.lst acc) ∧ ∃ m', m' < m ∧ W (i + 1) m' σ2 (acc ++ [v]) (upd H4 l (.lst (acc ++ [v])))
      else ∃ m', m' < m ∧ W (i + 1) m' σ2 acc H3))
def tComp (js : List (Option Nat)) (wi : TI) (g : Bk → TG) (tc : Bk → TT) (te : Bk → TE) : TE := fun σ H Q => wi σ H fun J H1 => ∀ l B, H1 l = none → tLoop J l (g B) (tc B) (te B) (capS js σ) (upd H1 l (.lst [])) Q
section
variable {X : Cx} {elt tg iter : Expr} {ifs : List Expr} {scope : Scope} {pos : Pos} {N' : List Str} {js : List (Option Nat)} {wi : TI} {g : Bk → TG} {tc : Bk → TT} {te : Bk → TE}
theorem comp_block {pins : List (Addr × Obj)} {σ : St} {H1 : Hp} {s1 : Shared} {it : Addr} {fp : List Addr} {tn : Nat → Heap → Prop} {J : It} {cl : List (Str × Addr)} {Q : VK} {RR : Value → Addr → Result → Shared → Prop}
    (hc : X.calm = true) (hk : scope.kind = .function) (hcell : ∀ y ∈ scope.names, y.2 ≠ .cell) (cap : Cap X scope N' js)
    (blk : ∀ B, PG (cxComp X scope N' B) tg (g B) ∧ PIfs (cxComp X scope N' B) ifs (tc B) ∧ PE (cxComp X scope N' B) elt (te B))
    (c1 : ∀ x c, cl.lookup x = some c → X.env.cells.lookup x = some c) (c2 : ∀ x, (x, NameKind.free) ∈ scope.names → ∃ c, cl.lookup x = some c)
    (I : Inv X pins σ H1 s1) (T : Turn X.prog X.w X.K tg J fp it tn) (st : tn 0 s1.heap) (hf : ∀ b ∈ fp, FpOk X pins H1 b)
    (h : ∀ l B, H1 l = none → tLoop J l (g B) (tc B) (te B) (capS js σ) (upd H1 l (.lst [])) Q)
    (hRR : ∀ l C H' s' (m' : Str → Option Value), Inv X pins σ H' s' → Q (.ref l) H' → s'.heap.Ns C m' → H' C = none → C ≠ X.env.locals → (∀ x c, X.env.cells.lookup x = some c → c ≠ C) → C ∉ X.fs → X.s₀.heap.objs.size ≤ C → (∀ p ∈ X.pn ++ pins, p.1 ≠ C) →
      RR (.ref l) C (.ok .next) s') :
    wpAny (model X.prog X.w) X.A (newList []) (fun acc s₃ => wpAny (model X.prog X.w) X.A (newFunctionEnv scope X.env.globals cl [] X.env.qual none .none (some X.env)) (fun cenv s₄ =>
      codeAny (model X.prog X.w) X.A (.compStart (.ListComp elt [⟨tg, iter, ifs, 0⟩] scope pos) 0 (.ref it) acc { cenv with scope := relabel scope X.env }) (RR acc cenv.locals) s₄) X.xe s₃) X.xe s1 := by
  unfold PE at *; unfold PG at *; unfold PIfs at *
  exact by
    refine wpAny_newObj_type ?_
    have I2 : Inv X pins σ (upd H1 s1.heap.objs.size (.lst [])) { s1 with heap := s1.heap.push { cls := .type "list", data := .seq ([] : List Value).toArray } } := I.lnew (t' := s1.toks) .nil (Nat.zero_le _)
    have hl : H1 s1.heap.objs.size = none := I.fresh
    generalize es2 : ({ s1 with heap := s1.heap.push { cls := .type "list", data := .seq ([] : List Value).toArray } } : Shared) = s2 at I2 ⊢
    generalize el : s1.heap.objs.size = l at *
    have ne_fp : ∀ b ∈ fp, b ≠ l := fun b hb => by
      obtain ⟨o, e, _⟩ := T.obj _ _ st b hb
      rw [← el]
      exact Nat.ne_of_lt (Heap.lt_size e)
    have hf2 : ∀ b ∈ fp, FpOk X pins (upd H1 l (.lst [])) b := fun b hb => ⟨by rw [upd_ne (ne_fp b hb)]; exact (hf b hb).1, (hf b hb).2⟩
    have kp : ∀ b o, s1.heap.get? b = some o → s2.heap.get? b = some o := fun b o e => by rw [← es2]; exact Heap.get?_push_of_some _ e
    have st2 : tn 0 s2.heap := T.keep _ _ _ st fun b _ o e => kp b o e
    refine wpAny_newFunctionEnv hcell (by intro y hy; simp at hy) (fun h' ns sb => ?_) hk
    have kp2 : ∀ b o, s2.heap.get? b = some o → h'.get? b = some o := fun b o e => (sb.2 b (Nat.ne_of_lt (Heap.lt_size e))).trans (Heap.get?_push_of_some _ e)
    have st3 : tn 0 h' := T.keep _ _ _ st2 fun b _ o e => kp2 b o e
    have I3 := comp_start (t' := s2.toks + ([] : List (Str × Value)).length) (m0 := fun x => ([] : List (Str × Value)).reverse.lookup x) I2 hk hcell hf2 (fun b hb => by obtain ⟨o, e, _⟩ := T.obj _ _ st2 b hb; exact ⟨o, e⟩) c1 c2 cap ns kp2
    obtain ⟨pg, pif, pel⟩ := blk ⟨cl, s2, upd H1 l (.lst []), fp⟩
    obtain ⟨W, ⟨m0, w0⟩, turn⟩ := h l ⟨cl, s2, upd H1 l (.lst []), fp⟩ hl
    have fpY : ∀ {H' : Hp}, (∀ b ∈ fp, H' b = none) → ∀ b ∈ fp, FpOk (cxComp X scope N' ⟨cl, s2, upd H1 l (.lst []), fp⟩) [] H' b := fun {H'} hn b hb =>
      ⟨hn b hb, (I3.ok.exf b hb).1, I3.ok.exfs b hb, .inl hb, (I3.ok.exf b hb).2, fun p hp => absurd hp (by simp [cxComp])⟩
    have loop : codeAny (model X.prog X.w) X.A (.compLoop (.ListComp elt [⟨tg, iter, ifs, 0⟩] scope pos) 0 (.ref it) (.ref l) (compEnvC scope cl s2.heap.objs.size X.env)) (RR (.ref l) s2.heap.objs.size) { s2 with heap := h', toks := s2.toks + ([] : List (Str × Value)).length } := by
      refine compLoop_go (fun n s' => ∃ i σ' acc H', Inv (cxComp X scope N' ⟨cl, s2, upd H1 l (.lst []), fp⟩) [] σ' H' s' ∧ tn i s'.heap ∧ (∀ b ∈ fp, H' b = none) ∧ W i n σ' acc H') ?_ m0 ⟨0, _, _, _, I3, st3, fun b hb => (hf2 b hb).1, w0⟩
      rintro n s3 ⟨i, σ3, acc, H3, J3, t3, f3, w3⟩
      obtain ⟨hacc, alt⟩ := turn i n σ3 acc H3 w3
      rcases alt with ⟨stop, q⟩ | ⟨go, hz, step⟩
      · refine thn (T.done (cxComp X scope N' ⟨cl, s2, upd H1 l (.lst []), fp⟩) rfl rfl rfl hc i [] s3 σ3 H3 (fun _ _ => False) J3 (fpY f3) t3 stop) fun r s4 ⟨hr, J4⟩ => ?_
        subst hr
        have IX : Inv X pins σ H3 s4 := I2.call' (ch := fp) J4.os J4.base J4.hok J4.bare fun b hb => ⟨(hf2 b hb).2.2.2.1, (hf2 b hb).2.1, (hf2 b hb).2.2.2.2.1, (hf2 b hb).2.2.2.2.2⟩
        obtain ⟨m', hn', _⟩ := J4.loc
        refine hRR l s2.heap.objs.size H3 s4 m' IX q hn' J4.free (Nat.ne_of_gt I2.lt) (fun x c e => ?_) (I2.nofs (Nat.le_refl _)) I2.sz fun p hp => Nat.ne_of_lt (Heap.lt_size (I2.pin p hp).1)
        obtain ⟨v, z⟩ := I2.cell x c e
        exact Nat.ne_of_lt z.lt
      · refine thn (T.item (cxComp X scope N' ⟨cl, s2, upd H1 l (.lst []), fp⟩) rfl rfl rfl hc i [] s3 σ3 H3 (fun _ _ => False) J3 (fpY f3) t3 go) fun r s4 ⟨u, hr, h4⟩ => ?_
        subst hr
        refine thn h4 fun _ s5 ⟨x, H5, J5, r5, y5, t5, f5⟩ => ?_
        have J5' := J5.pinned (fpY f5) (T.obj _ _ t5)
        refine thn (pg _ s5 σ3 H5 x u _ J5' r5 (step x H5 y5)) fun _ s6 ⟨σ6, H6, J6, q6⟩ => ?_
        refine thn (pif _ s6 σ6 H6 _ J6 q6) fun ok s7 ⟨H7, J7, q7⟩ => ?_
        have again : ∀ {σ8 : St} {H8 : Hp} {s8 : Shared} {acc8 : List V}, Inv (cxComp X scope N' ⟨cl, s2, upd H1 l (.lst []), fp⟩) ([] ++ pinsAt fp s5.heap) σ8 H8 s8 → (∃ m', m' < n ∧ W (i + 1) m' σ8 acc8 H8) →
            ∃ m, m < n ∧ ∃ i σ' acc H', Inv (cxComp X scope N' ⟨cl, s2, upd H1 l (.lst []), fp⟩) [] σ' H' s8 ∧ tn i s8.heap ∧ (∀ b ∈ fp, H' b = none) ∧ W i m σ' acc H' := fun {σ8 H8 s8 acc8} J8 hw => by
          obtain ⟨m', hm, w8⟩ := hw
          refine ⟨m', hm, i + 1, σ8, acc8, H8, J8.unpinned, T.keep _ _ _ t5 fun b hb o e => (J8.pin (b, o) (List.mem_append_right _ (List.mem_append_right _ (mem_pinsAt hb e)))).1, fun b hb => ?_, w8⟩
          obtain ⟨o, e, d⟩ := T.obj _ _ t5 b hb
          exact (J8.pin (b, o) (List.mem_append_right _ (List.mem_append_right _ (mem_pinsAt hb e)))).2.1
        cases ok with
        | false => exact again J7 q7
        | true =>
          refine thn (pel _ s7 σ6 H7 _ J7 q7) fun xv s8 ⟨v, H8, J8, r8, hl8, m', hm, w8⟩ => ?_
          have mtq := mt_append (X := cxComp X scope N' ⟨cl, s2, upd H1 l (.lst []), fp⟩)
          unfold MtM at mtq
          refine thn (mtq _ s8 σ6 H8 (.ref l) [v] (.ref l) [xv] (fun _ H9 => H9 = upd H8 l (.lst (acc ++ [v]))) J8 rfl (.cons r8 .nil) ⟨l, acc, v, rfl, rfl, hl8, hz, rfl⟩) fun _ s9 ⟨v9, H9, J9, _, e9⟩ => ?_
          subst e9
          exact again J9 ⟨m', hm, w8⟩
    exact codeAny_compStart_list loop (T.self X.A 0 _ _ _ st3 loop)
theorem pe_comp (hc : X.calm = true) (hk : scope.kind = .function) (hcell : ∀ y ∈ scope.names, y.2 ≠ .cell) (hnames : ∀ y ∈ scope.names, y.2 = .local → scope.names.lookup y.1 = some .local)
    (hfree : ∀ y ∈ scope.names, y.2 = .free → (X.env.kindOf y.1 = some .cell ∨ X.env.kindOf y.1 = some .free)) (cap : Cap X scope N' js) (hi : PI X tg iter wi)
    (blk : ∀ B, PG (cxComp X scope N' B) tg (g B) ∧ PIfs (cxComp X scope N' B) ifs (tc B) ∧ PE (cxComp X scope N' B) elt (te B))
    (hs : ∀ x, foldedSetIterable iter X.env x = pure x := by intro _; rfl) : PE X (.ListComp elt [⟨tg, iter, ifs, 0⟩] scope pos) (tComp js wi g tc te) := by
  unfold PE; unfold PI at hi
  exact by
    intro pins s σ H Q I h
    obtain ⟨cl, hcl, c1, c2⟩ := closure_of (scope := scope) (env := X.env) fun x hx hxf => I.ok.has x.1 (hfree x hx hxf)
    rw [eval_ListComp]
    refine wpAny_comprehension_free (use := none) rfl hs hcl hk hnames (thn (hi pins s σ H _ I h) fun v s1 h1 => thn h1 fun itv s2 h2 => ?_)
    obtain ⟨it, fp, tn, J, H2, e, I2, T, st2, f2, hloop⟩ := h2
    subst e
    refine comp_block (RR := fun acc C => compPost (model X.prog X.w) X.A X.xe none (EP X pins σ Q) acc C) hc hk hcell cap blk c1 c2 I2 T st2 f2 hloop ?_
    intro l C H' s' m' I' q ns fC hL hcl' hfs hs0 hpin
    exact ⟨m', ns, fun h'' sb => ⟨.ref l, H', I'.turned (t' := s'.toks) (fun b o hb e => (sb.2 b hb).trans e) fC hL (.inr hs0) hcl' hpin, rfl, q⟩⟩
theorem ps_setComp {i : Nat} {y : Str} {py spos : Pos} (hN : X.N.Nodup) (hy : X.N[i]? = some y) (hyk : X.env.kindOf y = some .local) (hc : X.calm = true) (hk : scope.kind = .function) (hcell : ∀ y ∈ scope.names, y.2 ≠ .cell)
    (hnames : ∀ y ∈ scope.names, y.2 = .local → scope.names.lookup y.1 = some .local)
    (hfree : ∀ y ∈ scope.names, y.2 = .free → (X.env.kindOf y.1 = some .cell ∨ X.env.kindOf y.1 = some .free)) (cap : Cap X scope N' js) (hi : PI X tg iter wi)
    (blk : ∀ B, PG (cxComp X scope N' B) tg (g B) ∧ PIfs (cxComp X scope N' B) ifs (tc B) ∧ PE (cxComp X scope N' B) elt (te B))
    (hsw : swapsWith (.ListComp elt [⟨tg, iter, ifs, 0⟩] scope pos) (some (.Name y py)) spos.line X.env = pure true := by rfl)
    (hs : ∀ x, foldedSetIterable iter X.env x = pure x := by intro _; rfl) : PS X (.Assign [.Name y py] (.ListComp elt [⟨tg, iter, ifs, 0⟩] scope pos) spos) (tAsg (tComp js wi g tc te) (gName i)) := by
  unfold PS; unfold PI at hi
  exact by
    intro pins s σ H D I h
    obtain ⟨cl, hcl, c1, c2⟩ := closure_of (scope := scope) (env := X.env) fun x hx hxf => I.ok.has x.1 (hfree x hx hxf)
    rw [exec_Assign_Name_used _ _ _ _ hsw]
    refine wpAny_bind (wpAny_standAt (wpAny_bind ?_))
    show wpAny _ X.A (do let _ ← comprehension (.ListComp elt [⟨tg, iter, ifs, 0⟩] scope pos) scope X.env _ (newList []) false (eval iter X.env) (some (assign (.Name y py) X.env))) _ _ s
    refine wpAny_bind (wpAny_mono (wpAny_comprehension_free (use := some (assign (.Name y py) X.env)) (Q := fun _ s' => SP X pins D .next s') rfl hs hcl hk hnames
      (thn (hi pins s σ H _ I h) fun v s1 h1 => thn h1 fun itv s2 h2 => ?_)) (fun _ s' hq => wpAny_pure (wpAny_pure hq)) fun _ _ e => e)
    obtain ⟨it, fp, tn, J, H2, e, I2, T, st2, f2, hloop⟩ := h2
    subst e
    refine comp_block (RR := fun acc C => compPost (model X.prog X.w) X.A X.xe (some (assign (.Name y py) X.env)) (fun _ s' => SP X pins D .next s') acc C) hc hk hcell cap blk c1 c2 I2 T st2 f2 hloop ?_
    intro l C H' s' m' I' q ns fC hL hcl' hfs hs0 hpin
    show wpAny _ X.A (assign (.Name y py) X.env (.ref l)) _ _ _
    refine wpAny_assign_Name (store_ok2 (v := .ref l) I' hN hy (.inl hyk) rfl (fun s'' I'' sb => ?_) (.inr hyk))
    obtain ⟨a, sb, ha⟩ := sb
    have hCa : C ≠ a := by
      rcases ha with z | z
      · rw [z]; exact hL
      · exact fun z' => hcl' y a z z'.symm
    refine ⟨m', ns.sameBut sb hCa, fun h'' sb2 => ?_⟩
    exact ⟨σ.set i (some (.ref l)), H', I''.turned (t' := s''.toks) (fun b o hb e => (sb2.2 b hb).trans e) fC hL (.inr hs0) hcl' hpin, q⟩
end
end L2
namespace L2
open PySem PySem.Spec PyProof.Rows
theorem ObjOk.there {P : Program} {w : World} {H : Hp} {h : Heap} {a : Addr} {o : HO} (x : ObjOk P w H h a o) : ∃ ob, h.get? a = some ob := by
  cases o with
  | lst xs => obtain ⟨_, _, _, _, e⟩ := x; exact ⟨_, e⟩
  | tup xs => obtain ⟨_, _, _, ob, e, _⟩ := x; exact ⟨_, e⟩
  | dK kvs => obtain ⟨_, _, _, _, o, _, _, e, _⟩ := x; exact ⟨_, e⟩
  | dT kvs => obtain ⟨_, _, _, _, o, _, _, e, _⟩ := x; exact ⟨_, e⟩
  | set S n => obtain ⟨o, _, _, _, e, _⟩ := x; exact ⟨_, e⟩
  | ins C dx fs => obtain ⟨_, _, _, e, _⟩ := x; exact ⟨_, e⟩
  | own y => obtain ⟨_, e⟩ := x; exact ⟨_, e⟩
  | xd fs => obtain ⟨_, ⟨_, _, _, e, _⟩, _⟩ := x; exact ⟨_, e⟩
  | rng lo hi => obtain ⟨_, _, _, e⟩ := x; exact ⟨_, e⟩
  | frz ob u => obtain ⟨e, _⟩ := x; exact ⟨_, e⟩
  | tbl ps => exact ⟨_, (show h.get? a = some _ from x)⟩
  | met f y => exact ⟨_, (show h.get? a = some _ from x)⟩
  | ext φ => obtain ⟨_, ⟨_, e⟩, _⟩ := x; exact ⟨_, e⟩
theorem HOk.track {P : Program} {w : World} {H : Hp} {h h' : Heap} (x : HOk P w H h) (k : ∀ b u o, H b = some u → h.get? b = some o → h'.get? b = some o) : HOk P w H h' := fun a o e =>
  (x a o e).stay (fun b u hb q => by
    rcases hb with z | z
    · subst z; exact k _ _ _ e q
    · exact k _ _ _ z q) (fun _ q => q) fun _ _ q => q
theorem dict_mapF (o : Obj) (f : Array Value → Array Value) : (Obj.mapFields f o).dict = o.dict := by
  obtain ⟨c, d, dt, sl⟩ := o
  cases dt <;> rfl
def ExAt (h : Heap) (e : Addr) (C : Value) (dd : Option Addr) (t1 : Value) : Prop := ∃ oe vs, h.get? e = some oe ∧ oe.cls = C ∧ oe.dict = dd ∧ oe.data = .fields vs ∧ vs[1]? = some t1
def TrAt (h : Heap) (T : Addr) (fl : Value) : Prop := ∃ oT ts, h.get? T = some oT ∧ oT.data = .fields ts ∧ ts[3]? = some fl
structure Moved (fs : List Addr) (e : Addr) (T0 : Option Addr) (h h' : Heap) : Prop where
  keep : ∀ b o, b ≠ e → some b ≠ T0 → b ∉ fs → h.get? b = some o → h'.get? b = some o
  slot : ∀ b o, b ∈ fs → h.get? b = some o → ∃ sl, h'.get? b = some { o with slots := sl }
  there : ∀ b o, h.get? b = some o → ∃ o', h'.get? b = some o'
section
variable {M : Model} {A : Around} {E : Value → Shared → Prop} {s : Shared}
theorem up_self {h : Heap} {a : Addr} {o : Obj} {vs : Array Value} {f : Array Value → Array Value} (e : h.get? a = some o) (hd : o.data = .fields vs) : (h.update a (Obj.mapFields f)).get? a = some (Obj.mapFields f o) :=
  Heap.get?_update_self _ e (Obj.isFreed_of_fields (Obj.data_mapFields hd _))
theorem note_new {base : Heap} {env : Env} {outer : List Env} {L e : Addr} {C : Value} {dd : Option Addr} {t1 head : Value} {hadNext : Bool} {Q : Unit → Shared → Prop}
    (hfr : A.frames = some (env :: outer)) (hl : s.heap.FunFrames base (env :: outer)) (hf : env.frame = some L) (X : ExAt s.heap e C dd t1)
    (h : ∀ h' T, ExAt h' e C dd (.ref T) → TrAt h' T (rawInt L) → s.heap.objs.size ≤ T → T ≠ e → Moved (frs (env :: outer)) e none s.heap h' → Q () { s with heap := h' }) :
    wpAny M A (do let a ← frameOf env; let pl ← entryPlaceOf L hadNext; let b ← EntryCells.newEntry head a .none (rawInt L) .none pl; setField (.ref e) 1 b) Q E s := by
  obtain ⟨oe, vs, he, hC, hdd, hd, h1⟩ := X
  have ne : e ∉ frs (env :: outer) := fun hm => by
    obtain ⟨_, o, ho, hnf⟩ := hl.mem hm
    rw [he] at ho; cases ho
    exact hnf vs hd
  refine wpAny_bind (wpAny_frameOf_fun hfr hl hf fun g so => ?_)
  refine wpAny_bind (wpAny_entryPlaceOf fun pl hpl => ?_)
  unfold EntryCells.newEntry newFields
  refine wpAny_bind (wpAny_newObj_type ?_ (hpl.sizeOk5 _ _ _ _ _))
  have hg : g.get? e = some oe := (so.2.1 e ne).trans he
  have hsz := (Array.getElem?_eq_some_iff.mp h1).1
  refine wpAny_setField (Heap.get?_push_of_some _ hg) hd hsz ?_
  have nT : g.objs.size ≠ e := Nat.ne_of_gt (Heap.lt_size hg)
  refine h _ g.objs.size ⟨_, _, up_self (Heap.get?_push_of_some _ hg) hd, (Obj.cls_mapFields _ _).trans hC, (dict_mapF _ _).trans hdd, Obj.data_mapFields hd _, by simp [hsz]⟩
    ⟨_, _, (Heap.get?_update_other _ _ (Ne.symm nT)).trans (Heap.get?_push_size g rfl), rfl, ?_⟩ (Nat.le_of_eq so.1.symm) nT ⟨fun b o h1 _ h3 q => ?_, fun b o hb q => ?_, fun b o q => ?_⟩
  · rcases hpl with rfl | ⟨_, _, _, _, _, _, _, rfl⟩ <;> simp
  · rw [Heap.get?_update_other _ _ (Ne.symm h1)]
    exact Heap.get?_push_of_some _ ((so.2.1 b h3).trans q)
  · obtain ⟨sl, z⟩ := so.2.2 b o q
    refine ⟨sl, ?_⟩
    rw [Heap.get?_update_other _ _ (fun k => ne (by rw [k]; exact hb))]
    exact Heap.get?_push_of_some _ z
  · by_cases k : b = e
    · rw [k]; exact ⟨_, up_self (Heap.get?_push_of_some _ hg) hd⟩
    · obtain ⟨sl, z⟩ := so.2.2 b o q
      exact ⟨_, by rw [Heap.get?_update_other _ _ (Ne.symm k)]; exact Heap.get?_push_of_some _ z⟩
theorem note_fly {base : Heap} {env : Env} {outer : List Env} {L e : Addr} {C : Value} {dd : Option Addr} {T0 : Option Addr} {Q : Unit → Shared → Prop}
    (hfr : A.frames = some (env :: outer)) (hl : s.heap.FunFrames base (env :: outer)) (hf : env.frame = some L) (X : ExAt s.heap e C dd (T0.elim .none Value.ref)) (hT : ∀ T, T0 = some T → TrAt s.heap T .none ∧ T ≠ e)
    (h : ∀ h' T, ExAt h' e C dd (.ref T) → TrAt h' T (rawInt L) → s.heap.objs.size ≤ T → T ≠ e → Moved (frs (env :: outer)) e T0 s.heap h' → Q () { s with heap := h' }) :
    wpAny M A (noteFrame (.ref e) env) Q E s := by
  obtain ⟨oe, vs, he, hC, hdd, hd, h1⟩ := id X
  unfold noteFrame
  simp only [hf]
  refine wpAny_bind (wpAny_field he hd h1 ?_)
  cases T0 with
  | none =>
    rw [if_neg (by decide)]
    exact note_new hfr hl hf X h
  | some T =>
    obtain ⟨⟨oT, ts, hT, hdT, h3⟩, hne⟩ := hT T rfl
    show wpAny M A (if (Value.ref T != Value.none) = true then _ else _) Q E s
    rw [if_pos (by simp)]
    refine wpAny_bind (wpAny_field hT hdT h3 ?_)
    rw [if_neg (by simp [rawInt])]
    refine wpAny_bind (wpAny_setField hT hdT (Array.getElem?_eq_some_iff.mp h3).1 ?_)
    have oth : ∀ b, b ≠ T → (s.heap.update T (Obj.mapFields (·.setIfInBounds 3 Value.none))).get? b = s.heap.get? b := fun b hb => Heap.get?_update_other _ _ (Ne.symm hb)
    have nfr : ∀ b o, b ∈ frs (env :: outer) → s.heap.get? b = some o → b ≠ T := fun b o hb q z => by
      obtain ⟨_, o', ho', hnf⟩ := hl.mem hb
      rw [z, hT] at ho'; cases ho'
      exact hnf _ hdT
    have hl2 : (s.heap.update T (Obj.mapFields (·.setIfInBounds 3 Value.none))).FunFrames base (env :: outer) := hl.of_keeps fun b o hb hnf => ⟨o, (oth b fun z => by rw [z, hT] at hb; cases hb; exact hnf _ hdT).trans hb, rfl⟩
    refine note_new (s := { s with heap := s.heap.update T (Obj.mapFields (·.setIfInBounds 3 Value.none)) }) hfr hl2 hf ⟨oe, vs, (oth e (Ne.symm hne)).trans he, hC, hdd, hd, h1⟩ fun h' T2 x1 x2 x3 x4 mv => ?_
    have goneT : s.heap.objs.size ≤ T2 := Nat.le_trans (Nat.le_of_eq (Heap.size_after_update ..).symm) x3
    refine h h' T2 x1 x2 goneT x4 ⟨fun b o k1 k2 k3 q => mv.keep b o k1 (by simp) k3 ((oth b fun z => k2 (by rw [z])).trans q), fun b o hb q => mv.slot b o hb ((oth b (nfr b o hb q)).trans q), fun b o q => ?_⟩
    by_cases k : b = T
    · exact mv.there b _ (by rw [k]; exact up_self hT hdT)
    · exact mv.there b o ((oth b k).trans q)
theorem rest_fly {e T : Addr} {C : Value} {dd : Option Addr} {fl : Value} {Q : Unit → Shared → Prop} (X : ExAt s.heap e C dd (.ref T)) (hT : TrAt s.heap T fl) (hne : T ≠ e)
    (h : ∀ h', ExAt h' e C dd (.ref T) → TrAt h' T .none → (∀ b o, b ≠ T → s.heap.get? b = some o → h'.get? b = some o) → (∀ b o, s.heap.get? b = some o → ∃ o', h'.get? b = some o') → Q () { s with heap := h' }) :
    wpAny M A (setFlight (.ref e) none) Q E s := by
  obtain ⟨oe, vs, he, hC, hdd, hd, h1⟩ := X
  obtain ⟨oT, ts, hT, hdT, h3⟩ := hT
  have hsz := (Array.getElem?_eq_some_iff.mp h3).1
  unfold setFlight
  refine wpAny_bind (wpAny_field he hd h1 ?_)
  rw [if_pos (by simp)]
  have oth : ∀ b, b ≠ T → (s.heap.update T (Obj.mapFields (·.setIfInBounds 3 ((none : Option Addr).elim Value.none fun f => rawInt f)))).get? b = s.heap.get? b := fun b hb => Heap.get?_update_other _ _ (Ne.symm hb)
  refine wpAny_setField hT hdT hsz (h _ ⟨oe, vs, (oth e (Ne.symm hne)).trans he, hC, hdd, hd, h1⟩ ⟨_, _, up_self hT hdT, Obj.data_mapFields hdT _, by simp [hsz]⟩ (fun b o k q => (oth b k).trans q) fun b o q => ?_)
  by_cases k : b = T
  · rw [k]; exact ⟨_, up_self hT hdT⟩
  · exact ⟨o, (oth b k).trans q⟩
end
def CXx (P : Program) (w : World) : CXT := fun outer H s E u s' => ∃ (e : Addr) (C : Value) (dd : Option Addr) (T : Addr) (H' : Hp), u = .ref e ∧ s'.os = s.os ∧ AllBare s'.gens ∧ Un (frs outer) [] H H' s.heap s'.heap ∧ HOk P w H' s'.heap ∧
  ExAt s'.heap e C dd (.ref T) ∧ TrAt s'.heap T .none ∧ T ≠ e ∧ H' e = none ∧ H' T = none ∧ s.heap.get? e = none ∧ s.heap.get? T = none ∧ E C dd H'
def PassesS (CX : CXT) (X : Cx) (Ez : St → XK) : Prop := ∀ (pins : List (Addr × Obj)) (σ : St) (H : Hp) (s : Shared) (e : Value) (s' : Shared), Inv X pins σ H s → CX X.stack H s (Ez σ) e s' → X.xe e s'
theorem un_moved {l l' : List Env} {H H' : Hp} {h g h' : Heap} {e : Addr} {T0 : Option Addr} (u : Un (frs l') [] H H' h g) (mv : Moved (frs l) e T0 g h') (hsub : ∀ b ∈ frs l', b ∈ frs l) (hnew : ∀ b o, h.get? b = some o → b ∈ frs l → b ∈ frs l')
    (he : h.get? e = none) (hT : ∀ T, T0 = some T → h.get? T = none) : Un (frs l') [] H H' h h' := by
  have k1 : ∀ b o, h.get? b = some o → b ≠ e := fun b o q z => by rw [z, he] at q; cases q
  have k2 : ∀ b o, h.get? b = some o → some b ≠ T0 := fun b o q z => by rw [hT b z.symm] at q; cases q
  refine ⟨fun b o q n hb hx => ?_, fun b o q n hb hx => ?_, u.free, fun b o q hx => ?_, u.tups, u.frzs, u.tbls⟩
  · exact mv.keep b o (k1 b o q) (k2 b o q) (fun z => hb (hnew b o q z)) (u.keep b o q n hb hx)
  · obtain ⟨sl, q1⟩ := u.slot b o q n hb hx
    obtain ⟨sl2, q2⟩ := mv.slot b _ (hsub b hb) q1
    exact ⟨sl2, q2⟩
  · obtain ⟨o1, q1⟩ := u.there b o q hx
    exact mv.there b o1 q1
section
variable {P : Program} {w : World} {K : PySem.W.Frag} {mg : Str → Option Value} {base : Heap} {N : List Str} {qual : Str} {scope : Scope} {f : Addr} {cd : Value} {A : Around} {outer : List Env} {s₀ : Shared} {H₀ : Hp} {E : XK}
theorem frs_cons {env : Env} {outer : List Env} {L : Addr} (h : env.frame = some L) : frs (env :: outer) = L :: frs outer := by
  unfold frs
  rw [List.filterMap_cons, h]
theorem leave_fly {M : Model} {A : Around} {E : Value → Shared → Prop} {s : Shared} {base : Heap} {env : Env} {outer : List Env} {L e : Addr} {C : Value} {dd : Option Addr} {T0 : Option Addr} {Q : Unit → Shared → Prop}
    (hfr : A.frames = some (env :: outer)) (hl : s.heap.FunFrames base (env :: outer)) (hf : env.frame = some L) (X : ExAt s.heap e C dd (T0.elim .none Value.ref)) (hT : ∀ T, T0 = some T → TrAt s.heap T .none ∧ T ≠ e)
    (h : ∀ h' T, ExAt h' e C dd (.ref T) → TrAt h' T .none → s.heap.objs.size ≤ T → T ≠ e → Moved (frs (env :: outer)) e T0 s.heap h' → Q () { s with heap := h' }) :
    wpAny M A (noteFrame (.ref e) env) (fun _ s2 => wpAny M A (setFlight (.ref e) none) Q E s2) E s := by
  refine note_fly hfr hl hf X hT fun h1 T x1 x2 x3 x4 mv => ?_
  refine rest_fly (s := { s with heap := h1 }) x1 x2 x4 fun h2 y1 y2 k1 k2 => h h2 T y1 y2 x3 x4 ?_
  have nT : ∀ b o, s.heap.get? b = some o → b ≠ T := fun b o q z => absurd (Heap.lt_size q) (by rw [z]; exact Nat.not_lt.mpr x3)
  refine ⟨fun b o z1 z2 z3 q => k1 b o (nT b o q) (mv.keep b o z1 z2 z3 q), fun b o hb q => ?_, fun b o q => ?_⟩
  · obtain ⟨sl, q1⟩ := mv.slot b o hb q
    exact ⟨sl, k1 b _ (nT b o q) q1⟩
  · obtain ⟨o1, q1⟩ := mv.there b o q
    exact k2 b o1 q1
theorem funFrames_un {base h h' : Heap} : ∀ {l : List Env}, h.FunFrames base l → (∀ b o, b ∈ frs l → h.get? b = some o → ∃ sl, h'.get? b = some { o with slots := sl }) → h'.FunFrames base l
  | [], _, _ => trivial
  | env :: r, hl, k => by
    obtain ⟨hk, ⟨L, o, hf, hn, ho, hd⟩, hr⟩ := hl
    have e := frs_cons (outer := r) hf
    obtain ⟨sl, z⟩ := k L o (by rw [e]; exact List.mem_cons_self) ho
    exact ⟨hk, ⟨L, _, hf, hn, z, hd⟩, funFrames_un hr fun b o' hb q => k b o' (by rw [e]; exact List.mem_cons_of_mem _ hb) q⟩
theorem un_enter {fs : List Addr} {L : Addr} {H H1 H2 : Hp} {h h1 h2 : Heap} (a : Un fs [] H H1 h h1) (b : Un (L :: fs) [] H1 H2 h1 h2) (hL : h.get? L = none) : Un fs [] H H2 h h2 where
  keep := fun c o q n hc hx => b.keep c o (a.keep c o q n hc hx) (a.free c o q n hx) (fun z => (List.mem_cons.mp z).elim (fun y => by rw [y, hL] at q; cases q) hc) (by simp)
  slot := fun c o q n hc hx => by
    obtain ⟨sl, q1⟩ := a.slot c o q n hc hx
    obtain ⟨sl2, q2⟩ := b.slot c _ q1 (a.free c o q n hx) (List.mem_cons_of_mem _ hc) (by simp)
    exact ⟨sl2, q2⟩
  free := fun c o q n hx => by
    obtain ⟨o1, q1⟩ := a.there c o q hx
    exact b.free c o1 q1 (a.free c o q n hx) (by simp)
  there := fun c o q hx => by
    obtain ⟨o1, q1⟩ := a.there c o q hx
    exact b.there c o1 q1 (by simp)
  tups := fun c xs q => b.tups c xs (a.tups c xs q)
  frzs := fun c o xs q => b.frzs c o xs (a.frzs c o xs q)
  tbls := fun c ps q => by
    obtain ⟨m1, e1⟩ := a.tbls c ps q
    obtain ⟨m2, e2⟩ := b.tbls c _ e1
    exact ⟨m1 ++ m2, by rw [e2, Array.append_assoc]⟩
theorem pass_def : PassesS (CXx P w) (cxOf (CXx P w) P w K mg base N qual scope f cd A outer s₀ H₀ E) (fun _ => E) := by
  intro pins σ H s u s' I h
  obtain ⟨e, C, dd, T, H', rfl, os, bare, un, hok, x1, x2, x3, f1, f2, n1, n2, hE⟩ := h
  have fe : frs (envOfC qual scope s₀.heap.objs.size f cd :: outer) = s₀.heap.objs.size :: frs outer := frs_cons rfl
  have un' : Un (s₀.heap.objs.size :: frs outer) [] H H' s.heap s'.heap := by rw [← fe]; exact un
  have ib : Un (frs outer) [] H₀ H s₀.heap s.heap := I.base
  have nL : s₀.heap.get? s₀.heap.objs.size = none := Heap.get?_none_of_le (Nat.le_refl _)
  have um := un_enter ib un' nL
  have hfun : s'.heap.FunFrames base (envOfC qual scope s₀.heap.objs.size f cd :: outer) := funFrames_un I.stack fun b o hb q => un.slot b o q (I.stkFree b hb) hb (by simp)
  have ntr : ∀ b u, H' b = some u → b ∉ frs (envOfC qual scope s₀.heap.objs.size f cd :: outer) := fun b u q hb => by
    obtain ⟨_, o, ho, _⟩ := I.stack.mem hb
    have := un.free b o ho (I.stkFree b hb) (by simp)
    rw [q] at this; cases this
  show wpAny _ _ (leaving _ (.ref e)) _ _ s'
  unfold leaving
  refine wpAny_bind (leave_fly (T0 := some T) (L := s₀.heap.objs.size) I.ok.frames hfun rfl x1 (fun T' z => by cases z; exact ⟨x2, x3⟩) fun h' T2 y1 y2 y3 y4 mv => ?_)
  have none_of : ∀ b, s.heap.get? b = none → s₀.heap.get? b = none := fun b hb => by
    cases q : s₀.heap.get? b with
    | none => rfl
    | some o => obtain ⟨o1, q1⟩ := ib.there b o q (by simp); rw [hb] at q1; cases q1
  refine ⟨e, C, dd, T2, H', rfl, os.trans I.os, bare, un_moved (l := envOfC qual scope s₀.heap.objs.size f cd :: outer) um mv (fun b hb => by rw [fe]; exact List.mem_cons_of_mem _ hb) (fun b o q hb => ?_) (none_of e n1) (fun T' z => by cases z; exact none_of T n2),
    hok.track fun b u o q1 q2 => mv.keep b o (fun z => by rw [z, f1] at q1; cases q1) (fun z => by cases z; rw [f2] at q1; cases q1) (ntr b u q1) q2, y1, y2, y4, f1, ?_, none_of e n1, ?_, hE⟩
  · rw [fe] at hb
    rcases List.mem_cons.mp hb with z | z
    · rw [z, nL] at q; cases q
    · exact z
  · cases q : H' T2 with
    | none => rfl
    | some u => obtain ⟨ob, hob⟩ := (hok T2 u q).there; exact absurd (Heap.lt_size hob) (Nat.not_lt.mpr y3)
  · cases q : s₀.heap.get? T2 with
    | none => rfl
    | some o => obtain ⟨o1, q1⟩ := um.there T2 o q (by simp); exact absurd (Heap.lt_size q1) (Nat.not_lt.mpr y3)
def Rz (X : Cx) (E : XK) : Prop := ∀ (pins : List (Addr × Obj)) (σ : St) (H : Hp) (s : Shared) (h' : Heap) (e : Addr) (C : Value) (vs : List Value), Inv X pins σ H s → Heap.MadeExcOf s.heap h' e C vs → E C none H → X.xe (.ref e) { s with heap := h' }
theorem rz_def : Rz (cxOf (CXx P w) P w K mg base N qual scope f cd A outer s₀ H₀ E) E := by
  intro pins σ H s h1 e C vs I mx hE
  obtain ⟨t, he, htn, ht⟩ := mx.there
  have fe : frs (envOfC qual scope s₀.heap.objs.size f cd :: outer) = s₀.heap.objs.size :: frs outer := frs_cons rfl
  have ib : Un (frs outer) [] H₀ H s₀.heap s.heap := I.base
  have nL : s₀.heap.get? s₀.heap.objs.size = none := Heap.get?_none_of_le (Nat.le_refl _)
  have um : Un (frs outer) [] H₀ H s₀.heap h1 := ib.trans (Un.kept mx.keeps)
  have hfun : h1.FunFrames base (envOfC qual scope s₀.heap.objs.size f cd :: outer) := funFrames_un I.stack fun b o hb q => ⟨o.slots, mx.keeps b o q⟩
  have ntr : ∀ b u, H b = some u → b ∉ frs (envOfC qual scope s₀.heap.objs.size f cd :: outer) := fun b u q hb => by
    have := I.stkFree b hb
    rw [q] at this; cases this
  have hok1 : HOk P w H h1 := I.hok.kept mx.keeps
  have fE : H e = none := by
    cases q : H e with
    | none => rfl
    | some u => obtain ⟨ob, hob⟩ := (I.hok e u q).there; rw [mx.new] at hob; cases hob
  have none_of : ∀ b, s.heap.get? b = none → s₀.heap.get? b = none := fun b hb => by
    cases q : s₀.heap.get? b with
    | none => rfl
    | some o => obtain ⟨o1, q1⟩ := ib.there b o q (by simp); rw [hb] at q1; cases q1
  show wpAny _ _ (leaving _ (.ref e)) _ _ { s with heap := h1 }
  unfold leaving
  refine wpAny_bind (leave_fly (s := { s with heap := h1 }) (T0 := none) (L := s₀.heap.objs.size) (C := C) (dd := none) I.ok.frames hfun rfl ⟨_, _, he, rfl, rfl, rfl, rfl⟩ (fun T' z => by cases z) fun h' T2 y1 y2 y3 y4 mv => ?_)
  refine ⟨e, C, none, T2, H, rfl, I.os, I.bare, un_moved (l := envOfC qual scope s₀.heap.objs.size f cd :: outer) um mv (fun b hb => by rw [fe]; exact List.mem_cons_of_mem _ hb) (fun b o q hb => ?_) (none_of e mx.new) (fun T' z => by cases z),
    hok1.track fun b u o q1 q2 => mv.keep b o (fun z => by rw [z, fE] at q1; cases q1) (by simp) (ntr b u q1) q2, y1, y2, y4, fE, ?_, none_of e mx.new, ?_, hE⟩
  · rw [fe] at hb
    rcases List.mem_cons.mp hb with z | z
    · rw [z, nL] at q; cases q
    · exact z
  · cases q : H T2 with
    | none => rfl
    | some u => obtain ⟨ob, hob⟩ := (hok1 T2 u q).there; exact absurd (Heap.lt_size hob) (Nat.not_lt.mpr y3)
  · cases q : s₀.heap.get? T2 with
    | none => rfl
    | some o => obtain ⟨o1, q1⟩ := um.there T2 o q (by simp); exact absurd (Heap.lt_size q1) (Nat.not_lt.mpr y3)
end
def tCallS (sp : Sp) (dvs : List V) (Ez : St → XK) (t : TA) : TE := fun σ H Q => t σ H fun vs H1 => sp (vs ++ dvs) H1 Q (Ez σ)
section
variable {X : Cx} {CX : CXT} {k : Nat} {f C : Addr} {fd : FuncData} {ps : List Str} {sp : Sp} {dvs : List V} {ds : List Value} {Ez : St → XK} {x m : Str} {p pos apos : Pos} {e o : Expr} {es : List Expr} {ta : TE} {t : TA}
theorem run_fnS {pins : List (Addr × Obj)} {σ : St} {H : Hp} {s : Shared} {Q : VK} {us : List Value} {vs : List V} (F : FnOk X.prog X.w X.K X.mg X.base CX k f fd ps sp) (hr : Room k X.A) (hb : Binds X.K fd ps ds) (hd : Vals dvs ds) (hx : PassesS CX X Ez)
    (I : Inv X pins σ H s) (r : Vals vs us) (h : sp (vs ++ dvs) H Q (Ez σ)) : wpAny (model X.prog X.w) X.A (call (.ref f) us) (EP X pins σ Q) X.xe s := by
  have r2 : Vals (vs ++ dvs) (us ++ ds) := r.append hd
  have hl : (us ++ ds).length = ps.length := by rw [← r2.length]; exact F.len _ _ _ _ h
  refine wpAny_call (codeAny_mono (F.run X.A X.stack s H ⟨us, []⟩ (us ++ ds) (vs ++ dvs) Q (Ez σ) hr I.env0 (hb s us I.kIn hl) r2 h) fun r s' hq => ?_)
  cases r with
  | error e => exact hx pins σ H s e s' I hq
  | ok fl =>
    cases fl with
    | ret u => exact I.after hq
    | next => exact False.elim hq
    | brk => exact False.elim hq
    | cont => exact False.elim hq
theorem pe_callS (F : FnOk X.prog X.w X.K X.mg X.base CX k f fd ps sp) (hr : Room k X.A) (hg : Gl X x) (hm : X.mg x = some (.ref f)) (hk : PySem.W.keepIn X.K (.ref f) = true) (hb : Binds X.K fd ps ds) (hd : Vals dvs ds) (hx : PassesS CX X Ez)
    (ha : PA X (e :: es) t) (hdb : (x == ("__debug__" : Str)) = false := by decide) (he : starEach (e :: es) X.env = (false, eval e X.env) :: starEach es X.env := by rfl) (hpl : (backTo pos (starEach es X.env)).any (·.1) = false := by rfl) :
    PE X (.Call (.Name x p) (e :: es) [] pos) (tCallS sp dvs Ez t) := by
  unfold PE at *; unfold PA at *
  exact by
    intro pins s σ H Q I h
    refine wpAny_Call_Name_kw (ld_glob I hg hm ?_ hdb)
    refine PySem.W.callWith_K (h₀ := X.base) I.ok.mod.kin hk (thn (ha pos pins s σ H _ I h) fun us s1 ⟨vs, H1, I1, r, q⟩ => ⟨I1.kIn, ?_⟩) he hpl
    exact run_fnS F hr hb hd hx I1 r q
end
end L2
namespace L2
open PySem PySem.Spec PyProof.Rows
def vmro : List Value := [.type "ValueError", .type "Exception", .type "BaseException", .type "object"]
def NsK (K : PySem.W.Frag) (N : Addr) (es : Array DictEntry) : Prop := ∃ c d ep sl, K.lookup N = some ⟨c, d, .dict es ep, sl⟩ ∧ StrKeys es
theorem NsK.ns {K : PySem.W.Frag} {N : Addr} {es : Array DictEntry} {h : Heap} (x : NsK K N es) (X : K.In h) : h.Ns N (nsFind es) := by
  obtain ⟨c, d, ep, sl, lk, sk⟩ := x
  exact ⟨_, es, ep, X _ _ lk, rfl, sk, fun _ => rfl⟩
inductive TailK (K : PySem.W.Frag) : List Value → Prop
  | base : TailK K vmro
  | own {A : Addr} {c0 : Value} {dd : Option Addr} {cd : ClassData} {sl : Array (Option Value)} {tl : List Value} {es : Array DictEntry} :
      K.lookup A = some { cls := c0, dict := dd, data := .cls cd, slots := sl } → NsK K cd.ns es → nsFind es "__init__" = none → TailK K tl → TailK K (.ref A :: tl)
theorem TailK.own' {K : PySem.W.Frag} {h : Heap} {bm : List Value} (t : TailK K bm) (X : K.In h) : OwnTail h vmro bm := by
  induction t with
  | base => exact .base
  | own l n i _ ih => exact .own (X _ _ l) (n.ns X) i ih
structure XCls (K : PySem.W.Frag) (C : Addr) : Prop where
  ex : ∃ nm q N bs bm hdct sn sub ab col dd k0 k1 k2 k3 k5 es, K.lookup C = some (excClassObj nm q C N bs bm hdct sn sub ab col dd k0 k1 k2 k3 k5 "ValueError.__new__") ∧ NsK K N es ∧ nsFind es "__init__" = none ∧ TailK K bm
def tRaise (t : TA) (C : Value) (E : XK) : TS := fun _ σ H => t σ H fun vs H1 => vs.length ≤ sizeLine ∧ E C none H1
theorem ps_raise {X : Cx} {C : Addr} {x : Str} {np cpos pos : Pos} {e₀ : Expr} {rest : List Expr} {t : TA} {E : XK} (xc : XCls X.K C) (hc : X.calm = true) (hg : Gl X x) (hm : X.mg x = some (.ref C)) (hz : Rz X E) (ha : PA X (e₀ :: rest) t)
    (hdb : (x == ("__debug__" : Str)) = false := by decide) (he : starEach (e₀ :: rest) X.env = (false, eval e₀ X.env) :: starEach rest X.env := by rfl) (hpl : (backTo cpos (starEach rest X.env)).any (·.1) = false := by rfl) :
    PS X (.Raise (some (.Call (.Name x np) (e₀ :: rest) [] cpos)) none pos) (tRaise t (.ref C) E) := by
  unfold PA at *; unfold PS at *
  exact by
    intro pins s σ H D I h
    obtain ⟨nm, q, N, bs, bm, hdct, sn, sub, ab, col, dd, k0, k1, k2, k3, k5, es, lk, nk, ni, tl⟩ := xc.ex
    refine wpAny_Raise_call_subT (C := C) (nm := nm) (q := q) (N := N) (bs := bs) (bm := bm) (hdct := hdct) (sn := sn) (sub := sub) (ab := ab) (col := col) (dd := dd) (k0 := k0) (k1 := k1) (k2 := k2) (k3 := k3) (k5 := k5)
      F.excBase_ValueError (mN := nsFind es) ((tl.own' I.kIn).hasType F.excBase_ValueError.hasBase) (I.ok.hd hc) ?_ ni (ld_glob I hg hm ⟨rfl, ?_⟩ hdb)
    · rw [he]
      show (false || (backTo cpos (starEach rest X.env)).any (·.1)) = false
      rw [hpl]; rfl
    · have hA := ha cpos pins s σ H _ I h
      rw [he] at hA ⊢
      refine Calls.evalArgs_plain (wpAny_mono hA (fun us s2 ⟨vs, H1, I1, r, z, hE⟩ => ?_) fun _ _ y => y)
      exact ⟨rfl, by rw [← r.length]; exact z, I1.kIn _ _ lk, nk.ns I1.kIn, tl.own' I1.kIn, fun h' e mx => hz pins σ H1 s2 h' e (.ref C) us I1 mx hE⟩
theorem Fun.okx {P : Program} {w : World} {K : PySem.W.Frag} {mg : Str → Option Value} {base : Heap} {x qual : Str} {st : Stmt} {f : Addr} {fd : FuncData} {N ps : List Str} {k : Nat} {sp : Sp} (F : Fun K x qual st f fd) (S : FnScope N ps (defScope st)) (len : ∀ vs H Q E, sp vs H Q E → vs.length = ps.length)
    (hbody : ∀ (cdv : Value) (A : Around) (outer : List Env) (s : Shared) (H : Hp) (vs : List V) (Q : VK) (E : XK), Room k (A.deeper (envOfC qual (defScope st) s.heap.objs.size f cdv)) → sp vs H Q E →
      ∃ t, PSs (cxOf (CXx P w) P w K mg base N qual (defScope st) f cdv A outer s H E) (defBody st) t ∧ t { nx := fun _ H' => Q .non H', rt := Q } (start N vs) H) : FnOk P w K mg base (CXx P w) (k + 1) f fd ps sp := by
  obtain ⟨oc, od, kV, doc, pm, an, cdv, ct, osl, rfl, lk, hcd⟩ := F.ex
  exact fn_of lk hcd S len fun A outer s H vs Q E hr hsp => hbody cdv A outer s H vs Q E hr hsp
section
variable {X : Cx} {pins pins' : List (Addr × Obj)} {σ : St} {H : Hp} {s : Shared} {W : Value → Shared → Prop}
def Cx.tr (X : Cx) (pins : List (Addr × Obj)) (W : Value → Shared → Prop) : Cx := { X with xe := W, pn := X.pn ++ pins }
theorem Cx.Ok.tr (ok : X.Ok) : (X.tr pins W).Ok := ⟨ok.mod, ok.kind, ok.glob, ok.blt, ok.above, ok.inj, ok.has, ok.cab, ok.hd, ok.frames, ok.stk, ok.exf, ok.bs, ok.bsz, ok.noex, ok.exfs, ok.funs, ok.frf⟩
theorem Cx.Ok.untr (ok : (X.tr pins W).Ok) : X.Ok := ⟨ok.mod, ok.kind, ok.glob, ok.blt, ok.above, ok.inj, ok.has, ok.cab, ok.hd, ok.frames, ok.stk, ok.exf, ok.bs, ok.bsz, ok.noex, ok.exfs, ok.funs, ok.frf⟩
theorem Inv.tr (I : Inv X pins σ H s) : Inv (X.tr pins W) [] σ H s := ⟨I.ok.tr, I.os, I.bare, I.base, I.loc, I.cell, I.free, I.freeC, fun p hp => I.pin p (by simpa [Cx.tr] using hp), I.hok, I.len⟩
theorem Inv.untr (I : Inv (X.tr pins W) pins' σ H s) : Inv X pins σ H s := ⟨I.ok.untr, I.os, I.bare, I.base, I.loc, I.cell, I.free, I.freeC, fun p hp => I.pin p (List.mem_append_left _ hp), I.hok, I.len⟩
theorem SP.untr {D : Ends} {f : Flow} (h : SP (X.tr pins W) pins' D f s) : SP X pins D f s := by
  cases f with
  | next => obtain ⟨a, b, I, q⟩ := h; exact ⟨a, b, I.untr, q⟩
  | brk => obtain ⟨a, b, I, q⟩ := h; exact ⟨a, b, I.untr, q⟩
  | cont => obtain ⟨a, b, I, q⟩ := h; exact ⟨a, b, I.untr, q⟩
  | ret u => obtain ⟨v, a, b, I, r, q⟩ := h; exact ⟨v, a, b, I.untr, r, q⟩
def Cx.sui (X : Cx) (e : Addr) : Cx := { X with A := X.A.mark (some (.ref e)), calm := false, xe := fun _ _ => False }
theorem Cx.Ok.sui (ok : X.Ok) (e : Addr) : (X.sui e).Ok := ⟨ok.mod, ok.kind, ok.glob, ok.blt, ok.above, ok.inj, ok.has, ok.cab, fun z => Bool.noConfusion z, ok.frames, ok.stk, ok.exf, ok.bs, ok.bsz, ok.noex, ok.exfs, ok.funs, ok.frf⟩
theorem Inv.sui (I : Inv X pins σ H s) (e : Addr) : Inv (X.sui e) pins σ H s := ⟨I.ok.sui e, I.os, I.bare, I.base, I.loc, I.cell, I.free, I.freeC, I.pin, I.hok, I.len⟩
theorem Inv.unsui {e : Addr} (ok : X.Ok) (I : Inv (X.sui e) pins σ H s) : Inv X pins σ H s := ⟨ok, I.os, I.bare, I.base, I.loc, I.cell, I.free, I.freeC, I.pin, I.hok, I.len⟩
theorem Inv.adopt {e : Addr} {o : HO} (I : Inv X pins σ H s) (hn : H e = none) (h0 : X.s₀.heap.get? e = none) (hL : e ≠ X.env.locals) (hc : ∀ x c, X.env.cells.lookup x = some c → c ≠ e) (hp : ∀ p ∈ X.pn ++ pins, p.1 ≠ e)
    (new : ObjOk X.prog X.w (upd H e o) s.heap e o) : Inv X pins σ (upd H e o) s := by
  have ne : ∀ b u, H b = some u → b ≠ e := fun b u q z => by rw [z, hn] at q; cases q
  refine ⟨I.ok, I.os, I.bare, ⟨I.base.keep, I.base.slot, fun b ob q n hx => ?_, I.base.there, fun b xs q => ?_, fun b ob u q => ?_, fun b ps q => ?_⟩, I.loc, I.cell, ?_, fun x c q => ?_, fun p hq => ?_, fun b u q => ?_, I.len⟩
  · rw [upd_ne (fun z => by rw [z, h0] at q; cases q)]
    exact I.base.free b ob q n hx
  · have q1 := I.base.tups b xs q
    rw [upd_ne (ne b _ q1)]; exact q1
  · have q1 := I.base.frzs b ob u q
    rw [upd_ne (ne b _ q1)]; exact q1
  · obtain ⟨m, q1⟩ := I.base.tbls b ps q
    exact ⟨m, by rw [upd_ne (ne b _ q1)]; exact q1⟩
  · rw [upd_ne (Ne.symm hL)]; exact I.free
  · rw [upd_ne (hc x c q)]; exact I.freeC x c q
  · obtain ⟨a1, a2, a3, a4, a5⟩ := I.pin p hq
    exact ⟨a1, by rw [upd_ne (hp p hq)]; exact a2, a3, a4, a5⟩
  · by_cases hb : b = e
    · subst hb; rw [upd_same] at q; cases q; exact new
    · rw [upd_ne hb] at q
      exact (I.hok b u q).stay (fun _ _ _ z => z) (fun c z => by rw [upd_ne (ne c _ z)]; exact z) fun c xs z => by rw [upd_ne (ne c _ z)]; exact z
theorem goes_ok {M : Model} {A : Around} {E : Value → Shared → Prop} {i : Nat} {n : Str} {pos : Pos} {Q : Unit → Shared → Prop} (I : Inv X pins σ H s) (hN : X.N.Nodup) (hi : X.N[i]? = some n) (hk : X.env.kindOf n = some .local)
    (h : ∀ s', Inv X pins (σ.set i none) H s' → Q () s') : wpAny M A (do bindName X.env n .none; unbindBehindTheSuite X.env n pos) Q E s := by
  obtain ⟨m, hn, hl⟩ := id I.loc
  have hcls : (X.env.scope.kind == .class || (X.env.scope.kind == .module && X.env.locals != X.env.globals)) = false := by rw [I.ok.kind]; rfl
  refine wpAny_nameGoes_keeps hk hn hcls fun h' v hn' hs => h _ ?_
  obtain ⟨oL, _, _, hoL, _⟩ := id hn
  have kb : ∀ b o, b ≠ X.env.locals → s.heap.get? b = some o → h'.get? b = some o := fun b o hb e => (hs.2 b hb).trans e
  have nL : ∀ b o, X.s₀.heap.get? b = some o → b ≠ X.env.locals := fun b o e => Nat.ne_of_lt (Nat.lt_of_lt_of_le (Heap.lt_size e) I.ok.above)
  refine ⟨I.ok, I.os, I.bare, ⟨fun b o e n hb hx => kb b o (nL b o e) (I.base.keep b o e n hb hx), fun b o e n hb hx => ?_, I.base.free, fun b o e hx => ?_, I.base.tups, I.base.frzs, I.base.tbls⟩, ⟨_, hn', fun j y v' e1 e2 e3 => ?_⟩, fun y c e => ?_, I.free, I.freeC, fun p hp => ?_,
    I.hok.track fun b u o q1 q2 => kb b o (fun z => by rw [z, I.free] at q1; cases q1) q2, by simpa using I.len⟩
  · obtain ⟨sl, e1⟩ := I.base.slot b o e n hb hx
    exact ⟨sl, kb b _ (nL b o e) e1⟩
  · obtain ⟨o', e1⟩ := I.base.there b o e hx
    exact ⟨o', kb b o' (nL b o e) e1⟩
  · by_cases hj : j = i
    · subst hj
      have hj' : j < σ.length := by rw [I.len]; exact (List.getElem?_eq_some_iff.mp e1).1
      rw [List.getElem?_set_self hj'] at e2
      cases e2
    · rw [List.getElem?_set_ne (Ne.symm hj)] at e2
      obtain ⟨u', r', q⟩ := hl j y v' e1 e2 e3
      refine ⟨u', r', ?_⟩
      rcases q with ⟨k, e⟩ | ⟨k, c, e, z⟩
      · refine .inl ⟨k, ?_⟩
        have : y ≠ n := fun e => hj (nodup_ix hN e1 (e ▸ hi))
        simp [this, e]
      · exact .inr ⟨k, c, e, z.sameBut hs (I.cne y c e)⟩
  · obtain ⟨w', z⟩ := I.cell y c e
    exact ⟨w', z.sameBut hs (I.cne y c e)⟩
  · obtain ⟨e, n', ne, nf, d⟩ := I.pin p hp
    exact ⟨kb _ _ ne e, n', ne, nf, d⟩
end
def exO (C : Value) (dd : Option Addr) (e : Addr) : HO := .ext fun h => ∃ oe vs, h.get? e = some oe ∧ oe.cls = C ∧ oe.dict = dd ∧ oe.data = .fields vs
theorem exO_ok {P : Program} {w : World} {H : Hp} {h : Heap} {e : Addr} {C t1 : Value} {dd : Option Addr} (x : ExAt h e C dd t1) : ObjOk P w H h e (exO C dd e) := by
  obtain ⟨oe, vs, he, hC, hdd, hd, _⟩ := x
  exact ⟨⟨oe, vs, he, hC, hdd, hd⟩, ⟨oe, he⟩, fun h1 h2 ⟨o, v, q, r⟩ k => ⟨o, v, k o q, r⟩⟩
def tTry (K : PySem.W.Frag) (Cv : Value) (i : Nat) (tb : (St → XK) → List (Addr × Obj) → (Value → Shared → Prop) → TS) (th : Addr → TS) : TS := fun D σ H => ∃ Ez : St → XK, (∀ pins W, tb Ez pins W D σ H) ∧
  ∀ σ1 C dd H1, Ez σ1 C dd H1 → PySem.W.exmOne K C Cv = some true ∧ ∀ e, H1 e = none →
    th e { nx := fun σ2 H2 => D.nx (σ2.set i none) H2, rt := D.rt, bk := fun σ2 H2 => D.bk (σ2.set i none) H2, ct := fun σ2 H2 => D.ct (σ2.set i none) H2 } (σ1.set i (some (.ref e))) (upd H1 e (exO C dd e))
section
variable {X : Cx}
theorem ps_try {body suite : List Stmt} {b₀ : Stmt} {tx n : Str} {i : Nat} {np hpos pos : Pos} {Cv : Value} {tb : (St → XK) → List (Addr × Obj) → (Value → Shared → Prop) → TS} {th : Addr → TS}
    (hst : X.stack = X.env :: X.outer) (hfr : X.env.frame = some X.env.locals) (hex : X.ex = []) (hN : X.N.Nodup) (hi : X.N[i]? = some n) (hk : X.env.kindOf n = some .local) (hg : Gl X tx) (hm : X.mg tx = some Cv)
    (hb : ∀ Ez pins W, PassesS (CXx X.prog X.w) (X.tr pins W) Ez → PSs (X.tr pins W) body (tb Ez pins W)) (hs : ∀ e, PSs (X.sui e) (b₀ :: suite) (th e)) (hdb : (tx == ("__debug__" : Str)) = false := by decide) :
    PS X (.Try body [.ExceptHandler (some (.Name tx np)) (some n) (b₀ :: suite) hpos] [] [] pos) (tTry X.K Cv i tb th) := by
  unfold PS at *; unfold PSs at *
  exact by
    intro pins s σ H D I h
    obtain ⟨Ez, hb1, hh⟩ := h
    let W : Value → Shared → Prop := fun u s' => ∃ σ1 H1 s1, Inv X pins σ1 H1 s1 ∧ CXx X.prog X.w X.stack H1 s1 (Ez σ1) u s'
    have hp : PassesS (CXx X.prog X.w) (X.tr pins W) Ez := fun pins' σ1 H1 s1 u s' I1 hx => ⟨σ1, H1, s1, I1.untr, hx⟩
    refine wpAny_Try_except (wpAny_mono ((hb Ez pins W hp) [] s σ H D I.tr (hb1 pins W)) (fun f s1 q => ?_) (fun u s' q => ?_))
    · have q' := q.untr
      cases f with
      | next => exact wpAny_execs_nil q'
      | brk => exact q'
      | cont => exact q'
      | ret v => exact q'
    · obtain ⟨σ1, H1, s1, I1, e, C, dd, T, H', rfl, os, bare, un, hok, x1, x2, x3, f1, f2, n1, n2, hE⟩ := q
      have hfun : s'.heap.FunFrames X.base (X.env :: X.outer) := by
        rw [← hst]
        exact funFrames_un I1.stack fun b o hb q => un.slot b o q (I1.stkFree b hb) hb (by simp)
      refine leave_fly (T0 := some T) (L := X.env.locals) (by rw [← hst]; exact I1.ok.frames) hfun hfr x1 (fun T' z => by cases z; exact ⟨x2, x3⟩) fun h' T2 y1 y2 y3 y4 mv => ?_
      rw [← hst] at mv
      have ntr : ∀ b u, H' b = some u → b ∉ frs X.stack := fun b u q hb => by
        obtain ⟨_, o, ho, _⟩ := I1.stack.mem hb
        have := un.free b o ho (I1.stkFree b hb) (by simp)
        rw [q] at this; cases this
      have hU : Un (frs X.stack) [] H1 H' s1.heap h' := un_moved (l := X.stack) un mv (fun _ z => z) (fun _ _ _ z => z) n1 fun T' z => by cases z; exact n2
      have hO : HOk X.prog X.w H' h' := hok.track fun b u o q1 q2 => mv.keep b o (fun z => by rw [z, f1] at q1; cases q1) (fun z => by cases z; rw [f2] at q1; cases q1) (ntr b u q1) q2
      have I2 : Inv X pins σ1 H' { s' with heap := h' } := I1.call' (s' := { s' with heap := h' }) (ch := []) os hU hO bare fun _ z => absurd z (by simp)
      -- the exception becomes an object of ours
      have he0 : X.s₀.heap.get? e = none := by
        cases q : X.s₀.heap.get? e with
        | none => rfl
        | some o =>
          obtain ⟨o1, q1⟩ := I1.base.there e o q (by rw [hex]; simp)
          rw [n1] at q1; cases q1
      have live : ∀ b o, s1.heap.get? b = some o → b ≠ e := fun b o q z => by rw [z, n1] at q; cases q
      have heL : e ≠ X.env.locals := by
        obtain ⟨m, ⟨o, _, _, ho, _⟩, _⟩ := I1.loc
        exact Ne.symm (live _ _ ho)
      have heC : ∀ x c, X.env.cells.lookup x = some c → c ≠ e := fun x c q => by
        obtain ⟨v, o, ho, _⟩ := I1.cell x c q
        exact live _ _ ho
      have heP : ∀ p ∈ X.pn ++ pins, p.1 ≠ e := fun p hp => live _ _ (I1.pin p hp).1
      have I3 : Inv X pins σ1 (upd H' e (exO C dd e)) { s' with heap := h' } := I2.adopt f1 he0 heL heC heP (exO_ok y1)
      -- the trace's record is nobody's
      have szT : ∀ b o, s'.heap.get? b = some o → b ≠ T2 := fun b o q => Nat.ne_of_lt (Nat.lt_of_lt_of_le (Heap.lt_size q) y3)
      have liveT : ∀ b o, s1.heap.get? b = some o → b ≠ T2 := fun b o q => by
        obtain ⟨o', q'⟩ := un.there b o q (by simp)
        exact szT b o' q'
      have hTL : T2 ≠ X.env.locals := by
        obtain ⟨m, ⟨o, _, _, ho, _⟩, _⟩ := I1.loc
        exact Ne.symm (liveT _ _ ho)
      have hT0 : X.s₀.heap.objs.size ≤ T2 := by
        obtain ⟨m, ⟨o, _, _, ho, _⟩, _⟩ := I1.loc
        obtain ⟨o', q'⟩ := un.there _ o ho (by simp)
        exact Nat.le_trans I1.ok.above (Nat.le_trans (Nat.le_of_lt (Heap.lt_size q')) y3)
      have hTC : ∀ x c, X.env.cells.lookup x = some c → c ≠ T2 := fun x c q => by
        obtain ⟨v, o, ho, _⟩ := I1.cell x c q
        exact liveT _ _ ho
      have hTP : ∀ p ∈ X.pn ++ pins, p.1 ≠ T2 := fun p hp => liveT _ _ (I1.pin p hp).1
      have hTn : upd H' e (exO C dd e) T2 = none := by
        rw [upd_ne y4]
        cases q : H' T2 with
        | none => rfl
        | some u => obtain ⟨ob, hob⟩ := (hok T2 u q).there; exact absurd rfl (szT T2 ob hob)
      obtain ⟨hmt, hsu⟩ := hh σ1 C dd H' hE
      obtain ⟨oe, vs, hoe, hcls, _⟩ := id y1
      have LT : PySem.W.Looks (model X.prog X.w) h' (typeOf (.ref e)) C := by
        subst hcls
        exact (PySem.W.Looks.ld hoe).andThen .now
      have ok : X.Ok := I.ok
      refine wpAny_handleBy_cons (codeAny_handlers_test (ld_glob (X := X.sui e) (I3.sui e) hg hm ?_ hdb)) (by intro q; cases q)
      refine PySem.W.Looks.here (PySem.W.exm_one I3.kIn LT hmt) ?_
      show codeAny _ _ (.handlers (.ref e) [.ExceptHandler none (some n) (b₀ :: suite) hpos] X.env) _ _
      refine codeAny_handlers_suite_as ?_
      refine rest_fly y1 y2 y4 fun h2 z1 z2 k1 k2 => ?_
      have I4 : Inv X pins σ1 (upd H' e (exO C dd e)) { s' with heap := h2 } := I3.turned (t' := s'.toks) (fun b o hb q => k1 b o hb q) hTn hTL (.inr hT0) hTC hTP
      refine store_ok (X := X.sui e) (v := .ref e) (I4.sui e) hN hi (.inl hk) rfl (fun s5 I5 => ?_) (.inr hk)
      refine wpAny_mono ((hs e) pins s5 _ _ _ I5 (hsu e f1)) (fun f s6 q => ?_) fun _ _ z => z.elim
      show wpAny _ _ (do bindName X.env n .none; unbindBehindTheSuite X.env n hpos) _ _ s6
      cases f with
      | next => obtain ⟨σ6, H6, I6, q6⟩ := q; exact goes_ok (I6.unsui ok) hN hi hk fun s7 I7 => ⟨_, _, I7, q6⟩
      | brk => obtain ⟨σ6, H6, I6, q6⟩ := q; exact goes_ok (I6.unsui ok) hN hi hk fun s7 I7 => ⟨_, _, I7, q6⟩
      | cont => obtain ⟨σ6, H6, I6, q6⟩ := q; exact goes_ok (I6.unsui ok) hN hi hk fun s7 I7 => ⟨_, _, I7, q6⟩
      | ret v => obtain ⟨x6, σ6, H6, I6, r6, q6⟩ := q; exact goes_ok (I6.unsui ok) hN hi hk fun s7 I7 => ⟨_, _, _, I7, r6, q6⟩
end
end L2
namespace L2
open PySem PySem.Spec PyProof.Rows PySem.W
section
variable {prog : Program} {w : World} {A : Around} {E : Value → Shared → Prop} {s : Shared} {K : Frag} {e C : Addr} {oe : Obj}
theorem findX {a g : Value} {name : Str} (hc : (clsIn K C).isSome = true) (ha : findIn K (.ref C) name = some (some a)) (hg : specialIn K a "__get__" = some (some g)) (ht : takesIn K a = some true) : findObj K C none name = some (.bind g a) := by
  obtain ⟨cd, hc⟩ := Option.isSome_iff_exists.mp hc
  unfold findObj
  rw [hc, Option.bind_some, ha, Option.bind_some]
  simp [hg, ht]
structure XAsk (K : Frag) (C : Addr) : Prop where
  cs : (clsIn K C).isSome = true
  ga : findIn K (.ref C) "__getattribute__" = some (some (.builtin "BaseException.__getattribute__"))
  gt : findIn K (.ref C) "__getattr__" = some none
  ca : findIn K (.ref C) "__class__" = some (some (.builtin "object.__class__"))
  gg : specialIn K (.builtin "object.__class__") "__get__" = some (some (.builtin "getset_descriptor.__get__"))
  tk : takesIn K (.builtin "object.__class__") = some true
  mo : mroIn K C (.type "object") = some true
  sb : subIn K (.ref C) (.type "BaseException") = some true
theorem xcheck {nameV : Value} {Q : Unit → Shared → Prop} (U : XAsk K C) (X : K.In s.heap) (I : InstAt s.heap e oe C none) (hq : Q () s) :
    wpAny (model prog w) A (checkBuiltinCall "BaseException.__getattribute__" ⟨[.ref e, nameV], []⟩) Q E s := by
  have hk : builtinKind "BaseException.__getattribute__" = some .slot := by decide +kernel
  have hsplit : splitId "BaseException.__getattribute__" = some ("BaseException", "__getattribute__") := by decide +kernel
  have L0 := I.type (M := model prog w)
  have L1 := looks_subIn (M := model prog w) X U.sb
  have LI : Looks (model prog w) s.heap (isInstance (.ref e) (.type "BaseException")) true := L0.andThen L1
  have ha := F.args_bexc_ga (.ref e) nameV
  simp only [checkBuiltinCall, hk, hsplit]
  refine wpAny_bind (LI.at ?_)
  rw [if_neg (by decide)]
  exact wpAny_of_eq ha hq
theorem xentry {tk : Tok} {Q : Fin → Shared → Prop} (U : XAsk K C) (X : K.In s.heap) (I : InstAt s.heap e oe C none) (hq : Q (.done (.ret (.ref C))) s) :
    wpAny (model prog w) A (Builtin.«object.__getattribute__» ⟨[.ref e, .str "__class__" tk], []⟩) Q E s := by
  obtain ⟨hh, g, d, t, os⟩ := s
  have L0 := I.type (M := model prog w)
  have L3 := looks_find (M := model prog w) X I (findX U.cs U.ca U.gg U.tk)
  unfold Builtin.«object.__getattribute__»
  refine wpAny_bind (wpAny_of_eq (show slotArgs "__getattribute__" 1 ⟨[.ref e, .str "__class__" tk], []⟩ = pure (.ref e, [.str "__class__" tk]) from rfl) ?_)
  refine wpAny_bind (wpAny_of_eq (show Builtin.ObjectAttr.attrName (.str "__class__" tk) = pure ("__class__" : Str) from rfl) ?_)
  refine wpAny_bind (L0.at (wpAny_bind (L3.at ?_)))
  show wpAny _ _ (Builtin.ObjectAttr.bindTo (.builtin "getset_descriptor.__get__") (.builtin "object.__class__") (.ref e) (.ref C)) _ _ _
  show wpAny _ _ (holding [.builtin "object.__class__"] (call (.builtin "getset_descriptor.__get__") [.builtin "object.__class__", .ref e, .ref C]) >>= ret) _ _ _
  exact wpAny_bind (wpAny_holding (wpAny_call (class_get X I U.mo (wpAny_pure hq))))
theorem xclass {Q : Option Value → Shared → Prop} (U : XAsk K C) (X : K.In s.heap) (I : InstAt s.heap e oe C none) (h : Q (some (.ref C)) { s with toks := s.toks + 1 }) : wpAny (model prog w) A (getAttr? (.ref e) "__class__") Q E s := by
  obtain ⟨hh, g, d, t, os⟩ := s
  have L0 := I.type (M := model prog w)
  have L1 := looks_findIn (M := model prog w) X U.ga
  have L2 := looks_findIn (M := model prog w) X U.gt
  have L3 := looks_find (M := model prog w) X I (findX U.cs U.ca U.gg U.tk)
  unfold getAttr? getAttrBy? getAttrBy
  refine wpAny_bind (wpAny_mkText (wpAny_bind (wpAny_attempt (wpAny_holding (wpAny_bind (L0.at (wpAny_bind (L1.at ?_))))))))
  show wpAny _ _ (getAttrByItsOwn (.ref e) _ (.ref C) (.builtin "BaseException.__getattribute__") false false) _ _ _
  unfold getAttrByItsOwn
  refine wpAny_bind ?_
  show wpAny _ _ (typeLookup (.ref C) "__getattr__") _ _ _
  refine L2.at ?_
  refine wpAny_bind (wpAny_attempt (wpAny_holding ?_))
  show wpAny _ _ (boundAndCalled (.builtin "BaseException.__getattribute__") (.ref e) _) _ _ _
  unfold boundAndCalled
  refine wpAny_bind (wpAny_of_eq (F.attr_ValueError.ga.bind (.ref e)) ?_)
  refine wpAny_call (codeAny_call_builtin F.attr_ValueError.ga.plain F.entry_bexc_ga (xcheck U X I (xentry U X I ?_)))
  exact wpAny_pure (wpAny_pure h)
theorem kitx_exc (U : XAsk K C) : KitX K (.ref e) (.ref C) (fun h => ∃ oe, InstAt h e oe C none) where
  ty := fun M h _ ⟨_, I⟩ => I.type
  it := fun _ _ X _ => by
    obtain ⟨cd, hc⟩ := Option.isSome_iff_exists.mp U.cs
    unfold clsIn at hc
    split at hc
    · rename_i c' d' cd' sl' ho
      intro A' Q' E' s' k q
      unfold isType loadHead
      exact wpAny_bind (wpAny_loadPart (k _ _ (X _ _ ho)) (wpAny_pure q))
    · cases hc
  ne := fun h tp dd its n sl X htp => by
    obtain ⟨cd, hc⟩ := Option.isSome_iff_exists.mp U.cs
    refine Bool.eq_false_iff.mpr fun q => ?_
    have z : C = tp := Value.ref.inj (beq_iff_eq.mp q)
    subst z
    unfold clsIn at hc
    split at hc
    · rename_i c' d' cd' sl' ho
      have z := (X _ _ ho).symm.trans htp
      cases z
    · cases hc
  ca := fun X ⟨_, I⟩ k => xclass U X I k
end
theorem exO_inst {P : Program} {w : World} {H : Hp} {h : Heap} {e C : Addr} (ok : HOk P w H h) (q : H e = some (exO (.ref C) none e)) : ∃ oe, InstAt h e oe C none := by
  obtain ⟨⟨oe, vs, he, hC, hdd, hd⟩, _⟩ := ok e _ q
  refine ⟨oe, he, hC, ?_, ?_⟩
  · obtain ⟨a, b, c, d⟩ := oe
    have hd' : c = .fields vs := hd
    subst hd'
    rfl
  · rw [hdd]
    trivial
section
variable {X : Cx}
def rIsiX (K : Frag) : List V → Hp → VK → Prop := fun xs H Q => ∃ e c cv C b, xs = [.ref e, c] ∧ ClsV c cv ∧ H e = some (exO (.ref C) none e) ∧ XAsk K C ∧ kitOne K (.ref C) cv = some b ∧ Q (.bl b) H
theorem call_isiX : CallR X (.builtin "isinstance") (rIsiX X.K) := by
  unfold CallR at *
  exact by
    intro pins s σ H xs us Q I rv h
    obtain ⟨e, c, cv, C, b, rfl, hc, he, U, k, q⟩ := h
    obtain ⟨u, cu, rfl, ru, rc⟩ := rv.two
    have ec : cu = cv := by cases hc <;> exact rc
    subst ec
    cases (show u = Value.ref e from ru)
    exact kia_one (kitx_exc U) I.kIn (exO_inst I.hok he) k (fun z => nomatch z) fun tk => ⟨.bl b, H, I.tok tk, rfl, q⟩
def rIsiA (K : Frag) : List V → Hp → VK → Prop := fun xs H Q => rIsi K xs H Q ∨ rIsiX K xs H Q
theorem call_isiA : CallR X (.builtin "isinstance") (rIsiA X.K) := by
  first
  | exact (call_isi.or call_isiX)
  | (unfold CallR at *; exact (call_isi.or call_isiX))
end
end L2
namespace L2
open PySem PySem.Spec PyProof.Rows
theorem bt_len : bootBuiltins "len" = some (.builtin "len") := by decide +kernel
theorem bt_isinstance : bootBuiltins "isinstance" = some (.builtin "isinstance") := by decide +kernel
theorem bt_int : bootBuiltins "int" = some (.type "int") := by decide +kernel
theorem bt_bool : bootBuiltins "bool" = some (.type "bool") := by decide +kernel
theorem bt_str : bootBuiltins "str" = some (.type "str") := by decide +kernel
theorem bt_list : bootBuiltins "list" = some (.type "list") := by decide +kernel
theorem bt_tuple : bootBuiltins "tuple" = some (.type "tuple") := by decide +kernel
theorem bt_ValueError : bootBuiltins "ValueError" = some (.type "ValueError") := by decide +kernel
theorem bt_all : bootBuiltins "all" = some (.builtin "all") := by decide +kernel
theorem bt_any : bootBuiltins "any" = some (.builtin "any") := by decide +kernel
theorem rel_int {n : Int} {t : Tok} : RelV (.int n) (.int n t) := ⟨_, rfl⟩
theorem rel_str {n : Str} {t : Tok} : RelV (.str n) (.str n t) := ⟨_, rfl⟩
theorem Same.new {H : Hp} {p : Addr} {o : HO} (h : H p = none) : Same H (upd H p o) := fun b u q => by
  rw [upd_ne (ne_of_none q h)]
  exact q
theorem atI_in {α : Type} {xs : List α} {i : Int} (h0 : 0 ≤ i) (h1 : i < xs.length) : ∃ v, atI xs i = some v ∧ v ∈ xs := by
  have e : ((i.toNat : Nat) : Int) = i := Int.toNat_of_nonneg h0
  have hl : i.toNat < xs.length := by omega
  refine ⟨xs[i.toNat], ?_, List.getElem_mem hl⟩
  have q := atI_nat (xs := xs) (List.getElem?_eq_getElem hl)
  rw [e] at q
  exact q
theorem atI_toNat {α : Type} {xs : List α} {i : Int} {v : α} (h0 : 0 ≤ i) (h : xs[i.toNat]? = some v) : atI xs i = some v := by
  have q := atI_nat (xs := xs) h
  rw [Int.toNat_of_nonneg h0] at q
  exact q
theorem TyOf.same {K : PySem.W.Frag} {H H' : Hp} {x : V} {t : Value} (e : Same H H') (h : TyOf K H x t) : TyOf K H' x t := by
  cases h with
  | non => exact .non
  | bl b => exact .bl b
  | int i => exact .int i
  | str x => exact .str x
  | flt x => exact .flt x
  | lst q => exact .lst (e _ _ q)
  | frz q => exact .frz (e _ _ q)
  | tup q => exact .tup (e _ _ q)
  | dK q => exact .dK (e _ _ q)
  | dT q => exact .dT (e _ _ q)
  | ins q a b c d f => exact .ins (e _ _ q) a b c d f
def Own (K : PySem.W.Frag) (H : Hp) (x : V) : Prop := ∃ n, TyOf K H x (.type n)
theorem Own.same {K : PySem.W.Frag} {H H' : Hp} {x : V} (e : Same H H') (h : Own K H x) : Own K H' x := let ⟨n, t⟩ := h; ⟨n, t.same e⟩
theorem Own.non {K : PySem.W.Frag} {H : Hp} : Own K H .non := ⟨_, .non⟩
theorem Own.bl {K : PySem.W.Frag} {H : Hp} {b : Bool} : Own K H (.bl b) := ⟨_, .bl b⟩
theorem Own.int {K : PySem.W.Frag} {H : Hp} {i : Int} : Own K H (.int i) := ⟨_, .int i⟩
theorem Own.str {K : PySem.W.Frag} {H : Hp} {x : Str} : Own K H (.str x) := ⟨_, .str x⟩
theorem Own.lst {K : PySem.W.Frag} {H : Hp} {a : Addr} {xs : List V} (h : H a = some (.lst xs)) : Own K H (.ref a) := ⟨_, .lst h⟩
theorem Own.tup {K : PySem.W.Frag} {H : Hp} {a : Addr} {xs : List V} (h : H a = some (.tup xs)) : Own K H (.ref a) := ⟨_, .tup h⟩
theorem Own.dK {K : PySem.W.Frag} {H : Hp} {a : Addr} {xs : List (Key × V)} (h : H a = some (.dK xs)) : Own K H (.ref a) := ⟨_, .dK h⟩
def isInt : V → Bool
  | .int _ => true
  | .bl _ => true
  | _ => false
def isBool : V → Bool
  | .bl _ => true
  | _ => false
def isStr : V → Bool
  | .str _ => true
  | _ => false
theorem kit_int {K : PySem.W.Frag} {H : Hp} {x : V} {n : String} (ty : TyOf K H x (.type n)) : PySem.W.kitOne K (.type n) (.type "int") = some (isInt x) := by
  cases ty <;> rfl
theorem kit_bool {K : PySem.W.Frag} {H : Hp} {x : V} {n : String} (ty : TyOf K H x (.type n)) : PySem.W.kitOne K (.type n) (.type "bool") = some (isBool x) := by
  cases ty <;> rfl
theorem kit_str {K : PySem.W.Frag} {H : Hp} {x : V} {n : String} (ty : TyOf K H x (.type n)) : PySem.W.kitOne K (.type n) (.type "str") = some (isStr x) := by
  cases ty <;> rfl
theorem rIsiA.own {K : PySem.W.Frag} {H : Hp} {x : V} {c : String} {Q : VK} {b : Bool} (h : Own K H x) (k : ∀ n, TyOf K H x (.type n) → PySem.W.kitOne K (.type n) (.type c) = some b) (q : Q (.bl b) H) : rIsiA K [x, .ty c] H Q := by
  obtain ⟨n, t⟩ := h
  exact .inl ⟨x, .ty c, _, _, _, rfl, .ty c, t, k n t, q⟩
theorem rIsiA.int {K : PySem.W.Frag} {H : Hp} {x : V} {Q : VK} (h : Own K H x) (q : Q (.bl (isInt x)) H) : rIsiA K [x, .ty "int"] H Q := rIsiA.own h (fun _ => kit_int) q
theorem rIsiA.bool {K : PySem.W.Frag} {H : Hp} {x : V} {Q : VK} (h : Own K H x) (q : Q (.bl (isBool x)) H) : rIsiA K [x, .ty "bool"] H Q := rIsiA.own h (fun _ => kit_bool) q
theorem rIsiA.str {K : PySem.W.Frag} {H : Hp} {x : V} {Q : VK} (h : Own K H x) (q : Q (.bl (isStr x)) H) : rIsiA K [x, .ty "str"] H Q := rIsiA.own h (fun _ => kit_str) q
theorem iteB {b : Bool} {A B : Prop} (h1 : b = true → A) (h2 : b = false → B) : if b = true then A else B := by
  cases b
  · exact iteF (h2 rfl)
  · exact iteT (h1 rfl)
theorem le_ble {a b : Nat} (h : Nat.ble a b = true) : a ≤ b := Nat.le_of_ble_eq_true h
end L2
namespace L2
open PySem PySem.Spec PyProof.Rows
section
variable {X : Cx} {pins : List (Addr × Obj)} {σ : St} {H H' : Hp} {s : Shared} {h' : Heap}
theorem Inv.turns {t' : Nat} {wr : List Addr} (I : Inv X pins σ H s) (k : ∀ b o, b ∉ wr → s.heap.get? b = some o → h'.get? b = some o) (hw : ∀ b ∈ wr, FpOk X pins H b) : Inv X pins σ H { s with heap := h', toks := t' } := by
  have nit : ∀ b u, H b = some u → b ∉ wr := fun b u e z => by rw [(hw b z).1] at e; cases e
  refine I.step (g' := s.gens) (d' := s.drawn) (ch := wr) (fun b hb => ?_) (fun b o _ _ hc e _ => k b o hc e) (fun b o _ _ hc e _ => ⟨o.slots, k b o hc e⟩) (fun _ _ _ _ n => n)
    (fun b o hc e => ⟨o, k b o hc e⟩) (fun _ _ e => e) (fun _ _ _ e => e) (fun b ps e => ⟨#[], by rw [e]; simp⟩) (fun m hm => ?_) (fun b u e => ?_) I.bare
  · obtain ⟨_, f1, _, f3, f4, f5⟩ := hw b hb
    exact ⟨f3, f1, f4, f5⟩
  · obtain ⟨o, es, ep, ho, r⟩ := hm
    exact ⟨o, es, ep, k _ o (fun z => (hw _ z).2.1 rfl) ho, r⟩
  · refine (I.hok b u e).stay (fun c v hc q => k c v ?_ q) (fun _ q => q) fun _ _ q => q
    rcases hc with z | z
    · rw [z]; exact nit b u e
    · exact nit c _ z
end
def Its (x : Str) : It := ⟨fun i _ => i < x.cps.size, fun i H v H' => H' = H ∧ ∃ c, x.cps[i]? = some c ∧ v = .str ⟨#[c]⟩, fun i _ => i = x.cps.size⟩
theorem turn_str {P : Program} {w : World} {K : PySem.W.Frag} {tg : Expr} (x : Str) (t : Tok) (it : Addr) (kind : String) (hk : kind = "str_ascii_iterator" ∨ kind = "str_iterator") :
    Turn P w K tg (Its x) [it] it (fun i h => h.IsStrIter it kind x t i) where
  mem := by simp
  obj := fun i h st b hb => by
    have e : b = it := by simpa using hb
    subst e
    obtain ⟨o, e, c, d⟩ := st
    exact ⟨o, e, fun v z => by rw [d] at z; cases z⟩
  keep := fun i h h' st k => by
    obtain ⟨o, e, r⟩ := st
    exact ⟨o, k it (by simp) o e, r⟩
  item := by
    intro X hP hw hK hc i pins s σ H E I hf st hg
    subst hP hw hK
    have W : Walks X.prog X.w X.A it [it] [it] x.cps.size (SignAt x) (fun i h => h.IsStrIter it kind x t i) := by
      rcases hk with rfl | rfl
      · exact Walks.strAscii (I.ok.hd hc) it x t
      · exact Walks.strWide (I.ok.hd hc) it x t
    refine W.item i s _ _ hg st fun v h' tk hv st' hk' => ?_
    obtain ⟨c, u, hc', rfl⟩ := hv
    have I1 : Inv X pins σ H { s with heap := h', toks := tk } := I.turns (t' := tk) hk' hf
    obtain ⟨o, e, hcl, d⟩ := id st'
    refine ⟨_, rfl, go_of (s := { s with heap := h', toks := tk }) e hcl d ?_ ⟨.str ⟨#[c]⟩, H, I1, ⟨u, rfl⟩, ⟨rfl, c, hc', rfl⟩, st', fun b hb => (hf b hb).1⟩⟩
    rcases hk with rfl | rfl <;> decide
  done := by
    intro X hP hw hK hc i pins s σ H E I hf st hg
    subst hP hw hK
    have W : Walks X.prog X.w X.A it [it] [it] x.cps.size (SignAt x) (fun i h => h.IsStrIter it kind x t i) := by
      rcases hk with rfl | rfl
      · exact Walks.strAscii (I.ok.hd hc) it x t
      · exact Walks.strWide (I.ok.hd hc) it x t
    have e : i = x.cps.size := hg
    subst e
    exact W.done s _ _ st fun h' tk hk' => ⟨rfl, I.turns (t' := tk) hk' hf⟩
  self := fun A i s Q E st h => by
    rcases hk with rfl | rfl
    · exact wpAny_pyIter_striter_ascii st h
    · exact wpAny_pyIter_striter_wide st h
def iStr (tl : TE) : TI := fun σ H R => tl σ H fun x H1 => ∃ z, x = .str z ∧ R (Its z) H1
theorem pi_str {X : Cx} {tg l : Expr} {tl : TE} (hl : PE X l tl) : PI X tg l (iStr tl) := by
  unfold PE at *; unfold PI at *
  exact by
    intro pins s σ H R I h
    refine thn (hl pins s σ H _ I h) fun v s1 ⟨x, H1, I1, r1, q1⟩ => ?_
    obtain ⟨z, rfl, q⟩ := q1
    obtain ⟨t, rfl⟩ := r1
    refine wpAny_pyIter_strU ?_
    refine ⟨s1.heap.objs.size, [s1.heap.objs.size], _, _, H1, rfl, I1.kept (t' := s1.toks) fun b o e => Heap.get?_push_of_some _ e, turn_str z t _ (strIterType z) (by unfold strIterType; split <;> simp), ⟨_, Heap.get?_push_size _ rfl, rfl, rfl⟩, fun b hb => ?_, q⟩
    have e : b = s1.heap.objs.size := by simpa using hb
    subst e
    exact I1.fpOk (Nat.le_refl _) (I1.hok.fresh (Nat.le_refl _))
def Ite (K : PySem.W.Frag) (a : Addr) : It :=
  ⟨fun i H => ∃ xs x, SqL K H a xs ∧ xs[i]? = some x, fun i H v H' => ∃ T x, v = .ref T ∧ H T = none ∧ H' = upd H T (.tup [.int i, x]) ∧ ∀ xs, SqL K H a xs → xs[i]? = some x, fun i H => ∃ xs, SqL K H a xs ∧ xs.length = i⟩
theorem turn_enum {P : Program} {w : World} {K : PySem.W.Frag} {es : List Expr} {k : Nat} {pos : Pos} (a e it : Addr) (hei : e ≠ it) :
    Turn P w K (.Tuple es k pos) (Ite K a) [e, it] e (fun i h => (∃ old, IsEnum h e it i old) ∧ h.IsListIter it a i) where
  mem := by simp
  obj := fun i h st b hb => by
    obtain ⟨⟨old, he⟩, o, ho, hc, hd⟩ := st
    rcases List.mem_cons.mp hb with rfl | hb
    · exact ⟨_, he, fun v z => by cases z⟩
    · have e : b = it := by simpa using hb
      subst e
      exact ⟨o, ho, fun v z => by rw [hd] at z; cases z⟩
  keep := fun i h h' st k => by
    obtain ⟨⟨old, he⟩, hi⟩ := st
    exact ⟨⟨old, k e (by simp) _ he⟩, hi.at fun o x => k it (by simp) o x⟩
  item := by
    intro X hP hw hK hc i pins s σ H E I hf st hg
    subst hP hw hK
    obtain ⟨xs, x, hq, hx⟩ := hg
    obtain ⟨its, rv, p, hz⟩ := I.list hq
    obtain ⟨u, hu, ru⟩ := rv.get hx
    obtain ⟨he, hi⟩ := st
    have hlt : i < its.toArray.size := by
      obtain ⟨hl, _⟩ := List.getElem?_eq_some_iff.mp hu
      simpa using hl
    have na : ∀ b ∈ [e, it], a ≠ b := fun b hb z => by
      obtain ⟨o, ho, _⟩ := id p.isList
      subst z
      rcases List.mem_cons.mp hb with rfl | hb
      · obtain ⟨old, he⟩ := he
        have l1 := p.isList
        obtain ⟨o, ho, hc, n, hd⟩ := l1
        rw [he] at ho; cases ho; exact absurd (show Value.type "enumerate" = Value.type "list" from hc) (by decide)
      · have e' : a = it := by simpa using hb
        subst e'
        obtain ⟨o, ho, hc, n, hd⟩ := p.isList
        obtain ⟨o', ho', hc', hd'⟩ := hi
        rw [ho] at ho'; cases ho'
        rw [hc] at hc'; exact absurd hc' (by decide)
    have W := WalksT.enumerate (prog := X.prog) (w := X.w) (I.ok.hd hc) e it a hei (na e (by simp)) (na it (by simp)) its.toArray
    refine W.item i s _ _ hlt ⟨he, hi, p.isList⟩ fun T vals h1 tk hp hT hIs hm hk => ?_
    obtain ⟨t, y, hy, rfl⟩ := hp
    have ey : y = u := by
      have : its.toArray[i]? = some u := by simpa using hu
      rw [this] at hy
      exact (Option.some.inj hy).symm
    subst ey
    refine ⟨_, rfl, W.go es k pos i T _ _ _ hm fun h2 st2 hk2 => ?_⟩
    have hTn : H T = none := I.hok.fresh hT
    have hap := W.apart i T h1 hm
    have I1 : Inv X pins σ H { s with heap := h2, toks := tk } := I.turns (t' := tk) (fun b o hb e => hk2 b o hb (hk b o hb e)) hf
    have hT2 : h2.IsTuple T #[.int i t, y] := by
      obtain ⟨o, ho, r⟩ := hIs
      exact ⟨o, hk2 T o hap ho, r⟩
    have fT : ∀ b ∈ [e, it], upd H T (.tup [.int i, x]) b = none := fun b hb => by
      rw [upd_ne (fun z => hap (by rw [← z]; exact hb))]
      exact (hf b hb).1
    have hs0 : X.s₀.heap.objs.size ≤ T := Nat.le_trans I.sz hT
    have I2 : Inv X pins σ (upd H T (.tup [.int i, x])) { s with heap := h2, toks := tk } := by
      refine I1.adopt hTn (Heap.get?_none_of_le hs0) (Nat.ne_of_gt (Nat.lt_of_lt_of_le I.lt hT)) (fun z c e q => ?_) (fun p hp q => ?_) ⟨le_ble rfl, [.int i t, y], .cons ⟨t, rfl⟩ (.cons ru .nil), hT2⟩
      · obtain ⟨v, q1⟩ := I.cell z c e
        exact absurd (Nat.lt_of_lt_of_le q1.lt (by rw [q]; exact hT)) (Nat.lt_irrefl _)
      · exact absurd (Nat.lt_of_lt_of_le (Heap.lt_size (I.pin p hp).1) (by rw [q]; exact hT)) (Nat.lt_irrefl _)
    exact ⟨.ref T, _, I2, rfl, ⟨T, x, rfl, hTn, rfl, fun ys hy => by rw [I.list_inj hy hq]; exact hx⟩, ⟨st2.1, st2.2.1⟩, fT⟩
  done := by
    intro X hP hw hK hc i pins s σ H E I hf st hg
    subst hP hw hK
    obtain ⟨xs, hq, hx⟩ := hg
    obtain ⟨its, rv, p, hz⟩ := I.list hq
    obtain ⟨⟨old, he⟩, hi⟩ := st
    have D := Draws.list (prog := X.prog) (w := X.w) (A := X.A.in1) (I.ok.hd hc) it a (fun z => by
      subst z
      obtain ⟨o, ho, hc, n, hd⟩ := p.isList
      obtain ⟨o', ho', hc', hd'⟩ := hi
      rw [ho] at ho'; cases ho'
      rw [hc] at hc'; exact absurd hc' (by decide)) its.toArray
    have en : its.toArray.size = i := by rw [List.size_toArray, ← rv.length]; exact hx
    refine wpAny_pyNext_enum_endD D he (by rw [en]; exact ⟨hi, p.isList⟩) fun h' hx' => ⟨rfl, ?_⟩
    exact I.turns (t' := s.toks) (wr := [e, it]) (fun b o hb q => hx' b o (fun z => hb (by simp [z])) q) hf
  self := fun A i s Q E st h => by
    obtain ⟨⟨old, he⟩, _⟩ := st
    exact wpAny_pyIter_enum he h
theorem bt_enumerate : bootBuiltins "enumerate" = some (.type "enumerate") := by decide +kernel
def iEnum (K : PySem.W.Frag) (ta : TA) : TI := fun σ H R => ta σ H fun vs H1 => ∃ a, vs = [.ref a] ∧ (∃ xs, SqL K H1 a xs) ∧ R (Ite K a) H1
theorem pi_enum {X : Cx} {es : List Expr} {k : Nat} {tpos p pos : Pos} {a : Expr} {ta : TA} (hg : Gl X "enumerate") (hm : X.mg "enumerate" = none) (ha : PA X [a] ta)
    (he : starEach [a] X.env = [(false, eval a X.env)] := by rfl) : PI X (.Tuple es k tpos) (.Call (.Name "enumerate" p) [a] [] pos) (iEnum X.K ta) := by
  unfold PA at *; unfold PI at *
  exact by
    intro pins s σ H R I h
    refine wpAny_Call_Name_kw (ld_blt I hg hm bt_enumerate ?_ (by decide) (by decide))
    refine PyProof.Rows.callWith_type1 (thn (ha pos pins s σ H _ I h) fun us s1 ⟨vs, H1, I1, r, q⟩ => ?_) he (by rfl)
    obtain ⟨b, rfl, ⟨xs, hq⟩, q⟩ := q
    obtain ⟨u, rfl, ru⟩ := vals1 r
    cases ru
    obtain ⟨its, rv, pl, hz⟩ := I1.list hq
    refine call_enumerate_list pl.isList fun h' he hi hsz hk => ?_
    refine wpAny_pyIter_enum he ?_
    have I2 : Inv X pins σ H1 { s1 with heap := h' } := I1.kept (t' := s1.toks) hk
    refine ⟨s1.heap.objs.size + 1, [s1.heap.objs.size + 1, s1.heap.objs.size], _, _, H1, rfl, I2, turn_enum b _ _ (Nat.succ_ne_self _), ⟨⟨_, he⟩, hi⟩, fun c hc => ?_, q⟩
    have hle : s1.heap.objs.size ≤ c := by
      rcases List.mem_cons.mp hc with e | hc
      · rw [e]; exact Nat.le_succ _
      · have e : c = s1.heap.objs.size := by simpa using hc
        rw [e]; exact Nat.le_refl _
    exact I1.fpOk hle (I1.hok.fresh hle)
def Nx (n i : Nat) (P : Prop) : Prop := ∃ m', m' < n - i ∧ m' = n - (i + 1) ∧ i + 1 ≤ n ∧ P
theorem Nx.mk {n i : Nat} {P : Prop} (hi : i < n) (p : P) : Nx n i P := ⟨n - (i + 1), by omega, rfl, hi, p⟩
theorem loop_by {J : It} {l : Addr} {g : TG} {tc : TT} {te : TE} {σ : St} {H : Hp} {Q : VK} (n : Nat) (Pv : Nat → St → List V → Hp → Prop) (hsz : n ≤ sizeLine) (h0 : Pv 0 σ [] H)
    (hl : ∀ i σ acc H, i ≤ n → Pv i σ acc H → H l = some (.lst acc) ∧ acc.length ≤ i)
    (hgo : ∀ i σ acc H, i < n → Pv i σ acc H → J.go i H)
    (hs : ∀ i x σ acc H H', i < n → Pv i σ acc H → J.yld i H x H' → g x σ H' fun σ2 H2 => tc σ2 H2 fun b H3 => if b = true then
      te σ2 H3 fun v H4 => H4 l = some (.lst acc) ∧ Nx n i (Pv (i + 1) σ2 (acc ++ [v]) (upd H4 l (.lst (acc ++ [v])))) else Nx n i (Pv (i + 1) σ2 acc H3))
    (hd : ∀ σ acc H, Pv n σ acc H → J.stop n H ∧ Q (.ref l) H) : tLoop J l g tc te σ H Q := by
  refine ⟨fun i m σ acc H => m = n - i ∧ i ≤ n ∧ Pv i σ acc H, ⟨n, by simp, Nat.zero_le _, h0⟩, ?_⟩
  rintro i m σ acc H ⟨rfl, hi, p⟩
  obtain ⟨q1, q2⟩ := hl i σ acc H hi p
  refine ⟨q1, ?_⟩
  by_cases hlt : i < n
  · exact .inr ⟨hgo i σ acc H hlt p, by omega, fun x H' y => hs i x σ acc H H' hlt p y⟩
  · have e : i = n := by omega
    subst e
    exact .inl (hd σ acc H p)
theorem for_enum {K : PySem.W.Frag} {a : Addr} {xs : List V} {g : TG} {tb : TS} {D : Ends} {σ : St} {H : Hp} (Pv : Nat → St → Hp → Prop) (h0 : Pv 0 σ H) (hl : ∀ i σ H, i ≤ xs.length → Pv i σ H → SqL K H a xs)
    (hs : ∀ (i : Nat) x σ H T, xs[i]? = some x → Pv i σ H → H T = none → g (.ref T) σ (upd H T (.tup [.int i, x])) fun σ2 H2 => tb { D with nx := Pv (i + 1), ct := Pv (i + 1), bk := D.nx } σ2 H2) (hd : ∀ σ H, Pv xs.length σ H → D.nx σ H) :
    ∃ W : Nat → Nat → St → Hp → Prop, (∃ m, W 0 m σ H) ∧ ∀ i m σ H, W i m σ H →
      ((Ite K a).stop i H ∧ D.nx σ H) ∨ ((Ite K a).go i H ∧ ∃ N : St → Hp → Prop, (∀ σ' H', N σ' H' → ∃ m', m' < m ∧ W (i + 1) m' σ' H') ∧ ∀ v H', (Ite K a).yld i H v H' → g v σ H' fun σ2 H2 => tb { D with nx := N, ct := N, bk := D.nx } σ2 H2) := by
  refine ⟨fun i m σ H => m = xs.length - i ∧ i ≤ xs.length ∧ Pv i σ H, ⟨xs.length, by simp, Nat.zero_le _, h0⟩, ?_⟩
  rintro i m σ H ⟨rfl, hi, p⟩
  have q := hl i σ H hi p
  by_cases hlt : i < xs.length
  · refine .inr ⟨⟨xs, xs[i], q, by simp [hlt]⟩, Pv (i + 1), fun σ' H' p' => ⟨xs.length - (i + 1), by omega, rfl, hlt, p'⟩, fun v H' y => ?_⟩
    obtain ⟨T, x, rfl, hT, rfl, hx⟩ := y
    exact hs i x σ H T (hx xs q) p hT
  · have e : i = xs.length := by omega
    subst e
    exact .inl ⟨⟨xs, q, rfl⟩, hd σ H p⟩
theorem boolsAre_of : ∀ {bs : List Bool} {us : List Value}, Vals (bs.map V.bl) us → LSm.BoolsAre us bs
  | [], _, .nil => .nil
  | b :: r, _, .cons h t => by
    cases h
    exact .cons b (boolsAre_of t)
theorem kept_it {s : Shared} {h' : Heap} {o : Obj} (hk : ∀ b x, b ∉ [s.heap.objs.size] → (s.heap.push o).get? b = some x → h'.get? b = some x) : ∀ b x, s.heap.get? b = some x → h'.get? b = some x :=
  fun b x e => hk b x (fun hm => by rw [List.mem_singleton.mp hm] at e; exact Nat.lt_irrefl _ (Heap.lt_size e)) (Heap.get?_push_of_some _ e)
theorem call_all {X : Cx} (hc : X.calm = true) : CallR X (.builtin "all") (fun xs H Q => ∃ (a : Addr) (bs : List Bool), xs = [.ref a] ∧ SqL X.K H a (bs.map V.bl) ∧ Q (.bl (bs.all id)) H) := by
  unfold CallR at *
  exact by
    intro pins s σ H xs us Q I r h
    obtain ⟨a, bs, rfl, hq, q⟩ := h
    obtain ⟨u, rfl, ru⟩ := vals1 r
    cases ru
    obtain ⟨its, rv, pl, hz⟩ := I.list hq
    have hb := boolsAre_of rv
    have hl := pl.isList
    have hlt : a < s.heap.objs.size := by obtain ⟨_, e, _⟩ := hl; exact Heap.lt_size e
    refine call_all_walk (wpAny_pyIter_list hl ?_)
    refine ⟨s.heap.objs.size, [s.heap.objs.size, a], [s.heap.objs.size], its.toArray.size, _, _, fun i => (bs[i]?).getD true, rfl, Walks.list (A := X.A.in1) (I.ok.hd hc) _ a (Nat.ne_of_lt hlt) its.toArray,
      ⟨⟨_, Heap.get?_push_size _ rfl, rfl, rfl⟩, hl.push _⟩, fun i v s' Q' E' hP hQ => ?_, fun h' tk hk => ?_⟩
    · obtain ⟨b, e, rfl⟩ := hb.get i v (by simpa using hP)
      simp only [e, Option.getD_some] at hQ
      exact wpAny_truthy_bool hQ
    · have e : ((List.range its.toArray.size).all fun i => (bs[i]?).getD true) = bs.all id := by
        rw [List.size_toArray, hb.length]; exact LSm.range_all bs
      rw [e]
      exact ⟨.bl (bs.all id), H, I.kept (t' := tk) (kept_it hk), rfl, q⟩
end L2
namespace L2
open PySem PySem.Spec PyProof.Rows
section
variable {X : Cx}
theorem op_le_str : OpR X (compareOp .LtE) (fun x y H Q => ∃ i j, x = .str i ∧ y = .str j ∧ Q (.bl (!decide (j.cps.toList < i.cps.toList))) H) := by
  unfold OpR at *
  exact by
    intro pins s σ H x y v u Q I rx ry h
    obtain ⟨i, j, rfl, rfl, q⟩ := h
    obtain ⟨t, rfl⟩ := rx
    obtain ⟨t', rfl⟩ := ry
    exact PySem.P.le_str (fin_bl I q (by simp))
def cutS (z : Str) (lo hi : Option Int) : Str := ⟨((z.cps.toList.drop (HT.sIx z.length 0 lo)).take (HT.sIx z.length z.length hi - HT.sIx z.length 0 lo)).toArray⟩
theorem clipN (n d : Nat) (o : Option Int) (hd : d ≤ n) : (match o with | none => (d : Int) | some i => let i := if i < 0 then i + (n : Int) else i; if (1 : Int) > 0 then max 0 (min i n) else max (-1) (min i (n - 1))) = ((HT.sIx n d o : Nat) : Int) := by
  cases o with
  | none => rfl
  | some i =>
    show (if (1 : Int) > 0 then max 0 (min (if i < 0 then i + (n : Int) else i) n) else _) = ((HT.sIx n d (some i) : Nat) : Int)
    rw [if_pos (by decide), ← HT.clip_eq i n d]
    split <;> omega
theorem sliceRange_nat (a b : Nat) : PySem.sliceRange (a : Int) (b : Int) 1 = (List.range (b - a)).map (fun k => a + k) := by
  have e : (if (1 : Int) > 0 then (if (a : Int) < (b : Int) then ((b : Int) - (a : Int) + 1 - 1) / 1 else 0) else (if (a : Int) > (b : Int) then ((a : Int) - (b : Int) - 1 - 1) / (-1) else 0)).toNat = b - a := by
    rw [if_pos (by decide)]
    split
    · omega
    · omega
  unfold PySem.sliceRange
  show (List.range (if (1 : Int) > 0 then (if (a : Int) < (b : Int) then ((b : Int) - (a : Int) + 1 - 1) / 1 else 0) else (if (a : Int) > (b : Int) then ((a : Int) - (b : Int) - 1 - 1) / (-1) else 0)).toNat).map (fun (k : Nat) => ((a : Int) + 1 * (k : Int)).toNat) = _
  rw [e]
  congr 1
  funext k
  omega
theorem strIx_eq (lo hi : Option Int) (n : Nat) : Builtin.Str.strSliceIndices lo hi 1 n = (List.range (HT.sIx n n hi - HT.sIx n 0 lo)).map (fun k => HT.sIx n 0 lo + k) := by
  rw [← sliceRange_nat]
  have c1 := clipN n 0 lo (Nat.zero_le _)
  have c2 := clipN n n hi (Nat.le_refl _)
  rw [← c1, ← c2]
  rfl
theorem pick_nat {α : Type} (l : List α) (i : Nat) : ∀ k : Nat, ((List.range k).map (fun m => i + m)).filterMap (fun j => l[j]?) = (l.drop i).take k
  | 0 => by simp
  | k + 1 => by
    rw [List.range_succ, List.map_append, List.filterMap_append, pick_nat l i k, List.take_succ, List.getElem?_drop]
    cases h : l[i + k]? with
    | none => simp [h]
    | some v => simp [h]
theorem slice_cut (z : Str) (lo hi : Option Int) : Txt.slice z lo hi = cutS z lo hi := by
  have a := HT.sIx_le z.length 0 (Nat.zero_le _) lo
  have b := HT.sIx_le z.length z.length (Nat.le_refl _) hi
  have hl : z.cps.toList.length = z.length := by simp [Str.length]
  unfold Txt.slice cutS
  rw [strIx_eq]
  have pk : ((List.range (HT.sIx z.length z.length hi - HT.sIx z.length 0 lo)).map (fun k => HT.sIx z.length 0 lo + k)).filterMap (z.cps[·]?) = (z.cps.toList.drop (HT.sIx z.length 0 lo)).take (HT.sIx z.length z.length hi - HT.sIx z.length 0 lo) := by
    rw [← pick_nat]
    congr 1
    funext j
    simp
  rw [pk]
  split
  · rename_i h
    simp only [List.length_map, List.length_range, beq_self_eq_true, Bool.true_and, beq_iff_eq] at h
    have h0 : HT.sIx z.length 0 lo = 0 := by omega
    have h1 : HT.sIx z.length z.length hi = z.length := by omega
    rw [h0, h1, Nat.sub_zero, List.drop_zero, List.take_of_length_le (by omega)]
  · rfl
def rSlS : V → Option Int → Option Int → Hp → VK → Prop := fun x lo hi H Q => ∃ z, x = .str z ∧ z.length ≤ sizeLine ∧ Q (.str (cutS z lo hi)) H
theorem sl_str : SlR X rSlS := by
  unfold SlR at *
  exact by
    intro pins s σ H x v vl vu lo hi sl Q I rx hs pl pu h
    obtain ⟨z, rfl, hz, q⟩ := h
    obtain ⟨t, rfl⟩ := rx
    have go : ∀ (l u : Option (Int × Tok)), l.map (·.1) = lo → u.map (·.1) = hi → s.heap.IsSlice sl l u none → wpAny (model X.prog X.w) X.A (getItem (.str z t) (.ref sl)) (EP X pins σ Q) X.xe s := fun l u e1 e2 hS => by
      refine wpAny_getItem_str_slice (st := none) hS rfl ?_
      unfold sliceMade slicePicked
      rw [e1, e2]
      show (if ((1 : Int) == 1 && (Builtin.Str.strSliceIndices lo hi 1 z.length).length == z.length) = true then Made.val (.str z t) else Made.str ⟨((Builtin.Str.strSliceIndices lo hi 1 z.length).filterMap (z.cps[·]?)).toArray⟩).post _ s
      refine post_val_or_str ⟨?_, fun t' k => ?_⟩
      · exact Nat.le_trans (Txt.slice_le z lo hi) hz
      · refine ⟨.str (cutS z lo hi), H, I.tok k, ⟨t', ?_⟩, q⟩
        rw [← slice_cut]
        rfl
    refine ⟨"str", _, F.slot_str_getitem.lookup, typeIs_str _ _ _, ?_⟩
    cases pl with
    | none =>
      cases pu with
      | none => exact go none none rfl rfl hs
      | int j uj => exact go none (some (j, uj)) rfl rfl hs
    | int i ui =>
      cases pu with
      | none => exact go (some (i, ui)) none rfl rfl hs
      | int j uj => exact go (some (i, ui)) (some (j, uj)) rfl rfl hs
end
inductive SeqEq (K : PySem.W.Frag) (H : Hp) (R : V → V → Bool → Prop) : V → V → Bool → Prop where
  | list {a b : Addr} {xs ys : List V} {e : Nat → Bool} (ha : SqL K H a xs) (hb : SqL K H b ys) (hl : xs.length = ys.length) (he : ∀ i x y, xs[i]? = some x → ys[i]? = some y → R x y (e i)) : SeqEq K H R (.ref a) (.ref b) ((List.range xs.length).all e)
  | listN {a b : Addr} {xs ys : List V} (ha : SqL K H a xs) (hb : SqL K H b ys) (hl : xs.length ≠ ys.length) : SeqEq K H R (.ref a) (.ref b) false
  | tup {a b : Addr} {xs ys : List V} {e : Nat → Bool} (ha : SqT K H a xs) (hb : SqT K H b ys) (he : ∀ i x y, xs[i]? = some x → ys[i]? = some y → R x y (e i)) : SeqEq K H R (.ref a) (.ref b) ((List.range (min xs.length ys.length)).all e && xs.length == ys.length)
def EqD (K : PySem.W.Frag) (H : Hp) : Nat → V → V → Bool → Prop
  | 0, x, y, b => (flatV x = true ∧ flatV y = true ∧ b = eqV x y) ∨ ∃ a, x = .ref a ∧ y = .ref a ∧ b = true
  | n + 1, x, y, b => ((flatV x = true ∧ flatV y = true ∧ b = eqV x y) ∨ ∃ a, x = .ref a ∧ y = .ref a ∧ b = true) ∨ SeqEq K H (EqD K H n) x y b
theorem eqV_self {x : V} (h : flatV x = true) : eqV x x = true := by
  cases x <;> simp_all [flatV, eqV]
section
variable {X : Cx} {pins : List (Addr × Obj)} {σ : St} {H : Hp} {s : Shared}
theorem all_range {n : Nat} {e : Nat → Bool} (h : ∀ i, i < n → e i = true) : (List.range n).all e = true := by
  rw [List.all_eq_true]
  exact fun i hi => h i (List.mem_range.mp hi)
theorem EqD.self (I : Inv X pins σ H s) : ∀ {n : Nat} {x : V} {b : Bool}, EqD X.K H n x x b → b = true := by
  intro n
  induction n with
  | zero =>
    intro x b h
    rcases h with ⟨h1, _, h2⟩ | ⟨_, _, _, h⟩
    · rw [h2]; exact eqV_self h1
    · exact h
  | succ n ih =>
    intro x b h
    rcases h with (⟨h1, _, h2⟩ | ⟨_, _, _, h⟩) | h
    · rw [h2]; exact eqV_self h1
    · exact h
    · cases h with
      | @list a _ xs ys e ha hb hl he =>
        have q := I.list_inj ha hb
        subst q
        exact all_range fun i hi => ih (he i xs[i] xs[i] (by simp [hi]) (by simp [hi]))
      | listN ha hb hl => exact absurd (congrArg List.length (I.list_inj ha hb)) hl
      | @tup a _ xs ys e ha hb he =>
        have q := I.tuple_inj ha hb
        subst q
        rw [Nat.min_self, all_range fun i hi => ih (he i xs[i] xs[i] (by simp [hi]) (by simp [hi]))]
        simp
theorem SeqEq.rc {A : Around} {R : V → V → Bool → Prop} {x y : V} {b : Bool} {u v : Value} (I : Inv X pins σ H s) (h : SeqEq X.K H R x y b) (rx : RelV x u) (ry : RelV y v) (hu : A.units < cLine)
    (hR : ∀ x y b u v, R x y b → RelV x u → RelV y v → SeqAt.EqAt A.in1 s u v b) : SeqAt.RcAt A s u v b := by
  cases h with
  | @list a c xs ys e ha hb hl he =>
    cases rx; cases ry
    obtain ⟨its, r1, p1, z1⟩ := I.list ha
    obtain ⟨jts, r2, p2, z2⟩ := I.list hb
    have l1 := r1.length
    have l2 := r2.length
    have q := SeqAt.RcAt.lists (A := A) (s := s) (e := e) p1.isList p2.isList (by simp only [List.size_toArray]; omega) hu fun j h1 h2 => ?_
    · rw [List.size_toArray, ← l1] at q
      exact q
    · simp only [List.size_toArray] at h1 h2
      have g1 : xs[j]? = some xs[j] := by simp
      have g2 : ys[j]? = some ys[j] := by simp
      obtain ⟨w1, k1, rr1⟩ := r1.get g1
      obtain ⟨w2, k2, rr2⟩ := r2.get g2
      have e1 : its.toArray[j] = w1 := by
        have := List.getElem?_eq_some_iff.mp k1
        obtain ⟨_, this⟩ := this
        simpa using this
      have e2 : jts.toArray[j] = w2 := by
        have := List.getElem?_eq_some_iff.mp k2
        obtain ⟨_, this⟩ := this
        simpa using this
      rw [e1, e2]
      exact hR _ _ _ _ _ (he j _ _ g1 g2) rr1 rr2
  | @listN a c xs ys ha hb hl =>
    cases rx; cases ry
    obtain ⟨its, r1, p1, z1⟩ := I.list ha
    obtain ⟨jts, r2, p2, z2⟩ := I.list hb
    have l1 := r1.length
    have l2 := r2.length
    exact SeqAt.RcAt.lists_lengths p1.isList p2.isList (by simp only [List.size_toArray, bne_iff_ne]; omega) hu
  | @tup a c xs ys e ha hb he =>
    cases rx; cases ry
    obtain ⟨its, r1, p1, z1⟩ := I.tuple ha
    obtain ⟨jts, r2, p2, z2⟩ := I.tuple hb
    have l1 := r1.length
    have l2 := r2.length
    have q := SeqAt.RcAt.tuples (A := A) (s := s) (e := e) p1 p2 hu fun j h1 h2 => ?_
    · rw [List.size_toArray, List.size_toArray, ← l1, ← l2] at q
      exact q
    · simp only [List.size_toArray] at h1 h2
      have g1 : xs[j]? = some xs[j] := by simp
      have g2 : ys[j]? = some ys[j] := by simp
      obtain ⟨w1, k1, rr1⟩ := r1.get g1
      obtain ⟨w2, k2, rr2⟩ := r2.get g2
      have e1 : its.toArray[j] = w1 := by
        have := List.getElem?_eq_some_iff.mp k1
        obtain ⟨_, this⟩ := this
        simpa using this
      have e2 : jts.toArray[j] = w2 := by
        have := List.getElem?_eq_some_iff.mp k2
        obtain ⟨_, this⟩ := this
        simpa using this
      rw [e1, e2]
      exact hR _ _ _ _ _ (he j _ _ g1 g2) rr1 rr2
theorem SeqEq.rcNe {A : Around} {R : V → V → Bool → Prop} {x y : V} {b : Bool} {u v : Value} (I : Inv X pins σ H s) (h : SeqEq X.K H R x y b) (rx : RelV x u) (ry : RelV y v) (hu : A.units < cLine)
    (hR : ∀ x y b u v, R x y b → RelV x u → RelV y v → SeqAt.EqAt A.in1 s u v b) : SeqAt.RcNeAt A s u v (!b) := by
  cases h with
  | @list a c xs ys e ha hb hl he =>
    cases rx; cases ry
    obtain ⟨its, r1, p1, z1⟩ := I.list ha
    obtain ⟨jts, r2, p2, z2⟩ := I.list hb
    have l1 := r1.length
    have l2 := r2.length
    have q := SeqAt.RcNeAt.lists (A := A) (s := s) (e := e) p1.isList p2.isList (by simp only [List.size_toArray]; omega) hu fun j h1 h2 => ?_
    · rw [List.size_toArray, ← l1] at q
      exact q
    · simp only [List.size_toArray] at h1 h2
      have g1 : xs[j]? = some xs[j] := by simp
      have g2 : ys[j]? = some ys[j] := by simp
      obtain ⟨w1, k1, rr1⟩ := r1.get g1
      obtain ⟨w2, k2, rr2⟩ := r2.get g2
      have e1 : its.toArray[j] = w1 := by
        have := List.getElem?_eq_some_iff.mp k1
        obtain ⟨_, this⟩ := this
        simpa using this
      have e2 : jts.toArray[j] = w2 := by
        have := List.getElem?_eq_some_iff.mp k2
        obtain ⟨_, this⟩ := this
        simpa using this
      rw [e1, e2]
      exact hR _ _ _ _ _ (he j _ _ g1 g2) rr1 rr2
  | @listN a c xs ys ha hb hl =>
    cases rx; cases ry
    obtain ⟨its, r1, p1, z1⟩ := I.list ha
    obtain ⟨jts, r2, p2, z2⟩ := I.list hb
    have l1 := r1.length
    have l2 := r2.length
    exact SeqAt.RcNeAt.lists_lengths p1.isList p2.isList (by simp only [List.size_toArray, bne_iff_ne]; omega) hu
  | @tup a c xs ys e ha hb he =>
    cases rx; cases ry
    obtain ⟨its, r1, p1, z1⟩ := I.tuple ha
    obtain ⟨jts, r2, p2, z2⟩ := I.tuple hb
    have l1 := r1.length
    have l2 := r2.length
    have q := SeqAt.RcNeAt.tuples (A := A) (s := s) (e := e) p1 p2 hu fun j h1 h2 => ?_
    · rw [List.size_toArray, List.size_toArray, ← l1, ← l2] at q
      exact q
    · simp only [List.size_toArray] at h1 h2
      have g1 : xs[j]? = some xs[j] := by simp
      have g2 : ys[j]? = some ys[j] := by simp
      obtain ⟨w1, k1, rr1⟩ := r1.get g1
      obtain ⟨w2, k2, rr2⟩ := r2.get g2
      have e1 : its.toArray[j] = w1 := by
        have := List.getElem?_eq_some_iff.mp k1
        obtain ⟨_, this⟩ := this
        simpa using this
      have e2 : jts.toArray[j] = w2 := by
        have := List.getElem?_eq_some_iff.mp k2
        obtain ⟨_, this⟩ := this
        simpa using this
      rw [e1, e2]
      exact hR _ _ _ _ _ (he j _ _ g1 g2) rr1 rr2
theorem EqD.at (I : Inv X pins σ H s) : ∀ (n : Nat) (A : Around) (x y : V) (b : Bool) (u v : Value), A.units + n < cLine → EqD X.K H n x y b → RelV x u → RelV y v → SeqAt.EqAt A s u v b := by
  intro n
  induction n with
  | zero =>
    intro A x y b u v hu h rx ry
    rcases h with ⟨h1, h2, rfl⟩ | ⟨a, rfl, rfl, rfl⟩
    · exact eqAt_V rx ry h1 h2
    · cases rx; cases ry
      exact SeqAt.EqAt.same _
  | succ n ih =>
    intro A x y b u v hu h rx ry
    rcases h with (⟨h1, h2, rfl⟩ | ⟨a, rfl, rfl, rfl⟩) | h
    · exact eqAt_V rx ry h1 h2
    · cases rx; cases ry
      exact SeqAt.EqAt.same _
    · have rc := SeqEq.rc (A := A) I h rx ry (by omega) fun x y b u v hd r1 r2 => ih A.in1 x y b u v (by show A.units + 1 + n < cLine; omega) hd r1 r2
      have refs : ∃ a c, x = .ref a ∧ y = .ref c := by cases h <;> exact ⟨_, _, rfl, rfl⟩
      obtain ⟨a, c, rfl, rfl⟩ := refs
      cases rx; cases ry
      by_cases hac : a = c
      · subst hac
        have hb : b = true := EqD.self (n := n + 1) I (.inr h)
        subst hb
        exact SeqAt.EqAt.same _
      · exact SeqAt.EqAt.of_refs hac rc
def rEqD (K : PySem.W.Frag) (neg : Bool) : R2 := fun x y H Q => ∃ n b, n ≤ 60 ∧ SeqEq K H (EqD K H n) x y b ∧ Q (.bl (if neg then !b else b)) H
theorem op_eqD (hu : X.A.units + 62 < cLine) : OpR X (compareOp .Eq) (rEqD X.K false) := by
  unfold OpR at *
  exact by
    intro pins s σ H x y v u Q I rx ry h
    obtain ⟨n, b, hn, he, q⟩ := h
    exact SeqEq.rc (A := X.A) I he rx ry (by omega) (fun x y b u v hd r1 r2 => EqD.at I n X.A.in1 x y b u v (by show X.A.units + 1 + n < cLine; omega) hd r1 r2) X.prog X.w _ _ (fin_bl I q rfl)
theorem op_neD (hu : X.A.units + 62 < cLine) : OpR X (compareOp .NotEq) (rEqD X.K true) := by
  unfold OpR at *
  exact by
    intro pins s σ H x y v u Q I rx ry h
    obtain ⟨n, b, hn, he, q⟩ := h
    exact SeqEq.rcNe (A := X.A) I he rx ry (by omega) (fun x y b u v hd r1 r2 => EqD.at I n X.A.in1 x y b u v (by show X.A.units + 1 + n < cLine; omega) hd r1 r2) X.prog X.w _ _ (fin_bl I q rfl)
def eqL : List V → List V → Bool
  | [], [] => true
  | x :: xs, y :: ys => eqV x y && eqL xs ys
  | _, _ => false
end
theorem eqL_range : ∀ {xs ys : List V}, xs.length = ys.length → (List.range xs.length).all (fun i => eqV (xs.getD i .non) (ys.getD i .non)) = eqL xs ys
  | [], [], _ => rfl
  | x :: xs, y :: ys, h => by
    have h' : xs.length = ys.length := by simpa using h
    rw [List.length_cons, List.range_succ_eq_map, List.all_cons, List.all_map, eqL, ← eqL_range h']
    rfl
  | [], _ :: _, h => by simp at h
  | _ :: _, [], h => by simp at h
theorem eqL_len : ∀ {xs ys : List V}, xs.length ≠ ys.length → eqL xs ys = false
  | [], [], h => absurd rfl h
  | x :: xs, y :: ys, h => by
    rw [eqL, eqL_len (xs := xs) (ys := ys) (by simpa using h), Bool.and_false]
  | [], _ :: _, _ => rfl
  | _ :: _, [], _ => rfl
theorem SeqEq.flatL {K : PySem.W.Frag} {H : Hp} {n : Nat} {a b : Addr} {xs ys : List V} (ha : SqL K H a xs) (hb : SqL K H b ys) (fx : xs.all flatV = true) (fy : ys.all flatV = true) : SeqEq K H (EqD K H n) (.ref a) (.ref b) (eqL xs ys) := by
  by_cases hl : xs.length = ys.length
  · rw [← eqL_range hl]
    refine .list ha hb hl fun i x y hx hy => ?_
    have q : (flatV x = true ∧ flatV y = true ∧ eqV (xs.getD i .non) (ys.getD i .non) = eqV x y) := by
      refine ⟨List.all_eq_true.mp fx x (List.mem_of_getElem? hx), List.all_eq_true.mp fy y (List.mem_of_getElem? hy), ?_⟩
      rw [List.getD_eq_getElem?_getD, List.getD_eq_getElem?_getD, hx, hy]
      rfl
    cases n with
    | zero => exact .inl q
    | succ n => exact .inl (.inl q)
  · rw [eqL_len hl]
    exact .listN ha hb hl
theorem SeqEq.flatT {K : PySem.W.Frag} {H : Hp} {n : Nat} {a b : Addr} {xs ys : List V} (ha : SqT K H a xs) (hb : SqT K H b ys) (hl : xs.length = ys.length) (fx : xs.all flatV = true) (fy : ys.all flatV = true) : SeqEq K H (EqD K H n) (.ref a) (.ref b) (eqL xs ys) := by
  have q := SeqEq.tup (K := K) (H := H) (R := EqD K H n) (e := fun i => eqV (xs.getD i .non) (ys.getD i .non)) ha hb fun i x y hx hy => ?_
  · rw [← hl, Nat.min_self, eqL_range hl] at q
    simpa using q
  · have q : (flatV x = true ∧ flatV y = true ∧ eqV (xs.getD i .non) (ys.getD i .non) = eqV x y) := by
      refine ⟨List.all_eq_true.mp fx x (List.mem_of_getElem? hx), List.all_eq_true.mp fy y (List.mem_of_getElem? hy), ?_⟩
      rw [List.getD_eq_getElem?_getD, List.getD_eq_getElem?_getD, hx, hy]
      rfl
    cases n with
    | zero => exact .inl q
    | succ n => exact .inl (.inl q)
end L2
namespace L2
open PySem PySem.Spec PyProof.Rows
theorem sqT_of {K : PySem.W.Frag} {H : Hp} {a : Addr} {o : Obj} {xs : List V} {its : Array Value} {n : Nat} (hk : K.lookup a = some o) (hc : o.cls = .type "tuple") (ho : o.data = .seq its n) (hz : its.size ≤ sizeLine) (hv : Vals xs its.toList) : SqT K H a xs :=
  .inr ⟨o, its, n, hk, hc, ho, hz, hv⟩
def EntryIs (w : World) (p : Str × V) (e : DictEntry) : Prop := e.hash = PyData.keyHash w.params p.1 ∧ (∃ t, e.key = .str p.1 t) ∧ RelV p.2 e.val
structure KDict (w : World) (K : PySem.W.Frag) (a : Addr) (kvs : List (Str × V)) : Prop where
  ex : ∃ (es : List DictEntry) (ep : Nat), K.lookup a = some ⟨.type "dict", none, .dict es.toArray ep, #[]⟩ ∧ Paired (EntryIs w) kvs es
  nd : (kvs.map (·.1)).Nodup
theorem KDict.pairs {P : Program} {w : World} : ∀ {kvs : List (Str × V)} {es : List DictEntry}, Paired (EntryIs w) kvs es → ∃ vs : List (Key × Value), Pairs (mixKind P w) es vs ∧ KV (kvs.map fun p => ((Sum.inr p.1 : Key), p.2)) vs ∧ vs.map (·.1) = kvs.map fun p => (Sum.inr p.1 : Key)
  | _, _, .nil => ⟨[], .nil, .nil, rfl⟩
  | (x, v) :: r, e :: es, .cons ⟨h1, ⟨t, h2⟩, h3⟩ hr => by
    obtain ⟨vs, p1, p2, p3⟩ := KDict.pairs (P := P) hr
    refine ⟨((Sum.inr x : Key), e.val) :: vs, ?_, .cons ⟨rfl, h3⟩ p2, by rw [List.map_cons, p3]; rfl⟩
    refine .cons ?_ rfl p1
    show keyIs (.inr x) e.key = true
    rw [h2]
    exact keyIs_str x t
theorem KDict.keysOf {P : Program} {w : World} : ∀ {kvs : List (Str × V)} {es : List DictEntry}, Paired (EntryIs w) kvs es → ∀ e ∈ es, ∃ k, (mixKind P w).is k e.key = true ∧ e.hash = (mixKind P w).hash k
  | _, _, .nil, e, h => by simp at h
  | (x, v) :: r, e :: es, .cons ⟨h1, ⟨t, h2⟩, h3⟩ hr, e', h => by
    rcases List.mem_cons.mp h with q | q
    · subst q
      refine ⟨.inr x, ?_, h1⟩
      show keyIs (.inr x) e'.key = true
      rw [h2]
      exact keyIs_str x t
    · exact KDict.keysOf hr e' q
theorem KDict.dictOf {P : Program} {w : World} {K : PySem.W.Frag} {a : Addr} {kvs : List (Str × V)} {h : Heap} (D : KDict w K a kvs) (X : K.In h) : ∃ vs, KV (kvs.map fun p => ((Sum.inr p.1 : Key), p.2)) vs ∧ h.DictOf (mixKind P w) a vs := by
  obtain ⟨es, ep, hk, hp⟩ := D.ex
  obtain ⟨vs, p1, p2, p3⟩ := KDict.pairs (P := P) hp
  refine ⟨vs, p2, _, es.toArray, ep, X _ _ hk, ⟨rfl, rfl, rfl⟩, rfl, fun e he => KDict.keysOf hp e (by simpa using he), by simpa using p1, ?_⟩
  rw [p3]
  have nd := D.nd
  rw [List.nodup_iff_pairwise_ne, List.pairwise_map] at nd ⊢
  exact nd.imp fun h e => h (Sum.inr.inj e)
def rKGet (w : World) (K : PySem.W.Frag) : R2 := fun x y H Q => ∃ a kvs z v, x = .ref a ∧ y = .str z ∧ KDict w K a kvs ∧ kvs.lookup z = some v ∧ Q v H
theorem valV_str {kvs : List (Str × V)} {z : Str} : valV (kvs.map fun p => ((Sum.inr p.1 : Key), p.2)) (Sum.inr z) = kvs.lookup z := by
  unfold valV
  induction kvs with
  | nil => rfl
  | cons p r ih =>
    obtain ⟨k, v⟩ := p
    rw [List.map_cons, List.find?_cons, List.lookup_cons]
    by_cases e : k = z
    · subst e
      simp
    · have h1 : decide ((Sum.inr k : Key) = Sum.inr z) = false := by simpa using e
      have h2 : (z == k) = false := by simpa using fun q => e q.symm
      rw [h1, h2]
      exact ih
theorem ix_kdict {X : Cx} : IxR X (rKGet X.w X.K) := by
  unfold IxR at *
  exact by
    intro value slice pins s σ H x y v u Q I rx ry h hs
    obtain ⟨a, kvs, z, r, rfl, rfl, D, hl, q⟩ := h
    cases rx
    have ry' : RelV (kV (Sum.inr z)) u := ry
    obtain ⟨vs, rel, dd⟩ := D.dictOf (P := X.prog) I.kIn
    obtain ⟨w', hw, rw'⟩ := RelO.some_of (v := r) (o := valueAt vs (Sum.inr z)) (by
      have q := rel.val (Sum.inr z)
      rw [valV_str, hl] at q
      exact q)
    refine tail_any dd.mapOf.typeIs PySem.F.slot_dict_getitem.lookup ?_ hs
    exact wpAny_getItem_of (kV_is ry') dd.mapOf hw ⟨r, H, I.tok _, rw', q⟩
end L2
namespace L2
open PySem PySem.Spec PyProof.Rows
def strKeysB (es : Array DictEntry) : Bool := es.all fun e => match e.key with | .str _ _ => true | _ => false
theorem strKeys_of {es : Array DictEntry} (h : strKeysB es = true) : StrKeys es := by
  intro e he
  have q := Array.all_eq_true_iff_forall_mem.mp h e he
  split at q
  · rename_i n t hk
    exact ⟨n, t, hk⟩
  · cases q
theorem XCls.mk2 {K : PySem.W.Frag} {C N A : Addr} {nm q : Str} {bs : List Value} {hdct : Bool} {sn : List Str} {sub : List Value} {ab : Bool} {col : Option Bool} {dd : Option Addr} {k0 k1 k2 k3 k5 : Option Value} {es : Array DictEntry} {c d ep sl}
    {c0 : Value} {dd' : Option Addr} {cd : ClassData} {sl0 : Array (Option Value)} {es' : Array DictEntry} {c' d' ep' sl'}
    (l : K.lookup C = some (excClassObj nm q C N bs (.ref A :: vmro) hdct sn sub ab col dd k0 k1 k2 k3 k5 "ValueError.__new__")) (ln : K.lookup N = some ⟨c, d, .dict es ep, sl⟩) (sk : strKeysB es = true) (ni : nsFind es "__init__" = none)
    (la : K.lookup A = some { cls := c0, dict := dd', data := .cls cd, slots := sl0 }) (lna : K.lookup cd.ns = some ⟨c', d', .dict es' ep', sl'⟩) (ska : strKeysB es' = true) (nia : nsFind es' "__init__" = none) : XCls K C :=
  ⟨nm, q, N, bs, _, hdct, sn, sub, ab, col, dd, k0, k1, k2, k3, k5, es, l, ⟨c, d, ep, sl, ln, strKeys_of sk⟩, ni, .own la ⟨c', d', ep', sl', lna, strKeys_of ska⟩ nia .base⟩
theorem hu62 {A : Around} {k : Nat} (hr : Room k A) : A.units + 62 < cLine := by have := hr.un; omega
theorem cap_nil {X : Cx} {scope : Scope} {N' : List Str} {js : List (Option Nat)} (hl : js.length = N'.length) (h : js.all Option.isNone = true) : Cap X scope N' js :=
  ⟨hl, fun i j x h1 _ => by
    have q := List.all_eq_true.mp h _ (List.mem_of_getElem? h1)
    cases q⟩
theorem free_nil {X : Cx} {scope : Scope} (h : (scope.names.all fun y => match y.2 with | .free => false | _ => true) = true) : ∀ y ∈ scope.names, y.2 = .free → (X.env.kindOf y.1 = some .cell ∨ X.env.kindOf y.1 = some .free) := fun y hy e => by
  have q := List.all_eq_true.mp h y hy
  rw [e] at q
  cases q
theorem rIsiA.exc {K : PySem.W.Frag} {H : Hp} {e C c : Addr} {b : Bool} {Q : VK} (h : H e = some (exO (.ref C) none e)) (q : XAsk K C) (k : PySem.W.kitOne K (.ref C) (.ref c) = some b) (hQ : Q (.bl b) H) : rIsiA K [.ref e, .ref c] H Q :=
  .inr ⟨e, .ref c, .ref c, C, b, rfl, .own c, h, q, k, hQ⟩
theorem rIsiA.excT {K : PySem.W.Frag} {H : Hp} {e C : Addr} {c : String} {b : Bool} {Q : VK} (h : H e = some (exO (.ref C) none e)) (q : XAsk K C) (k : PySem.W.kitOne K (.ref C) (.type c) = some b) (hQ : Q (.bl b) H) : rIsiA K [.ref e, .ty c] H Q :=
  .inr ⟨e, .ty c, .type c, C, b, rfl, .ty c, h, q, k, hQ⟩
theorem passE0 {P : Program} {w : World} {X : Cx} : PassesS (CXx P w) X (fun _ => E0) := by
  intro pins σ H s e s' I h
  obtain ⟨_, _, _, _, _, _, _, _, _, _, _, _, _, _, _, _, _, h⟩ := h
  exact h.elim
end L2
namespace L2
open PySem PySem.Spec PyProof.Rows
structure FunD (K : PySem.W.Frag) (x qual : Str) (st : Stmt) (dV : Value) (f : Addr) (fd : FuncData) : Prop where
  ex : ∃ (oc : Value) (od : Option Addr) (kV doc pm : Value) (an : Option Addr) (cdv ct : Value) (osl : Array (Option Value)),
    fd = PySem.W.fnOf x qual (defArgs st) (defBody st) (defScope st) dV kV doc pm an cdv ct ∧ K.lookup f = some ⟨oc, od, .func fd, osl⟩ ∧ PySem.W.codeIn K cdv qual = true
  kp : PySem.W.keepIn K (.ref f) = true
theorem FunD.okx {P : Program} {w : World} {K : PySem.W.Frag} {mg : Str → Option Value} {base : Heap} {x qual : Str} {st : Stmt} {dV : Value} {f : Addr} {fd : FuncData} {N ps : List Str} {k : Nat} {sp : Sp} (F : FunD K x qual st dV f fd) (S : FnScope N ps (defScope st)) (len : ∀ vs H Q E, sp vs H Q E → vs.length = ps.length)
    (hbody : ∀ (cdv : Value) (A : Around) (outer : List Env) (s : Shared) (H : Hp) (vs : List V) (Q : VK) (E : XK), Room k (A.deeper (envOfC qual (defScope st) s.heap.objs.size f cdv)) → sp vs H Q E →
      ∃ t, PSs (cxOf (CXx P w) P w K mg base N qual (defScope st) f cdv A outer s H E) (defBody st) t ∧ t { nx := fun _ H' => Q .non H', rt := Q } (start N vs) H) : FnOk P w K mg base (CXx P w) (k + 1) f fd ps sp := by
  obtain ⟨oc, od, kV, doc, pm, an, cdv, ct, osl, rfl, lk, hcd⟩ := F.ex
  exact fn_of lk hcd S len fun A outer s H vs Q E hr hsp => hbody cdv A outer s H vs Q E hr hsp
theorem funD_mk {K : PySem.W.Frag} {x qual : Str} {st : Stmt} {dV : Value} {f : Addr} {oc : Value} {od an : Option Addr} {osl : Array (Option Value)} {kV doc pm cdv ct : Value} (l : K.lookup f = some ⟨oc, od, .func (PySem.W.fnOf x qual (defArgs st) (defBody st) (defScope st) dV kV doc pm an cdv ct), osl⟩)
    (hc : PySem.W.codeIn K cdv qual = true) (kp : PySem.W.keepIn K (.ref f) = true) : FunD K x qual st dV f (PySem.W.fnOf x qual (defArgs st) (defBody st) (defScope st) dV kV doc pm an cdv ct) := ⟨⟨oc, od, kV, doc, pm, an, cdv, ct, osl, rfl, l, hc⟩, kp⟩
structure MkBinds (K : PySem.W.Frag) (fd : FuncData) (ps ks : List Str) (na : Nat) (g : List Value → List Value → List Value) (gV : List V → List V → List V) : Prop where
  to : ∀ (s : Shared) (x : Value) (us ws : List Value), K.In s.heap → us.length = na → ws.length = ks.length → BindsTo s fd ⟨x :: us, ks.zip ws⟩ (ps.zip (x :: g us ws)) ∧ (x :: g us ws).length = ps.length
  rel : ∀ {vs : List V} {us : List Value} {zs : List V} {ws : List Value}, Vals vs us → Vals zs ws → Vals (gV vs zs) (g us ws)
theorem MkBinds.ofD {K : PySem.W.Frag} {x qual : Str} {st : Stmt} {T f : Addr} {fd : FuncData} {ps ks : List Str} {na : Nat} {g : List Value → List Value → List Value} {gV : List V → List V → List V} {o : Obj} {items : Array Value} {n : Nat}
    (F : FunD K x qual st (.ref T) f fd) (hT : K.lookup T = some o) (hs : o.data = .seq items n) (hrel : ∀ {vs : List V} {us : List Value} {zs : List V} {ws : List Value}, Vals vs us → Vals zs ws → Vals (gV vs zs) (g us ws))
    (h : ∀ (kV doc pm : Value) (an : Option Addr) (cdv ct : Value) (y : Value) (us ws : List Value), us.length = na → ws.length = ks.length →
      (∃ k, bindArgs (PySem.W.fnOf x qual (defArgs st) (defBody st) (defScope st) (.ref T) kV doc pm an cdv ct) ⟨y :: us, ks.zip ws⟩ = seqItems? (.ref T) >>= k ∧ k (some items) = pure (ps.zip (y :: g us ws))) ∧ (y :: g us ws).length = ps.length) : MkBinds K fd ps ks na g gV := by
  obtain ⟨oc, od, kV, doc, pm, an, cdv, ct, osl, rfl, lk, hcd⟩ := F.ex
  refine ⟨fun s y us ws X h1 h2 => ?_, hrel⟩
  obtain ⟨⟨k, e1, e2⟩, e3⟩ := h kV doc pm an cdv ct y us ws h1 h2
  exact ⟨.of_defaults rfl (X _ _ hT) hs e1 e2, e3⟩
def tMakeS (C : Addr) (sp : Sp) (na nk : Nat) (gV : List V → List V → List V) (Ez : St → XK) (t tk : TA) : TE := fun σ H Q => t σ H fun vs H1 => tk σ H1 fun zs H2 => vs.length = na ∧ zs.length = nk ∧
  ∀ x dx, H2 x = none → H2 dx = none → dx ≠ x → sp (.ref x :: gV vs zs) (upd (upd H2 dx (.own x)) x (.ins C dx [])) (fun v H3 => v = .non ∧ Q (.ref x) H3) (Ez σ)
section
variable {X : Cx} {CX : CXT} {k : Nat} {f C : Addr} {fd : FuncData} {ps ks : List Str} {sp : Sp} {Ez : St → XK} {x : Str} {p pos : Pos} {e : Expr} {es : List Expr} {kws : List Keyword} {t tk : TA} {na : Nat} {g : List Value → List Value → List Value} {gV : List V → List V → List V}
theorem run_makeS {pins : List (Addr × Obj)} {σ : St} {H : Hp} {s : Shared} {Q : VK} {us ws : List Value} {vs zs : List V} (M : Mk X.K C f) (F : FnOk X.prog X.w X.K X.mg X.base CX k f fd ps sp) (hr : Room (k + 1) X.A) (hb : MkBinds X.K fd ps ks na g gV)
    (hx : PassesS CX X Ez) (I : Inv X pins σ H s) (r : Vals vs us) (rz : Vals zs ws) (hna : vs.length = na) (hnk : zs.length = ks.length)
    (h : ∀ x dx, H x = none → H dx = none → dx ≠ x → sp (.ref x :: gV vs zs) (upd (upd H dx (.own x)) x (.ins C dx [])) (fun v H2 => v = .non ∧ Q (.ref x) H2) (Ez σ)) :
    wpAny (model X.prog X.w) X.A (call (.ref C) us (ks.zip ws)) (EP X pins σ Q) X.xe s := by
  have hq := h (s.heap.objs.size + 1) s.heap.objs.size (I.hok.fresh (Nat.le_succ _)) (I.hok.fresh (Nat.le_refl _)) (Nat.ne_of_lt (Nat.lt_succ_self _))
  have I2 := Inv.made (C := C) I
  have r2 : Vals (V.ref (s.heap.objs.size + 1) :: gV vs zs) (Value.ref (s.heap.objs.size + 1) :: g us ws) := .cons rfl (hb.rel r rz)
  obtain ⟨hto, hl⟩ := hb.to { s with heap := (s.heap.push PySem.W.emptyDict).push (PySem.W.instObj C s.heap.objs.size) } (Value.ref (s.heap.objs.size + 1)) us ws I2.kIn (by rw [← r.length]; exact hna) (by rw [← rz.length]; exact hnk)
  refine wpAny_call (make_map (f := f) I.kIn M.makes M.init (beq_iff_eq.mp M.fn) (codeAny_mono (F.run _ X.stack _ _ ⟨Value.ref (s.heap.objs.size + 1) :: us, ks.zip ws⟩ (Value.ref (s.heap.objs.size + 1) :: g us ws) _ _ (Ez σ) (hr.make C us (ks.zip ws))
    (I2.env0.make C us (ks.zip ws)) hto r2 hq) fun r s' hq' => ?_))
  cases r with
  | error e => exact hx pins σ _ _ e s' I2 hq'
  | ok fl =>
    cases fl with
    | ret u =>
      obtain ⟨v, H', I3, rv, ev, q3⟩ := I2.after hq'
      subst ev
      exact ⟨rv, ⟨V.ref (s.heap.objs.size + 1), H', I3, rfl, q3⟩⟩
    | next => exact False.elim hq'
    | brk => exact False.elim hq'
    | cont => exact False.elim hq'
theorem pe_makeS (M : Mk X.K C f) (F : FnOk X.prog X.w X.K X.mg X.base CX k f fd ps sp) (hr : Room (k + 1) X.A) (hg : Gl X x) (hm : X.mg x = some (.ref C)) (hb : MkBinds X.K fd ps ks na g gV) (hx : PassesS CX X Ez)
    (ha : PA X (e :: es) t) (hkw : PK X kws tk) (hall : (backToKw pos (keywordEach kws X.env)).all (·.1.isSome) = true := by rfl) (hks : (backToKw pos (keywordEach kws X.env)).filterMap (·.1) = ks := by rfl)
    (hdb : (x == ("__debug__" : Str)) = false := by decide) (he : starEach (e :: es) X.env = (false, eval e X.env) :: starEach es X.env := by rfl)
    (hpl : ((backTo pos (starEach (e :: es) X.env)).any (·.1) || (backToKw pos (keywordEach kws X.env)).any (·.1.isNone)) = false := by rfl) :
    PE X (.Call (.Name x p) (e :: es) kws pos) (tMakeS C sp na ks.length gV Ez t tk) := by
  unfold PE at *; unfold PA at *; unfold PK at *
  exact by
    intro pins s σ H Q I h
    refine wpAny_Call_Name_kw (ld_glob I hg hm ?_ hdb)
    refine PySem.W.callWith_KW (h₀ := X.base) I.ok.mod.kin M.kp hall (thn (ha pos pins s σ H _ I h) fun us s1 ⟨vs, H1, I1, r, q⟩ => ?_) hpl he
    refine thn (hkw pos pins s1 σ H1 _ I1 q) fun ws s2 ⟨zs, H2, I2, rz, hna, hnk, q2⟩ => ⟨I2.kIn, ?_⟩
    rw [hks]
    exact run_makeS M F hr hb hx I2 r rz hna hnk q2
end
def tCut (t u : TS) : TS := fun D σ H => ∃ Mid : St → Hp → Prop, t { D with nx := Mid } σ H ∧ ∀ σ' H', Mid σ' H' → u D σ' H'
theorem pss_cut {X : Cx} {st : Stmt} {rest : List Stmt} {t u : TS} (h1 : PS X st t) (h2 : PSs X rest u) : PSs X (st :: rest) (tCut t u) := by
  unfold PS at *; unfold PSs at *
  exact by
    intro pins s σ H D I h
    obtain ⟨Mid, h, hm⟩ := h
    refine wpAny_execs_cons (thn (h1 pins s σ H { D with nx := Mid } I h) fun f s1 q => ?_)
    cases f with
    | next =>
      obtain ⟨σ', H', I', q⟩ := q
      exact h2 pins s1 σ' H' D I' (hm σ' H' q)
    | ret v => exact q
    | brk => exact q
    | cont => exact q
theorem lenS {α : Type} {n : Nat} : ∀ {us : List α}, us.length = n + 1 → ∃ a r, us = a :: r ∧ r.length = n
  | a :: r, h => ⟨a, r, rfl, by simpa using h⟩
theorem len0 {α : Type} : ∀ {us : List α}, us.length = 0 → us = []
  | [], _ => rfl
end L2
namespace L2
open PySem PySem.Spec PyProof.Rows
section
variable {X : Cx}
theorem call_int_text : CallR X (.type "int") (fun xs H Q => ∃ z n, xs = [.str z] ∧ PySem.intText? z = some n ∧ z.length ≤ 640 ∧ Q (.int n) H) := by
  unfold CallR at *
  exact by
    intro pins s σ H xs us Q I r h
    obtain ⟨z, n, rfl, hn, hz, q⟩ := h
    obtain ⟨u, rfl, t, rfl⟩ := vals1 r
    exact PySem.W.KIN.call_text hn hz ⟨.int n, H, I.tok _, ⟨_, rfl⟩, q⟩
end
theorem digits_mono : ∀ (m v : Nat), v ≤ m → (Nat.toDigits 10 v).length ≤ (Nat.toDigits 10 m).length := by
  intro m
  induction m using Nat.strongRecOn with
  | _ m ih =>
    intro v hv
    by_cases h : v < 10
    · rw [Nat.toDigits_of_lt_base h]
      exact toDigits_len_ge 10 m
    · have t : ∀ x : Nat, 10 ≤ x → (Nat.toDigits 10 x).length = (Nat.toDigits 10 (x / 10)).length + 1 := fun x hx => by
        have hm : x % 10 < 10 := Nat.mod_lt x (by decide)
        have t : Nat.toDigits 10 (x / 10) ++ Nat.toDigits 10 (x % 10) = Nat.toDigits 10 (10 * (x / 10) + x % 10) := Nat.toDigits_append_toDigits (by decide) (by omega) hm
        rw [Nat.div_add_mod] at t
        rw [← t, List.length_append, Nat.toDigits_of_lt_base hm]
        rfl
      rw [t v (by omega), t m (by omega)]
      have := ih (m / 10) (by omega) (v / 10) (by omega)
      omega
theorem num_len {m : Int} (h : 0 ≤ m) : (Str.ofString (toString m)).length = (Nat.toDigits 10 m.toNat).length := by
  obtain ⟨n, rfl⟩ := Int.eq_ofNat_of_zero_le h
  have e := congrArg List.length (PySem.W.KIN.signs_num n)
  rw [List.length_map] at e
  rw [Int.toNat_natCast, ← e]
  exact Array.length_toList.symm
theorem digits_more {cs : List Nat} {m : Nat} (hd : NumText.AllDigits cs) (hh : cs.length = 1 ∨ ∃ c r, cs = c :: r ∧ 49 ≤ c) (hl : (Nat.toDigits 10 m).length < cs.length) : m < NumText.digitsVal cs := by
  rcases Nat.lt_or_ge m (NumText.digitsVal cs) with h | h
  · exact h
  · exfalso
    have h1 := digits_mono _ _ h
    have hp : ∃ n, cs.length = n + 1 := by
      rcases hh with h | ⟨c, r, rfl, _⟩
      · exact ⟨0, h⟩
      · exact ⟨r.length, rfl⟩
    obtain ⟨n, hn⟩ := hp
    have e := congrArg List.length (NumText.toDigits_digitsVal n cs hn hd (hh.imp (fun z => by omega) id))
    rw [List.length_map] at e
    omega
end L2
namespace L2
open PySem PySem.Spec PyProof.Rows
section
variable {X : Cx}
end
structure CDivB (i j : Int) : Prop where
  lo : 0 < j
  hi : j < 2 ^ 200
theorem MtM.r {X : Cx} {id : String} {r : V → List V → Hp → VK → Prop} (h : MtM X id r) : MtR X id r := by
  first
  | exact (h)
  | (unfold MtR at *; unfold MtM at *; exact (h))
end L2
namespace L2
open PySem PySem.Spec PyProof.Rows
theorem loop_lst {K : PySem.W.Frag} {a l : Addr} {xs : List V} {g : TG} {tc : TT} {te : TE} {σ : St} {H : Hp} {Q : VK} (Pv : Nat → St → List V → Hp → Prop) (hsz : xs.length ≤ sizeLine) (h0 : Pv 0 σ [] H)
    (hl : ∀ i σ acc H, i ≤ xs.length → Pv i σ acc H → H l = some (.lst acc) ∧ SqL K H a xs ∧ acc.length ≤ i)
    (hs : ∀ i x σ acc H, xs[i]? = some x → Pv i σ acc H → g x σ H fun σ2 H2 => tc σ2 H2 fun b H3 => if b = true then
      te σ2 H3 fun v H4 => H4 l = some (.lst acc) ∧ Nx xs.length i (Pv (i + 1) σ2 (acc ++ [v]) (upd H4 l (.lst (acc ++ [v])))) else Nx xs.length i (Pv (i + 1) σ2 acc H3))
    (hd : ∀ σ acc H, Pv xs.length σ acc H → Q (.ref l) H) : tLoop (Itl K a) l g tc te σ H Q :=
  loop_by xs.length Pv hsz h0 (fun i σ acc H hi p => ⟨(hl i σ acc H hi p).1, (hl i σ acc H hi p).2.2⟩)
    (fun i σ acc H hi p => ⟨xs, xs[i], (hl i σ acc H (Nat.le_of_lt hi) p).2.1, List.getElem?_eq_getElem hi⟩)
    (fun i x σ acc H H' hi p y => by
      obtain ⟨e, y⟩ := y
      subst e
      exact hs i x σ acc _ (y xs (hl i σ acc _ (Nat.le_of_lt hi) p).2.1) p)
    (fun σ acc H p => ⟨⟨xs, (hl _ σ acc H (Nat.le_refl _) p).2.1, Nat.le_refl _⟩, hd σ acc H p⟩)
def Tr : Nat → Type
  | 0 => Int
  | n + 1 => List (Tr n)
abbrev ls {n : Nat} (ts : Tr (n + 1)) : List (Tr n) := ts
abbrev Ow := Addr → Option (List Nat)
def AtR (H : Hp) : (n : Nat) → V → Tr n → Prop
  | 0, v, i => v = .int i
  | n + 1, v, ts => ∃ a vs, v = .ref a ∧ H a = some (.lst vs) ∧ vs.length = (ls ts).length ∧ ∀ (j : Nat) w t, vs[j]? = some w → (ls ts)[j]? = some t → AtR H n w t
def At (o : Ow) (H : Hp) : (n : Nat) → List Nat → V → Tr n → Prop
  | 0, _, v, i => v = .int i
  | n + 1, p, v, ts => ∃ a vs, v = .ref a ∧ o a = some p ∧ H a = some (.lst vs) ∧ vs.length = (ls ts).length ∧ ∀ (j : Nat) w t, vs[j]? = some w → (ls ts)[j]? = some t → At o H n (j :: p) w t
theorem At.r {o : Ow} {H : Hp} : ∀ {n : Nat} {p : List Nat} {v : V} {t : Tr n}, At o H n p v t → AtR H n v t
  | 0, _, _, _, h => h
  | n + 1, _, _, _, ⟨a, vs, e, _, h, l, k⟩ => ⟨a, vs, e, h, l, fun j w t hw ht => (k j w t hw ht).r⟩
theorem AtR.keep {H H' : Hp} (s : ∀ a xs, H a = some (.lst xs) → H' a = some (.lst xs)) : ∀ {n : Nat} {v : V} {t : Tr n}, AtR H n v t → AtR H' n v t
  | 0, _, _, h => h
  | n + 1, _, _, ⟨a, vs, e, h, l, k⟩ => ⟨a, vs, e, s _ _ h, l, fun j w t hw ht => (k j w t hw ht).keep s⟩
theorem AtR.same {H H' : Hp} (s : Same H H') {n : Nat} {v : V} {t : Tr n} (h : AtR H n v t) : AtR H' n v t := h.keep fun a xs e => s a _ e
theorem At.frame {o o' : Ow} {H H' : Hp} : ∀ {n : Nat} {p : List Nat} {v : V} {t : Tr n}, At o H n p v t → (∀ a r xs, o a = some r → p <:+ r → H a = some (.lst xs) → H' a = some (.lst xs) ∧ o' a = some r) → At o' H' n p v t
  | 0, _, _, _, h, _ => h
  | n + 1, p, _, _, ⟨a, vs, e, ho, h, l, k⟩, f =>
    have q := f a p vs ho (List.suffix_refl p) h
    ⟨a, vs, e, q.2, q.1, l, fun j w t hw ht => (k j w t hw ht).frame fun b r xs hb hs hx => f b r xs hb ((List.suffix_cons j p).trans hs) hx⟩
theorem At.under {o : Ow} {H : Hp} (q : List Nat) : ∀ {n : Nat} {p : List Nat} {v : V} {t : Tr n}, At o H n p v t → At (fun a => (o a).map (· ++ q)) H n (p ++ q) v t
  | 0, _, _, _, h => h
  | n + 1, p, _, _, ⟨a, vs, e, ho, h, l, k⟩ => ⟨a, vs, e, (by show (o a).map (· ++ q) = _; rw [ho]; rfl), h, l, fun j w t hw ht => (k j w t hw ht).under q⟩
theorem cons_not_suffix {j : Nat} {p : List Nat} : ¬ (j :: p) <:+ p := fun h => by
  have := h.length_le
  rw [List.length_cons] at this
  omega
theorem cons_ne_suffix {j i : Nat} {p r : List Nat} (h : (j :: p) <:+ r) (h' : (i :: p) <:+ r) : j = i := by
  have e1 : (j :: p) = r.drop (r.length - (j :: p).length) := List.suffix_iff_eq_drop.mp h
  have e2 : (i :: p) = r.drop (r.length - (i :: p).length) := List.suffix_iff_eq_drop.mp h'
  rw [List.length_cons] at e1 e2
  rw [← e2] at e1
  exact (List.cons.inj e1).1
theorem At.app {o o' : Ow} {H H' : Hp} {n : Nat} {p : List Nat} {a : Addr} {ts : Tr (n + 1)} {vs : List V} {w : V} {t : Tr n} (h : At o H (n + 1) p (.ref a) ts) (hv : H a = some (.lst vs)) (hf : ∀ b r xs, o b = some r → b ≠ a → H b = some (.lst xs) → H' b = some (.lst xs))
    (ho : ∀ b r, o b = some r → o' b = some r) (e : H' a = some (.lst (vs ++ [w]))) (hw : At o' H' n ((ls ts).length :: p) w t) : At o' H' (n + 1) p (.ref a) (ls ts ++ [t] : List (Tr n)) := by
  obtain ⟨a', vs', ea, ho', h', l, k⟩ := h
  cases ea
  rw [hv] at h'
  cases h'
  refine ⟨a, _, rfl, ho _ _ ho', e, by show (vs ++ [w]).length = (ls ts ++ [t]).length; rw [List.length_append, List.length_append, l]; rfl, fun j x u hx hu => ?_⟩
  have hu : (ls ts ++ [t])[j]? = some u := hu
  rcases Nat.lt_trichotomy j vs.length with q | q | q
  · rw [List.getElem?_append_left q] at hx
    rw [List.getElem?_append_left (by omega)] at hu
    refine (k j x u hx hu).frame fun b r xs hb hs hx => ?_
    have hne : b ≠ a := fun z => by
      subst z
      rw [ho'] at hb
      cases hb
      exact cons_not_suffix hs
    exact ⟨hf b r xs hb hne hx, ho b r hb⟩
  · subst q
    rw [List.getElem?_append_right (Nat.le_refl _), Nat.sub_self] at hx
    rw [List.getElem?_append_right (by omega), show vs.length - (ls ts).length = 0 by omega] at hu
    cases hx
    cases hu
    rw [l]
    exact hw
  · rw [List.getElem?_append_right (by omega)] at hx
    have : [w].length ≤ j - vs.length := by rw [List.length_singleton]; omega
    rw [List.getElem?_eq_none this] at hx
    cases hx
theorem At.put {o o' : Ow} {H H' : Hp} {n : Nat} {p : List Nat} {a : Addr} {ts : Tr (n + 1)} {vs : List V} {i : Nat} {w : V} {t : Tr n} (h : At o H (n + 1) p (.ref a) ts) (hv : H a = some (.lst vs)) (hi : i < vs.length)
    (hf : ∀ b r xs, o b = some r → b ≠ a → ¬ (i :: p) <:+ r → H b = some (.lst xs) → H' b = some (.lst xs)) (ho : ∀ b r, o b = some r → ¬ (i :: p) <:+ r → o' b = some r)
    (e : H' a = some (.lst (vs.set i w))) (hw : At o' H' n (i :: p) w t) : At o' H' (n + 1) p (.ref a) ((ls ts).set i t : List (Tr n)) := by
  obtain ⟨a', vs', ea, ho', h', l, k⟩ := h
  cases ea
  rw [hv] at h'
  cases h'
  refine ⟨a, _, rfl, ho _ _ ho' cons_not_suffix, e, by show (vs.set i w).length = ((ls ts).set i t).length; rw [List.length_set, List.length_set, l], fun j x u hx hu => ?_⟩
  have hu : ((ls ts).set i t)[j]? = some u := hu
  by_cases q : i = j
  · subst q
    rw [List.getElem?_set_self (by omega)] at hx
    rw [List.getElem?_set_self (by omega)] at hu
    cases hx
    cases hu
    exact hw
  · rw [List.getElem?_set_ne q] at hx hu
    refine (k j x u hx hu).frame fun b r xs hb hs hx => ?_
    have hne : b ≠ a := fun z => by
      subst z
      rw [ho'] at hb
      cases hb
      exact cons_not_suffix hs
    have hni : ¬ (i :: p) <:+ r := fun z => q (cons_ne_suffix z hs)
    exact ⟨hf b r xs hb hne hni hx, ho b r hb hni⟩
theorem At.lst {o : Ow} {H : Hp} {n : Nat} {p : List Nat} {v : V} {ts : Tr (n + 1)} (h : At o H (n + 1) p v ts) : ∃ a vs, v = .ref a ∧ o a = some p ∧ H a = some (.lst vs) ∧ vs.length = (ls ts).length :=
  let ⟨a, vs, e, ho, h, l, _⟩ := h
  ⟨a, vs, e, ho, h, l⟩
theorem At.kid {o : Ow} {H : Hp} {n : Nat} {p : List Nat} {a : Addr} {ts : Tr (n + 1)} {vs : List V} {j : Nat} (h : At o H (n + 1) p (.ref a) ts) (hv : H a = some (.lst vs)) (hj : j < vs.length) : ∃ w t, vs[j]? = some w ∧ (ls ts)[j]? = some t ∧ At o H n (j :: p) w t := by
  obtain ⟨a', vs', ea, ho', h', l, k⟩ := h
  cases ea
  rw [hv] at h'
  cases h'
  have h1 : vs[j]? = some vs[j] := List.getElem?_eq_getElem hj
  have hj' : j < (ls ts).length := by omega
  have h2 : (ls ts)[j]? = some (ls ts)[j] := List.getElem?_eq_getElem hj'
  exact ⟨_, _, h1, h2, k j _ _ h1 h2⟩
theorem AtR.kid {H : Hp} {n : Nat} {a : Addr} {ts : Tr (n + 1)} {vs : List V} {j : Nat} (h : AtR H (n + 1) (.ref a) ts) (hv : H a = some (.lst vs)) (hj : j < vs.length) : ∃ w t, vs[j]? = some w ∧ (ls ts)[j]? = some t ∧ AtR H n w t := by
  obtain ⟨a', vs', ea, h', l, k⟩ := h
  cases ea
  rw [hv] at h'
  cases h'
  have h1 : vs[j]? = some vs[j] := List.getElem?_eq_getElem hj
  have hj' : j < (ls ts).length := by omega
  have h2 : (ls ts)[j]? = some (ls ts)[j] := List.getElem?_eq_getElem hj'
  exact ⟨_, _, h1, h2, k j _ _ h1 h2⟩
theorem AtR.lst {H : Hp} {n : Nat} {v : V} {ts : Tr (n + 1)} (h : AtR H (n + 1) v ts) : ∃ a vs, v = .ref a ∧ H a = some (.lst vs) ∧ vs.length = (ls ts).length :=
  let ⟨a, vs, e, h, l, _⟩ := h
  ⟨a, vs, e, h, l⟩
def New (H H' : Hp) (n : Nat) (w : V) (t : Tr n) : Prop := ∃ o, At o H' n [] w t ∧ ∀ a r, o a = some r → H a = none ∧ H' a ≠ none
def NewL (H H' : Hp) (l : Addr) (n : Nat) (ws : List V) (ts : List (Tr n)) : Prop :=
  ws.length = ts.length ∧ ∃ o : Ow, (∀ (j : Nat) w t, ws[j]? = some w → ts[j]? = some t → At o H' n [j] w t) ∧ ∀ a r, o a = some r → H a = none ∧ H' a ≠ none ∧ a ≠ l ∧ r ≠ []
theorem New.r {H H' : Hp} {n : Nat} {w : V} {t : Tr n} (h : New H H' n w t) : AtR H' n w t := let ⟨_, h, _⟩ := h; h.r
theorem NewL.nil {H H' : Hp} {l : Addr} {n : Nat} : NewL H H' l n [] [] := ⟨rfl, fun _ => none, fun j w t h => (by rw [List.getElem?_nil] at h; cases h), fun a r h => nomatch h⟩
theorem NewL.frame {H H' H'' : Hp} {l : Addr} {n : Nat} {ws : List V} {ts : List (Tr n)} (h : NewL H H' l n ws ts) (f : ∀ a xs, a ≠ l → H a = none → H' a = some (.lst xs) → H'' a = some (.lst xs)) (g : ∀ a, H' a ≠ none → H'' a ≠ none) : NewL H H'' l n ws ts := by
  obtain ⟨e, o, k, d⟩ := h
  exact ⟨e, o, fun j w t hw ht => (k j w t hw ht).frame fun a r xs ho _ hx => ⟨f a xs (d a r ho).2.2.1 (d a r ho).1 hx, ho⟩, fun a r ho => ⟨(d a r ho).1, g a (d a r ho).2.1, (d a r ho).2.2⟩⟩
theorem New.frame {H H' H'' : Hp} {n : Nat} {w : V} {t : Tr n} (h : New H H' n w t) (f : ∀ a xs, H a = none → H' a = some (.lst xs) → H'' a = some (.lst xs)) (g : ∀ a, H' a ≠ none → H'' a ≠ none) : New H H'' n w t := by
  obtain ⟨o, k, d⟩ := h
  exact ⟨o, k.frame fun a r xs ho _ hx => ⟨f a xs (d a r ho).1 hx, ho⟩, fun a r ho => ⟨(d a r ho).1, g a (d a r ho).2⟩⟩
theorem New.same {H H' H'' : Hp} {n : Nat} {w : V} {t : Tr n} (h : New H H' n w t) (s : Same H' H'') : New H H'' n w t := h.frame (fun a xs _ e => s a _ e) fun a e => by
  cases q : H' a with
  | none => exact absurd q e
  | some u => rw [s a u q]; intro z; cases z
theorem New.int {H H' : Hp} {i : Int} : New H H' 0 (.int i) i := ⟨fun _ => none, rfl, fun a r h => nomatch h⟩
theorem NewL.snoc {H H' H'' : Hp} {l : Addr} {n : Nat} {ws : List V} {ts : List (Tr n)} {w : V} {t : Tr n} (h : NewL H H' l n ws ts) (hl : H' l ≠ none) (fr : ∀ a, H' a = none → H a = none) (f : ∀ a xs, a ≠ l → H a = none → H' a = some (.lst xs) → H'' a = some (.lst xs)) (g : ∀ a, H' a ≠ none → H'' a ≠ none)
    (hn : New H' H'' n w t) : NewL H H'' l n (ws ++ [w]) (ts ++ [t]) := by
  obtain ⟨e, o, k, d⟩ := h
  obtain ⟨o2, k2, d2⟩ := hn
  have old : ∀ a r, o a = some r → o2 a = none := fun a r ho => by
    cases q : o2 a with
    | none => rfl
    | some r2 => exact absurd (d2 a r2 q).1 (d a r ho).2.1
  refine ⟨by rw [List.length_append, List.length_append, e]; rfl, fun a => match o2 a with | some r => some (r ++ [ws.length]) | none => o a, fun j x u hx hu => ?_, fun a r hr => ?_⟩
  · rcases Nat.lt_trichotomy j ws.length with q | q | q
    · rw [List.getElem?_append_left q] at hx
      rw [List.getElem?_append_left (by omega)] at hu
      refine (k j x u hx hu).frame fun a r xs ho _ hx => ⟨f a xs (d a r ho).2.2.1 (d a r ho).1 hx, ?_⟩
      show (match o2 a with | some r => some (r ++ [ws.length]) | none => o a) = some r
      rw [old a r ho]
      exact ho
    · subst q
      rw [List.getElem?_append_right (Nat.le_refl _), Nat.sub_self] at hx
      rw [List.getElem?_append_right (by omega), show ws.length - ts.length = 0 by omega] at hu
      cases hx
      cases hu
      refine (k2.under [ws.length]).frame fun a r xs ho _ hx => ⟨hx, ?_⟩
      show (match o2 a with | some r => some (r ++ [ws.length]) | none => o a) = some r
      cases q : o2 a with
      | none => rw [q] at ho; cases ho
      | some r2 => rw [q] at ho; exact ho
    · rw [List.getElem?_append_right (by omega)] at hx
      have : [w].length ≤ j - ws.length := by rw [List.length_singleton]; omega
      rw [List.getElem?_eq_none this] at hx
      cases hx
  · have hr : (match o2 a with | some r => some (r ++ [ws.length]) | none => o a) = some r := hr
    cases q : o2 a with
    | none =>
      rw [q] at hr
      exact ⟨(d a r hr).1, g a (d a r hr).2.1, (d a r hr).2.2⟩
    | some r2 =>
      rw [q] at hr
      cases hr
      refine ⟨fr a (d2 a r2 q).1, (d2 a r2 q).2, fun z => ?_, fun z => ?_⟩
      · subst z
        exact hl (d2 a r2 q).1
      · have := congrArg List.length z
        rw [List.length_append] at this
        simp at this
theorem NewL.done {H H' : Hp} {l : Addr} {n : Nat} {ws : List V} {ts : List (Tr n)} (h : NewL H H' l n ws ts) (hl : H l = none) (e : H' l = some (.lst ws)) : New H H' (n + 1) (.ref l) ts := by
  obtain ⟨el, o, k, d⟩ := h
  have nl : o l = none := by
    cases q : o l with
    | none => rfl
    | some r => exact absurd rfl (d l r q).2.2.1
  refine ⟨fun a => if a = l then some [] else o a, ⟨l, ws, rfl, if_pos rfl, e, el, fun j w t hw ht => (k j w t hw ht).frame fun a r xs ho _ hx => ⟨hx, ?_⟩⟩, fun a r hr => ?_⟩
  · show (if a = l then some [] else o a) = some r
    rw [if_neg (d a r ho).2.2.1]
    exact ho
  · have hr : (if a = l then some [] else o a) = some r := hr
    by_cases q : a = l
    · subst q
      exact ⟨hl, by rw [e]; intro z; cases z⟩
    · rw [if_neg q] at hr
      exact ⟨(d a r hr).1, (d a r hr).2.1⟩
def flat : (n : Nat) → Tr n → List Int
  | 0, i => [i]
  | n + 1, ts => (ls ts).flatMap (flat n)
theorem rIsiA.ty {K : PySem.W.Frag} {H : Hp} {x : V} {n c : String} {b : Bool} {Q : VK} (t : TyOf K H x (.type n)) (k : PySem.W.kitOne K (.type n) (.type c) = some b) (q : Q (.bl b) H) : rIsiA K [x, .ty c] H Q := .inl ⟨x, .ty c, _, _, _, rfl, .ty c, t, k, q⟩
def Dom (o : Ow) (H : Hp) : Prop := ∀ b r, o b = some r → H b ≠ none
structure Ext (o o' : Ow) (H H1 : Hp) : Prop where
  old : ∀ b, H b ≠ none → o' b = o b
  new : ∀ b r, o' b = some r → H b = none → H1 b ≠ none
def ovr (H : Hp) (o oN : Ow) (q : List Nat) : Ow := fun b => match H b with | none => (oN b).map (· ++ q) | some _ => o b
theorem New.put {o : Ow} {H H1 : Hp} {n : Nat} {w : V} {t : Tr n} (nw : New H H1 n w t) (q : List Nat) : ∃ o', Ext o o' H H1 ∧ ∀ H2, (∀ b xs, H b = none → H1 b = some (.lst xs) → H2 b = some (.lst xs)) → At o' H2 n q w t := by
  obtain ⟨oN, k, d⟩ := nw
  refine ⟨ovr H o oN q, ⟨fun b hb => ?_, fun b r hr hb => ?_⟩, fun H2 f => ?_⟩
  · unfold ovr
    cases e : H b with
    | none => exact absurd e hb
    | some u => rfl
  · unfold ovr at hr
    rw [hb] at hr
    cases e : oN b with
    | none =>
      have hr : (oN b).map (· ++ q) = some r := hr
      rw [e] at hr
      cases hr
    | some r' => exact (d b r' e).2
  · refine (k.under q).frame fun b r xs hr _ hx => ?_
    have hr : (oN b).map (· ++ q) = some r := hr
    cases e : oN b with
    | none => rw [e] at hr; cases hr
    | some r' =>
      refine ⟨f b xs (d b r' e).1 hx, ?_⟩
      unfold ovr
      rw [(d b r' e).1]
      exact hr
theorem Ext.after {o o' : Ow} {H H1 : Hp} {c : Addr} {u : HO} (x : Ext o o' H H1) (dm : Dom o H) (s : Same H H1) : Dom o' (upd H1 c u) := fun b r hr => by
  by_cases q : b = c
  · rw [q, upd_same]; intro z; cases z
  · rw [upd_ne q]
    cases e : H b with
    | none => exact x.new b r hr e
    | some v => rw [s b v e]; intro z; cases z
end L2
namespace L2
open PySem PySem.Spec PyProof.Rows
theorem bt_zip : bootBuiltins "zip" = some (.type "zip") := by decide +kernel
end L2
namespace L2
open PySem PySem.Spec PyProof.Rows
end L2
namespace L2
open PySem PySem.Spec PyProof.Rows
theorem vals_strs : ∀ {ys : List Str} {us : List Value}, Vals (ys.map V.str) us → StrsAre us ys
  | [], _, .nil => .nil
  | _ :: _, _, .cons ⟨_, h⟩ r => by
    subst h
    exact .cons _ _ (vals_strs r)
theorem mt_join {X : Cx} : MtR X "str.join" (fun x xs H Q => ∃ sep a ys, x = .str sep ∧ xs = [.ref a] ∧ SqL X.K H a (ys.map V.str) ∧ sep.length ≤ 16 ∧ (ys.map (·.length)).sum + ys.length ≤ 1048576 ∧ Q (.str (Txt.join sep ys)) H) := by
  unfold MtR at *
  exact by
    intro pins s σ H x xs v us Q I rx r h
    obtain ⟨sep, a, ys, rfl, rfl, hq, h1, h2, q⟩ := h
    obtain ⟨t, rfl⟩ := rx
    obtain ⟨u, rfl, ru⟩ := vals1 r
    cases ru
    obtain ⟨its, rv, pl, _⟩ := I.list hq
    exact join_listW pl.isList (vals_strs rv) h1 h2 fun t' k => ⟨.str _, H, I.tok _, ⟨_, rfl⟩, q⟩
structure IAsk (K : PySem.W.Frag) (C : Addr) : Prop where
  ha : PySem.W.findIn K (.ref C) "__class__" = some (some (.builtin "object.__class__"))
  hn : PySem.W.specialIn K (.builtin "object.__class__") "__get__" = some (some (.builtin "getset_descriptor.__get__"))
  htk : PySem.W.takesIn K (.builtin "object.__class__") = some true
  hm : PySem.W.mroIn K C (.type "object") = some true
theorem rIsiA.ins {K : PySem.W.Frag} {H : Hp} {a C D dx : Addr} {fs : List (Str × V)} {b : Bool} {Q : VK} (h : H a = some (.ins C dx fs)) (cl : Cls K C) (q : IAsk K C) (k : PySem.W.kitOne K (.ref C) (.ref D) = some b) (hQ : Q (.bl b) H) : rIsiA K [.ref a, .ref D] H Q :=
  .inl ⟨.ref a, .ref D, _, _, _, rfl, .own D, .ins h cl q.ha q.hn q.htk q.hm, k, hQ⟩
end L2
namespace L2
open PySem PySem.Spec PyProof.Rows
section
variable {X : Cx}
end
structure Pk {n : Nat} (ws : List V) (ts : List (Tr n)) (i : Nat) (idx : List Nat) (acc : List V) (us : List (Tr n)) : Prop where
  la : acc.length = idx.length
  lu : us.length = idx.length
  lt : ∀ k ∈ idx, k < i
  nd : idx.Nodup
  at_ : ∀ j k : Nat, idx[j]? = some k → acc[j]? = ws[k]? ∧ us[j]? = ts[k]?
theorem Pk.nil {n : Nat} {ws : List V} {ts : List (Tr n)} : Pk ws ts 0 [] [] [] := ⟨rfl, rfl, fun _ h => (nomatch h), List.nodup_nil, fun _ _ h => (by rw [List.getElem?_nil] at h; cases h)⟩
theorem Pk.drop {n : Nat} {ws : List V} {ts : List (Tr n)} {i : Nat} {idx : List Nat} {acc : List V} {us : List (Tr n)} (h : Pk ws ts i idx acc us) : Pk ws ts (i + 1) idx acc us :=
  ⟨h.la, h.lu, fun k hk => Nat.lt_succ_of_lt (h.lt k hk), h.nd, h.at_⟩
theorem Pk.keep {n : Nat} {ws : List V} {ts : List (Tr n)} {i : Nat} {idx : List Nat} {acc : List V} {us : List (Tr n)} {w : V} {t : Tr n} (h : Pk ws ts i idx acc us) (hw : ws[i]? = some w) (ht : ts[i]? = some t) : Pk ws ts (i + 1) (idx ++ [i]) (acc ++ [w]) (us ++ [t]) := by
  refine ⟨by rw [List.length_append, List.length_append, h.la]; rfl, by rw [List.length_append, List.length_append, h.lu]; rfl, fun k hk => ?_, ?_, fun j k hk => ?_⟩
  · rcases List.mem_append.mp hk with q | q
    · exact Nat.lt_succ_of_lt (h.lt k q)
    · rw [List.mem_singleton.mp q]; exact Nat.lt_succ_self i
  · rw [List.nodup_append]
    exact ⟨h.nd, List.nodup_cons.mpr ⟨List.not_mem_nil, List.nodup_nil⟩, fun x hx y hy e => by rw [e, List.mem_singleton.mp hy] at hx; exact Nat.lt_irrefl _ (h.lt _ hx)⟩
  · by_cases q : j < idx.length
    · rw [List.getElem?_append_left q] at hk
      rw [List.getElem?_append_left (by rw [h.la]; exact q), List.getElem?_append_left (by rw [h.lu]; exact q)]
      exact h.at_ j k hk
    · rw [List.getElem?_append_right (by omega)] at hk
      obtain ⟨h1, e1⟩ := List.getElem?_eq_some_iff.mp hk
      have j0 : j - idx.length = 0 := by simpa using h1
      rw [j0] at hk
      cases (Option.some.inj hk : i = k)
      rw [List.getElem?_append_right (by rw [h.la]; omega), List.getElem?_append_right (by rw [h.lu]; omega), h.la, h.lu, j0]
      exact ⟨hw.symm, ht.symm⟩
end L2
namespace L2
open PySem PySem.Spec PyProof.Rows
theorem cut_last {xs : List V} (h : xs ≠ []) : cutV xs none (some (-1)) = xs.dropLast := by
  have hp : 0 < xs.length := List.length_pos_iff.mpr h
  unfold cutV HT.sIx
  rw [List.dropLast_eq_take]
  simp
  omega
end L2
namespace L2
open PySem PySem.Spec PyProof.Rows
section
variable {X : Cx} {pins : List (Addr × Obj)} {σ : St} {H : Hp} {s : Shared}
end
section
variable {X : Cx} {pins : List (Addr × Obj)} {σ : St} {H : Hp} {s : Shared} {d : Addr} {u0 u1 : HO}
end
end L2
namespace L2
open PySem PySem.Spec PyProof.Rows
section
variable {X : Cx} {CX : CXT} {k : Nat} {f C : Addr} {fd : FuncData} {ps : List Str} {sp : Sp} {dvs : List V} {ds : List Value} {Ez : St → XK} {x m : Str} {p pos apos : Pos} {e o : Expr} {es : List Expr} {ta : TE} {t : TA}
end
end L2
namespace L2
open PySem PySem.Spec PyProof.Rows
end L2
namespace L2
open PySem PySem.Spec PyProof.Rows
section
variable {prog : Program} {w : World} {A : Around} {E : Value → Shared → Prop} {s : Shared} {T : String} {r d : Addr} {n : Nat} {P : Nat → Value → Prop} {OK : Heap → Prop}
end
section
variable {X : Cx}
end
section
variable {X : Cx}
end
theorem cut_lit (xs : List V) (k : Nat) : cutV xs none (some (k : Int)) = xs.take k := by
  unfold cutV
  rw [HT.sIx_nat, HT.sIx_none, List.drop_zero, Nat.sub_zero]
  have h := List.take_take (i := k) (j := xs.length) (l := xs)
  rw [List.take_length] at h
  exact h.symm
end L2
namespace L2
open PySem PySem.Spec PyProof.Rows
theorem dict_anyW {P P' : Program} {w w' : World} {h : Heap} {a : Addr} {vs : List (Key × Value)} (d : h.DictOf (mixKind P w) a vs) (hi : ∀ p ∈ vs, ∃ n : Int, p.1 = Sum.inl n) : h.DictOf (mixKind P' w') a vs := by
  obtain ⟨o, es, ep, g, c, hd, hk, hp, hn⟩ := d
  have pp : ∀ {el : List DictEntry} {vl : List (Key × Value)}, Pairs (mixKind P w) el vl → (∀ p ∈ vl, ∃ n : Int, p.1 = Sum.inl n) → Pairs (mixKind P' w') el vl ∧ ∀ e ∈ el, ∃ n : Int, keyIs (Sum.inl n) e.key = true := by
    intro el vl h
    induction h with
    | nil => intro _; exact ⟨.nil, fun _ h => nomatch h⟩
    | @cons e kv es kvs h1 h2 _ ih =>
      intro hi
      obtain ⟨i1, i2⟩ := ih fun p hp => hi p (List.mem_cons_of_mem _ hp)
      refine ⟨.cons h1 h2 i1, fun x hx => ?_⟩
      rcases List.mem_cons.mp hx with q | q
      · obtain ⟨n, hn⟩ := hi kv (List.mem_cons_self ..)
        rw [q]
        exact ⟨n, by rw [← hn]; exact h1⟩
      · exact i2 x q
  obtain ⟨p1, p2⟩ := pp hp hi
  refine ⟨o, es, ep, g, c, hd, fun e he => ?_, p1, hn⟩
  obtain ⟨k, k1, k2⟩ := hk e he
  obtain ⟨n, hn'⟩ := p2 e (by simpa using he)
  have e1 : k = Sum.inl n := (mixKind P w).inj e.key k (Sum.inl n) k1 hn'
  subst e1
  exact ⟨_, k1, k2⟩
theorem kv_ints {ka : List (Key × V)} {va : List (Key × Value)} (r : KV ka va) (hi : ∀ p ∈ ka, ∃ n : Int, p.1 = Sum.inl n) : ∀ p ∈ va, ∃ n : Int, p.1 = Sum.inl n := by
  unfold KV at r
  induction r with
  | nil => exact fun _ h => nomatch h
  | @cons p q ps qs h t ih =>
    intro x hx
    rcases List.mem_cons.mp hx with e | e
    · obtain ⟨n, hn⟩ := hi p (List.mem_cons_self ..)
      rw [e, ← h.1]
      exact ⟨n, hn⟩
    · exact ih (fun p hp => hi p (List.mem_cons_of_mem _ hp)) x e
def DEq (K : PySem.W.Frag) (H : Hp) (n : Nat) (u v : V) : Prop := ∃ a b ka kb, u = .ref a ∧ v = .ref b ∧ Rd H a (.dK ka) ∧ Rd H b (.dK kb) ∧ ka.length = kb.length ∧ (∀ p ∈ ka, ∃ y, valV kb p.1 = some y ∧ EqD K H n p.2 y true) ∧ (∀ p ∈ ka, ∃ m : Int, p.1 = Sum.inl m) ∧ ∀ p ∈ kb, ∃ m : Int, p.1 = Sum.inl m
section
variable {X : Cx} {pins : List (Addr × Obj)} {σ : St} {H : Hp} {s : Shared}
theorem hits_at (I : Inv X pins σ H s) {A : Around} {n : Nat} {kb : List (Key × V)} {vb : List (Key × Value)} (rb : KV kb vb) (hu : A.units + n < cLine) : ∀ {ka : List (Key × V)} {va : List (Key × Value)}, KV ka va →
    (∀ p ∈ ka, ∃ y, valV kb p.1 = some y ∧ EqD X.K H n p.2 y true) → PySem.W.KeqHits A s vb va true := by
  intro ka va r
  unfold KV at r
  induction r with
  | nil => intro _; exact .nil
  | @cons p q ps qs h t ih =>
    intro hall
    obtain ⟨y, hy, he⟩ := hall p (List.mem_cons_self ..)
    obtain ⟨w, hw, rw'⟩ := RelO.some_of (v := y) (o := valueAt vb q.1) (by rw [← hy, h.1]; exact rb.val q.1)
    obtain ⟨q1, q2⟩ := q
    exact PySem.W.KeqHits.hit (e := true) (b := true) hw (EqD.at I n A p.2 y true q2 w hu he h.2 rw') (ih fun p' hp' => hall p' (List.mem_cons_of_mem _ hp'))
theorem DEq.at (I : Inv X pins σ H s) {A : Around} {n : Nat} {x y : V} {u v : Value} (hu : A.units + 1 + n < cLine) (h : DEq X.K H n x y) (rx : RelV x u) (ry : RelV y v) : SeqAt.EqAt A s u v true := by
  obtain ⟨a, b, ka, kb, rfl, rfl, ha, hb, hl, hall, ia, ib⟩ := h
  cases rx
  cases ry
  obtain ⟨za, da, va, ra, oa⟩ := dk_rd I.hok ha
  obtain ⟨zb, db, vb, rb, ob⟩ := dk_rd I.hok hb
  by_cases hab : a = b
  · subst hab
    exact SeqAt.EqAt.same _
  · refine SeqAt.EqAt.of_refs hab fun prog w E Q hq => ?_
    have oa' := dict_anyW (P' := prog) (w' := w) oa (kv_ints ra ia)
    have ob' := dict_anyW (P' := prog) (w' := w) ob (kv_ints rb ib)
    refine PySem.W.keq_eq da db oa' ob' (by omega) (fun _ => hits_at (A := A.in1) I rb (by show A.units + 1 + n < cLine; exact hu) ra hall) ?_
    rw [← ra.length, ← rb.length, hl, beq_self_eq_true, Bool.true_and]
    exact hq
end
end L2
namespace L2
open PySem PySem.Spec PyProof.Rows
end L2
namespace L2
open PySem PySem.Spec PyProof.Rows
structure RoomH (k : Nat) (A : Around) : Prop where
  dp : A.depth + 3 * k + 5 < recursionLimit
  un : A.units + 16 * k + 200 < cLine
theorem RoomH.mono {j k : Nat} {A : Around} (r : RoomH k A) (h : j ≤ k) : RoomH j A := ⟨by have := r.dp; omega, by have := r.un; omega⟩
theorem RoomH.deeper {k : Nat} {A : Around} (r : RoomH (k + 1) A) (env : Env) : RoomH k (A.deeper env) :=
  ⟨by have := r.dp; show A.depth + 1 + 3 * k + 5 < _; omega, by have := r.un; show A.units + 3 + 16 * k + 200 < _; omega⟩
theorem RoomH.depth {k : Nat} {A : Around} (r : RoomH k A) : A.depth < recursionLimit := by have := r.dp; omega
section
variable {X : Cx} {CX : CXT} {k : Nat} {f C : Addr} {fd : FuncData} {ps : List Str} {sp : Sp} {dvs : List V} {ds : List Value} {E : XK} {x m : Str} {p pos apos : Pos} {e o : Expr} {es : List Expr} {ta : TE} {t : TA}
end
section
variable {P : Program} {w : World} {K : PySem.W.Frag} {mg : Str → Option Value} {base : Heap}
end
end L2
namespace L2
open PySem PySem.Spec PyProof.Rows
section
variable {prog : Program} {w : World} {A : Around} {E : Value → Shared → Prop} {s : Shared}
end
section
variable {prog : Program} {w : World} {A : Around} {E : Value → Shared → Prop} {s : Shared}
end
section
variable {X : Cx}
def OptT (H : Hp) (v : V) (nm : Option (List Str)) : Prop := match nm with | none => v = .non | some z => ∃ t, v = .ref t ∧ H t = some (.tup (z.map V.str))
end
theorem eqL_txt : ∀ (a b : List Str), eqL (a.map V.str) (b.map V.str) = decide (a = b)
  | [], [] => rfl
  | [], _ :: _ => rfl
  | _ :: _, [] => rfl
  | x :: a, y :: b => by
    show (eqV (.str x) (.str y) && eqL (a.map V.str) (b.map V.str)) = _
    rw [eqL_txt a b]
    by_cases h : x = y
    · subst h
      rw [eqV_self rfl, Bool.true_and]
      by_cases q : a = b
      · rw [decide_eq_true q, decide_eq_true (by rw [q])]
      · rw [decide_eq_false q, decide_eq_false (fun z => q (List.cons.inj z).2)]
    · have e : eqV (.str x) (.str y) = false := by
        simp [eqV]
        exact h
      rw [e, decide_eq_false (fun z => h (List.cons.inj z).1)]
      rfl
theorem flat_txt (zs : List Str) : (zs.map V.str).all flatV = true := by
  rw [List.all_eq_true]
  intro x hx
  obtain ⟨z, _, rfl⟩ := List.mem_map.mp hx
  rfl
theorem tup_txt {K : PySem.W.Frag} {H : Hp} {n : Nat} {t u : Addr} {a b : List Str} (h1 : H t = some (.tup (a.map V.str))) (h2 : H u = some (.tup (b.map V.str))) : SeqEq K H (EqD K H n) (.ref t) (.ref u) (decide (a = b)) := by
  by_cases hl : a.length = b.length
  · have h := SeqEq.flatT (K := K) (H := H) (n := n) (SqT.of h1) (SqT.of h2) (by rw [List.length_map, List.length_map, hl]) (flat_txt a) (flat_txt b)
    rw [eqL_txt] at h
    exact h
  · have h := SeqEq.tup (K := K) (H := H) (R := EqD K H n) (e := fun i => eqV ((a.map V.str).getD i .non) ((b.map V.str).getD i .non)) (SqT.of h1) (SqT.of h2) fun i x y hx hy => ?_
    · have e1 : ((a.map V.str).length == (b.map V.str).length) = false := by
        rw [List.length_map, List.length_map]
        exact beq_eq_false_iff_ne.mpr hl
      rw [e1, Bool.and_false] at h
      rw [decide_eq_false (fun z => hl (by rw [z]))]
      exact h
    · have q : flatV x = true ∧ flatV y = true ∧ eqV ((a.map V.str).getD i .non) ((b.map V.str).getD i .non) = eqV x y := by
        refine ⟨List.all_eq_true.mp (flat_txt a) x (List.mem_of_getElem? hx), List.all_eq_true.mp (flat_txt b) y (List.mem_of_getElem? hy), ?_⟩
        rw [List.getD_eq_getElem?_getD, List.getD_eq_getElem?_getD, hx, hy]
        rfl
      cases n with
      | zero => exact .inl q
      | succ n => exact .inl (.inl q)
theorem OptT.eqd {K : PySem.W.Frag} {H : Hp} {x y : V} {a : Option (List Str)} (h1 : OptT H x a) (h2 : OptT H y a) (n : Nat) : EqD K H (n + 1) x y true := by
  cases a with
  | none =>
    obtain rfl : x = .non := h1
    obtain rfl : y = .non := h2
    exact .inl (.inl ⟨rfl, rfl, rfl⟩)
  | some z =>
    obtain ⟨t, rfl, ht⟩ := h1
    obtain ⟨u, rfl, hu⟩ := h2
    have h := tup_txt (K := K) (n := n) ht hu
    rw [decide_eq_true rfl] at h
    exact .inr h
end L2
namespace L2
open PySem PySem.Spec PyProof.Rows
theorem AtR.eqd {K : PySem.W.Frag} {H : Hp} : ∀ {n : Nat} {v w : V} {t : Tr n}, AtR H n v t → AtR H n w t → EqD K H n v w true
  | 0, v, w, t, h1, h2 => by
    have e1 : v = .int t := h1
    have e2 : w = .int t := h2
    subst e1 e2
    exact .inl ⟨rfl, rfl, (eqV_self (x := V.int t) rfl).symm⟩
  | n + 1, v, w, t, h1, h2 => by
    obtain ⟨a, vs, rfl, hA, la⟩ := h1.lst
    obtain ⟨b, ws, rfl, hB, lb⟩ := h2.lst
    have h := SeqEq.list (K := K) (R := EqD K H n) (e := fun _ => true) (SqL.of hA) (SqL.of hB) (by omega) fun i x y hx hy => by
      obtain ⟨x', t1, e1, e2, k1⟩ := h1.kid hA (List.getElem?_eq_some_iff.mp hx).1
      obtain ⟨y', t2, e3, e4, k2⟩ := h2.kid hB (List.getElem?_eq_some_iff.mp hy).1
      rw [hx] at e1; cases e1
      rw [hy] at e3; cases e3
      rw [e2] at e4; cases e4
      exact AtR.eqd k1 k2
    rw [all_range fun i _ => rfl] at h
    exact .inr h
theorem AtR.seq {K : PySem.W.Frag} {H : Hp} {n : Nat} {v w : V} {t : Tr (n + 1)} (h1 : AtR H (n + 1) v t) (h2 : AtR H (n + 1) w t) : SeqEq K H (EqD K H n) v w true := by
  rcases AtR.eqd (K := K) h1 h2 with (⟨e, _, _⟩ | ⟨a, e1, e2, _⟩) | h
  · obtain ⟨a, vs, rfl, _⟩ := h1.lst
    exact absurd e (by intro z; cases z)
  · subst e1 e2
    obtain ⟨_, vs, e, hA, la⟩ := h1.lst
    cases e
    have h := SeqEq.list (K := K) (R := EqD K H n) (e := fun _ => true) (SqL.of hA) (SqL.of hA) rfl fun i x y hx hy => by
      obtain ⟨x', t1, e1, e2, k1⟩ := h1.kid hA (List.getElem?_eq_some_iff.mp hx).1
      rw [hx] at hy; cases hy
      rw [hx] at e1; cases e1
      exact AtR.eqd k1 k1
    rw [all_range fun i _ => rfl] at h
    exact h
  · exact h
end L2
namespace L2
open PySem PySem.Spec PyProof.Rows PySem.W
section
variable {prog : Program} {w : World} {A : Around} {E : Value → Shared → Prop} {h : Heap} {g : Array GenState} {d : Drawn} {t : Nat} {os : OsState}
variable {nm q : Str} {C N : Addr} {bs bm : List Value} {hdct : Bool} {sn : List Str} {sub : List Value} {ab : Bool} {col : Option Bool} {dd : Option Addr} {k0 k1 k2 k3 k5 : Option Value} {K : Frag}
end
structure XCli (K : Frag) (C f : Addr) : Prop where
  ex : ∃ nm q N bs bm hdct sn sub ab col dd k0 k1 k2 k3 k5 es, K.lookup C = some (excClassObj nm q C N bs bm hdct sn sub ab col dd k0 k1 k2 k3 k5 "ValueError.__new__") ∧ NsK K N es ∧ nsFind es "__init__" = some (.ref f) ∧ TailK K bm
  fn : typeIn K (.ref f) = some (.type "function")
  kp : keepIn K (.ref C) = true
def exF (C : Value) (dd : Option Addr) (e : Addr) : HO := .ext fun h => ∃ oe vs, h.get? e = some oe ∧ oe.cls = C ∧ oe.dict = dd ∧ oe.data = .fields vs ∧ vs[1]? = some .none ∧ 0 < vs.size
section
variable {X : Cx} {k : Nat} {f C : Addr} {fd : FuncData} {ps : List Str} {sp : Sp} {x : Str} {p pos : Pos} {e : Expr} {es : List Expr} {t : TA} {na : Nat} {g : List Value → List Value → List Value} {gV : List V → List V → List V}
end
section
variable {M : Model} {A : Around} {E : Value → Shared → Prop} {s : Shared} {env : Env}
variable {nm q : Str} {C N : Addr} {bs bm : List Value} {hdct : Bool} {sn : List Str} {sub : List Value} {ab : Bool} {col : Option Bool} {dd : Option Addr} {k0 k1 k2 k3 k5 : Option Value} {newId : String}
end
section
variable {P : Program} {w : World} {K : PySem.W.Frag} {mg : Str → Option Value} {base : Heap} {N : List Str} {qual : Str} {scope : Scope} {f : Addr} {cd : Value} {A : Around} {outer : List Env} {s₀ : Shared} {H₀ : Hp} {E : XK}
end
section
variable {X : Cx} {k : Nat} {f C : Addr} {fd : FuncData} {ps : List Str} {sp : Sp} {x : Str} {np cpos pos : Pos} {e₀ : Expr} {rest : List Expr} {t : TA} {na : Nat} {g : List Value → List Value → List Value} {gV : List V → List V → List V} {E : XK}
end
theorem vals2X {x y : V} {us : List Value} (r : Vals [x, y] us) : ∃ u v, us = [u, v] ∧ RelV x u ∧ RelV y v := by
  cases r with
  | cons a r => cases r with
    | cons b r => cases r; exact ⟨_, _, rfl, a, b⟩
section
variable {X : Cx} {B : Addr} {x : Str} {p apos pos : Pos} {a b : Expr} {t : TA}
end
end L2
namespace L2
open PySem PySem.Spec PyProof.Rows PySem.W
section
variable {prog : Program} {w : World} {A : Around} {E : Value → Shared → Prop} {s : Shared} {K : Frag} {e C : Addr} {oe : Obj} {od : Option Obj}
end
def XD (H : Hp) (e C dx : Addr) (fs : List (Str × V)) : Prop := (H e = some (exF (.ref C) (some dx) e) ∨ H e = some (exO (.ref C) (some dx) e)) ∧ H dx = some (.xd fs)
section
variable {X : Cx}
def rIsiD (K : Frag) : List V → Hp → VK → Prop := fun xs H Q => ∃ e c cv C dx fs b, xs = [.ref e, c] ∧ ClsV c cv ∧ XD H e C dx fs ∧ XAsk K C ∧ kitOne K (.ref C) cv = some b ∧ Q (.bl b) H
def rIsiE (K : Frag) : List V → Hp → VK → Prop := fun xs H Q => rIsiA K xs H Q ∨ rIsiD K xs H Q
end
section
variable {prog : Program} {w : World} {A : Around} {E : Value → Shared → Prop} {K : Frag} {e C fI : Addr} {oe : Obj} {name : Str} {v : Value} {h : Heap} {g : Array GenState} {d : Drawn} {t : Nat} {os : OsState}
end
section
variable {X : Cx} {o value : Expr} {f : Str} {ta tv : TE} {pos pos' : Pos}
end
theorem XCli.mk2 {K : Frag} {C N A f : Addr} {nm q : Str} {bs : List Value} {hdct : Bool} {sn : List Str} {sub : List Value} {ab : Bool} {col : Option Bool} {dd : Option Addr} {k0 k1 k2 k3 k5 : Option Value} {es : Array DictEntry} {c d ep sl}
    {c0 : Value} {dd' : Option Addr} {cd : ClassData} {sl0 : Array (Option Value)} {es' : Array DictEntry} {c' d' ep' sl'}
    (l : K.lookup C = some (excClassObj nm q C N bs (.ref A :: vmro) hdct sn sub ab col dd k0 k1 k2 k3 k5 "ValueError.__new__")) (ln : K.lookup N = some ⟨c, d, .dict es ep, sl⟩) (sk : strKeysB es = true) (ni : nsFind es "__init__" = some (.ref f))
    (la : K.lookup A = some { cls := c0, dict := dd', data := .cls cd, slots := sl0 }) (lna : K.lookup cd.ns = some ⟨c', d', .dict es' ep', sl'⟩) (ska : strKeysB es' = true) (nia : nsFind es' "__init__" = none)
    (fn : isFn K (.ref f) = true) (kp : keepIn K (.ref C) = true) : XCli K C f :=
  ⟨⟨_, _, _, _, _, _, _, _, _, _, _, _, _, _, _, _, _, l, ⟨_, _, _, _, ln, strKeys_of sk⟩, ni, .own la ⟨_, _, _, _, lna, strKeys_of ska⟩ nia .base⟩, beq_iff_eq.mp fn, kp⟩
theorem rIsiE.xd {K : Frag} {H : Hp} {e C c dx : Addr} {fs : List (Str × V)} {b : Bool} {Q : VK} (h : XD H e C dx fs) (q : XAsk K C) (k : kitOne K (.ref C) (.ref c) = some b) (hQ : Q (.bl b) H) : rIsiE K [.ref e, .ref c] H Q :=
  .inr ⟨e, .ref c, _, C, dx, fs, b, rfl, .own c, h, q, k, hQ⟩
theorem XD.same {H H' : Hp} {e C dx : Addr} {fs : List (Str × V)} (h : XD H e C dx fs) (s : Same H H') : XD H' e C dx fs := ⟨h.1.imp (s _ _) (s _ _), s _ _ h.2⟩
def XE (H : Hp) (e C : Addr) : Prop := H e = some (exO (.ref C) none e) ∨ ∃ dx fs, XD H e C dx fs
theorem XE.same {H H' : Hp} {e C : Addr} (h : XE H e C) (s : Same H H') : XE H' e C := h.imp (s _ _) fun ⟨dx, fs, x⟩ => ⟨dx, fs, x.same s⟩
theorem rIsiE.xe {K : Frag} {H : Hp} {e C c : Addr} {b : Bool} {Q : VK} (h : XE H e C) (q : XAsk K C) (k : kitOne K (.ref C) (.ref c) = some b) (hQ : Q (.bl b) H) : rIsiE K [.ref e, .ref c] H Q := by
  rcases h with h | ⟨dx, fs, h⟩
  · exact .inl (rIsiA.exc h q k hQ)
  · exact .xd h q k hQ
theorem loop_all {K : Frag} {a l : Addr} {vs : List V} {P : Nat → V → Prop} {g : TG} {te : TE} {σ : St} {H : Hp} {Q : VK} (hl : H l = none) (hA : SqL K H a vs) (lz : vs.length ≤ 1000) (Ps : St → Prop) (h0 : Ps σ)
    (hs : ∀ (i : Nat) x σ G (Kt : St → V → Hp → Prop), vs[i]? = some x → Ps σ → Same H G → (∀ σ2 v G2, Ps σ2 → Same G G2 → P i v → Kt σ2 v G2) → g x σ G fun σ2 H2 => te σ2 H2 (Kt σ2))
    (hd : ∀ G acc, Same H G → G l = some (.lst acc) → acc.length = vs.length → (∀ i v, acc[i]? = some v → P i v) → Q (.ref l) G) : tLoop (Itl K a) l g tAll te σ (upd H l (.lst [])) Q := by
  have sz : 1000 ≤ sizeLine := le_ble rfl
  refine loop_lst (xs := vs) (fun i σ acc G => Ps σ ∧ Same H G ∧ G l = some (.lst acc) ∧ acc.length = i ∧ ∀ (j : Nat) v, acc[j]? = some v → P j v) (by omega) ?_ ?_ ?_ ?_
  · exact ⟨h0, Same.new hl, upd_same, rfl, fun j v h => by rw [List.getElem?_nil] at h; cases h⟩
  · rintro i σ acc G hi ⟨_, sG, h1, h2, _⟩
    exact ⟨h1, sG.seq hA, by omega⟩
  · rintro i x σ acc G hx ⟨hp, sG, h1, h2, h3⟩
    have hi : i < vs.length := (List.getElem?_eq_some_iff.mp hx).1
    refine hs i x σ G _ hx hp sG fun σ2 v G2 p2 s2 hv => ⟨s2 _ _ h1, Nx.mk hi ⟨p2, fun b u hb => ?_, upd_same, by rw [List.length_append, h2]; rfl, fun j w hw => ?_⟩⟩
    · rw [upd_ne (ne_of_none hb hl)]
      exact s2 _ _ (sG _ _ hb)
    · rcases Nat.lt_trichotomy j acc.length with z | z | z
      · rw [List.getElem?_append_left z] at hw
        exact h3 j w hw
      · subst z
        rw [List.getElem?_append_right (Nat.le_refl _), Nat.sub_self] at hw
        cases hw
        rw [h2]
        exact hv
      · rw [List.getElem?_append_right (by omega), List.getElem?_eq_none (by show 1 ≤ _; omega)] at hw
        cases hw
  · rintro σ acc G ⟨_, sG, h1, h2, h3⟩
    exact hd G acc sG h1 h2 h3
end L2
namespace L2
open PySem PySem.Spec PyProof.Rows
section
variable {prog : Program} {w : World} {A : Around} {E : Value → Shared → Prop} {s : Shared}
def IsPairKey (prog : Program) (w : World) (h : Heap) (k : Key × List Key) (a : Addr) : Prop := ∃ o n u b, h.get? a = some o ∧ o.cls = .type "tuple" ∧ o.data = .seq #[u, .ref b] n ∧ (mixKind prog w).is k.1 u = true ∧ IsTupleKey (mixKind prog w) h k.2 b
theorem IsPairKey.typeIs {k : Key × List Key} {a : Addr} (x : IsPairKey prog w s.heap k a) : s.TypeIs (.ref a) "tuple" := let ⟨o, _, _, _, ho, hc, _⟩ := x; ⟨o, ho, hc⟩
theorem IsPairKey.inj {h : Heap} {a : Addr} {x y : Key × List Key} (hx : IsPairKey prog w h x a) (hy : IsPairKey prog w h y a) : x = y := by
  obtain ⟨o, n, u, b, ho, _, hd, h1, h2⟩ := hx
  obtain ⟨o', n', u', b', ho', _, hd', h1', h2'⟩ := hy
  obtain rfl : o = o' := Option.some.inj (ho.symm.trans ho')
  rw [hd] at hd'
  injection hd' with e _
  have e1 : [u, Value.ref b] = [u', Value.ref b'] := by simpa using congrArg Array.toList e
  injection e1 with e2 e3
  injection e3 with e4 _
  injection e4 with e5
  subst e2 e5
  obtain ⟨x1, x2⟩ := x
  obtain ⟨y1, y2⟩ := y
  exact Prod.ext ((mixKind prog w).inj _ _ _ h1 h1') (h2.inj h2')
theorem IsPairKey.keeps {h h' : Heap} {k : Key × List Key} {a d : Addr} {o : Obj} {es ep} (x : IsPairKey prog w h k a) (ho : h.get? d = some o) (hd : o.data = .dict es ep) (hs : Heap.SameBut d h h') : IsPairKey prog w h' k a := by
  obtain ⟨o', n, u, b, ho', hc, hd', h1, h2⟩ := x
  have hne : a ≠ d := by
    rintro rfl
    obtain rfl : o' = o := Option.some.inj (ho'.symm.trans ho)
    rw [hd] at hd'; exact nomatch hd'
  exact ⟨o', n, u, b, (hs.2 a hne).trans ho', hc, hd', h1, h2.keeps ho hd hs⟩
def pairHash (prog : Program) (w : World) (k : Key × List Key) : Int := reduceHash (Builtin.Tuple.tupleHashOf [(mixKind prog w).hash k.1, tupleKeyHash (mixKind prog w) k.2])
theorem pair_hash {k : Key × List Key} {a : Addr} {Q : Int → Shared → Prop} (hu : A.units + 4 < cLine) (hk : IsPairKey prog w s.heap k a) (h : Q (pairHash prog w k) { s with toks := s.toks + (1 + (k.2.length + 1) + 1) }) :
    wpAny (model prog w) A (pyHash (.ref a)) Q E s := by
  have hT := hk.typeIs
  obtain ⟨o, n, u, b, ho, _, hd, h1, h2⟩ := hk
  unfold pyHash
  first | unfold pyHashByItsType | skip
  first | refine wpAny_bind (wpAny_cRoomFor_or (.inr (by omega)) ?_) | skip
  refine wpAny_bind (wpAny_specialOf hT F.slot_tuple_hash.lookup ?_)
  show wpAny _ _ (if (some (Value.builtin "tuple.__hash__") == some Value.none) = true then _ else _) Q E s
  rw [if_neg (by rw [beq_builtin_none]; exact Bool.false_ne_true)]
  refine wpAny_bind (wpAny_specialOf hT F.slot_tuple_hash.lookup ?_)
  show wpAny _ _ (callSpecialIfBoundUnlessNone? (.ref a) "__hash__" _ >>= _) Q E s
  refine wpAny_bind (wpAny_callSpecialIfBoundUnlessNone?_slot hT F.slot_tuple_hash (wpAny_call_entry F.slot_tuple_hash hT F.entry_tuple_hash ?_ (F.args_tuple_hash_1 _)))
  show wpAny _ _ (Builtin.Tuple.tupleItemsOf (.ref a) >>= _) _ _ s
  refine wpAny_bind (wpAny_tupleItemsOf ho hd ?_)
  refine wpAny_bind ?_
  rw [← Array.forIn_toList]
  simp only [List.forIn_cons, List.forIn_nil]
  refine wpAny_bind (wpAny_bind ((mixKind prog w).pyHash h1 ?_))
  refine wpAny_pure (wpAny_bind (wpAny_bind (wpAny_pyHash_tuple (s := { s with toks := s.toks + 1 }) (by show A.units + 1 < cLine; omega) h2 ?_)))
  refine wpAny_pure (wpAny_pure ?_)
  show wpAny _ _ (retInt (Builtin.Tuple.tupleHashOf [(mixKind prog w).hash k.1, tupleKeyHash (mixKind prog w) k.2])) _ _ _
  refine wpAny_ret_mkInt ?_
  show wpAny _ _ (if (decide (-(2 : Int) ^ 63 ≤ Builtin.Tuple.tupleHashOf [(mixKind prog w).hash k.1, tupleKeyHash (mixKind prog w) k.2]) && decide (Builtin.Tuple.tupleHashOf [(mixKind prog w).hash k.1, tupleKeyHash (mixKind prog w) k.2] < 2 ^ 63)) = true then _ else _) Q E _
  unfold pairHash reduceHash at h
  by_cases hr : (decide (-(2 : Int) ^ 63 ≤ Builtin.Tuple.tupleHashOf [(mixKind prog w).hash k.1, tupleKeyHash (mixKind prog w) k.2]) && decide (Builtin.Tuple.tupleHashOf [(mixKind prog w).hash k.1, tupleKeyHash (mixKind prog w) k.2] < 2 ^ 63)) = true
  · rw [if_pos hr]
    rw [if_pos hr] at h
    exact wpAny_pure (by simpa [Nat.add_assoc] using h)
  · rw [if_neg hr]
    rw [if_neg hr] at h
    exact wpAny_bind (wpAny_rule (wpAny_pure (by simpa [Nat.add_assoc] using h)))
theorem pair_eq_tree {x y : Key × List Key} {a b : Addr} {P : Fin → Shared → Prop} (hu : A.units + 1 < cLine) (hx : IsPairKey prog w s.heap x a) (hy : IsPairKey prog w s.heap y b) (h : P (.done (.ret (.bool (decide (x = y))))) s) :
    wpAny (model prog w) A (Builtin.«tuple.__eq__» ⟨[.ref a, .ref b], []⟩) P E s := by
  have hTb := hy.typeIs
  obtain ⟨oa, na, u1, b1, hoa, _, hda, h11, h12⟩ := hx
  obtain ⟨ob, nb, u2, b2, hob, _, hdb, h21, h22⟩ := hy
  obtain ⟨x1, x2⟩ := x
  obtain ⟨y1, y2⟩ := y
  show wpAny _ _ (isInstance (.ref b) (.type "tuple") >>= _) _ _ s
  refine wpAny_bind (wpAny_isInstance hTb isSubtype_tuple_tuple ?_)
  simp only [Bool.not_true, Bool.false_eq_true, if_false]
  refine wpAny_bind (wpAny_tupleItemsOf hoa hda ?_)
  refine wpAny_bind (wpAny_tupleItemsOf hob hdb ?_)
  refine wpAny_bind ?_
  simp only [List.zip_cons_cons, List.zip_nil_right, List.forIn_cons, List.forIn_nil]
  refine wpAny_bind (wpAny_bind ((mixKind prog w).eqBool (a := x1) (b := y1) h11 h21 ?_))
  by_cases hk : x1 = y1
  · subst hk
    rw [decide_eq_true rfl]
    simp only [Bool.not_true, Bool.false_eq_true, if_false]
    refine wpAny_pure ?_
    refine wpAny_bind (wpAny_bind (wpAny_eqBool_tuple (by omega) h12 h22 ?_))
    by_cases h2 : x2 = y2
    · subst h2
      rw [decide_eq_true rfl]
      simp only [Bool.not_true, Bool.false_eq_true, if_false]
      rw [decide_eq_true rfl] at h
      exact wpAny_pure (wpAny_pure (wpAny_pure h))
    · rw [decide_eq_false h2]
      simp only [Bool.not_false, if_true]
      rw [decide_eq_false (fun z => h2 (congrArg Prod.snd z))] at h
      exact wpAny_bind (wpAny_pure (wpAny_pure (wpAny_pure (wpAny_pure h))))
  · rw [decide_eq_false hk]
    simp only [Bool.not_false, if_true]
    rw [decide_eq_false (fun z => hk (congrArg Prod.fst z))] at h
    exact wpAny_bind (wpAny_pure (wpAny_pure (wpAny_pure (wpAny_pure h))))
theorem pair_eqBool {x y : Key × List Key} {a b : Addr} {Q : Bool → Shared → Prop} (hu : A.units + 4 < cLine) (hx : IsPairKey prog w s.heap x a) (hy : IsPairKey prog w s.heap y b) (h : Q (decide (x = y)) s) :
    wpAny (model prog w) A (eqBool (.ref a) (.ref b)) Q E s := by
  unfold eqBool
  try with_reducible refine wpAny_holding ?_
  show wpAny _ _ (if (Value.ref a == Value.ref b) = true then _ else _) Q E s
  by_cases hab : (Value.ref a == Value.ref b) = true
  · rw [if_pos hab]
    have e : a = b := by have := eq_of_beq hab; injection this
    subst e
    obtain rfl := hx.inj hy
    exact wpAny_bind (wpAny_rule (wpAny_pure (by simpa using h)))
  · rw [if_neg hab]
    exact wpAny_bind (wpAny_richCompare_same_room (op := .Eq) hx.typeIs hy.typeIs F.slot_tuple_eq
      (wpAny_call_entry F.slot_tuple_eq hx.typeIs F.entry_tuple_eq (pair_eq_tree (by show A.units + 1 + 1 < cLine; omega) hx hy ⟨_, rfl, (fun e => nomatch e), wpAny_truthy_bool h⟩) (F.args_tuple_eq_2 _ _)) (by omega))
theorem quiet_tuple {m : Nat} {ks : List Key} {a : Addr} {Q : Bool → Shared → Prop} (hk : IsTupleKey (mixKind prog w) s.heap ks a) (h : Q true s) : wpAny (model prog w) A (eqIsQuiet (m + 1) (.ref a)) Q E s := by
  have hT := hk.typeIs
  obtain ⟨o, items, n, ho, _, hd, hi⟩ := hk
  unfold eqIsQuiet
  refine wpAny_bind (wpAny_specialOf hT F.slot_tuple_eq.lookup ?_)
  show wpAny _ _ (isInstance (.ref a) (.type "tuple") >>= _) _ _ s
  refine wpAny_bind (wpAny_isInstance hT isSubtype_tuple_tuple ?_)
  simp only [Bool.not_true, Bool.false_eq_true, if_false]
  refine wpAny_bind (wpAny_seqItems ho hd ?_)
  refine wpAny_bind ?_
  show wpAny _ _ (forIn items _ _) _ _ s
  rw [← Array.forIn_toList]
  refine wpAny_forIn_list _ (fun rest r s' => r.1 = none ∧ s' = s ∧ ∀ v ∈ rest, carriedByValue v = true) _ ?_ ?_ _ _ ⟨rfl, rfl, hi.byValue⟩
  · rintro v rest r s' ⟨hr, rfl, hall⟩
    rw [eqIsQuiet_byValue _ (hall v List.mem_cons_self)]
    refine wpAny_bind (wpAny_pure ?_)
    simp only [Bool.not_true, Bool.false_eq_true, if_false]
    exact wpAny_pure ⟨rfl, rfl, fun u hu' => hall u (List.mem_cons_of_mem _ hu')⟩
  · rintro ⟨r1, r2⟩ s' ⟨hr, rfl, _⟩
    simp only at hr
    subst hr
    exact wpAny_pure h
theorem pair_quiet {k : Key × List Key} {a : Addr} {Q : Bool → Shared → Prop} (hk : IsPairKey prog w s.heap k a) (h : Q true s) : wpAny (model prog w) A (eqIsQuiet 8 (.ref a)) Q E s := by
  have hT := hk.typeIs
  obtain ⟨o, n, u, b, ho, _, hd, h1, h2⟩ := hk
  unfold eqIsQuiet
  refine wpAny_bind (wpAny_specialOf hT F.slot_tuple_eq.lookup ?_)
  show wpAny _ _ (isInstance (.ref a) (.type "tuple") >>= _) _ _ s
  refine wpAny_bind (wpAny_isInstance hT isSubtype_tuple_tuple ?_)
  simp only [Bool.not_true, Bool.false_eq_true, if_false]
  refine wpAny_bind (wpAny_seqItems ho hd ?_)
  refine wpAny_bind ?_
  show wpAny _ _ (forIn #[u, Value.ref b] _ _) _ _ s
  rw [← Array.forIn_toList]
  simp only [List.forIn_cons, List.forIn_nil]
  rw [eqIsQuiet_byValue _ ((mixKind prog w).byValue _ _ h1)]
  refine wpAny_bind (wpAny_bind (wpAny_pure ?_))
  simp only [Bool.not_true, Bool.false_eq_true, if_false]
  refine wpAny_pure (wpAny_bind (wpAny_bind (quiet_tuple (m := 6) h2 ?_)))
  simp only [Bool.not_true, Bool.false_eq_true, if_false]
  exact wpAny_pure (wpAny_pure (wpAny_pure h))
end
def pairKind (prog : Program) (w : World) : HeapKind prog w (Key × List Key) where
  is := IsPairKey prog w
  hash := pairHash prog w
  draws := fun k => 1 + (k.2.length + 1) + 1
  room := fun A => A.units + 4 < cLine
  inj := fun hx hy => hx.inj hy
  keeps := fun x ho hd hs => x.keeps ho hd hs
  pyHash := fun hu hk h => pair_hash hu hk h
  eqBool := fun hu hx hy h => pair_eqBool hu hx hy h
  quiet := fun hk h => pair_quiet hk h
def KeyAt (H : Hp) (k : Key × List Key) (a : Addr) : Prop := ∃ b, H a = some (.tup [kV k.1, .ref b]) ∧ H b = some (.tup (k.2.map kV))
theorem pair_key {P : Program} {w : World} {H : Hp} {h : Heap} {a : Addr} {k : Key × List Key} (ok : HOk P w H h) (e : KeyAt H k a) : IsPairKey P w h k a := by
  obtain ⟨b, e1, e2⟩ := e
  obtain ⟨_, its, r, o, h1, h2, n, h3⟩ := (show ObjOk P w H h a (.tup [kV k.1, .ref b]) from ok a _ e1)
  obtain ⟨u, v, rfl, ru, rv⟩ := vals2X r
  obtain rfl : v = Value.ref b := rv
  exact ⟨o, n, u, b, h1, h2, h3, kV_is ru, key_of ok e2⟩
abbrev NK := Key × List Key
def dNO (P : Program) (w : World) (a : Addr) (xs : List (NK × Addr × Value)) : HO := .ext fun h => (a == sysModules) = false ∧ ∃ o es ep, h.get? a = some o ∧ o.ExactDict ∧ o.data = .dict es ep ∧ es.toList = xs.map (entryOfKey (pairKind P w)) ∧ (xs.map (·.1)).Nodup
def KN (H : Hp) (kvs : List (NK × V)) (xs : List (NK × Addr × Value)) : Prop := Paired (fun (p : NK × V) (q : NK × Addr × Value) => p.1 = q.1 ∧ KeyAt H q.1 q.2.1 ∧ RelV p.2 q.2.2) kvs xs
def DN (P : Program) (w : World) (H : Hp) (a : Addr) (kvs : List (NK × V)) : Prop := ∃ xs, H a = some (dNO P w a xs) ∧ KN H kvs xs ∧ kvs.length ≤ 1000
theorem KeyAt.keep {H H' : Hp} {k : NK} {a : Addr} (h : KeyAt H k a) (f : ∀ b ys, H b = some (.tup ys) → H' b = some (.tup ys)) : KeyAt H' k a := let ⟨b, e1, e2⟩ := h; ⟨b, f _ _ e1, f _ _ e2⟩
theorem KN.keep {H H' : Hp} {kvs : List (NK × V)} {xs : List (NK × Addr × Value)} (h : KN H kvs xs) (f : ∀ b ys, H b = some (.tup ys) → H' b = some (.tup ys)) : KN H' kvs xs :=
  Paired.mapP h fun _ _ z => ⟨z.1, z.2.1.keep f, z.2.2⟩
theorem DN.same {P : Program} {w : World} {H H' : Hp} {a : Addr} {kvs : List (NK × V)} (d : DN P w H a kvs) (s : Same H H') : DN P w H' a kvs := let ⟨xs, e, k, l⟩ := d; ⟨xs, s _ _ e, k.keep fun b ys q => s _ _ q, l⟩
theorem DN.new {P : Program} {w : World} {H : Hp} {a : Addr} : DN P w (upd H a (dNO P w a [])) a [] := ⟨[], upd_same, .nil, Nat.zero_le _⟩
theorem KN.val {H : Hp} {kvs : List (NK × V)} {xs : List (NK × Addr × Value)} (h : KN H kvs xs) (k : NK) : (valV kvs k).isSome = (atKey xs k).isSome := by
  induction h with
  | nil => rfl
  | @cons p q ps qs e t ih =>
    obtain ⟨q1, q2⟩ := q
    have e1 : p.1 = q1 := e.1
    by_cases z : p.1 = k
    · rw [valV_pos z]
      unfold atKey
      rw [List.find?_cons_of_pos (by simp [← e1, z])]
      rfl
    · rw [valV_neg z, ih]
      unfold atKey
      rw [List.find?_cons_of_neg (by simp [← e1, z])]
theorem DN.at {P : Program} {w : World} {H : Hp} {h : Heap} {a : Addr} {kvs : List (NK × V)} (ok : HOk P w H h) (d : DN P w H a kvs) : ∃ xs, KN H kvs xs ∧ h.DictOfH (pairKind P w) a xs ∧ (a == sysModules) = false ∧ H a = some (dNO P w a xs) ∧ kvs.length ≤ 1000 := by
  obtain ⟨xs, e, kn, l⟩ := d
  obtain ⟨⟨hs, o, es, ep, h1, h2, h3, h4, h5⟩, _⟩ := ok a _ e
  refine ⟨xs, kn, ⟨o, es, ep, h1, h2, h3, h4, fun x hx => ?_, h5⟩, hs, e, l⟩
  have all : ∀ {l : List (NK × V)} {m : List (NK × Addr × Value)}, KN H l m → ∀ x ∈ m, IsPairKey P w h x.1 x.2.1 := by
    intro l m q
    induction q with
    | nil => intro x hx; exact nomatch hx
    | @cons p q ps qs hq t ih =>
      intro x hx
      rcases List.mem_cons.mp hx with e | hx
      · subst e
        exact pair_key ok hq.2.1
      · exact ih x hx
  exact all kn x hx
section
variable {X : Cx}
end
end L2
namespace L2
open PySem PySem.Spec PyProof.Rows
section
variable {X : Cx}
end
end L2
namespace L2
open PySem PySem.Spec PyProof.Rows
section
variable {X : Cx}
end
end L2
namespace L2
open PySem PySem.Spec PyProof.Rows
def tTryN (K : PySem.W.Frag) (Cv : Value) (tb : (St → XK) → List (Addr × Obj) → (Value → Shared → Prop) → TS) (th : Addr → TS) : TS := fun D σ H => ∃ Ez : St → XK, (∀ pins W, tb Ez pins W D σ H) ∧
  ∀ σ1 C dd H1, Ez σ1 C dd H1 → PySem.W.exmOne K C Cv = some true ∧ ∀ e, H1 e = none → th e D σ1 (upd H1 e (exO C dd e))
section
variable {X : Cx}
theorem ps_tryN {body suite : List Stmt} {b₀ : Stmt} {tx : Str} {np hpos pos : Pos} {Cv : Value} {tb : (St → XK) → List (Addr × Obj) → (Value → Shared → Prop) → TS} {th : Addr → TS}
    (hst : X.stack = X.env :: X.outer) (hfr : X.env.frame = some X.env.locals) (hex : X.ex = []) (hg : Gl X tx) (hm : X.mg tx = some Cv)
    (hb : ∀ Ez pins W, PassesS (CXx X.prog X.w) (X.tr pins W) Ez → PSs (X.tr pins W) body (tb Ez pins W)) (hs : ∀ e, PSs (X.sui e) (b₀ :: suite) (th e)) (hdb : (tx == ("__debug__" : Str)) = false := by decide) :
    PS X (.Try body [.ExceptHandler (some (.Name tx np)) none (b₀ :: suite) hpos] [] [] pos) (tTryN X.K Cv tb th) := by
  unfold PS at *; unfold PSs at *
  exact by
    intro pins s σ H D I h
    obtain ⟨Ez, hb1, hh⟩ := h
    let W : Value → Shared → Prop := fun u s' => ∃ σ1 H1 s1, Inv X pins σ1 H1 s1 ∧ CXx X.prog X.w X.stack H1 s1 (Ez σ1) u s'
    have hp : PassesS (CXx X.prog X.w) (X.tr pins W) Ez := fun pins' σ1 H1 s1 u s' I1 hx => ⟨σ1, H1, s1, I1.untr, hx⟩
    refine wpAny_Try_except (wpAny_mono ((hb Ez pins W hp) [] s σ H D I.tr (hb1 pins W)) (fun f s1 q => ?_) (fun u s' q => ?_))
    · have q' := q.untr
      cases f with
      | next => exact wpAny_execs_nil q'
      | brk => exact q'
      | cont => exact q'
      | ret v => exact q'
    · obtain ⟨σ1, H1, s1, I1, e, C, dd, T, H', rfl, os, bare, un, hok, x1, x2, x3, f1, f2, n1, n2, hE⟩ := q
      have hfun : s'.heap.FunFrames X.base (X.env :: X.outer) := by
        rw [← hst]
        exact funFrames_un I1.stack fun b o hb q => un.slot b o q (I1.stkFree b hb) hb (by simp)
      refine leave_fly (T0 := some T) (L := X.env.locals) (by rw [← hst]; exact I1.ok.frames) hfun hfr x1 (fun T' z => by cases z; exact ⟨x2, x3⟩) fun h' T2 y1 y2 y3 y4 mv => ?_
      rw [← hst] at mv
      have ntr : ∀ b u, H' b = some u → b ∉ frs X.stack := fun b u q hb => by
        obtain ⟨_, o, ho, _⟩ := I1.stack.mem hb
        have := un.free b o ho (I1.stkFree b hb) (by simp)
        rw [q] at this; cases this
      have hU : Un (frs X.stack) [] H1 H' s1.heap h' := un_moved (l := X.stack) un mv (fun _ z => z) (fun _ _ _ z => z) n1 fun T' z => by cases z; exact n2
      have hO : HOk X.prog X.w H' h' := hok.track fun b u o q1 q2 => mv.keep b o (fun z => by rw [z, f1] at q1; cases q1) (fun z => by cases z; rw [f2] at q1; cases q1) (ntr b u q1) q2
      have I2 : Inv X pins σ1 H' { s' with heap := h' } := I1.call' (s' := { s' with heap := h' }) (ch := []) os hU hO bare fun _ z => absurd z (by simp)
      -- the exception becomes an object of ours
      have he0 : X.s₀.heap.get? e = none := by
        cases q : X.s₀.heap.get? e with
        | none => rfl
        | some o =>
          obtain ⟨o1, q1⟩ := I1.base.there e o q (by rw [hex]; simp)
          rw [n1] at q1; cases q1
      have live : ∀ b o, s1.heap.get? b = some o → b ≠ e := fun b o q z => by rw [z, n1] at q; cases q
      have heL : e ≠ X.env.locals := by
        obtain ⟨m, ⟨o, _, _, ho, _⟩, _⟩ := I1.loc
        exact Ne.symm (live _ _ ho)
      have heC : ∀ x c, X.env.cells.lookup x = some c → c ≠ e := fun x c q => by
        obtain ⟨v, o, ho, _⟩ := I1.cell x c q
        exact live _ _ ho
      have heP : ∀ p ∈ X.pn ++ pins, p.1 ≠ e := fun p hp => live _ _ (I1.pin p hp).1
      have I3 : Inv X pins σ1 (upd H' e (exO C dd e)) { s' with heap := h' } := I2.adopt f1 he0 heL heC heP (exO_ok y1)
      -- the trace's record is nobody's
      have szT : ∀ b o, s'.heap.get? b = some o → b ≠ T2 := fun b o q => Nat.ne_of_lt (Nat.lt_of_lt_of_le (Heap.lt_size q) y3)
      have liveT : ∀ b o, s1.heap.get? b = some o → b ≠ T2 := fun b o q => by
        obtain ⟨o', q'⟩ := un.there b o q (by simp)
        exact szT b o' q'
      have hTL : T2 ≠ X.env.locals := by
        obtain ⟨m, ⟨o, _, _, ho, _⟩, _⟩ := I1.loc
        exact Ne.symm (liveT _ _ ho)
      have hT0 : X.s₀.heap.objs.size ≤ T2 := by
        obtain ⟨m, ⟨o, _, _, ho, _⟩, _⟩ := I1.loc
        obtain ⟨o', q'⟩ := un.there _ o ho (by simp)
        exact Nat.le_trans I1.ok.above (Nat.le_trans (Nat.le_of_lt (Heap.lt_size q')) y3)
      have hTC : ∀ x c, X.env.cells.lookup x = some c → c ≠ T2 := fun x c q => by
        obtain ⟨v, o, ho, _⟩ := I1.cell x c q
        exact liveT _ _ ho
      have hTP : ∀ p ∈ X.pn ++ pins, p.1 ≠ T2 := fun p hp => liveT _ _ (I1.pin p hp).1
      have hTn : upd H' e (exO C dd e) T2 = none := by
        rw [upd_ne y4]
        cases q : H' T2 with
        | none => rfl
        | some u => obtain ⟨ob, hob⟩ := (hok T2 u q).there; exact absurd rfl (szT T2 ob hob)
      obtain ⟨hmt, hsu⟩ := hh σ1 C dd H' hE
      obtain ⟨oe, vs, hoe, hcls, _⟩ := id y1
      have LT : PySem.W.Looks (model X.prog X.w) h' (typeOf (.ref e)) C := by
        subst hcls
        exact (PySem.W.Looks.ld hoe).andThen .now
      have ok : X.Ok := I.ok
      refine wpAny_handleBy_cons (codeAny_handlers_test (ld_glob (X := X.sui e) (I3.sui e) hg hm ?_ hdb)) (by intro q; cases q)
      refine PySem.W.Looks.here (PySem.W.exm_one I3.kIn LT hmt) ?_
      show codeAny _ _ (.handlers (.ref e) [.ExceptHandler none none (b₀ :: suite) hpos] X.env) _ _
      refine codeAny_handlers_suite ?_
      refine rest_fly y1 y2 y4 fun h2 z1 z2 k1 k2 => ?_
      have I4 : Inv X pins σ1 (upd H' e (exO C dd e)) { s' with heap := h2 } := I3.turned (t' := s'.toks) (fun b o hb q => k1 b o hb q) hTn hTL (.inr hT0) hTC hTP
      refine wpAny_mono ((hs e) pins _ _ _ _ (I4.sui e) (hsu e f1)) (fun f s6 q => ?_) fun _ _ z => z.elim
      cases f with
      | next => obtain ⟨σ6, H6, I6, q6⟩ := q; exact ⟨_, _, I6.unsui ok, q6⟩
      | brk => obtain ⟨σ6, H6, I6, q6⟩ := q; exact ⟨_, _, I6.unsui ok, q6⟩
      | cont => obtain ⟨σ6, H6, I6, q6⟩ := q; exact ⟨_, _, I6.unsui ok, q6⟩
      | ret v => obtain ⟨x6, σ6, H6, I6, r6, q6⟩ := q; exact ⟨_, _, _, I6.unsui ok, r6, q6⟩
theorem strs_vals : ∀ {l : List (Str × Tok)}, Vals ((l.map (·.1)).map V.str) (strValues l)
  | [] => .nil
  | p :: r => .cons ⟨_, rfl⟩ (strs_vals (l := r))
theorem mt_split : MtR X "str.split" (fun x vs H Q => ∃ z y, x = .str z ∧ vs = [.str y] ∧ z.length + 2 ≤ sizeLine ∧ (y.length == 0) = false ∧ ∀ l, H l = none → Q (.ref l) (upd H l (.lst ((Txt.split z y).map V.str)))) := by
  unfold MtR at *
  exact by
    intro pins s σ H x vs v us Q I rx rv h
    obtain ⟨z, y, rfl, rfl, hz, hy, q⟩ := h
    obtain ⟨t, rfl⟩ := rx
    obtain ⟨u0, rfl, ru⟩ := vals1 rv
    obtain ⟨u, rfl⟩ := ru
    have hle := split_le z y
    have fin : ∀ (l : List (Str × Tok)) (k : Nat), l.map (·.1) = Txt.split z y → EP X pins σ Q (.ref s.heap.objs.size) { s with heap := s.heap.push { cls := .type "list", data := .seq (strValues l).toArray }, toks := k } := fun l k e =>
      ⟨.ref s.heap.objs.size, _, I.lnew (ys := (Txt.split z y).map V.str) (t' := k) (by rw [← e]; exact strs_vals) (by rw [List.length_map]; omega), rfl, q _ I.fresh⟩
    have hn : (Builtin.Str.partsBetween z (Builtin.Str.occurrences z y 0 z.length (z.length + 1)) y.length).length ≤ sizeLine := by
      have e1 := StrLaws.occ_length_le z y 0 z.length (z.length + 1)
      rw [length_partsBetween]; omega
    cases h1 : (decide (z.length < y.length) || decide (Builtin.Str.strKind z < Builtin.Str.strKind y))
    · cases hf : (Builtin.Str.occurrences z y 0 z.length (z.length + 1)).isEmpty
      · refine call_meets F.slot_str_split (typeIs_str _ _ _) F.entry_str_split (F.args_str_split_2 _ _) (meets_str_split_sep z y t u h1 hy hf (by omega) hn) ?_
        show wants _ _ _ { s with toks := _, heap := s.heap.push { cls := .type "list", data := .seq (strsFrom s.toks (Builtin.Str.partsBetween z (Builtin.Str.occurrences z y 0 z.length (z.length + 1)) y.length)).toArray } }
        rw [strsFrom_eq]
        exact fin (numbered s.toks _) _ ((numbered_texts _ _).trans ((if_neg (ne_true_of_eq_false h1)).trans (if_neg (ne_true_of_eq_false hf))).symm)
      · exact call_meets F.slot_str_split (typeIs_str _ _ _) F.entry_str_split (F.args_str_split_2 _ _) (meets_str_split_not_found z y t u h1 hy hf) (fin [(z, t)] s.toks ((if_neg (ne_true_of_eq_false h1)).trans (if_pos hf)).symm)
    · exact call_meets F.slot_str_split (typeIs_str _ _ _) F.entry_str_split (F.args_str_split_2 _ _) (meets_str_split_cannot_occur z y t u h1) (fin [(z, t)] s.toks (if_pos h1).symm)
end
end L2
namespace L2
open PySem PySem.Spec PyProof.Rows
theorem runs_toks {M : Model} {Γ : PySem.Ctx} {p : Pos} {t : Sem Fin} {fs : List Frame} {s : Shared} {e : End} {s' : Shared} (h : Runs M Γ p t fs s e s') : s.toks ≤ s'.toks := by
  induction h with
  | done | raise | yield => exact Nat.le_refl _
  | again _ _ ih | rule _ ih | «at» _ ih | load _ _ ih | loadIfAlive _ ih | point _ ih | ask _ ih | handled _ ih | genState _ _ ih | stack _ ih | thread _ ih => exact ih
  | update _ _ ih | alloc _ ih | choose _ _ ih | os _ ih | newGen _ ih | callSusp _ ih | resumeJustStarted _ _ _ ih | resumeThrowFresh _ _ ih | resumeRunning _ _ ih | resumeFinished _ _ ih | segSuspOut _ _ ih => exact ih
  | fresh _ ih => exact Nat.le_trans (Nat.le_succ _) ih
  | call _ _ i1 i2 | segRet _ _ i1 i2 => exact Nat.le_trans i1 i2
  | segGen _ _ i1 i2 => exact Nat.le_trans i1 i2
  | resumeFresh _ _ _ _ i1 i2 => exact Nat.le_trans i1 i2
  | resumeSuspended _ _ _ _ i1 i2 => exact Nat.le_trans i1 i2
  | segSuspGen _ _ _ _ i1 i2 => exact Nat.le_trans i1 i2
theorem wakes_toks {M : Model} {Γ : PySem.Ctx} {p : Pos} {g : Nat} {r : Resume} {s : Shared} {res : GenResult} {s' : Shared} (h : Wakes M Γ p g r s res s') : s.toks ≤ s'.toks := by
  unfold Wakes at h
  split at h
  · exact h.elim
  · split at h
    · obtain ⟨e, s1, h1, _, _, rfl⟩ := h
      have q := runs_toks h1
      exact q
    · rw [h.2]; exact Nat.le_refl _
    · rw [h.2]; exact Nat.le_refl _
  · obtain ⟨e, s1, h1, _, _, rfl⟩ := h
    have q := runs_toks h1
    exact q
  · rw [h.2]; exact Nat.le_refl _
  · rw [h.2]; exact Nat.le_refl _
theorem wp_toks {α : Type} (M : Model) (Γ : PySem.Ctx) (n : Nat) (t : Sem α) {Q : α → Pos → Shared → Prop} {E : Value → Pos → Shared → Prop} (p : Pos) (s : Shared) (hn : n ≤ s.toks) (h : Sem.wp M Γ t Q E p s) :
    Sem.wp M Γ t (fun a p' s' => Q a p' s' ∧ n ≤ s'.toks) E p s := by
  revert h
  induction t generalizing p s with
  | pure x => exact fun h => ⟨h, hn⟩
  | raise v => exact id
  | unsupported | finish | yield | fork | await | register => exact id
  | rule _ k ih | «at» _ k ih | alloc _ k ih | loadIfAlive _ k ih | point _ k ih | ask k ih | os _ _ k ih | handled _ k ih | newGen _ k ih | stack k ih | thread k ih => exact ih _ _ _ hn
  | fresh k ih => exact ih _ _ _ (Nat.le_succ_of_le hn)
  | load a _ k ih | genState a k ih => exact fun ⟨o, ho, h⟩ => ⟨o, ho, ih _ _ _ hn h⟩
  | update a _ f k ih | choose _ _ k ih => exact fun ⟨ha, h⟩ => ⟨ha, ih _ _ _ hn h⟩
  | call c h g l k ih => exact fun ⟨r, s', hr, hR⟩ => ⟨r, s', hr, ih r p s' (Nat.le_trans hn (runs_toks hr)) hR⟩
  | resume g r l k ih => exact fun ⟨res, s', hw, h⟩ => ⟨res, s', hw, ih _ _ _ (Nat.le_trans hn (wakes_toks hw)) h⟩
theorem any_toks {α : Type} {M : Model} {A : Around} {t : Sem α} {Q : α → Shared → Prop} {E : Value → Shared → Prop} {s : Shared} (h : wpAny M A t Q E s) : wpAny M A t (fun a s' => Q a s' ∧ s.toks ≤ s'.toks) E s :=
  fun Γ p hΓ => wp_toks M Γ s.toks t p s (Nat.le_refl _) (h Γ p hΓ)
@[irreducible] def PEp (X : Cx) (e : Expr) (t : TE) : Prop :=
  ∀ (pins : List (Addr × Obj)) (s : Shared) (σ : St) (H : Hp) (Q : VK), 0 < s.toks → Inv X pins σ H s → t σ H Q → wpAny (model X.prog X.w) X.A (eval e X.env) (EP X pins σ Q) X.xe s
@[irreducible] def PAp (X : Cx) (es : List Expr) (t : TA) : Prop :=
  ∀ (pos : Pos) (pins : List (Addr × Obj)) (s : Shared) (σ : St) (H : Hp) (Q : List V → Hp → Prop), 0 < s.toks → Inv X pins σ H s → t σ H Q → wpAny (model X.prog X.w) X.A (spliced (backTo pos (starEach es X.env))) (AP X pins σ Q) X.xe s
@[irreducible] def PEb (X : Cx) (e : Expr) (t : TE) : Prop :=
  ∀ (pins : List (Addr × Obj)) (s : Shared) (σ : St) (H : Hp) (Q : VK), Inv X pins σ H s → t σ H Q → wpAny (model X.prog X.w) X.A (eval e X.env) (fun u s' => EP X pins σ Q u s' ∧ 0 < s'.toks) X.xe s
section
variable {X : Cx} {e o a : Expr} {es : List Expr} {te to ta tb : TE} {t : TA} {pos : Pos}
theorem PE.p (h : PE X e te) : PEp X e te := by
  unfold PE at *
  exact by
    unfold PEp
    exact fun pins s σ H Q _ => h pins s σ H Q
theorem PA.p (h : PA X es t) : PAp X es t := by
  unfold PA at *
  exact by
    unfold PAp
    exact fun pos pins s σ H Q _ => h pos pins s σ H Q
theorem peb_op {op : Operator} {r : R2} {y : Str} {j : Nat} {cpos : Pos} (ho : OpR X (binaryOp op) r) (ha : PE X a ta) : PEb X (.BinOp a op (.Constant (.str y) j cpos) pos) (tOp r ta (tC (.str y))) := by
  unfold PE at *; unfold OpR at *
  exact by
    unfold PEb
    intro pins s σ H Q I h
    refine wpAny_BinOp (thn (ha pins s σ H _ I h) fun v s1 ⟨x, H1, I1, r1, q1⟩ => ?_)
    refine Calls.Constant_str ?_
    refine wpAny_mono (any_toks (ho pins _ σ H1 x (.str y) v _ Q (I1.tok _) r1 ⟨_, rfl⟩ q1)) (fun u s' q => ⟨q.1, Nat.lt_of_lt_of_le (Nat.succ_pos _) q.2⟩) fun _ _ q => q
theorem pap_cons (ha : PEp X e te) (hr : PAp X es t) (hs : starEach (e :: es) X.env = (false, eval e X.env) :: starEach es X.env := by rfl) : PAp X (e :: es) (tCons te t) := by
  unfold PEp at ha; unfold PAp at *
  intro pos pins s σ H Q p0 I h
  rw [hs]
  show wpAny _ _ (spliced ((false, eval e X.env) :: backTo pos (starEach es X.env))) _ _ s
  refine Calls.spliced_cons (thn (any_toks (ha pins s σ H _ p0 I h)) fun u s1 ⟨⟨x, H1, I1, r1, q1⟩, p1⟩ => ?_)
  exact thn (hr pos pins s1 σ H1 _ (Nat.lt_of_lt_of_le p0 p1) I1 q1) fun us s2 ⟨xs, H2, I2, r2, q2⟩ => ⟨x :: xs, H2, I2, .cons r1 r2, q2⟩
end
def rep1 (x y z : Str) : Str := if ((Builtin.Str.occurrences x y 0 x.length 1).isEmpty || (y.length == 0 && z.length == 0)) = true then x else Builtin.Str.glued z (Builtin.Str.partsBetween x (Builtin.Str.occurrences x y 0 x.length 1) y.length)
section
open Builtin Builtin.Str
theorem rep1_len (x y z : Str) : (rep1 x y z).length ≤ x.length + z.length := by
  unfold rep1
  split
  · omega
  · have h1 := StrLaws.occ_length_le x y 0 x.length 1
    have hy : (glued y (partsBetween x (occurrences x y 0 x.length 1) y.length)).length = x.length := by rw [StrLaws.glued_between_self]
    rw [size_glued, length_partsBetween, Nat.add_sub_cancel] at hy
    rw [size_glued, length_partsBetween, Nat.add_sub_cancel]
    have h2 : (occurrences x y 0 x.length 1).length * z.length ≤ 1 * z.length := Nat.mul_le_mul_right _ h1
    omega
theorem gives_rep1 (x y z : Str) (t u v c : Tok) (h0 : (u == 0 || v == 0) = false) (huv : (u == v) = false) (hyz : (y == z) = false) (hl : tooLong (x.length + (occurrences x y 0 x.length 1).length * z.length) = false) :
    Gives («str.replace» ⟨[.str x t, .str y u, .str z v, .int 1 c], []⟩) (if ((occurrences x y 0 x.length 1).isEmpty || (y.length == 0 && z.length == 0)) = true then .val (.str x t) else .str (glued z (partsBetween x (occurrences x y 0 x.length 1) y.length))) := by
  have e : «str.replace» ⟨[.str x t, .str y u, .str z v, .int 1 c], []⟩ = (do
      let limit ← countLimit "str.replace" (some (.int 1 c)) (x.length + 1)
      if ((occurrences x y 0 x.length limit).isEmpty || (y.length == 0 && z.length == 0)) = true then (do rule "str.replace.nothing"; ret (.str x t)) else
          (do let same ← isSame (.str y u) (.str z v)
              if same = true then (do rule "str.replace.old-is-new"; ret (.str x t)) else
              if tooLong (x.length + (occurrences x y 0 x.length limit).length * z.length) = true then unsupported "str.replace:memory" else
              retStr (glued z (partsBetween x (occurrences x y 0 x.length limit) y.length)))) := rfl
  rw [e, countLimit_int "str.replace" 1 c _ (by decide)]
  show Gives (if ((occurrences x y 0 x.length 1).isEmpty || (y.length == 0 && z.length == 0)) = true then (do rule "str.replace.nothing"; ret (.str x t)) else
          (do let same ← isSame (.str y u) (.str z v)
              if same = true then (do rule "str.replace.old-is-new"; ret (.str x t)) else
              if tooLong (x.length + (occurrences x y 0 x.length 1).length * z.length) = true then unsupported "str.replace:memory" else
              retStr (glued z (partsBetween x (occurrences x y 0 x.length 1) y.length)))) _
  cases hc : ((occurrences x y 0 x.length 1).isEmpty || (y.length == 0 && z.length == 0))
  · rw [isSame_str_other y z u v h0 huv hyz, hl]
    exact .of_eq rfl
  · exact .rule (.of_eq rfl)
end
def tRep (K : PySem.W.Frag) (to : TE) (y z : Str) : TE := fun σ H Q => to σ H fun x H1 => ∃ w, x = .str w ∧ w.length + z.length ≤ 16777215 ∧ Q (.str (rep1 w y z)) H1
section
variable {X : Cx} {o : Expr} {to : TE} {apos cpos : Pos}
theorem pep_rep {y z : Str} {i j k : Nat} {p1 p2 p3 : Pos} (ho : PE X o to) (hyz : (y == z) = false)
    (hbase : attributeBase o "replace" X.env (eval o X.env) = eval o X.env := by rfl)
    (hfew : ((backTo cpos (starEach [.Constant (.str y) i p1, .Constant (.str z) j p2, .Constant (.int 1) k p3] X.env)).all (fun x => !x.1) && (backToKw cpos (keywordEach [] X.env)).all (fun x => x.1.isSome)
      && decide (([.Constant (.str y) i p1, .Constant (.str z) j p2, .Constant (.int 1) k p3] : List Expr).length + ([] : List Keyword).length + (if ([] : List Keyword).isEmpty then 0 else 1) < 30)) = true := by rfl)
    (hline : (apos.endLine == cpos.line) = true := by rfl) :
    PEp X (.Call (.Attribute o "replace" apos) [.Constant (.str y) i p1, .Constant (.str z) j p2, .Constant (.int 1) k p3] [] cpos) (tRep X.K to y z) := by
  unfold PE at *
  exact by
    unfold PEp
    intro pins s σ H Q p0 I h
    refine wpAny_Call_method_late hbase hfew hline rfl (thn (any_toks (ho pins s σ H _ I h)) fun v s1 ⟨⟨x, H1, I1, r1, w, ew, hw, q1⟩, ht⟩ => ?_)
    subst ew
    obtain ⟨t, rfl⟩ := r1
    have s1p : 0 < s1.toks := Nat.lt_of_lt_of_le p0 ht
    refine ⟨"str", "str.replace", PySem.F.plainAttrs_str, PySem.F.slot_str_replace, PySem.F.type_str_replace, typeIs_str _ _ _, (fun _ q => nomatch q), ?_⟩
    refine Calls.callWith_builtin rfl (Calls.evalArgs_plain ?_)
    show wpAny _ _ (spliced [(false, eval (.Constant (.str y) i p1) X.env), (false, eval (.Constant (.str z) j p2) X.env), (false, eval (.Constant (.int 1) k p3) X.env)]) _ _ s1
    refine Calls.spliced_cons (Calls.Constant_str (Calls.spliced_cons (Calls.Constant_str (Calls.spliced_cons (wpAny_Constant_int (Calls.spliced_nil ?_))))))
    have h1 := StrLaws.occ_length_le w y 0 w.length 1
    have hl : Builtin.Str.tooLong (w.length + (Builtin.Str.occurrences w y 0 w.length 1).length * z.length) = false := by
      have h2 : (Builtin.Str.occurrences w y 0 w.length 1).length * z.length ≤ 1 * z.length := Nat.mul_le_mul_right _ h1
      unfold Builtin.Str.tooLong sizeLine
      exact decide_eq_false (by omega)
    have g := gives_rep1 w y z t s1.toks (s1.toks + 1) (s1.toks + 1 + 1) (by rw [Bool.or_eq_false_iff]; exact ⟨beq_eq_false_iff_ne.mpr (Nat.ne_of_gt s1p), beq_eq_false_iff_ne.mpr (Nat.succ_ne_zero _)⟩) (beq_eq_false_iff_ne.mpr (Nat.ne_of_lt (Nat.lt_succ_self _))) hyz hl
    refine call_gives F.slot_str_replace (typeIs_str _ _ _) F.entry_str_replace (F.args_str_replace_4 _ _ _ _) g ?_
    have hlen := rep1_len w y z
    unfold rep1 at q1 hlen
    cases hc : ((Builtin.Str.occurrences w y 0 w.length 1).isEmpty || (y.length == 0 && z.length == 0))
    · rw [hc] at q1 hlen
      simp only [Bool.false_eq_true, if_false] at q1 hlen ⊢
      exact ⟨by rw [sizeLine_eq]; omega, .str _, H1, I1.tok _, ⟨_, rfl⟩, q1⟩
    · rw [hc] at q1
      simp only [if_true] at q1 ⊢
      exact ⟨.str _, H1, I1.tok _, ⟨_, rfl⟩, q1⟩
end
end L2
namespace L2
open PySem PySem.Spec PyProof.Rows
theorem range_any (bs : List Bool) : ((List.range bs.length).any fun i => (bs[i]?).getD true) = bs.any id := by
  rw [Bool.eq_iff_iff, List.any_eq_true, List.any_eq_true]
  constructor
  · rintro ⟨i, hi, h⟩
    have hi := List.mem_range.mp hi
    rw [List.getElem?_eq_getElem hi] at h
    exact ⟨bs[i], List.getElem_mem hi, h⟩
  · rintro ⟨b, hb, h⟩
    obtain ⟨i, hi, e⟩ := List.getElem_of_mem hb
    refine ⟨i, List.mem_range.mpr hi, ?_⟩
    rw [List.getElem?_eq_getElem hi, e]
    exact h
theorem call_any {X : Cx} (hc : X.calm = true) : CallR X (.builtin "any") (fun xs H Q => ∃ (a : Addr) (bs : List Bool), xs = [.ref a] ∧ SqL X.K H a (bs.map V.bl) ∧ Q (.bl (bs.any id)) H) := by
  unfold CallR at *
  exact by
    intro pins s σ H xs us Q I r h
    obtain ⟨a, bs, rfl, hq, q⟩ := h
    obtain ⟨u, rfl, ru⟩ := vals1 r
    cases ru
    obtain ⟨its, rv, pl, hz⟩ := I.list hq
    have hb := boolsAre_of rv
    have hl := pl.isList
    have hlt : a < s.heap.objs.size := by obtain ⟨_, e, _⟩ := hl; exact Heap.lt_size e
    refine call_any_walk (wpAny_pyIter_list hl ⟨s.heap.objs.size, [s.heap.objs.size, a], [s.heap.objs.size], its.toArray.size, _, _, fun i => (bs[i]?).getD true, rfl, Walks.list (A := X.A.in1) (I.ok.hd hc) _ a (Nat.ne_of_lt hlt) its.toArray,
      ⟨⟨_, Heap.get?_push_size _ rfl, rfl, rfl⟩, hl.push _⟩, fun i v s' Q' E' hP hQ => ?_, fun h' tk hk => ?_⟩)
    · obtain ⟨b, e, rfl⟩ := hb.get i v (by simpa using hP)
      have hQ : Q' ((bs[i]?).getD true) s' := hQ
      rw [e] at hQ
      exact wpAny_truthy_bool hQ
    · have e : ((List.range its.toArray.size).any fun i => (bs[i]?).getD true) = bs.any id := by
        rw [List.size_toArray, hb.length]; exact range_any bs
      rw [e]
      exact ⟨.bl (bs.any id), H, I.kept (t' := tk) (kept_it hk), rfl, q⟩
theorem mt_upper {X : Cx} : MtR X "str.upper" (fun x xs H Q => ∃ z, x = .str z ∧ xs = [] ∧ z.length ≤ 1000 ∧ Q (.str (Txt.upper z)) H) := by
  unfold MtR at *
  exact by
    intro pins s σ H x xs v us Q I rx rv h
    obtain ⟨z, rfl, rfl, hz, q⟩ := h
    obtain ⟨t, rfl⟩ := rx
    cases rv
    have ft : Builtin.Str.tooLong (Txt.upper z).length = false := fit_upper (by omega)
    exact call_gives F.slot_str_upper (typeIs_str _ _ _) F.entry_str_upper (F.args_str_upper_1 _) (gives_str_upper z t ft) ⟨fit_le ft, .str _, H, I.tok _, ⟨_, rfl⟩, q⟩
def rKNotIn (w : World) (K : PySem.W.Frag) : R2 := fun x y H Q => ∃ a kvs z, x = .str z ∧ y = .ref a ∧ KDict w K a kvs ∧ (a == sysModules) = false ∧ Q (.bl (!(kvs.lookup z).isSome)) H
theorem op_notInK {X : Cx} : OpR X (compareOp .NotIn) (rKNotIn X.w X.K) := by
  unfold OpR at *
  exact by
    intro pins s σ H x y v u Q I rx ry h
    obtain ⟨a, kvs, z, rfl, rfl, D, hd, q⟩ := h
    cases ry
    have rx' : RelV (kV (Sum.inr z)) v := rx
    obtain ⟨vs, rel, dd⟩ := D.dictOf (P := X.prog) I.kIn
    refine wpAny_notIn_of (kV_is rx') hd dd.mapOf ?_
    rw [← (rel.val (Sum.inr z)).isSome_eq, valV_str]
    exact ⟨.bl _, H, I.tok _, rfl, q⟩
end L2
namespace L2
open PySem PySem.Spec PyProof.Rows
structure Hand (P : Program) (w : World) (i l : Addr) (St : Nat → Heap → Prop) (xs : Array Value) : Prop where
  keep : ∀ k h h', St k h → (∀ o, h.get? i = some o → h'.get? i = some o) → (∀ o, h.get? l = some o → h'.get? l = some o) → St k h'
  item : ∀ (A : Around) (E : Value → Shared → Prop) k x (s : Shared) (Q : Value → Shared → Prop), St k s.heap → xs[k]? = some x → (∀ h', St (k + 1) h' → Heap.SameBut i s.heap h' → Q x { s with heap := h' }) → wpAny (model P w) A (Builtin.SmallTypes.nextOf (.ref i)) Q E s
  stop : ∀ (A : Around) (E : Value → Shared → Prop) k (s : Shared) (Q : Value → Shared → Prop), A.handled = none → St k s.heap → xs[k]? = none → (∀ h' e, Heap.ExtBut i s.heap h' → (∃ o, h'.get? e = some o ∧ o.cls = .type "StopIteration") → E (.ref e) { s with heap := h' }) → wpAny (model P w) A (Builtin.SmallTypes.nextOf (.ref i)) Q E s
theorem Hand.list {P : Program} {w : World} (i l : Addr) (n : i ≠ l) (xs : Array Value) : Hand P w i l (fun k h => h.IsListIter i l k ∧ h.IsList l xs) xs where
  keep := fun k h h' st a b => ⟨st.1.at a, st.2.at b⟩
  item := fun A E k x s Q st hx hQ => wpAny_nextOf_list_item st.1 st.2 hx fun h' a b => hQ h' ⟨a, st.2.extBut b.extBut n.symm⟩ b
  stop := fun A E k s Q hh st hx hE => wpAny_nextOf_list_end hh st.1 st.2 hx hE
section
variable {P : Program} {w : World} {A : Around} {E : Value → Shared → Prop} {s : Shared}
theorem tup_step {it t : Addr} {i : Nat} {its : Array Value} {Q : Value → Shared → Prop} (hit : s.heap.IsTupleIter it t i) (ht : s.heap.IsTuple t its)
    (h : match its[i]? with
      | some x => ∀ h', h'.IsTupleIter it t (i + 1) → Heap.SameBut it s.heap h' → Q x { s with heap := h' }
      | none => A.handled = none ∧ ∀ h' e, Heap.ExtBut it s.heap h' → (∃ o, h'.get? e = some o ∧ o.cls = .type "StopIteration") → E (.ref e) { s with heap := h' }) :
    wpAny (model P w) A (Builtin.SmallTypes.nextOf (.ref it)) Q E s := by
  obtain ⟨o, ho, hc, hd⟩ := id hit
  obtain ⟨ol, hol, _, nl, hdl⟩ := ht
  have ne : ¬ (Value.ref t == Value.none) = true := Bool.false_ne_true
  unfold Builtin.SmallTypes.nextOf
  refine wpAny_bind (wpAny_callSpecial?_slot (name := Str.ofString "__next__") hit.typeIs F.slot_tuple_iterator_next (wpAny_call_entry F.slot_tuple_iterator_next hit.typeIs F.entry_tuple_iterator_next ?_ (F.args_tuple_iterator_next_1 _)))
  refine (show wpAny _ _ (field (.ref it) 0 >>= _) _ _ s from wpAny_bind (wpAny_field ho hd (x := .ref t) rfl ((if_neg ne).symm ▸ (show wpAny _ _ (field (.ref it) 1 >>= _) _ _ s from wpAny_bind (wpAny_field ho hd (x := .int i 0) rfl (show wpAny _ _ (seqItems? (.ref t) >>= _) _ _ s from wpAny_bind (wpAny_seqItems hol hdl ?_)))))))
  cases hx : its[i]? with
  | some x =>
    rw [hx] at h
    simp only [Int.toNat_natCast, hx]
    refine wpAny_bind (wpAny_setField ho hd (by simp) (wpAny_pure ⟨x, rfl, wpAny_pure (h _ ⟨_, Heap.get?_update_self _ ho (Obj.isFreed_of_fields (Obj.data_mapFields hd _)), (Obj.cls_mapFields ..).trans hc, ?_⟩ (Heap.SameBut.update ..))⟩))
    rw [Obj.data_mapFields hd]; simp [rawInt]
  | none =>
    rw [hx] at h
    simp only [Int.toNat_natCast, hx]
    refine wpAny_bind (wpAny_rule (wpAny_bind (wpAny_setField ho hd (by simp) (show wpAny _ _ (newExc (.type "StopIteration") [] >>= _) _ _ _ from wpAny_bind ?_))))
    simp only [newExc, newTuple]
    refine wpAny_bind (wpAny_newObj_type (wpAny_bind (m := firstArgMember _ _) (wpAny_of_eq (a := Value.none) (by first | rfl | (simp only [firstArgMember]; rfl)) (wpAny_newObj_type ?_ (by size_fits)))) (by size_fits))
    simp only [raiseNew]
    refine wpAny_bind (wpAny_handled ?_)
    rw [show A.in1.handled = none from h.1]
    exact wpAny_bind (wpAny_pure (wpAny_throw (h.2 _ _ (((Heap.SameBut.update ..).extBut.push _).push _) ⟨_, Heap.get?_push_size _ rfl, rfl⟩)))
end
theorem Hand.tup {P : Program} {w : World} (i t : Addr) (n : i ≠ t) (xs : Array Value) : Hand P w i t (fun k h => h.IsTupleIter i t k ∧ h.IsTuple t xs) xs where
  keep := fun k h h' st a b => ⟨st.1.at a, st.2.at b⟩
  item := fun A E k x s Q st hx hQ => tup_step st.1 st.2 (by rw [hx]; exact fun h' a b => hQ h' ⟨a, st.2.extBut b.extBut n.symm⟩ b)
  stop := fun A E k s Q hh st hx hE => tup_step st.1 st.2 (by rw [hx]; exact ⟨hh, hE⟩)
section
variable {P : Program} {w : World} {A : Around} {E : Value → Shared → Prop} {s : Shared} {z TI TO i1 i2 l1 l2 : Addr} {S1 S2 : Nat → Heap → Prop} {xs ys : Array Value} {k : Nat} {a b : Value}
theorem zipG_item {x y : Value} {Q : Value → Shared → Prop} (D : ZipApart z TI TO i1 i2 l1 l2) (W1 : Hand P w i1 l1 S1 xs) (W2 : Hand P w i2 l2 S2 ys)
    (hz : IsZip s.heap z TI TO .none) (hTI : IsPair s.heap TI (.ref i1) (.ref i2)) (hTO : IsPair s.heap TO a b) (h1 : S1 k s.heap) (h2 : S2 k s.heap) (hx : xs[k]? = some x) (hy : ys[k]? = some y)
    (hQ : ∀ h', IsZip h' z TI TO (rawInt s.heap.objs.size) → IsPair h' TO x y → S1 (k + 1) h' → S2 (k + 1) h' → IsPair h' s.heap.objs.size x y → h'.objs.size = s.heap.objs.size + 1 → (∀ c o, c ∉ [z, TO, i1, i2] → s.heap.get? c = some o → h'.get? c = some o) → Q (.ref s.heap.objs.size) { s with heap := h' }) :
    wpAny (model P w) A (Builtin.«zip.__next__» ⟨[.ref z], []⟩) (fun fin s' => ∃ v, fin = .done (.ret v) ∧ Q v s') E s := by
  refine (show wpAny _ _ (field (.ref z) 2 >>= _) _ _ _ from wpAny_bind (wpAny_field hz rfl (x := .bool false) rfl (show wpAny _ _ (field (.ref z) 3 >>= _) _ _ _ from wpAny_bind (wpAny_field hz rfl (x := .ref TI) rfl (wpAny_bind (wpAny_seqItems hTI rfl (show wpAny _ _ (Builtin.SmallTypes.ownedTupleIsFree (.ref z) >>= _) _ _ _ from wpAny_bind ?_)))))))
  unfold Builtin.SmallTypes.ownedTupleIsFree
  refine wpAny_bind (wpAny_field hz rfl (x := .none) rfl (wpAny_pure ?_))
  simp only [if_true]
  refine wpAny_bind (wpAny_rule (wpAny_bind (wpAny_field hz rfl (x := .ref TO) rfl (wpAny_bind (wpAny_setField_rec hz (by simp) fun g1 z1 e1 => wpAny_bind ?_)))))
  have z1 : IsZip g1 z TI TO .ellipsis := z1
  have up1 : ∀ c o, c ≠ z → s.heap.get? c = some o → g1.get? c = some o := fun c o n q => e1.extBut _ _ n q
  simp only [List.zipIdx_cons, List.zipIdx_nil, List.forIn_cons, List.forIn_nil]
  refine wpAny_bind (wpAny_bind (wpAny_onRaise (show wpAny _ _ (Builtin.SmallTypes.nextOf (.ref i1) >>= _) _ _ _ from wpAny_bind (W1.item _ _ k x _ _ (W1.keep k _ _ h1 (fun o q => up1 _ o D.i1z q) fun o q => up1 _ o D.l1z q) hx fun g2 st2 e2 => wpAny_pure ?_))))
  have up2 : ∀ c o, c ≠ z → c ≠ i1 → s.heap.get? c = some o → g2.get? c = some o := fun c o n m q => e2.extBut _ _ m (up1 c o n q)
  refine wpAny_bind (wpAny_seqItems (show IsPair g2 TO a b from up2 _ _ D.TOz D.TOi1 hTO) rfl (wpAny_bind (wpAny_updateSeq_pair (show IsPair g2 TO a b from up2 _ _ D.TOz D.TOi1 hTO) fun g3 o3 e3 => wpAny_bind (wpAny_letGo (wpAny_pure ?_)))))
  have o3 : IsPair g3 TO x b := o3
  have up3 : ∀ c o, c ≠ z → c ≠ i1 → c ≠ TO → s.heap.get? c = some o → g3.get? c = some o := fun c o n m t q => e3.extBut _ _ t (up2 c o n m q)
  have st3 : S1 (k + 1) g3 := W1.keep _ _ _ st2 (fun o q => e3.extBut _ _ D.TOi1.symm q) fun o q => e3.extBut _ _ D.l1TO q
  refine wpAny_bind (wpAny_bind (wpAny_onRaise (show wpAny _ _ (Builtin.SmallTypes.nextOf (.ref i2) >>= _) _ _ _ from wpAny_bind (W2.item _ _ k y _ _ (W2.keep k _ _ h2 (fun o q => up3 _ o D.i2z D.i12.symm D.TOi2.symm q) fun o q => up3 _ o D.l2z D.l2i1 D.l2TO q) hy fun g4 st4 e4 => wpAny_pure ?_))))
  have o4 : IsPair g4 TO x b := e4.extBut _ _ D.TOi2 o3
  refine wpAny_bind (wpAny_seqItems o4 rfl (wpAny_bind (wpAny_updateSeq_pair o4 fun g5 o5 e5 => wpAny_bind (wpAny_letGo (wpAny_pure (wpAny_pure ?_))))))
  have o5 : IsPair g5 TO x y := o5
  have up5 : ∀ c o, c ∉ [z, TO, i1, i2] → s.heap.get? c = some o → g5.get? c = some o := fun c o m q => by
    simp only [List.mem_cons, List.not_mem_nil, or_false, not_or] at m
    exact e5.extBut _ _ m.2.1 (e4.extBut _ _ m.2.2.2 (up3 c o m.1 m.2.2.1 m.2.1 q))
  have z5 : IsZip g5 z TI TO .ellipsis := e5.extBut _ _ D.TOz.symm (e4.extBut _ _ D.i2z.symm (e3.extBut _ _ D.TOz.symm (e2.extBut _ _ D.i1z.symm z1)))
  have a5 : S1 (k + 1) g5 := W1.keep _ _ _ (W1.keep _ _ _ st3 (fun o q => e4.extBut _ _ D.i12 q) fun o q => e4.extBut _ _ D.l1i2 q) (fun o q => e5.extBut _ _ D.TOi1.symm q) fun o q => e5.extBut _ _ D.l1TO q
  have b5 : S2 (k + 1) g5 := W2.keep _ _ _ st4 (fun o q => e5.extBut _ _ D.TOi2.symm q) fun o q => e5.extBut _ _ D.l2TO q
  have sz : g5.objs.size = s.heap.objs.size := by rw [e5.1, e4.1, e3.1, e2.1, e1.1]
  have zlt : z ≠ g5.objs.size := Nat.ne_of_lt (Heap.lt_size z5)
  refine wpAny_bind (wpAny_seqItems o5 rfl (wpAny_bind (wpAny_newTuple (show wpAny _ _ (Builtin.SmallTypes.ownedTupleHandOut (.ref z) (.ref g5.objs.size) >>= _) _ _ _ from wpAny_bind ?_))))
  unfold Builtin.SmallTypes.ownedTupleHandOut
  refine wpAny_bind (wpAny_setField_rec (show IsZip (g5.push { cls := .type "tuple", data := .seq #[x, y] }) z TI TO .ellipsis from Heap.get?_push_of_some _ z5) (by simp) fun g7 z7 e7 => ?_)
  have z7 : IsZip g7 z TI TO (rawInt g5.objs.size) := z7
  refine wpAny_setField_rec z7 (by simp) fun g8 z8 e8 => ?_
  have z8 : IsZip g8 z TI TO (rawInt g5.objs.size) := z8
  have up8 : ∀ c o, c ≠ z → g5.get? c = some o → g8.get? c = some o := fun c o n q => e8.extBut _ _ n (e7.extBut _ _ n (Heap.get?_push_of_some _ q))
  have p8 : IsPair g8 g5.objs.size x y := e8.extBut _ _ zlt.symm (e7.extBut _ _ zlt.symm (Heap.get?_push_size _ rfl))
  have s8 : g8.objs.size = g5.objs.size + 1 := by rw [e8.1, e7.1, Heap.size_push]
  rw [sz] at z8 p8 s8
  refine wpAny_pure ⟨_, rfl, (show Q (.ref g5.objs.size) _ from ?_)⟩
  rw [sz]
  exact hQ g8 z8 (up8 _ _ D.TOz o5) (W1.keep _ _ _ a5 (fun o q => up8 _ o D.i1z q) fun o q => up8 _ o D.l1z q) (W2.keep _ _ _ b5 (fun o q => up8 _ o D.i2z q) fun o q => up8 _ o D.l2z q) p8 s8 fun c o m q => up8 c o (fun e => m (by simp [e])) (up5 c o m q)
theorem zipG_end {Q : Fin → Shared → Prop} (hh : A.handled = none) (D : ZipApart z TI TO i1 i2 l1 l2) (W1 : Hand P w i1 l1 S1 xs) (W2 : Hand P w i2 l2 S2 ys)
    (hz : IsZip s.heap z TI TO .none) (hTI : IsPair s.heap TI (.ref i1) (.ref i2)) (hTO : IsPair s.heap TO a b) (h1 : S1 k s.heap) (h2 : S2 k s.heap) (hend : xs[k]? = none ∨ ys[k]? = none)
    (hE : ∀ h' e, (∀ c o, c ∉ [z, TO, i1, i2] → s.heap.get? c = some o → h'.get? c = some o) → (∃ o, h'.get? e = some o ∧ o.cls = .type "StopIteration") → E (.ref e) { s with heap := h' }) :
    wpAny (model P w) A (Builtin.«zip.__next__» ⟨[.ref z], []⟩) Q E s := by
  refine (show wpAny _ _ (field (.ref z) 2 >>= _) _ _ _ from wpAny_bind (wpAny_field hz rfl (x := .bool false) rfl (show wpAny _ _ (field (.ref z) 3 >>= _) _ _ _ from wpAny_bind (wpAny_field hz rfl (x := .ref TI) rfl (wpAny_bind (wpAny_seqItems hTI rfl (show wpAny _ _ (Builtin.SmallTypes.ownedTupleIsFree (.ref z) >>= _) _ _ _ from wpAny_bind ?_)))))))
  unfold Builtin.SmallTypes.ownedTupleIsFree
  refine wpAny_bind (wpAny_field hz rfl (x := .none) rfl (wpAny_pure ?_))
  simp only [if_true]
  refine wpAny_bind (wpAny_rule (wpAny_bind (wpAny_field hz rfl (x := .ref TO) rfl (wpAny_bind (wpAny_setField_rec hz (by simp) fun g1 z1 e1 => wpAny_bind ?_)))))
  have z1 : IsZip g1 z TI TO .ellipsis := z1
  have up1 : ∀ c o, c ≠ z → s.heap.get? c = some o → g1.get? c = some o := fun c o n q => e1.extBut _ _ n q
  have st1 : S1 k g1 := W1.keep k _ _ h1 (fun o q => up1 _ o D.i1z q) fun o q => up1 _ o D.l1z q
  have fin : ∀ (g : Heap) (e : Addr), IsZip g z TI TO .ellipsis → (∀ c o, c ∉ [z, TO, i1, i2] → s.heap.get? c = some o → g.get? c = some o) → (∃ o, g.get? e = some o ∧ o.cls = .type "StopIteration") → ∀ g', Heap.SameBut z g g' → E (.ref e) { s with heap := g' } := fun g e hz' up ⟨o, ho, hc⟩ g' q => by
    have ne : e ≠ z := fun q => by subst q; rw [hz'] at ho; cases ho; simp at hc
    exact hE g' e (fun c u m r => q.extBut _ _ (fun n => m (by simp [n])) (up c u m r)) ⟨o, q.extBut _ _ ne ho, hc⟩
  simp only [List.zipIdx_cons, List.zipIdx_nil, List.forIn_cons, List.forIn_nil]
  refine wpAny_bind (wpAny_bind (wpAny_onRaise (show wpAny _ _ (Builtin.SmallTypes.nextOf (.ref i1) >>= _) _ _ _ from wpAny_bind ?_)))
  cases hx : xs[k]? with
  | none =>
    refine W1.stop _ _ k _ _ hh st1 hx fun g2 e ex he => ?_
    have z2 : IsZip g2 z TI TO .ellipsis := ex _ _ D.i1z.symm z1
    exact wpAny_setField_rec z2 (by simp) fun g3 _ e3 => fin g2 e z2 (fun c o m q => by
      simp only [List.mem_cons, List.not_mem_nil, or_false, not_or] at m
      exact ex _ _ m.2.2.1 (up1 c o m.1 q)) he g3 e3
  | some x =>
    have hy : ys[k]? = none := by
      rcases hend with h | h
      · rw [hx] at h; cases h
      · exact h
    refine W1.item _ _ k x _ _ st1 hx fun g2 st2 e2 => wpAny_pure ?_
    have up2 : ∀ c o, c ≠ z → c ≠ i1 → s.heap.get? c = some o → g2.get? c = some o := fun c o n m q => e2.extBut _ _ m (up1 c o n q)
    refine wpAny_bind (wpAny_seqItems (show IsPair g2 TO a b from up2 _ _ D.TOz D.TOi1 hTO) rfl (wpAny_bind (wpAny_updateSeq_pair (show IsPair g2 TO a b from up2 _ _ D.TOz D.TOi1 hTO) fun g3 o3 e3 => wpAny_bind (wpAny_letGo (wpAny_pure ?_)))))
    have up3 : ∀ c o, c ≠ z → c ≠ i1 → c ≠ TO → s.heap.get? c = some o → g3.get? c = some o := fun c o n m t q => e3.extBut _ _ t (up2 c o n m q)
    refine wpAny_bind (wpAny_bind (wpAny_onRaise (show wpAny _ _ (Builtin.SmallTypes.nextOf (.ref i2) >>= _) _ _ _ from wpAny_bind (W2.stop _ _ k _ _ hh (W2.keep k _ _ h2 (fun o q => up3 _ o D.i2z D.i12.symm D.TOi2.symm q) fun o q => up3 _ o D.l2z D.l2i1 D.l2TO q) hy fun g4 e ex he => ?_))))
    have z4 : IsZip g4 z TI TO .ellipsis := ex _ _ D.i2z.symm (e3.extBut _ _ D.TOz.symm (e2.extBut _ _ D.i1z.symm z1))
    exact wpAny_setField_rec z4 (by simp) fun g5 _ e5 => fin g4 e z4 (fun c o m q => by
      simp only [List.mem_cons, List.not_mem_nil, or_false, not_or] at m
      exact ex _ _ m.2.2.2 (up3 c o m.1 m.2.2.1 m.2.1 q)) he g5 e5
end
def ItzT (K : PySem.W.Frag) (a b : Addr) : It :=
  ⟨fun i H => ∃ xs ys x y, SqT K H a xs ∧ SqL K H b ys ∧ xs[i]? = some x ∧ ys[i]? = some y,
   fun i H v H' => ∃ T x y, v = .ref T ∧ H T = none ∧ H' = upd H T (.tup [x, y]) ∧ (∀ xs, SqT K H a xs → xs[i]? = some x) ∧ ∀ ys, SqL K H b ys → ys[i]? = some y,
   fun i H => ∃ xs ys, SqT K H a xs ∧ SqL K H b ys ∧ min xs.length ys.length = i⟩
theorem fp4 {X : Cx} {pins : List (Addr × Obj)} {H : Hp} {z TI TO i1 i2 : Addr} (hf : ∀ c ∈ [z, TI, TO, i1, i2], FpOk X pins H c) : ∀ c ∈ [z, TO, i1, i2], FpOk X pins H c := fun c hc => hf c (by
  simp only [List.mem_cons, List.not_mem_nil, or_false] at hc ⊢
  rcases hc with q | q | q | q <;> simp [q])
theorem turn_zipT {P : Program} {w : World} {K : PySem.W.Frag} {es : List Expr} {k : Nat} {pos : Pos} (a b z TI TO i1 i2 : Addr) (D : ZipApart z TI TO i1 i2 a b) :
    Turn P w K (.Tuple es k pos) (ItzT K a b) [z, TI, TO, i1, i2] z (fun i h => IsZip h z TI TO .none ∧ IsPair h TI (.ref i1) (.ref i2) ∧ (∃ x y, IsPair h TO x y) ∧ h.IsTupleIter i1 a i ∧ h.IsListIter i2 b i) where
  mem := by simp
  obj := fun i h st c hc => by
    obtain ⟨hz, hTI, ⟨x, y, hTO⟩, ⟨o1, ho1, hc1, hd1⟩, o2, ho2, hc2, hd2⟩ := st
    simp only [List.mem_cons, List.not_mem_nil, or_false] at hc
    rcases hc with rfl | rfl | rfl | rfl | rfl
    · exact ⟨_, hz, fun v z => by cases z⟩
    · exact ⟨_, hTI, fun v z => by cases z⟩
    · exact ⟨_, hTO, fun v z => by cases z⟩
    · exact ⟨o1, ho1, fun v z => by rw [hd1] at z; cases z⟩
    · exact ⟨o2, ho2, fun v z => by rw [hd2] at z; cases z⟩
  keep := fun i h h' st k => by
    obtain ⟨hz, hTI, ⟨x, y, hTO⟩, h1, h2⟩ := st
    exact ⟨k z (by simp) _ hz, k TI (by simp) _ hTI, ⟨x, y, k TO (by simp) _ hTO⟩, h1.at fun o e => k i1 (by simp) o e, h2.at fun o e => k i2 (by simp) o e⟩
  item := by
    intro X hP hw hK hc i pins s σ H E I hf st hg
    subst hP hw hK
    obtain ⟨xs, ys, x, y, hq1, hq2, hx, hy⟩ := hg
    obtain ⟨its1, rv1, p1, _⟩ := I.tuple hq1
    obtain ⟨its2, rv2, p2, _⟩ := I.list hq2
    obtain ⟨u1, hu1, ru1⟩ := rv1.get hx
    obtain ⟨u2, hu2, ru2⟩ := rv2.get hy
    obtain ⟨hz, hTI, ⟨o1, o2, hTO⟩, h1, h2⟩ := st
    have hT : s.TypeIs (.ref z) "zip" := ⟨_, hz, rfl⟩
    unfold pyNext
    refine wpAny_bind (wpAny_attempt (wpAny_callSpecial?_slot (name := Str.ofString "__next__") hT F.slot_zip_next (wpAny_call_entry F.slot_zip_next hT F.entry_zip_next (zipG_item D (Hand.tup i1 a D.l1i1.symm its1.toArray) (Hand.list i2 b D.l2i2.symm its2.toArray) hz hTI hTO ⟨h1, p1⟩ ⟨h2, p2.isList⟩ (x := u1) (y := u2) (by simpa using hu1) (by simpa using hu2) fun g1 z1 o1 a1 b1 t1 sz1 hk => wpAny_pure ?_) (F.args_zip_next_1 _))))
    refine ⟨_, rfl, wpAny_letOwnedTupleGo_zip z1 fun g2 z2 e2 => ?_⟩
    have zT : s.heap.objs.size ≠ z := Nat.ne_of_gt (Heap.lt_size hz)
    have up : ∀ c o, c ∉ [z, TO, i1, i2] → s.heap.get? c = some o → g2.get? c = some o := fun c o m q => e2.extBut _ _ (fun n => m (by simp [n])) (hk c o m q)
    have hTn : H s.heap.objs.size = none := I.hok.fresh (Nat.le_refl _)
    have I1 : Inv X pins σ H { s with heap := g2, toks := s.toks } := I.turns (t' := s.toks) up (fp4 hf)
    have t2 : g2.IsTuple s.heap.objs.size #[u1, u2] := ⟨_, e2.extBut _ _ zT t1, rfl, _, rfl⟩
    have live : ∀ c o, s.heap.get? c = some o → s.heap.objs.size ≠ c := fun c o q => Nat.ne_of_gt (Heap.lt_size q)
    have fT : ∀ c ∈ [z, TI, TO, i1, i2], upd H s.heap.objs.size (.tup [x, y]) c = none := fun c hc => by
      rw [upd_ne (fun q => ?_)]
      · exact (hf c hc).1
      · obtain ⟨q1, e1, _⟩ := h1
        obtain ⟨q2, e2, _⟩ := h2
        simp only [List.mem_cons, List.not_mem_nil, or_false] at hc
        rcases hc with rfl | rfl | rfl | rfl | rfl
        · exact live _ _ hz q.symm
        · exact live _ _ hTI q.symm
        · exact live _ _ hTO q.symm
        · exact live _ _ e1 q.symm
        · exact live _ _ e2 q.symm
    have I2 : Inv X pins σ (upd H s.heap.objs.size (.tup [x, y])) { s with heap := g2, toks := s.toks } := by
      refine I1.adopt hTn (Heap.get?_none_of_le I.sz) (Nat.ne_of_gt I.lt) (fun z c e q => ?_) (fun p hp q => ?_) ⟨le_ble rfl, [u1, u2], .cons ru1 (.cons ru2 .nil), t2⟩
      · obtain ⟨v, q1⟩ := I.cell z c e
        exact absurd q1.lt (by rw [q]; exact Nat.lt_irrefl _)
      · exact absurd (Heap.lt_size (I.pin p hp).1) (by rw [q]; exact Nat.lt_irrefl _)
    refine ⟨.ref s.heap.objs.size, _, I2, rfl, ⟨s.heap.objs.size, x, y, rfl, hTn, rfl, fun us hu => by rw [I.tuple_inj hu hq1]; exact hx, fun us hu => by rw [I.list_inj hu hq2]; exact hy⟩, ⟨z2, up _ _ ?_ hTI, ⟨_, _, e2.extBut _ _ D.TOz o1⟩, a1.1.extBut e2.extBut D.i1z, b1.1.extBut e2.extBut D.i2z⟩, fT⟩
    simp only [List.mem_cons, List.not_mem_nil, or_false, not_or]
    exact ⟨D.TIz, D.TITO, D.TIi1, D.TIi2⟩
  done := by
    intro X hP hw hK hc i pins s σ H E I hf st hg
    subst hP hw hK
    obtain ⟨xs, ys, hq1, hq2, hm⟩ := hg
    obtain ⟨its1, rv1, p1, _⟩ := I.tuple hq1
    obtain ⟨its2, rv2, p2, _⟩ := I.list hq2
    obtain ⟨hz, hTI, ⟨o1, o2, hTO⟩, h1, h2⟩ := st
    have hT : s.TypeIs (.ref z) "zip" := ⟨_, hz, rfl⟩
    have l1 := rv1.length
    have l2 := rv2.length
    have hend : its1.toArray[i]? = none ∨ its2.toArray[i]? = none := by
      by_cases q : xs.length ≤ i
      · exact .inl (by simp; omega)
      · exact .inr (by simp; omega)
    unfold pyNext
    refine wpAny_bind (wpAny_attempt (wpAny_callSpecial?_slot (name := Str.ofString "__next__") hT F.slot_zip_next (wpAny_call_entry F.slot_zip_next hT F.entry_zip_next (zipG_end (I.ok.hd hc) D (Hand.tup i1 a D.l1i1.symm its1.toArray) (Hand.list i2 b D.l2i2.symm its2.toArray) hz hTI hTO ⟨h1, p1⟩ ⟨h2, p2.isList⟩ hend fun h' e hk he => ?_) (F.args_zip_next_1 _))))
    obtain ⟨o, ho, hc⟩ := he
    exact wpAny_bind (wpAny_isInstance (T := "StopIteration") (b := true) ⟨o, ho, hc⟩ isSubtype_stop (wpAny_pure ⟨rfl, I.turns (t' := s.toks) hk (fp4 hf)⟩))
  self := fun A i s Q E st h => wpAny_pyIter_zip st.1 h
abbrev zA (h : Heap) (l1 : Addr) : Heap := h.push { cls := .type "tuple_iterator", data := .fields #[.ref l1, .int 0 0] }
abbrev zB (h : Heap) (l1 l2 : Addr) : Heap := (zA h l1).push { cls := .type "list_iterator", data := .fields #[.ref l2, .int 0 0] }
abbrev zC (h : Heap) (l1 l2 : Addr) : Heap := (zB h l1 l2).push { cls := .type "tuple", data := .seq #[.ref h.objs.size, .ref (zA h l1).objs.size] }
abbrev zD (h : Heap) (l1 l2 : Addr) : Heap := (zC h l1 l2).push { cls := .type "tuple", data := .seq #[.none, .none] }
abbrev zE (h : Heap) (l1 l2 : Addr) : Heap := (zD h l1 l2).push { cls := .type "zip", data := .fields #[.none, .bool false, .bool false, .ref (zB h l1 l2).objs.size, .ref (zC h l1 l2).objs.size] }
theorem zE_is (h : Heap) (l1 l2 : Addr) : IsZip (zE h l1 l2) (h.objs.size + 4) (h.objs.size + 2) (h.objs.size + 3) .none ∧ IsPair (zE h l1 l2) (h.objs.size + 2) (.ref h.objs.size) (.ref (h.objs.size + 1)) ∧ IsPair (zE h l1 l2) (h.objs.size + 3) .none .none ∧ (zE h l1 l2).IsTupleIter h.objs.size l1 0 ∧ (zE h l1 l2).IsListIter (h.objs.size + 1) l2 0 ∧
    (∀ c o, h.get? c = some o → (zE h l1 l2).get? c = some o) ∧ (zD h l1 l2).objs.size = h.objs.size + 4 := by
  have e1 : (zA h l1).objs.size = h.objs.size + 1 := Heap.size_push ..
  have e2 : (zB h l1 l2).objs.size = h.objs.size + 2 := by rw [Heap.size_push, e1]
  have e3 : (zC h l1 l2).objs.size = h.objs.size + 3 := by rw [Heap.size_push, e2]
  have e4 : (zD h l1 l2).objs.size = h.objs.size + 4 := by rw [Heap.size_push, e3]
  have p1 : ∀ c o, (zA h l1).get? c = some o → (zE h l1 l2).get? c = some o := fun c o q => Heap.get?_push_of_some _ (Heap.get?_push_of_some _ (Heap.get?_push_of_some _ (Heap.get?_push_of_some _ q)))
  have g5 : (zE h l1 l2).get? (zD h l1 l2).objs.size = some _ := Heap.get?_push_size _ rfl
  have g4 : (zE h l1 l2).get? (zC h l1 l2).objs.size = some _ := Heap.get?_push_of_some _ (Heap.get?_push_size _ rfl)
  have g3 : (zE h l1 l2).get? (zB h l1 l2).objs.size = some _ := Heap.get?_push_of_some _ (Heap.get?_push_of_some _ (Heap.get?_push_size _ rfl))
  have g2 : (zE h l1 l2).get? (zA h l1).objs.size = some _ := Heap.get?_push_of_some _ (Heap.get?_push_of_some _ (Heap.get?_push_of_some _ (Heap.get?_push_size _ rfl)))
  have g1 : (zE h l1 l2).get? h.objs.size = some _ := p1 _ _ (Heap.get?_push_size _ rfl)
  rw [e2, e3, e4] at g5
  rw [e1, e2] at g3
  rw [e3] at g4
  rw [e1] at g2
  exact ⟨g5, g3, g4, ⟨_, g1, rfl, rfl⟩, ⟨_, g2, rfl, rfl⟩, fun c o q => p1 c o (Heap.get?_push_of_some _ q), e4⟩
theorem zipT_new (l1 l2 : Addr) (xs ys : Array Value) : Meets (Builtin.«zip.__new__» ⟨[.type "zip", .ref l1, .ref l2], []⟩) (fun _ R s => s.heap.IsTuple l1 xs ∧ s.heap.IsList l2 ys ∧ R (.ok (.ret (.ref (zD s.heap l1 l2).objs.size))) { s with heap := zE s.heap l1 l2 }) :=
  .of_wp fun prog w A R s h => by
    obtain ⟨hp, g, d, tk, os⟩ := s
    obtain ⟨hl1, hl2, h⟩ := h
    have hsub := sub_zip
    have t1 : Heap.IsTuple (Shared.heap ⟨hp, g, d, tk, os⟩) l1 xs := hl1
    have t2 : Heap.IsList (Shared.heap ⟨hp.push { cls := .type "tuple_iterator", data := .fields #[.ref l1, .int 0 0] }, g, d, tk, os⟩) l2 ys := Heap.IsList.push hl2 _
    wp_walk using wpAny_pyIter_tuple t1, wpAny_pyIter_list t2
    exact ⟨_, rfl, h⟩
def iZipT (K : PySem.W.Frag) (ta : TA) : TI := fun σ H R => ta σ H fun vs H1 => ∃ a b, vs = [.ref a, .ref b] ∧ (∃ xs, SqT K H1 a xs) ∧ (∃ ys, SqL K H1 b ys) ∧ R (ItzT K a b) H1
theorem pi_zipT {X : Cx} {es : List Expr} {k : Nat} {tpos p pos : Pos} {a b : Expr} {ta : TA} (hg : Gl X "zip") (hm : X.mg "zip" = none) (ha : PA X [a, b] ta)
    (hs : starEach [a, b] X.env = [(false, eval a X.env), (false, eval b X.env)] := by rfl) (hs2 : starEach [b] X.env = [(false, eval b X.env)] := by rfl) : PI X (.Tuple es k tpos) (.Call (.Name "zip" p) [a, b] [] pos) (iZipT X.K ta) := by
  unfold PA at *; unfold PI at *
  exact by
    intro pins s σ H R I h
    refine wpAny_Call_Name_kw (ld_blt I hg hm bt_zip ?_ (by decide) (by decide))
    refine PyProof.Rows.callWith_type1 (thn (ha pos pins s σ H _ I h) fun us s1 ⟨vs, H1, I1, r, q⟩ => ?_) (by rw [hs, hs2]) (by rw [hs2]; rfl)
    obtain ⟨c, d, rfl, ⟨xs, hq1⟩, ⟨ys, hq2⟩, q⟩ := q
    obtain ⟨u1, u2, rfl, ru1, ru2⟩ : ∃ u1 u2, us = [u1, u2] ∧ RelV (.ref c) u1 ∧ RelV (.ref d) u2 := by
      cases r with
      | cons h1 r => cases r with
        | cons h2 r => cases r; exact ⟨_, _, rfl, h1, h2⟩
    cases ru1
    cases ru2
    obtain ⟨its1, rv1, p1, _⟩ := I1.tuple hq1
    obtain ⟨its2, rv2, p2, _⟩ := I1.list hq2
    obtain ⟨hz, hTI, hTO, hi1, hi2, hk, e4⟩ := zE_is s1.heap c d
    refine callType_new F.called_zip (by decide) (F.typeCall_zip_2 _ _) (F.newCall_zip_2 _ _) (fun obj => F.args_object_init_3 obj _ _) F.entry_zip_new (zipT_new c d its1.toArray its2.toArray) ⟨p1, p2.isList, ?_⟩
    show _ ∧ _
    rw [e4]
    refine ⟨⟨_, hz, rfl⟩, wpAny_pyIter_zip hz ?_⟩
    have l1 : c < s1.heap.objs.size := by obtain ⟨o, ho, _⟩ := id p1; exact Heap.lt_size ho
    have l2 : d < s1.heap.objs.size := by obtain ⟨o, ho, _⟩ := p2.isList; exact Heap.lt_size ho
    refine ⟨_, [s1.heap.objs.size + 4, s1.heap.objs.size + 2, s1.heap.objs.size + 3, s1.heap.objs.size, s1.heap.objs.size + 1], _, _, H1, rfl, I1.kept (t' := s1.toks) hk, turn_zipT c d _ _ _ _ _ (zipApart_new l1 l2), ⟨hz, hTI, ⟨_, _, hTO⟩, hi1, hi2⟩, fun e he => ?_, q⟩
    have hle : s1.heap.objs.size ≤ e := by
      simp only [List.mem_cons, List.not_mem_nil, or_false] at he
      rcases he with rfl | rfl | rfl | rfl | rfl <;> first | exact Nat.le_refl _ | exact Nat.le_add_right _ _
    exact I1.fpOk hle (I1.hok.fresh hle)
theorem loop_zipT {K : PySem.W.Frag} {a b l : Addr} {xs ys : List V} {g : TG} {tc : TT} {te : TE} {σ : St} {H : Hp} {Q : VK} (Pv : Nat → St → List V → Hp → Prop) (ls : xs.length = ys.length) (hsz : xs.length ≤ sizeLine) (h0 : Pv 0 σ [] H)
    (hl : ∀ i σ acc H, i ≤ xs.length → Pv i σ acc H → H l = some (.lst acc) ∧ SqT K H a xs ∧ SqL K H b ys ∧ acc.length ≤ i)
    (hs : ∀ i x y T σ acc H, xs[i]? = some x → ys[i]? = some y → Pv i σ acc H → H T = none → g (.ref T) σ (upd H T (.tup [x, y])) fun σ2 H2 => tc σ2 H2 fun b H3 => if b = true then
      te σ2 H3 fun v H4 => H4 l = some (.lst acc) ∧ Nx xs.length i (Pv (i + 1) σ2 (acc ++ [v]) (upd H4 l (.lst (acc ++ [v])))) else Nx xs.length i (Pv (i + 1) σ2 acc H3))
    (hd : ∀ σ acc H, Pv xs.length σ acc H → Q (.ref l) H) : tLoop (ItzT K a b) l g tc te σ H Q :=
  loop_by xs.length Pv hsz h0 (fun i σ acc H hi p => ⟨(hl i σ acc H hi p).1, (hl i σ acc H hi p).2.2.2⟩)
    (fun i σ acc H hi p => ⟨xs, ys, xs[i], ys[i]'(by omega), (hl i σ acc H (Nat.le_of_lt hi) p).2.1, (hl i σ acc H (Nat.le_of_lt hi) p).2.2.1, List.getElem?_eq_getElem hi, List.getElem?_eq_getElem (by omega)⟩)
    (fun i x σ acc H H' hi p y => by
      obtain ⟨T, x', y', rfl, hT, rfl, e1, e2⟩ := y
      have q := hl i σ acc H (Nat.le_of_lt hi) p
      exact hs i x' y' T σ acc H (e1 xs q.2.1) (e2 ys q.2.2.1) p hT)
    (fun σ acc H p => ⟨⟨xs, ys, (hl _ σ acc H (Nat.le_refl _) p).2.1, (hl _ σ acc H (Nat.le_refl _) p).2.2.1, by rw [← ls, Nat.min_self]⟩, hd σ acc H p⟩)
end L2
namespace L2
open PySem PySem.Spec PyProof.Rows
@[irreducible] def PSp (X : Cx) (st : Stmt) (t : TS) : Prop :=
  ∀ (pins : List (Addr × Obj)) (s : Shared) (σ : St) (H : Hp) (D : Ends), 0 < s.toks → Inv X pins σ H s → t D σ H → wpAny (model X.prog X.w) X.A (exec st X.env) (SP X pins D) X.xe s
@[irreducible] def PSb (X : Cx) (st : Stmt) (t : TS) : Prop :=
  ∀ (pins : List (Addr × Obj)) (s : Shared) (σ : St) (H : Hp) (D : Ends), Inv X pins σ H s → t D σ H → wpAny (model X.prog X.w) X.A (exec st X.env) (fun f s' => SP X pins D f s' ∧ 0 < s'.toks) X.xe s
section
variable {X : Cx} {a b e : Expr} {ta tb te : TE} {es : List Expr} {t : TA} {pos : Pos} {st st2 : Stmt} {rest : List Stmt} {t1 t2 u : TS}
theorem pep_op {op : Operator} {r : R2} (ho : OpR X (binaryOp op) r) (ha : PEp X a ta) (hb : PEp X b tb) : PEp X (.BinOp a op b pos) (tOp r ta tb) := by
  unfold OpR at *
  exact by
    unfold PEp at *
    intro pins s σ H Q p0 I h
    refine wpAny_BinOp (thn (any_toks (ha pins s σ H _ p0 I h)) fun v s1 ⟨⟨x, H1, I1, r1, q1⟩, p1⟩ => ?_)
    refine thn (hb pins s1 σ H1 _ (Nat.lt_of_lt_of_le p0 p1) I1 q1) fun w s2 ⟨y, H2, I2, r2, q2⟩ => ?_
    exact ho pins s2 σ H2 x y v w Q I2 r1 r2 q2
theorem pep_lst (h : PAp X es t) : PEp X (.List es pos) (tLst t) := by
  unfold PEp; unfold PAp at h
  intro pins s σ H Q p0 I hq
  refine wpAny_List_spliced (thn (h pos pins s σ H _ p0 I hq) fun us s1 ⟨xs, H1, I1, r, z, q⟩ => ⟨by rw [← r.length]; exact z, ?_⟩)
  exact ⟨.ref s1.heap.objs.size, upd H1 s1.heap.objs.size (.lst xs), I1.laid (t' := s1.toks) (fun b u e => Heap.get?_push_of_some _ e) (Nat.le_refl _) ⟨z, us, 0, r, Heap.get?_push_size _ rfl⟩, rfl, q _ (I1.hok.fresh (Nat.le_refl _))⟩
theorem peb_lst (he : PEb X e te) (h : PAp X es t) (hs : starEach (e :: es) X.env = (false, eval e X.env) :: starEach es X.env := by rfl) : PEb X (.List (e :: es) pos) (tLst (tCons te t)) := by
  unfold PEb at *; unfold PAp at h
  intro pins s σ H Q I hq
  refine wpAny_List_spliced ?_
  rw [hs]
  show wpAny _ _ (spliced ((false, eval e X.env) :: backTo pos (starEach es X.env))) _ _ s
  refine Calls.spliced_cons (thn (he pins s σ H _ I hq) fun w s1 ⟨⟨x, H1, I1, r1, q1⟩, p1⟩ => ?_)
  refine thn (any_toks (h pos pins s1 σ H1 _ p1 I1 q1)) fun us s2 ⟨⟨xs, H2, I2, r, z, q⟩, p2⟩ => ⟨by rw [List.length_cons, ← r.length]; exact z, ?_⟩
  exact ⟨⟨.ref s2.heap.objs.size, upd H2 s2.heap.objs.size (.lst (x :: xs)), I2.laid (t' := s2.toks) (fun b u e => Heap.get?_push_of_some _ e) (Nat.le_refl _) ⟨z, w :: us, 0, .cons r1 r, Heap.get?_push_size _ rfl⟩, rfl, q _ (I2.hok.fresh (Nat.le_refl _))⟩, Nat.lt_of_lt_of_le p1 p2⟩
theorem psb_set {i : Nat} {x : Str} {pos' : Pos} (hN : X.N.Nodup) (hi : X.N[i]? = some x) (hx : Loc X.env.scope x) (he : PEb X e te) (hs : swapsWith e (some (.Name x pos')) pos.line X.env = pure false := by rfl) (hf : X.fn x = true ∨ X.env.scope.names.lookup x = some .local := by first | exact .inl rfl | exact .inr rfl | assumption) :
    PSb X (.Assign [.Name x pos'] e pos) (tAsg te (gName i)) := by
  unfold PSb; unfold PEb at he
  intro pins s σ H D I h
  refine wpAny_Assign_Name (thn (he pins s σ H _ I h) fun v s1 ⟨⟨y, H1, I1, r1, q1⟩, p1⟩ => ?_) hs
  refine thn (any_toks (store_ok (Q := fun _ s' => SP X pins D .next s') I1 hN hi hx r1 (fun s2 I2 => ⟨_, H1, I2, q1⟩) hf)) fun _ s2 q => ⟨q.1, Nat.lt_of_lt_of_le p1 q.2⟩
theorem psp_set {i : Nat} {x : Str} {pos' : Pos} (hN : X.N.Nodup) (hi : X.N[i]? = some x) (hx : Loc X.env.scope x) (he : PEp X e te) (hs : swapsWith e (some (.Name x pos')) pos.line X.env = pure false := by rfl) (hf : X.fn x = true ∨ X.env.scope.names.lookup x = some .local := by first | exact .inl rfl | exact .inr rfl | assumption) :
    PSp X (.Assign [.Name x pos'] e pos) (tAsg te (gName i)) := by
  unfold PSp; unfold PEp at he
  intro pins s σ H D p0 I h
  refine wpAny_Assign_Name (thn (he pins s σ H _ p0 I h) fun v s1 ⟨y, H1, I1, r1, q1⟩ => ?_) hs
  exact store_ok I1 hN hi hx r1 (fun s2 I2 => ⟨_, H1, I2, q1⟩) hf
theorem pss_bp (h1 : PSb X st t1) (h2 : PSp X st2 t2) (h3 : PSs X rest u) : PSs X (st :: st2 :: rest) (tSeq t1 (tSeq t2 u)) := by
  unfold PSs at *
  exact by
    unfold PSb at h1; unfold PSp at h2
    intro pins s σ H D I h
    refine wpAny_execs_cons (thn (h1 pins s σ H { D with nx := tSeq t2 u D } I h) fun f s1 ⟨q, p1⟩ => ?_)
    cases f with
    | next =>
      obtain ⟨σ', H', I', q⟩ := q
      refine wpAny_execs_cons (thn (h2 pins s1 σ' H' { D with nx := u D } p1 I' q) fun f s2 q => ?_)
      cases f with
      | next =>
        obtain ⟨σ2, H2, I2, q⟩ := q
        exact h3 pins s2 σ2 H2 D I2 q
      | ret v => exact q
      | brk => exact q
      | cont => exact q
    | ret v => exact q
    | brk => exact q
    | cont => exact q
end
end L2
set_option maxHeartbeats 200000
namespace My
open PySem L2
local macro_rules | `(tactic| walk_at "rd") => `(tactic| repeat (first
  | refine ⟨_, rfl, ?_⟩
  | refine ⟨_, _, rfl, rfl, ?_⟩
  | refine ⟨_, _, rfl, ?_⟩
  | refine ⟨(by show (0 : Int) < _; decide), ?_⟩
  | refine ⟨(⟨by decide, by decide⟩ : CDiv _ _), ?_⟩
  | refine ⟨(⟨by decide, by decide⟩ : CDivB _ _), ?_⟩
  | refine ⟨(⟨by decide, by decide, by decide⟩ : CPow _ _), ?_⟩
  | refine ⟨(.inr ⟨by decide, by decide⟩ : CMul _ _), ?_⟩
  | refine ⟨(.inl ⟨by decide, by decide⟩ : CMul _ _), ?_⟩
  | refine ⟨Own.int, ?_⟩
  | refine ⟨Own.bl, ?_⟩
  | refine ⟨Own.str, ?_⟩
  | refine ⟨Own.non, ?_⟩
  | refine ⟨rfl, ?_⟩))
def isI : V → Bool
  | .int _ => true
  | _ => false
def inR (m : Int) : V → Bool
  | .int i => decide (1 ≤ i) && decide (i ≤ m)
  | _ => false
def spW (K : PySem.W.Frag) : Sp := fun vs H Q _ => ∃ x, vs = [x] ∧ Own K H x ∧ Q (.bl (isI x)) H
def spR (K : PySem.W.Frag) (m : Int) : Sp := fun vs H Q _ => ∃ x, vs = [x] ∧ Own K H x ∧ Q (.bl (inR m x)) H
def ranks : List V := [.str "genus", .str "species", .str "form"]
def letter (c : Nat) : Bool := decide (97 ≤ c) && decide (c ≤ 122)
def isWord : V → Bool
  | .str z => (decide (1 ≤ (z.length : Int)) && decide ((z.length : Int) ≤ 12)) && z.cps.toList.all letter
  | _ => false
theorem isWord_str (z : Str) : isWord (.str z) = ((decide (1 ≤ (z.length : Int)) && decide ((z.length : Int) ≤ 12)) && z.cps.toList.all letter) := rfl
def isRank : V → Bool
  | .str z => inV (.str z) ranks
  | _ => false
def fits : V → Prop
  | .str z => z.length ≤ sizeLine
  | _ => True
def spWord (K : PySem.W.Frag) : Sp := fun vs H Q _ => ∃ x, vs = [x] ∧ Own K H x ∧ fits x ∧ ∀ H', Same H H' → Q (.bl (isWord x)) H'
def spRank (K : PySem.W.Frag) : Sp := fun vs H Q _ => ∃ x, vs = [x] ∧ Own K H x ∧ Q (.bl (isRank x)) H
theorem le_one (a c : Nat) : (!decide ((⟨#[c]⟩ : Str).cps.toList < (⟨#[a]⟩ : Str).cps.toList)) = decide (a ≤ c) := by
  have e : ((⟨#[c]⟩ : Str).cps.toList < (⟨#[a]⟩ : Str).cps.toList) ↔ c < a := by
    show [c] < [a] ↔ c < a
    rw [List.cons_lt_cons_iff]
    simp
  by_cases h : c < a
  · rw [decide_eq_true (e.mpr h), decide_eq_false (by omega)]; rfl
  · rw [decide_eq_false (fun z => h (e.mp z)), decide_eq_true (by omega)]; rfl
theorem le_a (c : Nat) : (!decide ((⟨#[c]⟩ : Str).cps.toList < (Str.ofString "a").cps.toList)) = decide (97 ≤ c) := le_one 97 c
theorem le_z (c : Nat) : (!decide ((Str.ofString "z").cps.toList < (⟨#[c]⟩ : Str).cps.toList)) = decide (c ≤ 122) := le_one c 122
theorem take_one {α : Type} {l : List α} {i : Nat} {x : α} (h : l[i]? = some x) : l.take (i + 1) = l.take i ++ [x] := by
  rw [List.take_succ, h]; rfl
theorem cutS_le (z : Str) (lo hi : Option Int) : (cutS z lo hi).length ≤ z.length := by
  show ((z.cps.toList.drop _).take _).toArray.size ≤ z.length
  rw [List.size_toArray, List.length_take, List.length_drop]
  have : z.cps.toList.length = z.length := by simp [Str.length]
  omega
def underFits (r u : V) : Bool := if r = .str "genus" then decide (u = .non) else inR 1000000000 u
def tieFits (r s b : V) : Bool := if b = .non then inR 1000000000 s else (!decide (r = .str "genus")) && (decide (s = .non) && inR 1000000000 b)
def whyH (n d r w : V) : Nat := if inR 1000000000 n = false then 1 else if inR 1000000 d = false then 2 else if isRank r = false then 3 else if isWord w = false then 4 else 0
def why (n d r w u s b : V) : Nat := if whyH n d r w ≠ 0 then whyH n d r w else if underFits r u = false then 5 else if tieFits r s b = false then 5 else 0
set_option genInjectivity false in
set_option genSizeOfSpec false in
set_option genSizeOf false in
structure Ex where
  c1 : Addr
  c2 : Addr
  c3 : Addr
  c4 : Addr
  c5 : Addr
def Ex.at (x : Ex) : Nat → Addr
  | 1 => x.c1
  | 2 => x.c2
  | 3 => x.c3
  | 4 => x.c4
  | _ => x.c5
def spHead (K : PySem.W.Frag) (x : Ex) : Sp := fun vs H Q E => ∃ n d r w, vs = [n, d, r, w] ∧ Own K H n ∧ Own K H d ∧ Own K H r ∧ Own K H w ∧ fits w ∧
  ∀ H', Same H H' → (whyH n d r w = 0 → Q .non H') ∧ (whyH n d r w ≠ 0 → E (.ref (x.at (whyH n d r w))) none H')
def spUnder (K : PySem.W.Frag) : Sp := fun vs H Q _ => ∃ z u, vs = [.str z, u] ∧ Own K H u ∧ Q (.bl (underFits (.str z) u)) H
def spTie (K : PySem.W.Frag) : Sp := fun vs H Q _ => ∃ z s b, vs = [.str z, s, b] ∧ Own K H s ∧ Own K H b ∧ Q (.bl (tieFits (.str z) s b)) H
def fields (n d r w u s b k : V) : List (Str × V) := [("number", n), ("day", d), ("rank", r), ("word", w), ("under", u), ("sheet", s), ("base", b), ("described", k)]
def spInit (K : PySem.W.Frag) (C : Addr) (x : Ex) : Sp := fun vs H Q E => ∃ a dx n d r w u s b k, vs = [.ref a, n, d, r, w, u, s, b, k] ∧ H a = some (.ins C dx []) ∧ Own K H n ∧ Own K H d ∧ Own K H r ∧ Own K H w ∧ fits w ∧ Own K H u ∧ Own K H s ∧ Own K H b ∧
  ∀ H', Same H H' → (why n d r w u s b = 0 → Q .non (upd H' a (.ins C dx (fields n d r w u s b k)))) ∧ (why n d r w u s b ≠ 0 → E (.ref (x.at (why n d r w u s b))) none H')
theorem Same.upd {H H' : Hp} {p : Addr} {o : HO} (e : Same H H') (h : H p = none) : Same H (L2.upd H' p o) := fun b u q => by
  rw [upd_ne (ne_of_none q h)]
  exact e b u q
theorem under_n {z : Str} (h : z ≠ "genus") (u : V) : underFits (.str z) u = inR 1000000000 u := by unfold underFits; rw [if_neg (fun q => h (V.str.inj q))]
theorem tie_n (r s : V) : tieFits r s .non = inR 1000000000 s := by unfold tieFits; rw [if_pos rfl]
theorem tie_b {b : V} (r s : V) (h : b ≠ .non) : tieFits r s b = ((!decide (r = .str "genus")) && (decide (s = .non) && inR 1000000000 b)) := by unfold tieFits; rw [if_neg h]
theorem Same.made {H : Hp} {x dx : Addr} {o o' : HO} (h1 : H x = none) (h2 : H dx = none) (ne : dx ≠ x) : Same H (L2.upd (L2.upd H dx o) x o') := fun b u q => by
  rw [upd_ne (ne_of_none q h1), upd_ne (ne_of_none q h2)]
  exact q
structure En where
  n : Int
  d : Int
  r : Str
  w : Str
  u : Option Int
  s : Option Int
  b : Option Int
  k : Bool
def optV : Option Int → V
  | none => .non
  | some i => .int i
def fieldsE (e : En) : List (Str × V) := fields (.int e.n) (.int e.d) (.str e.r) (.str e.w) (optV e.u) (optV e.s) (optV e.b) (.bl e.k)
def EntAt (H : Hp) (C : Addr) (v : V) (e : En) : Prop := ∃ a dx, v = .ref a ∧ H a = some (.ins C dx (fieldsE e))
def okE (e : En) : Prop := why (.int e.n) (.int e.d) (.str e.r) (.str e.w) (optV e.u) (optV e.s) (optV e.b) = 0
theorem EntAt.same {H H' : Hp} {C : Addr} {v : V} {e : En} (h : EntAt H C v e) (s : Same H H') : EntAt H' C v e := let ⟨a, dx, e1, h1⟩ := h; ⟨a, dx, e1, s _ _ h1⟩
inductive ItAt (K : PySem.W.Frag) (H : Hp) (C : Addr) : V → Option En → Prop where
  | ent {v : V} {e : En} (h : EntAt H C v e) : ItAt K H C v (some e)
  | oth {v : V} {n : String} (t : TyOf K H v (.type n)) (hn : PySem.W.kitOne K (.type n) (.ref C) = some false) : ItAt K H C v none
def ItsAt (K : PySem.W.Frag) (H : Hp) (C : Addr) (vs : List V) (is : List (Option En)) : Prop := vs.length = is.length ∧ ∀ (j : Nat) v i, vs[j]? = some v → is[j]? = some i → ItAt K H C v i
def txtU : Option Int → List Str
  | none => []
  | some u => [Str.ofString "under", Str.ofString (toString u)]
def txtT : Option Int → Option Int → Bool → List Str
  | _, some b, _ => [Str.ofString "of", Str.ofString (toString b)]
  | s, none, true => [Str.ofString "tied", Str.ofString (toString (s.getD 0))]
  | s, none, false => [Str.ofString "tied", Str.ofString (toString (s.getD 0)), Str.ofString "bare"]
def txtW (e : En) : List Str := [Str.ofString (toString e.d), Str.ofString (toString e.n), e.r, e.w] ++ txtU e.u ++ txtT e.s e.b e.k
def rowText (e : En) : Str := Txt.join (Str.ofString " ") (txtW e)
theorem log_ok {i : Int} (h0 : 0 ≤ i) (h1 : i ≤ 1000000000) : i.natAbs.log2 < 1920 := by
  rcases Nat.eq_zero_or_pos i.natAbs with e | e
  · rw [e]; decide
  · exact (Nat.log2_lt (by omega)).mpr (Nat.lt_of_le_of_lt (show i.natAbs ≤ 1000000000 by omega) (by decide +kernel))
theorem num_short {i : Int} (h0 : 0 ≤ i) (h1 : i ≤ 1000000000) : (Str.ofString (toString i)).length ≤ 10 := by
  rw [num_len h0]
  exact Nat.le_trans (digits_mono 1000000000 i.toNat (by omega)) (le_ble (by decide +kernel))
structure Fit (e : En) : Prop where
  n0 : 1 ≤ e.n
  n1 : e.n ≤ 1000000000
  d0 : 1 ≤ e.d
  d1 : e.d ≤ 1000000
  rl : e.r.length ≤ 7
  wl : e.w.length ≤ 12
  u : ∀ u, e.u = some u → 1 ≤ u ∧ u ≤ 1000000000
  b : ∀ b, e.b = some b → 1 ≤ b ∧ b ≤ 1000000000
  s : e.b = none → ∃ s, e.s = some s ∧ 1 ≤ s ∧ s ≤ 1000000000
theorem txt_len {e : En} (h : Fit e) : ((txtW e).map (·.length)).sum + (txtW e).length ≤ 100 := by
  obtain ⟨n, d, r, w, u, s, b, k⟩ := e
  have h1 := num_short (i := d) (by have := h.d0; exact Int.le_trans (by decide) this) (by have := h.d1; exact Int.le_trans this (by decide))
  have h2 := num_short (i := n) (by have := h.n0; exact Int.le_trans (by decide) this) h.n1
  have h3 := h.rl
  have h4 := h.wl
  have l1 : (Str.ofString "under").length = 5 := by decide +kernel
  have l2 : (Str.ofString "of").length = 2 := by decide +kernel
  have l3 : (Str.ofString "tied").length = 4 := by decide +kernel
  have l4 : (Str.ofString "bare").length = 4 := by decide +kernel
  have hu : ((txtU u).map (·.length)).sum + (txtU u).length ≤ 17 := by
    cases u with
    | none => exact Nat.zero_le _
    | some u =>
      have hh := h.u u rfl
      have := num_short (i := u) (by omega) hh.2
      show (Str.ofString "under").length + ((Str.ofString (toString u)).length + 0) + 2 ≤ 17
      omega
  have ht : ((txtT s b k).map (·.length)).sum + (txtT s b k).length ≤ 21 := by
    cases b with
    | some b =>
      have hh := h.b b rfl
      have := num_short (i := b) (by omega) hh.2
      show (Str.ofString "of").length + ((Str.ofString (toString b)).length + 0) + 2 ≤ 21
      omega
    | none =>
      obtain ⟨x, e, x0, x1⟩ := h.s rfl
      have e : s = some x := e
      subst e
      have := num_short (i := x) (by omega) x1
      cases k with
      | true =>
        show (Str.ofString "tied").length + ((Str.ofString (toString x)).length + 0) + 2 ≤ 21
        omega
      | false =>
        show (Str.ofString "tied").length + ((Str.ofString (toString x)).length + ((Str.ofString "bare").length + 0)) + 3 ≤ 21
        omega
  have h3 : r.length ≤ 7 := h3
  have h4 : w.length ≤ 12 := h4
  unfold txtW
  rw [List.map_append, List.map_append, List.sum_append, List.sum_append, List.length_append, List.length_append]
  show (Str.ofString (toString d)).length + ((Str.ofString (toString n)).length + (r.length + (w.length + 0))) + ((txtU u).map (·.length)).sum + ((txtT s b k).map (·.length)).sum + (4 + (txtU u).length + (txtT s b k).length) ≤ 100
  omega
theorem join_le (sep : Str) (ys : List Str) : (Txt.join sep ys).length ≤ (ys.map (·.length)).sum + ys.length * sep.length := by
  show (Builtin.Str.glued sep ys).length ≤ _
  rw [StrLaws.glued_eq_join]
  exact StrLaws.join_length_le sep ys
def EntsAt (H : Hp) (C : Addr) (ws : List V) (es : List En) : Prop := ws.length = es.length ∧ ∀ (j : Nat) v e, ws[j]? = some v → es[j]? = some e → EntAt H C v e
theorem EntsAt.same {H H' : Hp} {C : Addr} {ws : List V} {es : List En} (h : EntsAt H C ws es) (s : Same H H') : EntsAt H' C ws es := ⟨h.1, fun j v e a b => (h.2 j v e a b).same s⟩
theorem sum_le {α : Type} (f : α → Nat) (b : Nat) : ∀ xs : List α, (∀ x ∈ xs, f x ≤ b) → (xs.map f).sum ≤ xs.length * b
  | [], _ => Nat.zero_le _
  | x :: r, h => by
    have ih := sum_le f b r fun y hy => h y (List.mem_cons_of_mem _ hy)
    have h1 := h x (List.mem_cons_self ..)
    rw [List.map_cons, List.sum_cons, List.length_cons, Nat.add_mul]
    omega
theorem all_app (a b : Str) (f : Nat → Bool) : (a ++ b).cps.toList.all f = (a.cps.toList.all f && b.cps.toList.all f) := by
  rw [Str.cps_append, Array.toList_append, List.all_append]
theorem seqNil {K : PySem.W.Frag} {H : Hp} {n : Nat} {a b : Addr} {xs : List V} (ha : SqL K H a xs) (hb : SqL K H b []) : SeqEq K H (EqD K H n) (.ref a) (.ref b) xs.isEmpty := by
  cases xs with
  | nil => exact .list (e := fun _ => true) ha hb rfl fun i x y h => (by rw [List.getElem?_nil] at h; cases h)
  | cons x r => exact .listN ha hb (by intro z; cases z)
theorem inR_int (m i : Int) : inR m (.int i) = (decide (1 ≤ i) && decide (i ≤ m)) := rfl
theorem inR_of {m i : Int} (h1 : 1 ≤ i) (h2 : i ≤ m) : inR m (.int i) = true := by rw [inR_int, decide_eq_true h1, decide_eq_true h2]; rfl
def rowV (e : En) : List V := [.int e.d, .int e.n, .str e.r, .str e.w, optV e.u, optV e.s, optV e.b, .bl e.k]
def RowAt (H : Hp) (v : V) (e : En) : Prop := ∃ a, v = .ref a ∧ H a = some (.lst (rowV e))
def RowsE (H : Hp) (ws : List V) (es : List En) : Prop := ws.length = es.length ∧ ∀ (j : Nat) v e, ws[j]? = some v → es[j]? = some e → RowAt H v e
theorem RowAt.same {H H' : Hp} {v : V} {e : En} (h : RowAt H v e) (s : Same H H') : RowAt H' v e := let ⟨a, e1, h1⟩ := h; ⟨a, e1, s _ _ h1⟩
theorem RowsE.same {H H' : Hp} {ws : List V} {es : List En} (h : RowsE H ws es) (s : Same H H') : RowsE H' ws es := ⟨h.1, fun j v e a b => (h.2 j v e a b).same s⟩
def spCell (K : PySem.W.Frag) : Sp := fun vs H Q _ => ∃ (a : Addr) (k : Int) (ns : List Int), vs = [.ref a, .int k] ∧ 0 ≤ k ∧ SqL K H a (ns.map V.int) ∧ ∀ i, Q (.int i) H
def spMixB : Sp := fun vs H Q _ => ∃ n k, vs = [.int n, .int k] ∧ 0 ≤ k ∧ k < 100 ∧ ∀ r, 0 ≤ r → Q (.int r) H
def spMkW : Sp := fun vs H Q _ => ∃ m, vs = [.int m] ∧ 0 ≤ m ∧ ∀ z : Str, isWord (.str z) = true → Q (.str z) H
theorem atI_last {α : Type} (xs : List α) (v : α) : atI (xs ++ [v]) (-1) = some v := by
  have e : ixN (xs ++ [v]).length (-1) = some xs.length := by
    unfold ixN
    rw [List.length_append, List.length_singleton]
    simp
    omega
  unfold atI
  rw [e]
  simp
theorem ok_of {n d : Int} {r w : Str} {u s b : Option Int} {k : Bool} (hn : inR 1000000000 (.int n) = true) (hd : inR 1000000 (.int d) = true) (hr : isRank (.str r) = true) (hw : isWord (.str w) = true) (hu : underFits (.str r) (optV u) = true) (ht : tieFits (.str r) (optV s) (optV b) = true) : okE ⟨n, d, r, w, u, s, b, k⟩ := by
  show why (.int n) (.int d) (.str r) (.str w) (optV u) (optV s) (optV b) = 0
  have e : whyH (.int n) (.int d) (.str r) (.str w) = 0 := by unfold whyH; rw [hn, hd, hr, hw]; rfl
  unfold why
  rw [e, hu, ht]
  rfl
theorem ItAt.same {K : PySem.W.Frag} {H H' : Hp} {C : Addr} {v : V} {i : Option En} (h : ItAt K H C v i) (s : Same H H') : ItAt K H' C v i := by
  cases h with
  | ent h => exact .ent (h.same s)
  | oth t hn => exact .oth (t.same s) hn
theorem ItsAt.same {K : PySem.W.Frag} {H H' : Hp} {C : Addr} {ws : List V} {is : List (Option En)} (h : ItsAt K H C ws is) (s : Same H H') : ItsAt K H' C ws is := ⟨h.1, fun j v i a b => (h.2 j v i a b).same s⟩
theorem ItsAt.nil {K : PySem.W.Frag} {H : Hp} {C : Addr} : ItsAt K H C [] [] := ⟨rfl, fun _ _ _ h => nomatch h⟩
theorem ItsAt.cons {K : PySem.W.Frag} {H : Hp} {C : Addr} {v : V} {i : Option En} {ws : List V} {is : List (Option En)} (h : ItAt K H C v i) (t : ItsAt K H C ws is) : ItsAt K H C (v :: ws) (i :: is) := by
  refine ⟨congrArg Nat.succ t.1, fun j v' i' a b => ?_⟩
  cases j with
  | zero =>
    cases (Option.some.inj a : v = v')
    cases (Option.some.inj b : i = i')
    exact h
  | succ j => exact t.2 j v' i' a b
theorem ItsAt.app {K : PySem.W.Frag} {H : Hp} {C : Addr} : ∀ {ws ws' : List V} {is is' : List (Option En)}, ItsAt K H C ws is → ItsAt K H C ws' is' → ItsAt K H C (ws ++ ws') (is ++ is')
  | [], _, [], _, _, h' => h'
  | [], _, _ :: _, _, h, _ => nomatch h.1
  | _ :: _, _, [], _, h, _ => nomatch h.1
  | w :: ws, _, i :: is, _, h, h' => ItsAt.cons (h.2 0 w i rfl rfl) (ItsAt.app (ws := ws) (is := is) ⟨Nat.succ.inj h.1, fun j v i a b => h.2 (j + 1) v i a b⟩ h')
theorem cut_last (us : List V) (v : V) : cutV (us ++ [v]) (some (-1)) none = [v] := by
  unfold cutV
  have e : HT.sIx (us ++ [v]).length 0 (some (-1)) = us.length := by
    unfold HT.sIx
    rw [List.length_append, List.length_singleton]
    simp
    try omega
  rw [e]
  show List.take ((us ++ [v]).length - us.length) _ = _
  simp
theorem EntsAt.upd {H : Hp} {C l : Addr} {xs : List V} {ws : List V} {es : List En} (hl : H l = some (.lst xs)) (h : EntsAt H C ws es) (zs : List V) : EntsAt (L2.upd H l (.lst zs)) C ws es :=
  ⟨h.1, fun j v e a b => let ⟨x, dx, e1, h1⟩ := h.2 j v e a b; ⟨x, dx, e1, by rw [upd_ne (ne_of h1 hl (by intro z; cases z))]; exact h1⟩⟩
open NumText in
def fig (c : Nat) : Bool := decide (48 ≤ c) && decide (c ≤ 57)
def headOk : List Nat → Bool
  | [] => false
  | c :: r => decide (r = []) || !decide (c = 48)
theorem headOk_cons (c : Nat) (r : List Nat) : headOk (c :: r) = (decide (r = []) || !decide (c = 48)) := rfl
def isNum (cs : List Nat) : Bool := headOk cs && cs.all fig
def val (cs : List Nat) : Int := (NumText.digitsVal cs : Nat)
def numV (z : Str) (m : Int) : V := if (isNum z.cps.toList && decide (val z.cps.toList ≤ m)) = true then .int (val z.cps.toList) else .non
def spOf : Sp := fun vs H Q _ => ∃ z m, vs = [.str z, .int m] ∧ z.length ≤ 200 ∧ 0 ≤ m ∧ m ≤ 1000000000000 ∧ ∀ H', Same H H' → Q (numV z m) H'
theorem le_0 (c : Nat) : (!decide ((⟨#[c]⟩ : Str).cps.toList < (Str.ofString "0").cps.toList)) = decide (48 ≤ c) := le_one 48 c
theorem le_9 (c : Nat) : (!decide ((Str.ofString "9").cps.toList < (⟨#[c]⟩ : Str).cps.toList)) = decide (c ≤ 57) := le_one c 57
theorem all_fig {cs : List Nat} (h : cs.all fig = true) : NumText.AllDigits cs := fun c hc => by
  have h := List.all_eq_true.mp h c hc
  unfold fig at h
  rw [Bool.and_eq_true] at h
  exact ⟨of_decide_eq_true h.1, of_decide_eq_true h.2⟩
theorem nil_of {z : Str} (h : z.cps.toList = []) : z = "" := Str.ext' (by rw [← Array.toList_inj, h]; rfl)
theorem ext_l {y z : Str} (h : y.cps.toList = z.cps.toList) : y = z := Str.ext' (by rw [← Array.toList_inj, h])
theorem len_l (z : Str) : z.cps.toList.length = z.length := by simp [Str.length]
theorem numV_non {z : Str} {m : Int} (h : isNum z.cps.toList = false) : numV z m = .non := by
  unfold numV; rw [h, Bool.false_and, if_neg Bool.false_ne_true]
theorem numV_more {z : Str} {m : Int} (h : m < val z.cps.toList) : numV z m = .non := by
  unfold numV; rw [decide_eq_false (by omega), Bool.and_false, if_neg Bool.false_ne_true]
theorem numV_is {z : Str} {m : Int} (h : isNum z.cps.toList = true) (h2 : val z.cps.toList ≤ m) : numV z m = .int (val z.cps.toList) := by
  unfold numV; rw [h, decide_eq_true h2]; rfl
theorem isNum_fig {cs : List Nat} (h : cs.all fig = false) : isNum cs = false := by unfold isNum; rw [h, Bool.and_false]
theorem isNum_head {cs : List Nat} (h : headOk cs = false) : isNum cs = false := by unfold isNum; rw [h, Bool.false_and]
theorem blank_is : Str.ofString " " = ⟨#[32]⟩ := by decide +kernel
theorem app_l (a b : Str) : (a ++ b).cps.toList = a.cps.toList ++ b.cps.toList := by rw [Str.cps_append, Array.toList_append]
theorem cut_eq {c : Nat} : ∀ {a b r s : List Nat}, c ∉ a → c ∉ b → a ++ c :: r = b ++ c :: s → a = b ∧ r = s
  | [], [], _, _, _, _, e => ⟨rfl, (List.cons.inj e).2⟩
  | [], y :: b, _, _, _, hb, e => absurd (List.mem_cons.mpr (.inl (List.cons.inj e).1)) hb
  | x :: a, [], _, _, ha, _, e => absurd (List.mem_cons.mpr (.inl (List.cons.inj e).1.symm)) ha
  | x :: a, y :: b, r, s, ha, hb, e => by
    obtain ⟨h1, h2⟩ := List.cons.inj e
    obtain ⟨h3, h4⟩ := cut_eq (fun h => ha (List.mem_cons_of_mem _ h)) (fun h => hb (List.mem_cons_of_mem _ h)) h2
    exact ⟨by rw [h1, h3], h4⟩
theorem join_two (c : Nat) (x y : Str) (r : List Str) : (Str.join ⟨#[c]⟩ (x :: y :: r)).cps.toList = x.cps.toList ++ c :: (Str.join ⟨#[c]⟩ (y :: r)).cps.toList := by
  show (x ++ ⟨#[c]⟩ ++ Str.join ⟨#[c]⟩ (y :: r)).cps.toList = _
  rw [app_l, app_l, List.append_assoc]
  rfl
theorem join_inj {c : Nat} : ∀ {xs ys : List Str}, xs ≠ [] → ys ≠ [] → (∀ x ∈ xs, c ∉ x.cps.toList) → (∀ y ∈ ys, c ∉ y.cps.toList) → Str.join ⟨#[c]⟩ xs = Str.join ⟨#[c]⟩ ys → xs = ys
  | [], _, h, _, _, _, _ => absurd rfl h
  | _, [], _, h, _, _, _ => absurd rfl h
  | [x], [y], _, _, _, _, e => by rw [show x = y from e]
  | [x], y :: z :: r, _, _, hx, hy, e => by
    have e := congrArg (fun s : Str => s.cps.toList) e
    have e : x.cps.toList = (Str.join ⟨#[c]⟩ (y :: z :: r)).cps.toList := e
    rw [join_two] at e
    exact absurd (by rw [e]; exact List.mem_append_right _ (List.mem_cons_self ..)) (hx x (List.mem_cons_self ..))
  | x :: z :: r, [y], _, _, hx, hy, e => by
    have e := congrArg (fun s : Str => s.cps.toList) e
    have e : (Str.join ⟨#[c]⟩ (x :: z :: r)).cps.toList = y.cps.toList := e
    rw [join_two] at e
    exact absurd (by rw [← e]; exact List.mem_append_right _ (List.mem_cons_self ..)) (hy y (List.mem_cons_self ..))
  | x :: z :: r, y :: u :: s, _, _, hx, hy, e => by
    have e := congrArg (fun s : Str => s.cps.toList) e
    have e : (Str.join ⟨#[c]⟩ (x :: z :: r)).cps.toList = (Str.join ⟨#[c]⟩ (y :: u :: s)).cps.toList := e
    rw [join_two, join_two] at e
    obtain ⟨h1, h2⟩ := cut_eq (hx x (List.mem_cons_self ..)) (hy y (List.mem_cons_self ..)) e
    rw [ext_l h1, join_inj (List.cons_ne_nil _ _) (List.cons_ne_nil _ _) (fun w hw => hx w (List.mem_cons_of_mem _ hw)) (fun w hw => hy w (List.mem_cons_of_mem _ hw)) (ext_l h2)]
theorem split_join {c : Nat} {xs : List Str} (h : xs ≠ []) (hx : ∀ x ∈ xs, c ∉ x.cps.toList) : Txt.split (Txt.join ⟨#[c]⟩ xs) ⟨#[c]⟩ = xs := by
  have hp := PyProof.Rows.split_pos (Txt.join ⟨#[c]⟩ xs) ⟨#[c]⟩
  refine join_inj (fun z => by rw [z] at hp; exact absurd hp (by decide)) h (StrLaws.split_free _ c) hx ?_
  rw [StrLaws.join_split]
  exact StrLaws.glued_eq_join _ _
theorem join_free {c d : Nat} (hd : d ≠ c) : ∀ {xs : List Str}, (∀ x ∈ xs, d ∉ x.cps.toList) → d ∉ (Txt.join ⟨#[c]⟩ xs).cps.toList := by
  intro xs
  have e : Txt.join ⟨#[c]⟩ xs = Str.join ⟨#[c]⟩ xs := StrLaws.glued_eq_join _ _
  rw [e]
  clear e
  induction xs with
  | nil => intro _ h; exact nomatch h
  | cons x r ih =>
    intro h
    cases r with
    | nil => exact h x (List.mem_cons_self ..)
    | cons y s =>
      rw [join_two, List.mem_append, List.mem_cons]
      rintro (q | q | q)
      · exact h x (List.mem_cons_self ..) q
      · exact hd q
      · exact ih (fun w hw => h w (List.mem_cons_of_mem _ hw)) q
theorem digit_fig : ∀ d : Nat, d < 10 → fig (Nat.digitChar d).toNat = true := by decide
theorem digit_no : ∀ d : Nat, d < 10 → 1 ≤ d → (Nat.digitChar d).toNat ≠ 48 := by decide
theorem nums_fig (m : Nat) : ((Nat.toDigits 10 m).map Char.toNat).all fig = true ∧ (1 ≤ m → ∃ c r, (Nat.toDigits 10 m).map Char.toNat = c :: r ∧ c ≠ 48) := by
  induction m using Nat.strongRecOn with
  | _ m ih =>
    by_cases h : m < 10
    · rw [Nat.toDigits_of_lt_base h]
      exact ⟨by show (fig (Nat.digitChar m).toNat && true) = true; rw [digit_fig m h]; rfl, fun h1 => ⟨_, [], rfl, digit_no m h h1⟩⟩
    · have hm : m % 10 < 10 := Nat.mod_lt m (by decide)
      have t : Nat.toDigits 10 (m / 10) ++ Nat.toDigits 10 (m % 10) = Nat.toDigits 10 (10 * (m / 10) + m % 10) := Nat.toDigits_append_toDigits (by decide) (by omega) hm
      rw [Nat.div_add_mod] at t
      obtain ⟨h1, h2⟩ := ih (m / 10) (by omega)
      obtain ⟨c, r, e, hc⟩ := h2 (by omega)
      rw [← t, List.map_append]
      refine ⟨?_, fun _ => ⟨c, r ++ (Nat.toDigits 10 (m % 10)).map Char.toNat, by rw [e]; rfl, hc⟩⟩
      rw [List.all_append, h1, (ih (m % 10) (by omega)).1]
      rfl
def numS (n : Int) : Str := Str.ofString (toString n)
theorem num_fig {n : Int} (h : 0 ≤ n) : (numS n).cps.toList.all fig = true := by
  obtain ⟨m, rfl⟩ := Int.eq_ofNat_of_zero_le h
  unfold numS
  rw [PySem.W.KIN.signs_num]
  exact (nums_fig m).1
theorem num_back {n m : Int} (h : 1 ≤ n) (hm : n ≤ m) : numV (numS n) m = .int n := by
  obtain ⟨k, rfl⟩ := Int.eq_ofNat_of_zero_le (show 0 ≤ n by omega)
  have e : (numS (k : Int)).cps.toList = (Nat.toDigits 10 k).map Char.toNat := PySem.W.KIN.signs_num k
  obtain ⟨f1, f2⟩ := nums_fig k
  obtain ⟨c, r, ec, hc⟩ := f2 (by omega)
  have v : val (numS (k : Int)).cps.toList = k := by unfold val; rw [e, PySem.W.KIN.val_back]
  rw [numV_is _ (by rw [v]; exact hm), v]
  unfold isNum
  rw [e, f1, ec, headOk_cons, decide_eq_false hc, Bool.not_false, Bool.or_true]
  rfl
theorem fig_free {z : Str} (h : z.cps.toList.all fig = true) {d : Nat} (hd : fig d = false) : d ∉ z.cps.toList := fun q => by
  rw [List.all_eq_true.mp h d q] at hd
  cases hd
theorem word_free {z : Str} (h : isWord (.str z) = true) {d : Nat} (hd : letter d = false) : d ∉ z.cps.toList := fun q => by
  rw [isWord_str, Bool.and_eq_true] at h
  rw [List.all_eq_true.mp h.2 d q] at hd
  cases hd
def toI : V → Int
  | .int i => i
  | _ => 0
def toO : V → Option Int
  | .int i => some i
  | _ => none
def NumV (x : V) : Prop := x = .non ∨ ∃ i, x = .int i
theorem numV_num (z : Str) (m : Int) : NumV (numV z m) := by
  unfold numV
  split
  · exact .inr ⟨_, rfl⟩
  · exact .inl rfl
theorem NumV.own {K : PySem.W.Frag} {H : Hp} {x : V} (h : NumV x) : Own K H x := by
  rcases h with rfl | ⟨i, rfl⟩
  · exact Own.non
  · exact Own.int
theorem NumV.opt {x : V} (h : NumV x) : optV (toO x) = x := by
  rcases h with rfl | ⟨i, rfl⟩ <;> rfl
def sV (t0 t1 : Str) : V := if V.str t0 = V.str (Str.ofString "tied") then numV t1 1000000000 else .non
def bV (t0 t1 : Str) (b : Bool) : V := if V.str t0 = V.str (Str.ofString "tied") then .non else if V.str t0 = V.str (Str.ofString "of") ∧ b = false then numV t1 1000000000 else .non
theorem sV_num (t0 t1 : Str) : NumV (sV t0 t1) := by
  unfold sV
  split
  · exact numV_num _ _
  · exact .inl rfl
theorem bV_num (t0 t1 : Str) (b : Bool) : NumV (bV t0 t1 b) := by
  unfold bV
  split
  · exact .inl rfl
  · split
    · exact numV_num _ _
    · exact .inl rfl
def whyR (h0 h1 h2 h3 : Str) (u : V) (t0 t1 : Str) (b : Bool) : Nat := why (numV h1 1000000000) (numV h0 1000000) (.str h2) (.str h3) u (sV t0 t1) (bV t0 t1 b)
def enR (h0 h1 h2 h3 : Str) (u : V) (t0 t1 : Str) (b : Bool) : En := ⟨toI (numV h1 1000000000), toI (numV h0 1000000), h2, h3, toO u, toO (sV t0 t1), toO (bV t0 t1 b), !b⟩
def partE (h0 h1 h2 h3 : Str) (u : V) (t0 t1 : Str) (b : Bool) : Option En := if whyR h0 h1 h2 h3 u t0 t1 b = 0 then some (enR h0 h1 h2 h3 u t0 t1 b) else none
theorem why_nums {n d r w u s b : V} (h : why n d r w u s b = 0) (hn : NumV n) (hd : NumV d) : n = .int (toI n) ∧ d = .int (toI d) := by
  have hH : whyH n d r w = 0 := by
    unfold why at h
    split at h
    · exact h
    · rename_i q
      exact Decidable.of_not_not q
  unfold whyH at hH
  constructor
  · rcases hn with rfl | ⟨i, rfl⟩
    · rw [if_pos (show inR 1000000000 V.non = false from rfl)] at hH; cases hH
    · rfl
  · split at hH
    · cases hH
    · rcases hd with rfl | ⟨i, rfl⟩
      · rw [if_pos (show inR 1000000 V.non = false from rfl)] at hH; cases hH
      · rfl
theorem part_is {h0 h1 h2 h3 : Str} {u : V} {t0 t1 : Str} {b : Bool} (hu : NumV u) (h : whyR h0 h1 h2 h3 u t0 t1 b = 0) : fields (numV h1 1000000000) (numV h0 1000000) (.str h2) (.str h3) u (sV t0 t1) (bV t0 t1 b) (.bl (!b)) = fieldsE (enR h0 h1 h2 h3 u t0 t1 b) ∧ okE (enR h0 h1 h2 h3 u t0 t1 b) := by
  obtain ⟨e1, e2⟩ := why_nums h (numV_num _ _) (numV_num _ _)
  have e3 := hu.opt
  have e4 := (sV_num t0 t1).opt
  have e5 := (bV_num t0 t1 b).opt
  unfold fieldsE okE enR
  show fields _ _ _ _ _ _ _ _ = fields (.int (toI (numV h1 1000000000))) (.int (toI (numV h0 1000000))) (.str h2) (.str h3) (optV (toO u)) (optV (toO (sV t0 t1))) (optV (toO (bV t0 t1 b))) (.bl (!b)) ∧ why (.int (toI (numV h1 1000000000))) (.int (toI (numV h0 1000000))) (.str h2) (.str h3) (optV (toO u)) (optV (toO (sV t0 t1))) (optV (toO (bV t0 t1 b))) = 0
  rw [← e1, ← e2, e3, e4, e5]
  exact ⟨rfl, h⟩
def bareW (ws : List Str) : Bool := match ws.getLast? with | none => false | some z => decide (V.str z = V.str (Str.ofString "bare"))
def coreW (ws : List Str) : List Str := if bareW ws = true then ws.dropLast else ws
def rowW (b : Bool) : List Str → Option En
  | [a0, a1, a2, a3, a4, a5] => if V.str a2 = V.str (Str.ofString "genus") then partE a0 a1 a2 a3 .non a4 a5 b else none
  | [a0, a1, a2, a3, a4, a5, a6, a7] => if V.str a2 = V.str (Str.ofString "genus") then none else if V.str a4 = V.str (Str.ofString "under") then partE a0 a1 a2 a3 (numV a5 1000000000) a6 a7 b else none
  | _ => none
def rowE (z : Str) : Option En := rowW (bareW (Txt.split z (Str.ofString " "))) (coreW (Txt.split z (Str.ofString " ")))
theorem rowW_no {b : Bool} : ∀ {cs : List Str}, cs.length ≠ 6 → cs.length ≠ 8 → rowW b cs = none
  | [], _, _ => rfl
  | [_], _, _ => rfl
  | [_, _], _, _ => rfl
  | [_, _, _], _, _ => rfl
  | [_, _, _, _], _, _ => rfl
  | [_, _, _, _, _], _, _ => rfl
  | [_, _, _, _, _, _], h, _ => absurd rfl h
  | [_, _, _, _, _, _, _], _, _ => rfl
  | [_, _, _, _, _, _, _, _], _, h => absurd rfl h
  | _ :: _ :: _ :: _ :: _ :: _ :: _ :: _ :: _ :: _, _, _ => rfl
theorem list6 : ∀ {l : List Str}, l.length = 6 → ∃ a0 a1 a2 a3 a4 a5, l = [a0, a1, a2, a3, a4, a5]
  | [a0, a1, a2, a3, a4, a5], _ => ⟨a0, a1, a2, a3, a4, a5, rfl⟩
theorem list8 : ∀ {l : List Str}, l.length = 8 → ∃ a0 a1 a2 a3 a4 a5 a6 a7, l = [a0, a1, a2, a3, a4, a5, a6, a7]
  | [a0, a1, a2, a3, a4, a5, a6, a7], _ => ⟨a0, a1, a2, a3, a4, a5, a6, a7, rfl⟩
theorem le_sum : ∀ {l : List Nat} {x : Nat}, x ∈ l → x ≤ l.sum
  | y :: l, x, h => by
    rw [List.sum_cons]
    rcases List.mem_cons.mp h with q | q
    · omega
    · have := le_sum q
      omega
theorem split_each {x y z : Str} (hy : 1 ≤ y.length) (h : z ∈ Txt.split x y) : z.length ≤ x.length := by
  have w := PyProof.Rows.split_weight x y hy
  have m := le_sum (List.mem_map_of_mem (f := fun s : Str => s.length) h)
  have p := PyProof.Rows.split_pos x y
  have m : z.length ≤ ((Txt.split x y).map (·.length)).sum := m
  omega
def seenE (e : En) : En := { e with k := e.k || e.b.isSome }
theorem ok_parts {e : En} (h : okE e) : isRank (.str e.r) = true ∧ isWord (.str e.w) = true ∧ underFits (.str e.r) (optV e.u) = true ∧ tieFits (.str e.r) (optV e.s) (optV e.b) = true := by
  have h : why (.int e.n) (.int e.d) (.str e.r) (.str e.w) (optV e.u) (optV e.s) (optV e.b) = 0 := h
  unfold why at h
  have hH : whyH (.int e.n) (.int e.d) (.str e.r) (.str e.w) = 0 := by
    split at h
    · exact h
    · rename_i q
      exact Decidable.of_not_not q
  rw [if_neg (fun q => q hH)] at h
  unfold whyH at hH
  split at hH
  · cases hH
  split at hH
  · cases hH
  split at hH
  · cases hH
  rename_i q1 q2 q3
  split at hH
  · cases hH
  rename_i q4
  split at h
  · cases h
  rename_i q5
  split at h
  · cases h
  rename_i q6
  exact ⟨eq_true_of_ne_false q3, eq_true_of_ne_false q4, eq_true_of_ne_false q5, eq_true_of_ne_false q6⟩
theorem rank_free {z : Str} (h : isRank (.str z) = true) : (32 : Nat) ∉ z.cps.toList ∧ (10 : Nat) ∉ z.cps.toList := by
  have h : (eqV (.str (Str.ofString "genus")) (.str z) || (eqV (.str (Str.ofString "species")) (.str z) || (eqV (.str (Str.ofString "form")) (.str z) || false))) = true := h
  simp [eqV] at h
  rcases h with q | q | q <;> rw [← q] <;> decide +kernel
theorem num_free {n : Int} (h : 1 ≤ n) {d : Nat} (hd : fig d = false) : d ∉ (numS n).cps.toList := fig_free (num_fig (by omega)) hd
theorem num_bare {n : Int} (h : 1 ≤ n) : decide (V.str (numS n) = V.str (Str.ofString "bare")) = false := decide_eq_false fun q => by
  have q := V.str.inj q
  have := num_free h (d := 98) (by decide)
  rw [q] at this
  exact this (by decide +kernel)
theorem words_free {e : En} (fit : Fit e) (okk : okE e) {d : Nat} (hd : d = 32 ∨ d = 10) : ∀ x ∈ txtW e, d ∉ x.cps.toList := by
  obtain ⟨p1, p2, _, _⟩ := ok_parts okk
  have fd : fig d = false := by rcases hd with rfl | rfl <;> decide
  have ld : letter d = false := by rcases hd with rfl | rfl <;> decide
  have rd : d ∉ e.r.cps.toList := by
    rcases hd with rfl | rfl
    · exact (rank_free p1).1
    · exact (rank_free p1).2
  have c1 : d ∉ (Str.ofString "under").cps.toList := by rcases hd with rfl | rfl <;> decide +kernel
  have c2 : d ∉ (Str.ofString "of").cps.toList := by rcases hd with rfl | rfl <;> decide +kernel
  have c3 : d ∉ (Str.ofString "tied").cps.toList := by rcases hd with rfl | rfl <;> decide +kernel
  have c4 : d ∉ (Str.ofString "bare").cps.toList := by rcases hd with rfl | rfl <;> decide +kernel
  intro x hx
  unfold txtW at hx
  rcases List.mem_append.mp hx with hx | hx
  · rcases List.mem_append.mp hx with hx | hx
    · simp only [List.mem_cons, List.not_mem_nil, or_false] at hx
      rcases hx with rfl | rfl | rfl | rfl
      · exact num_free fit.d0 fd
      · exact num_free fit.n0 fd
      · exact rd
      · exact word_free p2 ld
    · cases hu : e.u with
      | none => rw [hu] at hx; cases hx
      | some u =>
        rw [hu] at hx
        have hx : x ∈ [Str.ofString "under", numS u] := hx
        simp only [List.mem_cons, List.not_mem_nil, or_false] at hx
        rcases hx with rfl | rfl
        · exact c1
        · exact num_free (fit.u u hu).1 fd
  · cases hb : e.b with
    | some b =>
      rw [hb] at hx
      have hx : x ∈ [Str.ofString "of", numS b] := by cases hs : e.s <;> rw [hs] at hx <;> exact hx
      simp only [List.mem_cons, List.not_mem_nil, or_false] at hx
      rcases hx with rfl | rfl
      · exact c2
      · exact num_free (fit.b b hb).1 fd
    | none =>
      obtain ⟨s, es, s0, _⟩ := fit.s hb
      rw [hb, es] at hx
      cases hk : e.k with
      | true =>
        rw [hk] at hx
        have hx : x ∈ [Str.ofString "tied", numS s] := hx
        simp only [List.mem_cons, List.not_mem_nil, or_false] at hx
        rcases hx with rfl | rfl
        · exact c3
        · exact num_free s0 fd
      | false =>
        rw [hk] at hx
        have hx : x ∈ [Str.ofString "tied", numS s, Str.ofString "bare"] := hx
        simp only [List.mem_cons, List.not_mem_nil, or_false] at hx
        rcases hx with rfl | rfl | rfl
        · exact c3
        · exact num_free s0 fd
        · exact c4
theorem row_split {e : En} (fit : Fit e) (okk : okE e) : Txt.split (rowText e) (Str.ofString " ") = txtW e := by
  unfold rowText
  rw [blank_is]
  exact split_join (fun z => by cases z) (words_free fit okk (.inl rfl))
theorem part_eq {h0 h1 h2 h3 : Str} {u : V} {t0 t1 : Str} {b : Bool} {n d : Int} {sv bv : V} (hn : numV h1 1000000000 = .int n) (hd : numV h0 1000000 = .int d) (hs : sV t0 t1 = sv) (hb : bV t0 t1 b = bv) (h : why (.int n) (.int d) (.str h2) (.str h3) u sv bv = 0) : partE h0 h1 h2 h3 u t0 t1 b = some ⟨n, d, h2, h3, toO u, toO sv, toO bv, !b⟩ := by
  unfold partE whyR enR
  rw [hn, hd, hs, hb, if_pos h]
  rfl
theorem core_plain {b : Bool} {ws : List Str} {x : Str} (h : decide (V.str x = V.str (Str.ofString "bare")) = b) : bareW (ws ++ [x]) = b ∧ coreW (ws ++ [x]) = if b = true then ws else ws ++ [x] := by
  have e : bareW (ws ++ [x]) = b := by unfold bareW; rw [List.getLast?_concat]; exact h
  refine ⟨e, ?_⟩
  unfold coreW
  rw [e, List.dropLast_concat]
theorem row_back {e : En} (fit : Fit e) (okk : okE e) : rowE (rowText e) = some (seenE e) := by
  unfold rowE
  rw [row_split fit okk]
  obtain ⟨p1, p2, p3, p4⟩ := ok_parts okk
  have okk : why (.int e.n) (.int e.d) (.str e.r) (.str e.w) (optV e.u) (optV e.s) (optV e.b) = 0 := okk
  obtain ⟨n, d, r, w, u, s, b, k⟩ := e
  have vn : numV (numS n) 1000000000 = .int n := num_back fit.n0 fit.n1
  have vd : numV (numS d) 1000000 = .int d := num_back fit.d0 fit.d1
  have to : ¬ V.str (Str.ofString "of") = V.str (Str.ofString "tied") := by decide +kernel
  have bt : decide (V.str (Str.ofString "bare") = V.str (Str.ofString "bare")) = true := decide_eq_true rfl
  have t3 : (if V.str r = .str (Str.ofString "genus") then decide (optV u = .non) else inR 1000000000 (optV u)) = true := p3
  have t4 : (if optV b = .non then inR 1000000000 (optV s) else (!decide (V.str r = .str (Str.ofString "genus"))) && (decide (optV s = .non) && inR 1000000000 (optV b))) = true := p4
  clear p3 p4 p1 p2
  have okk : why (.int n) (.int d) (.str r) (.str w) (optV u) (optV s) (optV b) = 0 := okk
  have tS : ∀ {x : Int}, 1 ≤ x → x ≤ 1000000000 → sV (Str.ofString "tied") (numS x) = .int x := fun h0 h1 => (if_pos rfl).trans (num_back h0 h1)
  have tB : ∀ (x : Str) (c : Bool), bV (Str.ofString "tied") x c = .non := fun _ _ => if_pos rfl
  by_cases g : V.str r = V.str (Str.ofString "genus")
  · rw [if_pos g] at t3
    have hu : u = none := by
      cases u with
      | none => rfl
      | some u => exact absurd (of_decide_eq_true t3) (by intro z; cases z)
    have hb : b = none := by
      cases b with
      | none => rfl
      | some b =>
        rw [if_neg (by intro z; cases z), decide_eq_true g] at t4
        cases t4
    subst hu hb
    obtain ⟨x, es, x0, x1⟩ := fit.s rfl
    have es : s = some x := es
    subst es
    cases k with
    | true =>
      obtain ⟨q1, q2⟩ := core_plain (ws := [numS d, numS n, r, w, Str.ofString "tied"]) (num_bare x0)
      have q1 : bareW (txtW ⟨n, d, r, w, none, some x, none, true⟩) = false := q1
      have q2 : coreW (txtW ⟨n, d, r, w, none, some x, none, true⟩) = [numS d, numS n, r, w, Str.ofString "tied", numS x] := q2
      rw [q1, q2]
      exact (if_pos g).trans (part_eq vn vd (tS x0 x1) (tB _ _) okk)
    | false =>
      obtain ⟨q1, q2⟩ := core_plain (ws := [numS d, numS n, r, w, Str.ofString "tied", numS x]) bt
      have q1 : bareW (txtW ⟨n, d, r, w, none, some x, none, false⟩) = true := q1
      have q2 : coreW (txtW ⟨n, d, r, w, none, some x, none, false⟩) = [numS d, numS n, r, w, Str.ofString "tied", numS x] := q2
      rw [q1, q2]
      exact (if_pos g).trans (part_eq vn vd (tS x0 x1) (tB _ _) okk)
  · rw [if_neg g] at t3
    cases u with
    | none => cases t3
    | some y =>
      obtain ⟨y0, y1⟩ := fit.u y rfl
      have vy : numV (numS y) 1000000000 = .int y := num_back y0 y1
      cases b with
      | some z =>
        rw [if_neg (by intro z; cases z)] at t4
        have hs : s = none := by
          cases s with
          | none => rfl
          | some s =>
            rw [decide_eq_false (p := optV (some s) = V.non) (by intro z; cases z), Bool.false_and, Bool.and_false] at t4
            cases t4
        subst hs
        obtain ⟨z0, z1⟩ := fit.b z rfl
        obtain ⟨q1, q2⟩ := core_plain (ws := [numS d, numS n, r, w, Str.ofString "under", numS y, Str.ofString "of"]) (num_bare z0)
        have q1 : bareW (txtW ⟨n, d, r, w, some y, none, some z, k⟩) = false := q1
        have q2 : coreW (txtW ⟨n, d, r, w, some y, none, some z, k⟩) = [numS d, numS n, r, w, Str.ofString "under", numS y, Str.ofString "of", numS z] := q2
        rw [q1, q2]
        have sv : sV (Str.ofString "of") (numS z) = .non := if_neg to
        have bv : bV (Str.ofString "of") (numS z) false = .int z := (if_neg to).trans ((if_pos ⟨rfl, rfl⟩).trans (num_back z0 z1))
        have pe := part_eq (u := .int y) (b := false) vn vd sv bv okk
        have fin : (if V.str r = V.str (Str.ofString "genus") then none else if V.str (Str.ofString "under") = V.str (Str.ofString "under") then partE (numS d) (numS n) r w (numV (numS y) 1000000000) (Str.ofString "of") (numS z) false else none) = some (⟨n, d, r, w, some y, none, some z, true⟩ : En) := by rw [if_neg g, if_pos rfl, vy]; exact pe
        refine fin.trans ?_
        cases k <;> rfl
      | none =>
        obtain ⟨x, es, x0, x1⟩ := fit.s rfl
        have es : s = some x := es
        subst es
        have fin : ∀ c : Bool, (if V.str r = V.str (Str.ofString "genus") then none else if V.str (Str.ofString "under") = V.str (Str.ofString "under") then partE (numS d) (numS n) r w (numV (numS y) 1000000000) (Str.ofString "tied") (numS x) c else none) = some (⟨n, d, r, w, some y, some x, none, !c⟩ : En) := fun c => by
          rw [if_neg g, if_pos rfl, vy]
          exact part_eq (u := .int y) (b := c) vn vd (tS x0 x1) (tB _ _) okk
        cases k with
        | true =>
          obtain ⟨q1, q2⟩ := core_plain (ws := [numS d, numS n, r, w, Str.ofString "under", numS y, Str.ofString "tied"]) (num_bare x0)
          have q1 : bareW (txtW ⟨n, d, r, w, some y, some x, none, true⟩) = false := q1
          have q2 : coreW (txtW ⟨n, d, r, w, some y, some x, none, true⟩) = [numS d, numS n, r, w, Str.ofString "under", numS y, Str.ofString "tied", numS x] := q2
          rw [q1, q2]
          exact fin false
        | false =>
          obtain ⟨q1, q2⟩ := core_plain (ws := [numS d, numS n, r, w, Str.ofString "under", numS y, Str.ofString "tied", numS x]) bt
          have q1 : bareW (txtW ⟨n, d, r, w, some y, some x, none, false⟩) = true := q1
          have q2 : coreW (txtW ⟨n, d, r, w, some y, some x, none, false⟩) = [numS d, numS n, r, w, Str.ofString "under", numS y, Str.ofString "tied", numS x] := q2
          rw [q1, q2]
          exact fin true
def spNumOf (m : Int) : Sp := fun vs H Q _ => ∃ z, vs = [.str z] ∧ z.length ≤ 200 ∧ ∀ H', Same H H' → Q (numV z m) H'
def spEntOf (CE : Addr) : Sp := fun vs H Q _ => ∃ h t z0 z1 z2 z3 u t0 t1 b, vs = [.ref h, u, .ref t, .bl b] ∧ H h = some (.lst [.str z0, .str z1, .str z2, .str z3]) ∧ H t = some (.lst [.str t0, .str t1]) ∧ NumV u ∧ z0.length ≤ 200 ∧ z1.length ≤ 200 ∧ z3.length ≤ 200 ∧ t1.length ≤ 200 ∧
  (partE z0 z1 z2 z3 u t0 t1 b = none → ∀ H', Same H H' → Q .non H') ∧ ∀ e, partE z0 z1 z2 z3 u t0 t1 b = some e → okE e → ∀ x H', Same H H' → EntAt H' CE x e → Q x H'
def spReadRow (CE : Addr) : Sp := fun vs H Q _ => ∃ z, vs = [.str z] ∧ z.length ≤ 200 ∧ (rowE z = none → ∀ H', Same H H' → Q .non H') ∧ ∀ e, rowE z = some e → okE e → ∀ x H', Same H H' → EntAt H' CE x e → Q x H'
def badW (z : Str) : Prop := (isNum z.cps.toList = false ∨ 1000000000 < val z.cps.toList) ∧ z.cps.toList.all letter = false
theorem badW.num {z : Str} (h : badW z) {m : Int} (hm : m ≤ 1000000000) : numV z m = .non := by
  rcases h.1 with h | h
  · exact numV_non h
  · exact numV_more (by omega)
theorem badW.ne {z y : Str} (h : badW z) (hy : y.cps.toList.all letter = true) : V.str z ≠ V.str y := fun e => by
  have h2 := h.2
  rw [V.str.inj e, hy] at h2
  cases h2
theorem badW.word {z : Str} (h : badW z) : isWord (.str z) = false := by rw [isWord_str, h.2, Bool.and_false]
theorem rank_is {z : Str} (h : isRank (.str z) = true) : z.cps.toList.all letter = true := by
  have h : (eqV (.str (Str.ofString "genus")) (.str z) || (eqV (.str (Str.ofString "species")) (.str z) || (eqV (.str (Str.ofString "form")) (.str z) || false))) = true := h
  simp [eqV] at h
  rcases h with q | q | q <;> rw [← q] <;> decide +kernel
theorem badW.rank {z : Str} (h : badW z) : isRank (.str z) = false := by
  cases q : isRank (.str z) with
  | false => rfl
  | true =>
    have h2 := h.2
    rw [rank_is q] at h2
    cases h2
theorem whyH_no {n d r w : V} (h : inR 1000000000 n = false ∨ inR 1000000 d = false ∨ isRank r = false ∨ isWord w = false) : whyH n d r w ≠ 0 := by
  unfold whyH
  by_cases h1 : inR 1000000000 n = false
  · rw [if_pos h1]; decide
  rw [if_neg h1]
  by_cases h2 : inR 1000000 d = false
  · rw [if_pos h2]; decide
  rw [if_neg h2]
  by_cases h3 : isRank r = false
  · rw [if_pos h3]; decide
  rw [if_neg h3]
  by_cases h4 : isWord w = false
  · rw [if_pos h4]; decide
  rcases h with h | h | h | h <;> contradiction
theorem why_no {n d r w u s b : V} (h : whyH n d r w ≠ 0 ∨ underFits r u = false ∨ tieFits r s b = false) : why n d r w u s b ≠ 0 := by
  unfold why
  by_cases h1 : whyH n d r w ≠ 0
  · rw [if_pos h1]; exact h1
  rw [if_neg h1]
  by_cases h2 : underFits r u = false
  · rw [if_pos h2]; decide
  rw [if_neg h2]
  by_cases h3 : tieFits r s b = false
  · rw [if_pos h3]; decide
  rcases h with h | h | h <;> contradiction
theorem part_no {h0 h1 h2 h3 : Str} {u : V} {t0 t1 : Str} {b : Bool} (h : (numV h1 1000000000 = .non ∨ numV h0 1000000 = .non ∨ isRank (.str h2) = false ∨ isWord (.str h3) = false) ∨ underFits (.str h2) u = false ∨ sV t0 t1 = .non ∧ bV t0 t1 b = .non) : partE h0 h1 h2 h3 u t0 t1 b = none := by
  unfold partE whyR
  refine if_neg (why_no ?_)
  rcases h with h | h | ⟨hs, hb⟩
  · refine .inl (whyH_no ?_)
    rcases h with h | h | h | h
    · rw [h]; exact .inl rfl
    · rw [h]; exact .inr (.inl rfl)
    · exact .inr (.inr (.inl h))
    · exact .inr (.inr (.inr h))
  · exact .inr (.inl h)
  · rw [hs, hb]
    exact .inr (.inr rfl)
theorem tie_bad0 {t0 t1 : Str} {b : Bool} (h : badW t0) : sV t0 t1 = .non ∧ bV t0 t1 b = .non := by
  have n1 : ¬ V.str t0 = V.str (Str.ofString "tied") := h.ne (by decide +kernel)
  have n2 : ¬ V.str t0 = V.str (Str.ofString "of") := h.ne (by decide +kernel)
  unfold sV bV
  rw [if_neg n1, if_neg n1, if_neg fun q => n2 q.1]
  exact ⟨rfl, rfl⟩
theorem tie_bad1 {t0 t1 : Str} {b : Bool} (h : badW t1) : sV t0 t1 = .non ∧ bV t0 t1 b = .non := by
  unfold sV bV
  rw [h.num (by decide)]
  constructor
  · split <;> rfl
  · split
    · rfl
    · split <;> rfl
theorem rowW_bad {b : Bool} {cs : List Str} {i : Nat} {z : Str} (hz : cs[i]? = some z) (h : badW z) : rowW b cs = none := by
  have g0 : (Str.ofString "genus").cps.toList.all letter = true := by decide +kernel
  by_cases l6 : cs.length = 6
  · obtain ⟨a0, a1, a2, a3, a4, a5, rfl⟩ := list6 l6
    show (if V.str a2 = V.str (Str.ofString "genus") then partE a0 a1 a2 a3 .non a4 a5 b else none) = none
    split
    · rename_i g
      rcases i with _ | _ | _ | _ | _ | _ | i
      · cases hz; exact part_no (.inl (.inr (.inl (h.num (by decide)))))
      · cases hz; exact part_no (.inl (.inl (h.num (by decide))))
      · cases hz; exact absurd g (h.ne g0)
      · cases hz; exact part_no (.inl (.inr (.inr (.inr h.word))))
      · cases hz; exact part_no (.inr (.inr (tie_bad0 h)))
      · cases hz; exact part_no (.inr (.inr (tie_bad1 h)))
      · cases hz
    · rfl
  by_cases l8 : cs.length = 8
  · obtain ⟨a0, a1, a2, a3, a4, a5, a6, a7, rfl⟩ := list8 l8
    show (if V.str a2 = V.str (Str.ofString "genus") then none else if V.str a4 = V.str (Str.ofString "under") then partE a0 a1 a2 a3 (numV a5 1000000000) a6 a7 b else none) = none
    split
    · rfl
    rename_i g
    split
    · rename_i u
      rcases i with _ | _ | _ | _ | _ | _ | _ | _ | i
      · cases hz; exact part_no (.inl (.inr (.inl (h.num (by decide)))))
      · cases hz; exact part_no (.inl (.inl (h.num (by decide))))
      · cases hz; exact part_no (.inl (.inr (.inr (.inl h.rank))))
      · cases hz; exact part_no (.inl (.inr (.inr (.inr h.word))))
      · cases hz; exact absurd u (h.ne (by decide +kernel))
      · cases hz
        refine part_no (.inr (.inl ?_))
        rw [h.num (by decide)]
        unfold underFits
        exact (if_neg g).trans rfl
      · cases hz; exact part_no (.inr (.inr (tie_bad0 h)))
      · cases hz; exact part_no (.inr (.inr (tie_bad1 h)))
      · cases hz
    · rfl
  exact rowW_no l6 l8
def rowL (L : List Str) : Option En := rowW (bareW L) (coreW L)
theorem bare_snoc (I : List Str) (z : Str) : bareW (I ++ [z]) = decide (V.str z = V.str (Str.ofString "bare")) := by unfold bareW; rw [List.getLast?_concat]
theorem rowL_no {I : List Str} {z : Str} (h : V.str z ≠ V.str (Str.ofString "bare")) : rowL (I ++ [z]) = rowW false (I ++ [z]) := by
  unfold rowL coreW
  rw [bare_snoc, decide_eq_false h]
  rfl
theorem rowL_bare {I : List Str} : rowL (I ++ [Str.ofString "bare"]) = rowW true I := by
  unfold rowL coreW
  rw [bare_snoc, decide_eq_true rfl, if_pos rfl, List.dropLast_concat]
structure Shape (S : List Str) : Prop where
  is : ∃ (C : List Str) (p : Str) (q : Int), (S = C ++ [p, numS q] ∨ S = C ++ [p, numS q, Str.ofString "bare"]) ∧ 1 ≤ q ∧ p.cps.toList.all letter = true ∧ V.str (p ++ Str.ofString "x") ≠ V.str (Str.ofString "bare") ∧ (C.length = 4 ∧ C[2]? = some (Str.ofString "genus") ∨ C.length = 6)
theorem genus_of {r : Str} {o : Option Int} (h : underFits (.str r) (optV o) = true) : (o = none ↔ r = Str.ofString "genus") := by
  unfold underFits at h
  constructor
  · rintro rfl
    split at h
    · rename_i g; exact V.str.inj g
    · cases h
  · intro g
    rw [if_pos (congrArg V.str g)] at h
    cases o with
    | none => rfl
    | some m => exact absurd (of_decide_eq_true h) (by intro z; cases z)
theorem shape {e : En} (fit : Fit e) (okk : okE e) : Shape (txtW e) := by
  obtain ⟨p1, p2, p3, p4⟩ := ok_parts okk
  obtain ⟨n, d, r, w, u, s, b, k⟩ := e
  have gu := genus_of p3
  have t1 : (Str.ofString "tied").cps.toList.all letter = true := by decide +kernel
  have t2 : (Str.ofString "of").cps.toList.all letter = true := by decide +kernel
  have x1 : V.str (Str.ofString "tied" ++ Str.ofString "x") ≠ V.str (Str.ofString "bare") := fun z => absurd (congrArg (fun s : Str => s.cps.toList) (V.str.inj z)) (by decide +kernel)
  have x2 : V.str (Str.ofString "of" ++ Str.ofString "x") ≠ V.str (Str.ofString "bare") := fun z => absurd (congrArg (fun s : Str => s.cps.toList) (V.str.inj z)) (by decide +kernel)
  have hb := fit.b
  have hs := fit.s
  cases u with
  | none =>
    have hr : r = Str.ofString "genus" := gu.mp rfl
    cases b with
    | some b => exact ⟨_, _, b, .inl (show _ = [numS d, numS n, r, w] ++ [Str.ofString "of", numS b] from rfl), (hb b rfl).1, t2, x2, .inl ⟨rfl, congrArg some hr⟩⟩
    | none =>
      obtain ⟨m, rfl, m0, _⟩ := hs rfl
      cases k with
      | true => exact ⟨_, _, m, .inl (show _ = [numS d, numS n, r, w] ++ [Str.ofString "tied", numS m] from rfl), m0, t1, x1, .inl ⟨rfl, congrArg some hr⟩⟩
      | false => exact ⟨_, _, m, .inr (show _ = [numS d, numS n, r, w] ++ [Str.ofString "tied", numS m, Str.ofString "bare"] from rfl), m0, t1, x1, .inl ⟨rfl, congrArg some hr⟩⟩
  | some u =>
    cases b with
    | some b => exact ⟨_, _, b, .inl (show _ = [numS d, numS n, r, w, Str.ofString "under", numS u] ++ [Str.ofString "of", numS b] from rfl), (hb b rfl).1, t2, x2, .inr rfl⟩
    | none =>
      obtain ⟨m, rfl, m0, _⟩ := hs rfl
      cases k with
      | true => exact ⟨_, _, m, .inl (show _ = [numS d, numS n, r, w, Str.ofString "under", numS u] ++ [Str.ofString "tied", numS m] from rfl), m0, t1, x1, .inr rfl⟩
      | false => exact ⟨_, _, m, .inr (show _ = [numS d, numS n, r, w, Str.ofString "under", numS u] ++ [Str.ofString "tied", numS m, Str.ofString "bare"] from rfl), m0, t1, x1, .inr rfl⟩
theorem num_nobare {n : Int} (h : 1 ≤ n) : V.str (numS n) ≠ V.str (Str.ofString "bare") := of_decide_eq_false (num_bare h)
theorem Shape.set {S : List Str} (h : Shape S) {i : Nat} (hi : i < S.length) {z : Str} (hz : badW z) : rowL (S.set i z) = none := by
  obtain ⟨C, p, q, hS, q0, pl, px, hC⟩ := h
  have nb := num_nobare q0
  have zb : V.str z ≠ V.str (Str.ofString "bare") := hz.ne (by decide +kernel)
  rcases hS with rfl | rfl
  · have e0 : C ++ [p, numS q] = (C ++ [p]) ++ [numS q] := by simp
    have key : ((C ++ [p]) ++ [numS q]).set i z = (C ++ [p]).set i z ++ [numS q] ∨ ((C ++ [p]) ++ [numS q]).set i z = (C ++ [p]) ++ [z] := by
      by_cases hl : i < (C ++ [p]).length
      · exact .inl (List.set_append_left _ _ hl)
      · have ei : i = (C ++ [p]).length := by simp at hi hl ⊢; omega
        refine .inr ?_
        rw [ei, List.set_append_right _ _ (Nat.le_refl _), Nat.sub_self]
        rfl
    have gi : ((C ++ [p]) ++ [numS q]).set i z = ((C ++ [p]) ++ [numS q]).set i z := rfl
    have gz : (((C ++ [p]) ++ [numS q]).set i z)[i]? = some z := List.getElem?_set_self (by rw [← e0]; exact hi)
    rw [e0]
    rcases key with k | k <;> rw [k] at gz ⊢
    · rw [rowL_no nb]; exact rowW_bad gz hz
    · rw [rowL_no zb]; exact rowW_bad gz hz
  · have e0 : C ++ [p, numS q, Str.ofString "bare"] = (C ++ [p, numS q]) ++ [Str.ofString "bare"] := by simp
    rw [e0] at hi ⊢
    by_cases hl : i < (C ++ [p, numS q]).length
    · rw [List.set_append_left _ _ hl, rowL_bare]
      exact rowW_bad (List.getElem?_set_self hl) hz
    · have ei : i = (C ++ [p, numS q]).length := by simp at hi hl ⊢; omega
      rw [ei, List.set_append_right _ _ (Nat.le_refl _), Nat.sub_self]
      show rowL ((C ++ [p, numS q]) ++ [z]) = none
      rw [rowL_no zb]
      refine rowW_no ?_ ?_ <;> · simp; rcases hC with ⟨hC, _⟩ | hC <;> omega
theorem Shape.snoc {S : List Str} (h : Shape S) {z : Str} (hz : V.str z ≠ V.str (Str.ofString "bare")) : rowL (S ++ [z]) = none := by
  obtain ⟨C, p, q, hS, q0, pl, px, hC⟩ := h
  rw [rowL_no hz]
  rcases hS with rfl | rfl
  · refine rowW_no ?_ ?_ <;> · simp; rcases hC with ⟨hC, _⟩ | hC <;> omega
  · rcases hC with ⟨hC, hg⟩ | hC
    · obtain ⟨a0, a1, a2, a3, rfl⟩ : ∃ a0 a1 a2 a3, C = [a0, a1, a2, a3] := by
        match C, hC with
        | [a0, a1, a2, a3], _ => exact ⟨_, _, _, _, rfl⟩
      cases Option.some.inj hg
      show (if V.str (Str.ofString "genus") = V.str (Str.ofString "genus") then none else if V.str p = V.str (Str.ofString "under") then partE a0 a1 (Str.ofString "genus") a3 (numV (numS q) 1000000000) (Str.ofString "bare") z false else none) = none
      exact if_pos rfl
    · refine rowW_no ?_ ?_ <;> · simp; omega
theorem x_bad {q : Int} (h : 1 ≤ q) : badW (numS q ++ Str.ofString "x") := by
  constructor
  · refine .inl (isNum_fig ?_)
    rw [app_l, List.all_append, show (Str.ofString "x").cps.toList.all fig = false by decide +kernel, Bool.and_false]
  · rw [app_l, List.all_append]
    have : (numS q).cps.toList.all letter = false := by
      obtain ⟨m, rfl⟩ := Int.eq_ofNat_of_zero_le (show 0 ≤ q by omega)
      obtain ⟨f1, f2⟩ := nums_fig m
      obtain ⟨c, r, e, _⟩ := f2 (by omega)
      have e1 : (numS (m : Int)).cps.toList = c :: r := (PySem.W.KIN.signs_num m).trans e
      rw [e] at f1
      rw [e1]
      have fc : fig c = true := by rw [List.all_cons, Bool.and_eq_true] at f1; exact f1.1
      have lc : letter c = false := by
        unfold fig at fc
        unfold letter
        rw [Bool.and_eq_true] at fc
        have := of_decide_eq_true fc.2
        rw [decide_eq_false (by omega), Bool.false_and]
      rw [List.all_cons, lc, Bool.false_and]
    rw [this, Bool.false_and]
theorem Shape.drop {S : List Str} (h : Shape S) : ∃ I p q, S = I ++ [p, q] ∧ rowL (I ++ [p ++ Str.ofString "x"]) = none := by
  obtain ⟨C, p, q, hS, q0, pl, px, hC⟩ := h
  rcases hS with rfl | rfl
  · refine ⟨C, p, numS q, rfl, ?_⟩
    rw [rowL_no px]
    refine rowW_no ?_ ?_ <;> · simp; rcases hC with ⟨hC, _⟩ | hC <;> omega
  · refine ⟨C ++ [p], numS q, Str.ofString "bare", by simp, ?_⟩
    rw [rowL_no ((x_bad q0).ne (by decide +kernel))]
    exact rowW_bad (i := (C ++ [p]).length) (by simp) (x_bad q0)
theorem join_last {y z : Str} : ∀ {xs : List Str}, xs ≠ [] → Str.join y (xs ++ [z]) = Str.join y xs ++ y ++ z
  | [], h => absurd rfl h
  | [x], _ => rfl
  | x :: w :: r, _ => by
    show x ++ y ++ Str.join y (w :: r ++ [z]) = x ++ y ++ Str.join y (w :: r) ++ y ++ z
    rw [join_last (xs := w :: r) (by simp)]
    exact ext_l (by simp only [app_l, List.append_assoc])
theorem rowJ (e : En) : rowText e = Str.join (Str.ofString " ") (txtW e) := StrLaws.glued_eq_join _ _
theorem words_free2 {e : En} (fit : Fit e) (okk : okE e) : ∀ x ∈ txtW e, (32 : Nat) ∉ x.cps.toList ∧ (10 : Nat) ∉ x.cps.toList := fun x hx => ⟨words_free fit okk (.inl rfl) x hx, words_free fit okk (.inr rfl) x hx⟩
theorem txt_ne (e : En) : txtW e ≠ [] := fun z => by cases z
theorem app_nil (a : Str) : a ++ Str.ofString "" = a := ext_l (by rw [app_l]; exact List.append_nil _)
theorem nil_app (a : Str) : Str.ofString "" ++ a = a := ext_l (by rw [app_l]; rfl)
section
open Builtin Builtin.Str
theorem rep1_cut {c : Nat} {a b z : Str} (h : c ∉ a.cps.toList) : rep1 (a ++ ⟨#[c]⟩ ++ b) ⟨#[c]⟩ z = a ++ z ++ b := by
  have lx : (a ++ (⟨#[c]⟩ : Str) ++ b).cps.toList = a.cps.toList ++ c :: b.cps.toList := by rw [app_l, app_l, List.append_assoc]; rfl
  have la : a.cps.toList.length = a.length := len_l a
  have lb : b.cps.toList.length = b.length := len_l b
  have ll : (a ++ (⟨#[c]⟩ : Str) ++ b).length = a.length + 1 + b.length := by rw [Str.length_append, Str.length_append]; rfl
  have at_ : ∀ i, StrLaws.At (a ++ (⟨#[c]⟩ : Str) ++ b) ⟨#[c]⟩ (a ++ (⟨#[c]⟩ : Str) ++ b).length i → (a ++ (⟨#[c]⟩ : Str) ++ b).cps.toList[i]? = some c := fun i hi => by
    have h2 := hi.2
    rw [StrLaws.subAt_eq] at h2
    have h2 := eq_of_beq h2
    have h2 : ((a ++ (⟨#[c]⟩ : Str) ++ b).cps.toList.drop i).take 1 = [c] := h2
    have := congrArg (fun l : List Nat => l[0]?) h2
    simpa using this
  have at0 : StrLaws.At (a ++ (⟨#[c]⟩ : Str) ++ b) ⟨#[c]⟩ (a ++ (⟨#[c]⟩ : Str) ++ b).length a.length := by
    refine ⟨by rw [ll]; show a.length + 1 ≤ _; omega, ?_⟩
    rw [StrLaws.subAt_eq, lx]
    show ((List.drop a.length (a.cps.toList ++ c :: b.cps.toList)).take 1 == [c]) = true
    rw [← la, List.drop_left]
    exact beq_self_eq_true _
  have h1 := StrLaws.occ_length_le (a ++ (⟨#[c]⟩ : Str) ++ b) ⟨#[c]⟩ 0 (a ++ (⟨#[c]⟩ : Str) ++ b).length 1
  have occ : occurrences (a ++ (⟨#[c]⟩ : Str) ++ b) ⟨#[c]⟩ 0 (a ++ (⟨#[c]⟩ : Str) ++ b).length 1 = [a.length] := by
    rcases StrLaws.occ_head (a ++ (⟨#[c]⟩ : Str) ++ b) ⟨#[c]⟩ 1 (Nat.le_refl _) with ⟨_, hn⟩ | ⟨i, r, e, hi, hk⟩
    · exact absurd at0 (hn _)
    · rw [e] at h1 ⊢
      have r0 : r = [] := List.eq_nil_of_length_eq_zero (by rw [List.length_cons] at h1; omega)
      have ia : i = a.length := by
        rcases Nat.lt_trichotomy i a.length with q | q | q
        · have := at_ i hi
          rw [lx, List.getElem?_append_left (by omega)] at this
          exact absurd (List.mem_of_getElem? this) h
        · exact q
        · exact absurd at0 (hk _ q)
      rw [r0, ia]
  unfold rep1
  rw [occ, if_neg (by show ¬ ((false || (1 == 0 && _)) = true); simp)]
  refine ext_l ?_
  show ((partsBetween (a ++ (⟨#[c]⟩ : Str) ++ b) [a.length] 1 |>.drop 1).foldl (fun acc p => acc ++ z.cps ++ p.cps) ((partsBetween (a ++ (⟨#[c]⟩ : Str) ++ b) [a.length] 1).headD Str.empty).cps).toList = _
  show ((strSub (a ++ (⟨#[c]⟩ : Str) ++ b) 0 a.length).cps ++ z.cps ++ (strSub (a ++ (⟨#[c]⟩ : Str) ++ b) (a.length + 1) (a ++ (⟨#[c]⟩ : Str) ++ b).length).cps).toList = _
  rw [Array.toList_append, Array.toList_append, StrLaws.strSub_toList, StrLaws.strSub_toList, lx, ll, app_l, app_l]
  have e1 : ((a.cps.toList ++ c :: b.cps.toList).drop 0).take (a.length - 0) = a.cps.toList := by rw [List.drop_zero, Nat.sub_zero, ← la, List.take_left]
  have e2 : ((a.cps.toList ++ c :: b.cps.toList).drop (a.length + 1)).take (a.length + 1 + b.length - (a.length + 1)) = b.cps.toList := by
    rw [← la, show a.cps.toList.length + 1 = (a.cps.toList ++ [c]).length by simp, show a.cps.toList ++ c :: b.cps.toList = (a.cps.toList ++ [c]) ++ b.cps.toList by simp, List.drop_left]
    exact List.take_of_length_le (by rw [lb]; omega)
  rw [e1, e2]
end
theorem cut_to (a b : Str) : cutS (a ++ b) none (some (a.length : Int)) = a := by
  have la : a.cps.toList.length = a.length := len_l a
  have e : HT.sIx (a ++ b).length (a ++ b).length (some (a.length : Int)) = a.length := by
    have := Str.length_append a b
    rw [HT.sIx_nat]
    omega
  refine ext_l ?_
  show ((((a ++ b).cps.toList.drop (HT.sIx (a ++ b).length 0 none)).take (HT.sIx (a ++ b).length (a ++ b).length (some (a.length : Int)) - HT.sIx (a ++ b).length 0 none)).toArray).toList = _
  rw [e]
  show ((a ++ b).cps.toList.drop 0).take (a.length - 0) = _
  rw [List.drop_zero, Nat.sub_zero, app_l, ← la, List.take_left]
theorem sum_set : ∀ (L : List Str) (i : Nat) (w z : Str), L[i]? = some w → ((L.set i z).map (·.length)).sum + w.length = (L.map (·.length)).sum + z.length
  | [], _, _, _, h => nomatch h
  | x :: r, 0, w, z, h => by
    cases h
    simp only [List.set_cons_zero, List.map_cons, List.sum_cons]
    omega
  | x :: r, i + 1, w, z, h => by
    have := sum_set r i w z h
    simp only [List.set_cons_succ, List.map_cons, List.sum_cons]
    omega
theorem bad_zero {w : Str} (h : w.cps.toList ≠ []) : badW (Str.ofString "0" ++ w) := by
  have e : (Str.ofString "0" ++ w).cps.toList = 48 :: w.cps.toList := by rw [app_l]; rfl
  constructor
  · refine .inl (isNum_head ?_)
    rw [e, headOk_cons, decide_eq_false h]
    rfl
  · rw [e, List.all_cons]
    rfl
theorem all_last {P : Nat → Bool} {a b : Str} (h : b.cps.toList.all P = false) : (a ++ b).cps.toList.all P = false := by rw [app_l, List.all_append, h, Bool.and_false]
theorem bad_tab {w : Str} : badW (w ++ Str.ofString "\t") := ⟨.inl (isNum_fig (all_last (by decide +kernel))), all_last (by decide +kernel)⟩
theorem bad_noughts {w : Str} (h : w.cps.toList ≠ []) : badW (w ++ Str.ofString "000000000000") := by
  refine ⟨?_, all_last (by decide +kernel)⟩
  cases hn : isNum (w ++ Str.ofString "000000000000").cps.toList with
  | false => exact .inl rfl
  | true =>
    refine .inr ?_
    have l0 := len_l (w ++ Str.ofString "000000000000")
    have l1 : (Str.ofString "000000000000").length = 12 := by decide +kernel
    rw [Str.length_append, l1] at l0
    unfold isNum at hn
    rw [Bool.and_eq_true] at hn
    have := digits_more (m := 1000000000) (all_fig hn.2) ?_ (by rw [l0]; exact Nat.lt_of_lt_of_le (show (Nat.toDigits 10 1000000000).length < 12 by decide +kernel) (by omega))
    · unfold val; omega
    · revert hn l0
      generalize (w ++ Str.ofString "000000000000").cps.toList = cs
      intro hn l0
      match cs, hn.1 with
      | c :: r, h =>
        unfold headOk at h
        rw [Bool.or_eq_true] at h
        rcases h with h | h
        · rw [of_decide_eq_true h]; exact .inl rfl
        · have h1 := all_fig hn.2 c (List.mem_cons_self ..)
          refine .inr ⟨c, r, rfl, ?_⟩
          have : c ≠ 48 := fun q => by rw [q] at h; cases h
          omega
theorem words_ne {e : En} (fit : Fit e) (okk : okE e) : ∀ x ∈ txtW e, x.cps.toList ≠ [] := by
  obtain ⟨p1, p2, p3, p4⟩ := ok_parts okk
  obtain ⟨n, d, r, w, u, s, b, k⟩ := e
  have nn : ∀ m : Int, 1 ≤ m → (numS m).cps.toList ≠ [] := fun m hm => by
    obtain ⟨m, rfl⟩ := Int.eq_ofNat_of_zero_le (show 0 ≤ m by omega)
    obtain ⟨_, f2⟩ := nums_fig m
    obtain ⟨c, r, e, _⟩ := f2 (by omega)
    rw [show (numS (m : Int)).cps.toList = c :: r from (PySem.W.KIN.signs_num m).trans e]
    exact List.cons_ne_nil _ _
  have rn : r.cps.toList ≠ [] := by
    have h : (eqV (.str (Str.ofString "genus")) (.str r) || (eqV (.str (Str.ofString "species")) (.str r) || (eqV (.str (Str.ofString "form")) (.str r) || false))) = true := p1
    simp [eqV] at h
    rcases h with q | q | q <;> rw [← q] <;> decide +kernel
  have wn : w.cps.toList ≠ [] := fun q => by
    rw [isWord_str, Bool.and_eq_true, Bool.and_eq_true] at p2
    have h1 : (1 : Int) ≤ w.length := of_decide_eq_true p2.1.1
    have h2 := len_l w
    rw [q] at h2
    have h2 : 0 = w.length := h2
    omega
  have c1 : (Str.ofString "under").cps.toList ≠ [] := by decide +kernel
  have c2 : (Str.ofString "of").cps.toList ≠ [] := by decide +kernel
  have c3 : (Str.ofString "tied").cps.toList ≠ [] := by decide +kernel
  have c4 : (Str.ofString "bare").cps.toList ≠ [] := by decide +kernel
  have hu := fit.u
  have hb := fit.b
  have hs := fit.s
  have n1 := nn n fit.n0
  have n2 := nn d fit.d0
  have tu : ∀ x ∈ txtU u, x.cps.toList ≠ [] := fun x hx => by
    cases u with
    | none => exact nomatch hx
    | some m =>
      rcases List.mem_cons.mp hx with rfl | hx
      · exact c1
      · rw [List.mem_singleton.mp hx]; exact nn m (hu m rfl).1
  have tt : ∀ x ∈ txtT s b k, x.cps.toList ≠ [] := fun x hx => by
    cases b with
    | some m =>
      rcases List.mem_cons.mp hx with rfl | hx
      · exact c2
      · rw [List.mem_singleton.mp hx]; exact nn m (hb m rfl).1
    | none =>
      obtain ⟨m, rfl, m0, _⟩ := hs rfl
      cases k with
      | true =>
        rcases List.mem_cons.mp hx with rfl | hx
        · exact c3
        · rw [List.mem_singleton.mp hx]; exact nn m m0
      | false =>
        rcases List.mem_cons.mp hx with rfl | hx
        · exact c3
        · rcases List.mem_cons.mp hx with rfl | hx
          · exact nn m m0
          · rw [List.mem_singleton.mp hx]; exact c4
  intro x hx
  rcases List.mem_append.mp hx with hx | hx
  · rcases List.mem_append.mp hx with hx | hx
    · rcases List.mem_cons.mp hx with rfl | hx
      · exact n2
      · rcases List.mem_cons.mp hx with rfl | hx
        · exact n1
        · rcases List.mem_cons.mp hx with rfl | hx
          · exact rn
          · rw [List.mem_singleton.mp hx]; exact wn
    · exact tu x hx
  · exact tt x hx
def spW3 (w : Str) : List V := [.str (Str.ofString "0" ++ w), .str (w ++ Str.ofString "000000000000"), .str (w ++ Str.ofString "\t")]
def deeds : List V := [.str "keep", .str "strike", .str "leave"]
def isDeed : V → Bool
  | .str z => inV (.str z) deeds
  | _ => false
def spDeed (K : PySem.W.Frag) : Sp := fun vs H Q _ => ∃ x, vs = [x] ∧ Own K H x ∧ Q (.bl (isDeed x)) H
inductive Pt where
  | ent (e : En)
  | num (n : Int)
  | txt (z : Str)
  | path (ns : List Int)
def PtAt (H : Hp) (CE : Addr) (v : V) : Pt → Prop
  | .ent e => EntAt H CE v e
  | .num n => v = .int n
  | .txt z => v = .str z
  | .path ns => ∃ t, v = .ref t ∧ H t = some (.tup (ns.map V.int))
theorem PtAt.same {H H' : Hp} {CE : Addr} {v : V} {p : Pt} (h : PtAt H CE v p) (s : Same H H') : PtAt H' CE v p := by
  cases p with
  | ent e => exact EntAt.same h s
  | num n => exact h
  | txt z => exact h
  | path ns => obtain ⟨t, e, ht⟩ := h; exact ⟨t, e, s _ _ ht⟩
def POk (H : Hp) (CE : Addr) (v : V) : Option Pt → Prop
  | none => v = .non
  | some p => PtAt H CE v p
theorem POk.same {H H' : Hp} {CE : Addr} {v : V} {p : Option Pt} (h : POk H CE v p) (s : Same H H') : POk H' CE v p := by
  cases p with
  | none => exact h
  | some p => exact PtAt.same h s
def PsAt (H : Hp) (CE : Addr) (vs : List V) (ps : List (Option Pt)) : Prop := vs.length = ps.length ∧ ∀ (j : Nat) v p, vs[j]? = some v → ps[j]? = some p → POk H CE v p
theorem PsAt.same {H H' : Hp} {CE : Addr} {vs : List V} {ps : List (Option Pt)} (h : PsAt H CE vs ps) (s : Same H H') : PsAt H' CE vs ps := ⟨h.1, fun j v p a b => (h.2 j v p a b).same s⟩
def numsO (L : List Str) : List V := L.map fun w => numV w 1000000000
def allInt : List V → Option (List Int)
  | [] => some []
  | .int i :: r => (allInt r).map (i :: ·)
  | _ :: _ => none
def pathE (z : Str) : Option (List Int) := if (Txt.split z (Str.ofString ".")).length ≤ 3 then allInt (numsO (Txt.split z (Str.ofString "."))) else none
def numP (m : Int) (z : Str) : Option Pt := if inR m (numV z m) = true then some (.num (toI (numV z m))) else none
def partO (kd z : Str) : Option Pt :=
  if V.str kd = V.str (Str.ofString "path") then (pathE z).map Pt.path
  else if V.str kd = V.str (Str.ofString "deed") then (if isDeed (.str z) = true then some (.txt z) else none)
  else if V.str kd = V.str (Str.ofString "day") then numP 1000000 z
  else numP 1000000000 z
def shapes : List (Str × List Str) := [(Str.ofString "act", [Str.ofString "day", Str.ofString "deed", Str.ofString "number"]), (Str.ofString "lay", [Str.ofString "number", Str.ofString "path"]), (Str.ofString "take", [Str.ofString "number"]), (Str.ofString "name", [Str.ofString "number", Str.ofString "day"]), (Str.ofString "why", [Str.ofString "number", Str.ofString "day"]), (Str.ofString "book", []), (Str.ofString "out", [Str.ofString "number"])]
def shapeOf (z : Str) : Option (List Str) := shapes.lookup z
def partsO (z : Str) (S : List Str) : List (Option Pt) := match S with
  | [] => [none]
  | w :: r => if V.str w = V.str (Str.ofString "publish") then [(rowE (cutS z (some 8) none)).map Pt.ent] else match shapeOf w with
    | none => [none]
    | some ks => if ks.length = r.length then List.zipWith partO ks r else [none]
theorem allInt_none : ∀ {vs : List V}, (∀ v ∈ vs, NumV v) → (vs.any fun v => decide (v = .non)) = true → allInt vs = none
  | [], _, h => by cases h
  | v :: r, hn, h => by
    rcases hn v (List.mem_cons_self ..) with rfl | ⟨i, rfl⟩
    · rfl
    · have h2 : (r.any fun v => decide (v = .non)) = true := h
      show (allInt r).map (i :: ·) = none
      rw [allInt_none (fun v hv => hn v (List.mem_cons_of_mem _ hv)) h2]
      rfl
theorem allInt_some : ∀ {vs : List V}, (∀ v ∈ vs, NumV v) → (vs.any fun v => decide (v = .non)) = false → ∃ ns, allInt vs = some ns ∧ vs = ns.map V.int
  | [], _, _ => ⟨[], rfl, rfl⟩
  | v :: r, hn, h => by
    rcases hn v (List.mem_cons_self ..) with rfl | ⟨i, rfl⟩
    · cases h
    · have h2 : (r.any fun v => decide (v = .non)) = false := h
      obtain ⟨ns, e1, e2⟩ := allInt_some (fun v hv => hn v (List.mem_cons_of_mem _ hv)) h2
      exact ⟨i :: ns, by show (allInt r).map (i :: ·) = _; rw [e1]; rfl, by rw [e2]; rfl⟩
theorem list_of {α : Type} {f : α → V} {S : List α} {acc : List V} (hl : acc.length = S.length) (h : ∀ (j : Nat) v, acc[j]? = some v → ∃ w, S[j]? = some w ∧ v = f w) : acc = S.map f := by
  refine List.ext_getElem? fun j => ?_
  rw [List.getElem?_map]
  cases ha : acc[j]? with
  | some v =>
    obtain ⟨w, hw, rfl⟩ := h j v ha
    rw [hw]
    rfl
  | none =>
    have := List.getElem?_eq_none_iff.mp ha
    rw [List.getElem?_eq_none_iff.mpr (by omega)]
    rfl
theorem look_if {β : Type} (a k : Str) (b : β) (l : List (Str × β)) : ((k, b) :: l).lookup a = if a = k then some b else l.lookup a := by
  rw [List.lookup_cons]
  by_cases h : a = k
  · rw [if_pos h, beq_iff_eq.mpr h]
  · rw [if_neg h, beq_eq_false_iff_ne.mpr h]
theorem cut_tl (x : V) (r : List V) : cutV (x :: r) (some 1) none = r := by
  show (((x :: r).drop (HT.sIx (x :: r).length 0 (some ((1 : Nat) : Int)))).take ((x :: r).length - HT.sIx (x :: r).length 0 (some ((1 : Nat) : Int)))) = r
  rw [HT.sIx_nat]
  have e : min 1 (x :: r).length = 1 := by rw [List.length_cons]; omega
  rw [e]
  show r.take (r.length + 1 - 1) = r
  exact List.take_of_length_le (by omega)
theorem POk.put {G : Hp} {CE m : Addr} {v : V} {p : Option Pt} {acc : List V} {o : HO} (h : POk G CE v p) (hm : G m = some (.lst acc)) : POk (upd G m o) CE v p := by
  cases p with
  | none => exact h
  | some p =>
    cases p with
    | ent e =>
      obtain ⟨a, dx, e1, ha⟩ := h
      exact ⟨a, dx, e1, by rw [upd_ne (ne_of ha hm (by intro z; cases z))]; exact ha⟩
    | num n => exact h
    | txt z => exact h
    | path ns =>
      obtain ⟨t, e1, ht⟩ := h
      exact ⟨t, e1, by rw [upd_ne (ne_of ht hm (by intro z; cases z))]; exact ht⟩
theorem POk.non {G : Hp} {CE : Addr} {v : V} {p : Option Pt} (h : POk G CE v p) : decide (v = .non) = p.isNone := by
  cases p with
  | none => rw [show v = .non from h]; rfl
  | some p =>
    refine decide_eq_false fun z => ?_
    subst z
    cases p with
    | ent e => obtain ⟨a, dx, e1, ha⟩ := h; cases e1
    | num n => cases h
    | txt z => cases h
    | path ns => obtain ⟨t, e1, ht⟩ := h; cases e1
def spPathIn : Sp := fun vs H Q _ => ∃ z, vs = [.str z] ∧ z.length ≤ 200 ∧ (pathE z = none → ∀ H', Same H H' → Q .non H') ∧ ∀ ns, pathE z = some ns → ∀ t H', Same H H' → H' t = some (.tup (ns.map V.int)) → Q (.ref t) H'
def spPartOf (CE : Addr) : Sp := fun vs H Q _ => ∃ kd z, vs = [.str kd, .str z] ∧ z.length ≤ 200 ∧ ∀ v H', Same H H' → POk H' CE v (partO kd z) → Q v H'
def spPartsOf (CE : Addr) : Sp := fun vs H Q _ => ∃ z l, vs = [.str z, .ref l] ∧ z.length ≤ 200 ∧ H l = some (.lst ((Txt.split z (Str.ofString " ")).map V.str)) ∧ ∀ q vs' H', Same H H' → H q = none → H' q = some (.lst vs') → vs'.length ≤ 20 → PsAt H' CE vs' (partsO z (Txt.split z (Str.ofString " "))) → Q (.ref q) H'
def spDeskRow (K : PySem.W.Frag) (CE NR : Addr) : Sp := fun vs H Q E => ∃ x, vs = [x] ∧ ((Own K H x ∧ isStr x = false ∧ ∀ H', Same H H' → E (.ref NR) none H') ∨ ∃ z, x = .str z ∧ z.length ≤ 200 ∧
  (none ∈ partsO z (Txt.split z (Str.ofString " ")) → ∀ H', Same H H' → E (.ref NR) none H') ∧
  ∀ (w : Str) (r : List Str) (ps : List Pt), Txt.split z (Str.ofString " ") = w :: r → partsO z (w :: r) = ps.map some → ∀ t q vs' H', Same H H' → H q = none → H' t = some (.tup [.str w, .ref q]) → H' q = some (.lst vs') → vs'.length ≤ 20 → PsAt H' CE vs' (ps.map some) → Q (.ref t) H')
theorem eqL_self' : ∀ {xs : List V}, xs.all flatV = true → eqL xs xs = true
  | [], _ => rfl
  | x :: r, h => by
    rw [List.all_cons, Bool.and_eq_true] at h
    show (eqV x x && eqL r r) = true
    rw [eqV_self h.1, eqL_self' h.2]
    rfl
theorem sameK {K : PySem.W.Frag} {H : Hp} {q1 q2 : Addr} {xs : List V} (h1 : H q1 = some (.lst xs)) (h2 : H q2 = some (.lst xs)) (fx : xs.all flatV = true) : SeqEq K H (EqD K H 0) (.ref q1) (.ref q2) true := by
  have h := SeqEq.flatL (K := K) (n := 0) (SqL.of h1) (SqL.of h2) fx fx
  rw [eqL_self' fx] at h
  exact h
inductive Rw where
  | pub (e : En)
  | act (d : Int) (k : Str) (n : Int)
  | lay (n : Int) (ns : List Int)
  | name (n d : Int)
  | why (n d : Int)
  | book
  | take (n : Int)
  | out (n : Int)
def pathS (ns : List Int) : Str := Txt.join (Str.ofString ".") (ns.map numS)
def verbR : Rw → Str
  | .pub _ => Str.ofString "publish"
  | .act _ _ _ => Str.ofString "act"
  | .lay _ _ => Str.ofString "lay"
  | .name _ _ => Str.ofString "name"
  | .why _ _ => Str.ofString "why"
  | .book => Str.ofString "book"
  | .take _ => Str.ofString "take"
  | .out _ => Str.ofString "out"
def tailR : Rw → List Str
  | .pub e => txtW e
  | .act d k n => [numS d, k, numS n]
  | .lay n ns => [numS n, pathS ns]
  | .name n d => [numS n, numS d]
  | .why n d => [numS n, numS d]
  | .book => []
  | .take n => [numS n]
  | .out n => [numS n]
def ptsR : Rw → List Pt
  | .pub e => [.ent e]
  | .act d k n => [.num d, .txt k, .num n]
  | .lay n ns => [.num n, .path ns]
  | .name n d => [.num n, .num d]
  | .why n d => [.num n, .num d]
  | .book => []
  | .take n => [.num n]
  | .out n => [.num n]
def okN (n : Int) : Prop := 1 ≤ n ∧ n ≤ 1000000000
def okD (d : Int) : Prop := 1 ≤ d ∧ d ≤ 1000000
def okR : Rw → Prop
  | .pub e => Fit e ∧ okE e ∧ seenE e = e
  | .act d k n => okD d ∧ isDeed (.str k) = true ∧ okN n
  | .lay n ns => okN n ∧ 1 ≤ ns.length ∧ ns.length ≤ 3 ∧ ∀ x ∈ ns, 0 ≤ x ∧ x ≤ 1000000000
  | .name n d => okN n ∧ okD d
  | .why n d => okN n ∧ okD d
  | .book => True
  | .take n => okN n
  | .out n => okN n
def ksR : Rw → List Str
  | .pub _ => []
  | .act _ _ _ => [Str.ofString "day", Str.ofString "deed", Str.ofString "number"]
  | .lay _ _ => [Str.ofString "number", Str.ofString "path"]
  | .name _ _ => [Str.ofString "number", Str.ofString "day"]
  | .why _ _ => [Str.ofString "number", Str.ofString "day"]
  | .book => []
  | .take _ => [Str.ofString "number"]
  | .out _ => [Str.ofString "number"]
def isPub : Rw → Bool
  | .pub _ => true
  | _ => false
def textR (r : Rw) : Str := Txt.join (Str.ofString " ") (verbR r :: tailR r)
theorem textJ (r : Rw) : textR r = Str.join (Str.ofString " ") (verbR r :: tailR r) := StrLaws.glued_eq_join _ _
theorem shape_ks {r : Rw} (h : isPub r = false) : shapeOf (verbR r) = some (ksR r) ∧ (ksR r).length = (tailR r).length ∧ V.str (verbR r) ≠ V.str (Str.ofString "publish") := by
  have ne : ∀ a b : Str, a.cps.toList ≠ b.cps.toList → V.str a ≠ V.str b := fun a b h z => h (congrArg (fun s : Str => s.cps.toList) (V.str.inj z))
  cases r with
  | pub e => cases h
  | act d k n => exact ⟨show shapeOf (Str.ofString "act") = some [Str.ofString "day", Str.ofString "deed", Str.ofString "number"] by decide +kernel, rfl, ne (Str.ofString "act") _ (by decide +kernel)⟩
  | lay n ns => exact ⟨show shapeOf (Str.ofString "lay") = some [Str.ofString "number", Str.ofString "path"] by decide +kernel, rfl, ne (Str.ofString "lay") _ (by decide +kernel)⟩
  | name n d => exact ⟨show shapeOf (Str.ofString "name") = some [Str.ofString "number", Str.ofString "day"] by decide +kernel, rfl, ne (Str.ofString "name") _ (by decide +kernel)⟩
  | why n d => exact ⟨show shapeOf (Str.ofString "why") = some [Str.ofString "number", Str.ofString "day"] by decide +kernel, rfl, ne (Str.ofString "why") _ (by decide +kernel)⟩
  | book => exact ⟨show shapeOf (Str.ofString "book") = some [] by decide +kernel, rfl, ne (Str.ofString "book") _ (by decide +kernel)⟩
  | take n => exact ⟨show shapeOf (Str.ofString "take") = some [Str.ofString "number"] by decide +kernel, rfl, ne (Str.ofString "take") _ (by decide +kernel)⟩
  | out n => exact ⟨show shapeOf (Str.ofString "out") = some [Str.ofString "number"] by decide +kernel, rfl, ne (Str.ofString "out") _ (by decide +kernel)⟩
theorem num_back0 {n m : Int} (h : 0 ≤ n) (hm : n ≤ m) : numV (numS n) m = .int n := by
  by_cases h0 : n = 0
  · subst h0
    have e : (numS 0).cps.toList = [48] := by decide +kernel
    rw [numV_is (by rw [e]; decide) (by rw [e]; exact hm), e]
    rfl
  · exact num_back (by omega) hm
theorem num_ne {n : Int} (h : 0 ≤ n) : (numS n).cps.toList ≠ [] := by
  obtain ⟨m, rfl⟩ := Int.eq_ofNat_of_zero_le h
  rw [show (numS (m : Int)).cps.toList = _ from PySem.W.KIN.signs_num m]
  intro z
  have := List.map_eq_nil_iff.mp z
  exact absurd this (Nat.toDigits_ne_nil)
theorem numP_back {n m : Int} (h : 1 ≤ n) (hm : n ≤ m) : numP m (numS n) = some (.num n) := by
  unfold numP
  rw [num_back h hm, if_pos (inR_of h hm)]
  rfl
theorem allInt_ints : ∀ ns : List Int, allInt (ns.map V.int) = some ns
  | [] => rfl
  | n :: r => by
    show (allInt (r.map V.int)).map (n :: ·) = _
    rw [allInt_ints r]
    rfl
theorem dot_is : Str.ofString "." = ⟨#[46]⟩ := by decide +kernel
theorem nums_dot {ns : List Int} (h : ∀ x ∈ ns, 0 ≤ x) : ∀ w ∈ ns.map numS, (46 : Nat) ∉ w.cps.toList := fun w hw => by
  obtain ⟨n, hn, rfl⟩ := List.mem_map.mp hw
  exact fig_free (num_fig (h n hn)) (by decide)
theorem path_split {ns : List Int} (h0 : ns ≠ []) (h : ∀ x ∈ ns, 0 ≤ x) : Txt.split (pathS ns) (Str.ofString ".") = ns.map numS := by
  unfold pathS
  rw [dot_is]
  exact split_join (fun z => h0 (List.map_eq_nil_iff.mp z)) (nums_dot h)
theorem path_back {ns : List Int} (h1 : 1 ≤ ns.length) (h3 : ns.length ≤ 3) (h : ∀ x ∈ ns, 0 ≤ x ∧ x ≤ 1000000000) : pathE (pathS ns) = some ns := by
  have n0 : ns ≠ [] := fun z => by subst z; cases h1
  have e := path_split n0 fun x hx => (h x hx).1
  unfold pathE
  rw [e, List.length_map, if_pos h3]
  have : numsO (ns.map numS) = ns.map V.int := by
    unfold numsO
    rw [List.map_map]
    exact List.map_congr_left fun n hn => num_back0 (h n hn).1 (h n hn).2
  rw [this, allInt_ints]
theorem pathE_no {z : Str} (h : ∃ w ∈ Txt.split z (Str.ofString "."), numV w 1000000000 = .non) : pathE z = none := by
  unfold pathE
  split
  · refine allInt_none (fun v hv => ?_) ?_
    · obtain ⟨w, _, rfl⟩ := List.mem_map.mp hv
      exact numV_num _ _
    · obtain ⟨w, hw, e⟩ := h
      exact List.any_eq_true.mpr ⟨numV w 1000000000, List.mem_map_of_mem hw, decide_eq_true e⟩
  · rfl
def Trs (w w' : Str) : Prop := w' = Str.ofString "0" ++ w ∨ w' = w ++ Str.ofString "000000000000" ∨ w' = w ++ Str.ofString "\t" ∨ w' = w ++ Str.ofString "\n"
theorem Trs.bad {w w' : Str} (h : Trs w w') (hw : w.cps.toList ≠ []) : badW w' := by
  rcases h with rfl | rfl | rfl | rfl
  · exact bad_zero hw
  · exact bad_noughts hw
  · exact bad_tab
  · exact ⟨.inl (isNum_fig (all_last (by decide +kernel))), all_last (by decide +kernel)⟩
theorem Trs.free {w w' : Str} (h : Trs w w') (hw : (32 : Nat) ∉ w.cps.toList) : (32 : Nat) ∉ w'.cps.toList := by
  rcases h with rfl | rfl | rfl | rfl <;> rw [app_l] <;> intro q <;> rcases List.mem_append.mp q with q | q <;> first | exact hw q | exact absurd q (by decide +kernel)
theorem Trs.len {w w' : Str} (h : Trs w w') : w'.length ≤ w.length + 12 := by
  have l1 : (Str.ofString "0").length = 1 := by decide +kernel
  have l2 : (Str.ofString "000000000000").length = 12 := by decide +kernel
  have l3 : (Str.ofString "\t").length = 1 := by decide +kernel
  have l4 : (Str.ofString "\n").length = 1 := by decide +kernel
  rcases h with rfl | rfl | rfl | rfl <;> rw [Str.length_append] <;> omega
theorem Trs.path {ns : List Int} {w' : Str} (h : Trs (pathS ns) w') (n0 : ns ≠ []) (hn : ∀ x ∈ ns, 0 ≤ x) : pathE w' = none := by
  have e : pathS ns = Str.join (Str.ofString ".") (ns.map numS) := StrLaws.glued_eq_join _ _
  have hd := nums_dot hn
  have back : ∀ t : Str, (46 : Nat) ∉ t.cps.toList → (∀ w : Str, w.cps.toList ≠ [] → badW (w ++ t)) → w' = pathS ns ++ t → pathE w' = none := fun t ht hb hw => by
    obtain ⟨I, q, rfl⟩ : ∃ I q, ns = I ++ [q] := ⟨_, _, (List.dropLast_concat_getLast n0).symm⟩
    have e2 : w' = Txt.join (Str.ofString ".") (I.map numS ++ [numS q ++ t]) := by
      rw [hw, e, List.map_append]
      show Str.join _ (I.map numS ++ [numS q]) ++ t = _
      rw [show Txt.join (Str.ofString ".") (I.map numS ++ [numS q ++ t]) = Str.join (Str.ofString ".") (I.map numS ++ [numS q ++ t]) from StrLaws.glued_eq_join _ _]
      cases I with
      | nil => rfl
      | cons i r =>
        rw [join_last (by simp), join_last (by simp)]
        exact ext_l (by simp only [app_l, List.append_assoc])
    refine pathE_no ⟨numS q ++ t, ?_, (hb _ (num_ne (hn q (by simp)))).num (Int.le_refl _)⟩
    rw [e2, dot_is, split_join (by simp) fun x hx => ?_]
    · simp
    · rcases List.mem_append.mp hx with hx | hx
      · exact hd x (by rw [List.map_append]; exact List.mem_append_left _ hx)
      · rw [List.mem_singleton.mp hx, app_l]
        intro m
        rcases List.mem_append.mp m with m | m
        · exact hd (numS q) (by simp) m
        · exact ht m
  rcases h with h | h | h | h
  · obtain ⟨n, r, rfl⟩ := List.exists_cons_of_ne_nil n0
    have e2 : w' = Txt.join (Str.ofString ".") ((Str.ofString "0" ++ numS n) :: r.map numS) := by
      rw [h, e, show Txt.join (Str.ofString ".") ((Str.ofString "0" ++ numS n) :: r.map numS) = Str.join (Str.ofString ".") ((Str.ofString "0" ++ numS n) :: r.map numS) from StrLaws.glued_eq_join _ _]
      cases r with
      | nil => rfl
      | cons m t => exact ext_l (by show (Str.ofString "0" ++ (numS n ++ Str.ofString "." ++ Str.join (Str.ofString ".") (numS m :: t.map numS))).cps.toList = (Str.ofString "0" ++ numS n ++ Str.ofString "." ++ Str.join (Str.ofString ".") (numS m :: t.map numS)).cps.toList; simp only [app_l, List.append_assoc])
    refine pathE_no ⟨Str.ofString "0" ++ numS n, ?_, (bad_zero (num_ne (hn n (by simp)))).num (Int.le_refl _)⟩
    rw [e2, dot_is, split_join (by simp) fun x hx => ?_]
    · simp
    · rcases List.mem_cons.mp hx with rfl | hx
      · rw [app_l]
        intro m
        rcases List.mem_append.mp m with m | m
        · exact absurd m (by decide +kernel)
        · exact hd (numS n) (by simp) m
      · exact hd x (by rw [List.map_cons]; exact List.mem_cons_of_mem _ hx)
  · exact back _ (by decide +kernel) (fun w hw => bad_noughts hw) h
  · exact back _ (by decide +kernel) (fun w hw => bad_tab) h
  · exact back _ (by decide +kernel) (fun w hw => ⟨.inl (isNum_fig (all_last (by decide +kernel))), all_last (by decide +kernel)⟩) h
theorem deed_is {z : Str} (h : isDeed (.str z) = true) : z.cps.toList.all letter = true ∧ z.cps.toList ≠ [] ∧ z.length ≤ 6 := by
  have h : (eqV (.str (Str.ofString "keep")) (.str z) || (eqV (.str (Str.ofString "strike")) (.str z) || (eqV (.str (Str.ofString "leave")) (.str z) || false))) = true := h
  simp [eqV] at h
  rcases h with q | q | q <;> rw [← q] <;> exact ⟨by decide +kernel, by decide +kernel, by decide +kernel⟩
theorem part_bad {kd z : Str} (hk : V.str kd ≠ V.str (Str.ofString "path")) (h : badW z) : partO kd z = none := by
  have nump : ∀ m : Int, m ≤ 1000000000 → numP m z = none := fun m hm => by
    unfold numP
    rw [h.num hm]
    rfl
  unfold partO
  rw [if_neg hk]
  split
  · cases hd : isDeed (.str z) with
    | true =>
      have h2 := h.2
      rw [(deed_is hd).1] at h2
      cases h2
    | false => rfl
  · split
    · exact nump _ (by decide)
    · exact nump _ (by decide)
theorem all_l_free {z : Str} (h : z.cps.toList.all letter = true) : (32 : Nat) ∉ z.cps.toList := fun q => absurd (List.all_eq_true.mp h 32 q) (by decide)
theorem verb_l (r : Rw) : (verbR r).cps.toList.all letter = true ∧ (verbR r).cps.toList ≠ [] ∧ (verbR r).length ≤ 7 := by
  cases r with
  | pub e => exact show (Str.ofString "publish").cps.toList.all letter = true ∧ (Str.ofString "publish").cps.toList ≠ [] ∧ (Str.ofString "publish").length ≤ 7 by decide +kernel
  | act d k n => exact show (Str.ofString "act").cps.toList.all letter = true ∧ (Str.ofString "act").cps.toList ≠ [] ∧ (Str.ofString "act").length ≤ 7 by decide +kernel
  | lay n ns => exact show (Str.ofString "lay").cps.toList.all letter = true ∧ (Str.ofString "lay").cps.toList ≠ [] ∧ (Str.ofString "lay").length ≤ 7 by decide +kernel
  | name n d => exact show (Str.ofString "name").cps.toList.all letter = true ∧ (Str.ofString "name").cps.toList ≠ [] ∧ (Str.ofString "name").length ≤ 7 by decide +kernel
  | why n d => exact show (Str.ofString "why").cps.toList.all letter = true ∧ (Str.ofString "why").cps.toList ≠ [] ∧ (Str.ofString "why").length ≤ 7 by decide +kernel
  | book => exact show (Str.ofString "book").cps.toList.all letter = true ∧ (Str.ofString "book").cps.toList ≠ [] ∧ (Str.ofString "book").length ≤ 7 by decide +kernel
  | take n => exact show (Str.ofString "take").cps.toList.all letter = true ∧ (Str.ofString "take").cps.toList ≠ [] ∧ (Str.ofString "take").length ≤ 7 by decide +kernel
  | out n => exact show (Str.ofString "out").cps.toList.all letter = true ∧ (Str.ofString "out").cps.toList ≠ [] ∧ (Str.ofString "out").length ≤ 7 by decide +kernel
theorem path_free {ns : List Int} (h : ∀ x ∈ ns, 0 ≤ x) : (32 : Nat) ∉ (pathS ns).cps.toList := by
  unfold pathS
  rw [dot_is]
  refine join_free (by decide) fun w hw => ?_
  obtain ⟨n, hn, rfl⟩ := List.mem_map.mp hw
  exact fig_free (num_fig (h n hn)) (by decide)
theorem path_ne {ns : List Int} (h0 : ns ≠ []) (h : ∀ x ∈ ns, 0 ≤ x) : (pathS ns).cps.toList ≠ [] := fun z => by
  have e := path_split h0 h
  rw [nil_of z] at e
  have e2 : Txt.split ("" : Str) (Str.ofString ".") = [Str.ofString ""] := by decide +kernel
  rw [e2] at e
  obtain ⟨n, r, rfl⟩ := List.exists_cons_of_ne_nil h0
  have e3 := (List.cons.inj e).1
  exact num_ne (h n (by simp)) (by rw [← e3]; decide +kernel)
theorem tail_ok {r : Rw} (h : okR r) : ∀ (j : Nat) w, (tailR r)[j]? = some w → (32 : Nat) ∉ w.cps.toList ∧ w.cps.toList ≠ [] ∧ (isPub r = false → ∀ w', Trs w w' → ∀ kd, (ksR r)[j]? = some kd → partO kd w' = none) := by
  have num : ∀ n : Int, 1 ≤ n → (32 : Nat) ∉ (numS n).cps.toList ∧ (numS n).cps.toList ≠ [] := fun n hn => ⟨num_free hn (by decide), num_ne (by omega)⟩
  have k1 : V.str (Str.ofString "number") ≠ V.str (Str.ofString "path") := fun z => absurd (congrArg (fun s : Str => s.cps.toList) (V.str.inj z)) (by decide +kernel)
  have k2 : V.str (Str.ofString "day") ≠ V.str (Str.ofString "path") := fun z => absurd (congrArg (fun s : Str => s.cps.toList) (V.str.inj z)) (by decide +kernel)
  have k3 : V.str (Str.ofString "deed") ≠ V.str (Str.ofString "path") := fun z => absurd (congrArg (fun s : Str => s.cps.toList) (V.str.inj z)) (by decide +kernel)
  intro j w hw
  have pb : w.cps.toList ≠ [] → ∀ kd0, V.str kd0 ≠ V.str (Str.ofString "path") → ∀ w', Trs w w' → ∀ kd, some kd0 = some kd → partO kd w' = none := fun hne kd0 hk w' ht kd e => by
    cases e
    exact part_bad hk (ht.bad hne)
  cases r with
  | pub e => exact ⟨(words_free2 h.1 h.2.1 w (List.mem_of_getElem? hw)).1, words_ne h.1 h.2.1 w (List.mem_of_getElem? hw), fun z => by cases z⟩
  | act d k n =>
    obtain ⟨hd, hk, hn⟩ := h
    obtain ⟨d1, d2, _⟩ := deed_is hk
    rcases j with _ | _ | _ | j
    · cases hw; exact ⟨(num d hd.1).1, (num d hd.1).2, fun _ => pb (num d hd.1).2 _ k2⟩
    · cases hw; exact ⟨all_l_free d1, d2, fun _ => pb d2 _ k3⟩
    · cases hw; exact ⟨(num n hn.1).1, (num n hn.1).2, fun _ => pb (num n hn.1).2 _ k1⟩
    · cases hw
  | lay n ns =>
    obtain ⟨hn, h1, h3, hx⟩ := h
    have n0 : ns ≠ [] := fun z => by subst z; cases h1
    have hx0 : ∀ x ∈ ns, 0 ≤ x := fun x hm => (hx x hm).1
    rcases j with _ | _ | j
    · cases hw; exact ⟨(num n hn.1).1, (num n hn.1).2, fun _ => pb (num n hn.1).2 _ k1⟩
    · cases hw
      refine ⟨path_free hx0, path_ne n0 hx0, fun _ w' ht kd e => ?_⟩
      cases e
      unfold partO
      rw [if_pos rfl, ht.path n0 hx0]
      rfl
    · cases hw
  | name n d =>
    rcases j with _ | _ | j
    · cases hw; exact ⟨(num n h.1.1).1, (num n h.1.1).2, fun _ => pb (num n h.1.1).2 _ k1⟩
    · cases hw; exact ⟨(num d h.2.1).1, (num d h.2.1).2, fun _ => pb (num d h.2.1).2 _ k2⟩
    · cases hw
  | why n d =>
    rcases j with _ | _ | j
    · cases hw; exact ⟨(num n h.1.1).1, (num n h.1.1).2, fun _ => pb (num n h.1.1).2 _ k1⟩
    · cases hw; exact ⟨(num d h.2.1).1, (num d h.2.1).2, fun _ => pb (num d h.2.1).2 _ k2⟩
    · cases hw
  | book => cases hw
  | take n =>
    rcases j with _ | j
    · cases hw; exact ⟨(num n h.1).1, (num n h.1).2, fun _ => pb (num n h.1).2 _ k1⟩
    · cases hw
  | out n =>
    rcases j with _ | j
    · cases hw; exact ⟨(num n h.1).1, (num n h.1).2, fun _ => pb (num n h.1).2 _ k1⟩
    · cases hw
theorem tail_free {r : Rw} (h : okR r) : ∀ x ∈ tailR r, (32 : Nat) ∉ x.cps.toList := fun x hx => by
  obtain ⟨j, hj, e⟩ := List.getElem_of_mem hx
  exact (tail_ok h j x (List.getElem?_eq_some_iff.mpr ⟨hj, e⟩)).1
theorem all_free {r : Rw} (h : okR r) : ∀ x ∈ verbR r :: tailR r, (32 : Nat) ∉ x.cps.toList := fun x hx => by
  rcases List.mem_cons.mp hx with rfl | hx
  · exact all_l_free (verb_l r).1
  · exact tail_free h x hx
theorem jsplit {L : List Str} (h0 : L ≠ []) (h : ∀ x ∈ L, (32 : Nat) ∉ x.cps.toList) : Txt.split (Str.join (Str.ofString " ") L) (Str.ofString " ") = L := by
  rw [← show Txt.join (Str.ofString " ") L = Str.join (Str.ofString " ") L from StrLaws.glued_eq_join _ _, blank_is]
  exact split_join h0 h
theorem cut_from (a b : Str) : cutS (a ++ b) (some (a.length : Int)) none = b := by
  have la : a.cps.toList.length = a.length := len_l a
  have lab := Str.length_append a b
  have lb := len_l b
  refine ext_l ?_
  show ((((a ++ b).cps.toList.drop (HT.sIx (a ++ b).length 0 (some (a.length : Int)))).take ((a ++ b).length - HT.sIx (a ++ b).length 0 (some (a.length : Int)))).toArray).toList = _
  rw [HT.sIx_nat, show min a.length (a ++ b).length = a.length by omega]
  show ((a ++ b).cps.toList.drop a.length).take _ = _
  rw [app_l, ← la, List.drop_left]
  exact List.take_of_length_le (by rw [la]; omega)
theorem cut8 (z : Str) : cutS (Str.ofString "publish" ++ Str.ofString " " ++ z) (some 8) none = z := by
  have e : ((Str.ofString "publish" ++ Str.ofString " ").length : Int) = 8 := by decide +kernel
  rw [← e]
  exact cut_from _ _
theorem pub_parts {L : List Str} (h0 : L ≠ []) : partsO (Str.join (Str.ofString " ") (Str.ofString "publish" :: L)) (Str.ofString "publish" :: L) = [(rowE (Str.join (Str.ofString " ") L)).map Pt.ent] := by
  obtain ⟨x, r, rfl⟩ := List.exists_cons_of_ne_nil h0
  have e : partsO (Str.join (Str.ofString " ") (Str.ofString "publish" :: x :: r)) (Str.ofString "publish" :: x :: r) = [(rowE (cutS (Str.ofString "publish" ++ Str.ofString " " ++ Str.join (Str.ofString " ") (x :: r)) (some 8) none)).map Pt.ent] := by
    show (if V.str (Str.ofString "publish") = V.str (Str.ofString "publish") then [(rowE (cutS (Str.ofString "publish" ++ Str.ofString " " ++ Str.join (Str.ofString " ") (x :: r)) (some 8) none)).map Pt.ent] else (match shapeOf (Str.ofString "publish") with | none => [none] | some ks => if ks.length = (x :: r).length then List.zipWith partO ks (x :: r) else [none])) = _
    exact if_pos rfl
  rw [e, cut8]
theorem row_good {r : Rw} (h : okR r) : Txt.split (textR r) (Str.ofString " ") = verbR r :: tailR r ∧ partsO (textR r) (verbR r :: tailR r) = (ptsR r).map some := by
  refine ⟨by rw [textJ]; exact jsplit (by simp) (all_free h), ?_⟩
  rw [textJ]
  cases hp : isPub r with
  | true =>
    cases r with
    | pub e =>
      show partsO (Str.join (Str.ofString " ") (Str.ofString "publish" :: txtW e)) (Str.ofString "publish" :: txtW e) = _
      rw [pub_parts (txt_ne e), ← rowJ, row_back h.1 h.2.1, h.2.2]
      rfl
    | _ => cases hp
  | false =>
    obtain ⟨e1, e2, e3⟩ := shape_ks hp
    show (if V.str (verbR r) = V.str (Str.ofString "publish") then _ else match shapeOf (verbR r) with | none => [none] | some ks => if ks.length = (tailR r).length then List.zipWith partO ks (tailR r) else [none]) = _
    rw [if_neg e3, e1]
    show (if (ksR r).length = (tailR r).length then List.zipWith partO (ksR r) (tailR r) else [none]) = _
    rw [if_pos e2]
    have nn : ∀ {n : Int}, okN n → partO (Str.ofString "number") (numS n) = some (.num n) := fun {n} hn => by
      have e : partO (Str.ofString "number") (numS n) = numP 1000000000 (numS n) := by
        unfold partO
        rw [if_neg (by decide +kernel), if_neg (by decide +kernel), if_neg (by decide +kernel)]
      rw [e, numP_back hn.1 hn.2]
    have dd : ∀ {n : Int}, okD n → partO (Str.ofString "day") (numS n) = some (.num n) := fun {n} hn => by
      have e : partO (Str.ofString "day") (numS n) = numP 1000000 (numS n) := by
        unfold partO
        rw [if_neg (by decide +kernel), if_neg (by decide +kernel), if_pos rfl]
      rw [e, numP_back hn.1 hn.2]
    cases r with
    | pub e => cases hp
    | act d k n =>
      show [partO (Str.ofString "day") (numS d), partO (Str.ofString "deed") k, partO (Str.ofString "number") (numS n)] = [some (.num d), some (.txt k), some (.num n)]
      have e : partO (Str.ofString "deed") k = some (.txt k) := by
        unfold partO
        rw [if_neg (by decide +kernel), if_pos rfl, if_pos h.2.1]
      rw [dd h.1, e, nn h.2.2]
    | lay n ns =>
      show [partO (Str.ofString "number") (numS n), partO (Str.ofString "path") (pathS ns)] = [some (.num n), some (.path ns)]
      have e : partO (Str.ofString "path") (pathS ns) = some (.path ns) := by
        unfold partO
        rw [if_pos rfl, path_back h.2.1 h.2.2.1 h.2.2.2]
        rfl
      rw [nn h.1, e]
    | name n d =>
      show [partO (Str.ofString "number") (numS n), partO (Str.ofString "day") (numS d)] = [some (.num n), some (.num d)]
      rw [nn h.1, dd h.2]
    | why n d =>
      show [partO (Str.ofString "number") (numS n), partO (Str.ofString "day") (numS d)] = [some (.num n), some (.num d)]
      rw [nn h.1, dd h.2]
    | book => rfl
    | take n =>
      show [partO (Str.ofString "number") (numS n)] = [some (.num n)]
      rw [nn h]
    | out n =>
      show [partO (Str.ofString "number") (numS n)] = [some (.num n)]
      rw [nn h]
def BadD (z : Str) : Prop := none ∈ partsO z (Txt.split z (Str.ofString " "))
theorem badD_of {z : Str} (h : (partsO z (Txt.split z (Str.ofString " "))).any Option.isNone = true) : BadD z := by
  obtain ⟨x, hx, hn⟩ := List.any_eq_true.mp h
  have : x = none := Option.isNone_iff_eq_none.mp hn
  unfold BadD
  rw [← this]
  exact hx
theorem badD {L : List Str} {z : Str} (hz : z = Str.join (Str.ofString " ") L) (h0 : L ≠ []) (h : ∀ x ∈ L, (32 : Nat) ∉ x.cps.toList) (hn : none ∈ partsO z L) : BadD z := by
  unfold BadD
  rw [hz, jsplit h0 h, ← hz]
  exact hn
theorem verb_no {z w : Str} {r : List Str} (h1 : V.str w ≠ V.str (Str.ofString "publish")) (h2 : shapeOf w = none) : none ∈ partsO z (w :: r) := by
  show none ∈ (if V.str w = V.str (Str.ofString "publish") then _ else match shapeOf w with | none => [none] | some ks => if ks.length = r.length then List.zipWith partO ks r else [none])
  rw [if_neg h1, h2]
  exact List.mem_singleton.mpr rfl
theorem count_no {r : Rw} (hp : isPub r = false) {z : Str} {L : List Str} (h : L.length ≠ (tailR r).length) : none ∈ partsO z (verbR r :: L) := by
  obtain ⟨e1, e2, e3⟩ := shape_ks hp
  show none ∈ (if V.str (verbR r) = V.str (Str.ofString "publish") then _ else match shapeOf (verbR r) with | none => [none] | some ks => if ks.length = L.length then List.zipWith partO ks L else [none])
  rw [if_neg e3, e1]
  show none ∈ (if (ksR r).length = L.length then List.zipWith partO (ksR r) L else [none])
  rw [if_neg (by omega)]
  exact List.mem_singleton.mpr rfl
theorem shape_bad {w : Str} (h : badW w) : shapeOf w = none := by
  unfold shapeOf shapes
  simp only [look_if]
  have ne : ∀ y : Str, y.cps.toList.all letter = true → w ≠ y := fun y hy z => h.ne hy (congrArg V.str z)
  rw [if_neg (ne _ (by decide +kernel)), if_neg (ne _ (by decide +kernel)), if_neg (ne _ (by decide +kernel)), if_neg (ne _ (by decide +kernel)), if_neg (ne _ (by decide +kernel)), if_neg (ne _ (by decide +kernel)), if_neg (ne _ (by decide +kernel))]
  rfl
theorem pub_is {r : Rw} (h : isPub r = true) : ∃ e, r = .pub e := by
  cases r with
  | pub e => exact ⟨e, rfl⟩
  | _ => cases h
theorem none_pub {L : List Str} (h0 : L ≠ []) (h : rowE (Str.join (Str.ofString " ") L) = none) : none ∈ partsO (Str.join (Str.ofString " ") (Str.ofString "publish" :: L)) (Str.ofString "publish" :: L) := by
  rw [pub_parts h0, h]
  exact List.mem_singleton.mpr rfl
theorem row_list {L : List Str} (h0 : L ≠ []) (h : ∀ x ∈ L, (32 : Nat) ∉ x.cps.toList) (hr : rowL L = none) : rowE (Str.join (Str.ofString " ") L) = none := by
  unfold rowE
  rw [jsplit h0 h]
  exact hr
theorem rowW_empty {b : Bool} {r : List Str} : rowW b (Str.ofString "" :: r) = none := by
  have n0 : numV (Str.ofString "") 1000000 = .non := by decide +kernel
  by_cases l6 : (Str.ofString "" :: r).length = 6
  · obtain ⟨a0, a1, a2, a3, a4, a5, e⟩ := list6 l6
    rw [e]
    have e0 : a0 = Str.ofString "" := (List.cons.inj e).1.symm
    subst e0
    show (if V.str a2 = V.str (Str.ofString "genus") then partE _ a1 a2 a3 .non a4 a5 b else none) = none
    split
    · exact part_no (.inl (.inr (.inl n0)))
    · rfl
  by_cases l8 : (Str.ofString "" :: r).length = 8
  · obtain ⟨a0, a1, a2, a3, a4, a5, a6, a7, e⟩ := list8 l8
    rw [e]
    have e0 : a0 = Str.ofString "" := (List.cons.inj e).1.symm
    subst e0
    show (if V.str a2 = V.str (Str.ofString "genus") then none else if V.str a4 = V.str (Str.ofString "under") then partE _ a1 a2 a3 (numV a5 1000000000) a6 a7 b else none) = none
    split
    · rfl
    split
    · exact part_no (.inl (.inr (.inl n0)))
    · rfl
  exact rowW_no l6 l8
theorem bad_set {r : Rw} (h : okR r) {i : Nat} {w w' : Str} (hw : (verbR r :: tailR r)[i]? = some w) (ht : Trs w w') : BadD (Str.join (Str.ofString " ") ((verbR r :: tailR r).set i w')) := by
  cases i with
  | zero =>
    cases hw
    have b := ht.bad (verb_l r).2.1
    refine badD rfl (by simp) (fun x hx => ?_) (verb_no (b.ne (by decide +kernel)) (shape_bad b))
    rcases List.mem_cons.mp hx with rfl | hx
    · exact ht.free (all_l_free (verb_l r).1)
    · exact tail_free h x hx
  | succ j =>
    have hw : (tailR r)[j]? = some w := hw
    obtain ⟨t1, t2, t3⟩ := tail_ok h j w hw
    have hj := (List.getElem?_eq_some_iff.mp hw).1
    have fr : ∀ x ∈ (tailR r).set j w', (32 : Nat) ∉ x.cps.toList := fun x hx => by
      rcases List.mem_or_eq_of_mem_set hx with hx | rfl
      · exact tail_free h x hx
      · exact ht.free t1
    refine badD rfl (by simp) (fun x hx => ?_) ?_
    · rcases List.mem_cons.mp hx with rfl | hx
      · exact all_l_free (verb_l r).1
      · exact fr x hx
    show none ∈ partsO (Str.join (Str.ofString " ") (verbR r :: (tailR r).set j w')) (verbR r :: (tailR r).set j w')
    have n0 : (tailR r).set j w' ≠ [] := fun z => by
      have := congrArg List.length z
      rw [List.length_set] at this
      rw [this] at hj
      exact absurd hj (Nat.not_lt_zero _)
    cases hp : isPub r with
    | true =>
      obtain ⟨e, rfl⟩ := pub_is hp
      exact none_pub n0 (row_list n0 fr ((shape h.1 h.2.1).set hj (ht.bad t2)))
    | false =>
      obtain ⟨e1, e2, e3⟩ := shape_ks hp
      show none ∈ (if V.str (verbR r) = V.str (Str.ofString "publish") then _ else match shapeOf (verbR r) with | none => [none] | some ks => if ks.length = ((tailR r).set j w').length then List.zipWith partO ks ((tailR r).set j w') else [none])
      rw [if_neg e3, e1]
      show none ∈ (if (ksR r).length = ((tailR r).set j w').length then List.zipWith partO (ksR r) ((tailR r).set j w') else [none])
      rw [if_pos (by rw [List.length_set]; exact e2)]
      have hk : (ksR r)[j]? = some ((ksR r)[j]'(by omega)) := List.getElem?_eq_getElem _
      refine List.mem_of_getElem? (i := j) ?_
      rw [List.getElem?_zipWith, hk, List.getElem?_set_self hj]
      show some (partO _ w') = some none
      rw [t3 hp w' ht _ hk]
theorem bad_snoc {r : Rw} (h : okR r) {z : Str} (hz : V.str z ≠ V.str (Str.ofString "bare")) (hf : (32 : Nat) ∉ z.cps.toList) : BadD (textR r ++ Str.ofString " " ++ z) := by
  refine badD (L := verbR r :: (tailR r ++ [z])) (by rw [textJ, ← join_last (by simp)]; rfl) (by simp) (fun x hx => ?_) ?_
  · rcases List.mem_cons.mp hx with rfl | hx
    · exact all_l_free (verb_l r).1
    · rcases List.mem_append.mp hx with hx | hx
      · exact tail_free h x hx
      · rw [List.mem_singleton.mp hx]; exact hf
  · have e : textR r ++ Str.ofString " " ++ z = Str.join (Str.ofString " ") (verbR r :: (tailR r ++ [z])) := by rw [textJ, ← join_last (by simp)]; rfl
    rw [e]
    cases hp : isPub r with
    | true =>
      obtain ⟨e, rfl⟩ := pub_is hp
      refine none_pub (by simp) (row_list (by simp) (fun x hx => ?_) ((shape h.1 h.2.1).snoc hz))
      rcases List.mem_append.mp hx with hx | hx
      · exact tail_free h x hx
      · rw [List.mem_singleton.mp hx]; exact hf
    | false => exact count_no hp (by rw [List.length_append]; exact Nat.ne_of_gt (Nat.lt_succ_self _))
theorem bad_behind {r : Rw} (h : okR r) : BadD (textR r ++ Str.ofString " ") := by
  have q := bad_snoc h (z := Str.ofString "") (fun z => absurd (congrArg (fun s : Str => s.cps.toList) (V.str.inj z)) (by decide +kernel)) (by decide +kernel)
  rw [app_nil] at q
  exact q
theorem bad_x {r : Rw} (h : okR r) : BadD (textR r ++ Str.ofString " x") := by
  have q := bad_snoc h (z := Str.ofString "x") (fun z => absurd (congrArg (fun s : Str => s.cps.toList) (V.str.inj z)) (by decide +kernel)) (by decide +kernel)
  rw [Str.append_assoc, ← show Str.ofString " x" = Str.ofString " " ++ Str.ofString "x" by decide +kernel] at q
  exact q
theorem bad_ahead {r : Rw} (h : okR r) : BadD (Str.ofString " " ++ textR r) := by
  refine badD (L := Str.ofString "" :: verbR r :: tailR r) ?_ (by simp) (fun x hx => ?_) (verb_no (fun z => absurd (congrArg (fun s : Str => s.cps.toList) (V.str.inj z)) (by decide +kernel)) (by decide +kernel))
  · rw [textJ]
    show _ = Str.ofString "" ++ Str.ofString " " ++ Str.join (Str.ofString " ") (verbR r :: tailR r)
    rw [nil_app]
  · rcases List.mem_cons.mp hx with rfl | hx
    · decide +kernel
    · exact all_free h x hx
theorem bad_line {r : Rw} (h : okR r) : BadD (rep1 (Str.ofString "x" ++ textR r) (Str.ofString "x") (Str.ofString "") ++ Str.ofString "\n") := by
  have e : rep1 (Str.ofString "x" ++ textR r) (Str.ofString "x") (Str.ofString "") = textR r := by
    have q := rep1_cut (c := 120) (a := Str.ofString "") (b := textR r) (z := Str.ofString "") (by decide +kernel)
    rw [nil_app, nil_app, nil_app] at q
    exact q
  rw [e]
  obtain ⟨I, q, hI⟩ : ∃ I q, verbR r :: tailR r = I ++ [q] := ⟨_, _, (List.dropLast_concat_getLast (by simp)).symm⟩
  have b := bad_set h (i := I.length) (w := q) (w' := q ++ Str.ofString "\n") (by rw [hI]; simp) (.inr (.inr (.inr rfl)))
  have e2 : textR r ++ Str.ofString "\n" = Str.join (Str.ofString " ") ((verbR r :: tailR r).set I.length (q ++ Str.ofString "\n")) := by
    rw [textJ, hI, List.set_append_right _ _ (Nat.le_refl _), Nat.sub_self]
    show Str.join (Str.ofString " ") (I ++ [q]) ++ _ = Str.join (Str.ofString " ") (I ++ [q ++ Str.ofString "\n"])
    cases I with
    | nil => rfl
    | cons i t =>
      rw [join_last (by simp), join_last (by simp)]
      exact ext_l (by simp only [app_l, List.append_assoc])
  rw [e2]
  exact b
theorem bad_two {r : Rw} (h : okR r) : BadD (rep1 (textR r) (Str.ofString " ") (Str.ofString "  ") ++ Str.ofString " x") := by
  have ex : Str.ofString " x" = Str.ofString " " ++ Str.ofString "x" := by decide +kernel
  have xf : (32 : Nat) ∉ (Str.ofString "x").cps.toList := by decide +kernel
  cases ht : tailR r with
  | nil =>
    have hr : r = .book := by
      cases r with
      | pub e => cases ht
      | book => rfl
      | _ => cases ht
    subst hr
    exact badD_of (by decide +kernel)
  | cons w0 t =>
    have tf := tail_free h
    rw [ht] at tf
    have e : rep1 (textR r) (Str.ofString " ") (Str.ofString "  ") ++ Str.ofString " x" = Str.join (Str.ofString " ") (verbR r :: (Str.ofString "" :: (w0 :: t) ++ [Str.ofString "x"])) := by
      have e1 : textR r = verbR r ++ Str.ofString " " ++ Str.join (Str.ofString " ") (w0 :: t) := by rw [textJ, ht]; rfl
      have e2 : Str.ofString "  " = Str.ofString " " ++ Str.ofString " " := by decide +kernel
      have e3 : rep1 (textR r) (Str.ofString " ") (Str.ofString "  ") = verbR r ++ Str.ofString "  " ++ Str.join (Str.ofString " ") (w0 :: t) := by
        rw [e1]
        rw [blank_is]
        exact rep1_cut (all_l_free (verb_l r).1)
      have e4 : Str.join (Str.ofString " ") (verbR r :: (Str.ofString "" :: (w0 :: t) ++ [Str.ofString "x"])) = verbR r ++ Str.ofString " " ++ (Str.ofString "" ++ Str.ofString " " ++ Str.join (Str.ofString " ") (w0 :: t ++ [Str.ofString "x"])) := rfl
      rw [e3, e4, nil_app, join_last (by simp), e2, ex]
      exact ext_l (by simp only [app_l, List.append_assoc])
    have fr : ∀ x ∈ (Str.ofString "" :: (w0 :: t) ++ [Str.ofString "x"]), (32 : Nat) ∉ x.cps.toList := fun x hx => by
      rcases List.mem_append.mp hx with hx | hx
      · rcases List.mem_cons.mp hx with rfl | hx
        · decide +kernel
        · exact tf x hx
      · rw [List.mem_singleton.mp hx]; exact xf
    refine badD e (by simp) (fun x hx => ?_) ?_
    · rcases List.mem_cons.mp hx with rfl | hx
      · exact all_l_free (verb_l r).1
      · exact fr x hx
    rw [e]
    cases hp : isPub r with
    | true =>
      obtain ⟨en, rfl⟩ := pub_is hp
      refine none_pub (by simp) (row_list (by simp) fr ?_)
      have : Str.ofString "" :: (w0 :: t) ++ [Str.ofString "x"] = (Str.ofString "" :: w0 :: t) ++ [Str.ofString "x"] := rfl
      rw [this, rowL_no (fun z => absurd (congrArg (fun s : Str => s.cps.toList) (V.str.inj z)) (by decide +kernel))]
      exact rowW_empty
    | false => exact count_no hp (by rw [ht]; simp; omega)
theorem cap_is {r : Rw} : ∃ a b u : Str, verbR r = a ++ b ∧ a.length = 1 ∧ Txt.upper a = u ∧ (32 : Nat) ∉ (u ++ b).cps.toList ∧ V.str (u ++ b) ≠ V.str (Str.ofString "publish") ∧ shapeOf (u ++ b) = none := by
  have ne : ∀ a b : Str, a.cps.toList ≠ b.cps.toList → V.str a ≠ V.str b := fun a b h z => h (congrArg (fun s : Str => s.cps.toList) (V.str.inj z))
  cases r with
  | pub e => exact ⟨Str.ofString "p", Str.ofString "ublish", Str.ofString "P", show Str.ofString "publish" = _ by decide +kernel, by decide +kernel, by decide +kernel, by decide +kernel, ne _ _ (by decide +kernel), by decide +kernel⟩
  | act d k n => exact ⟨Str.ofString "a", Str.ofString "ct", Str.ofString "A", show Str.ofString "act" = _ by decide +kernel, by decide +kernel, by decide +kernel, by decide +kernel, ne _ _ (by decide +kernel), by decide +kernel⟩
  | lay n ns => exact ⟨Str.ofString "l", Str.ofString "ay", Str.ofString "L", show Str.ofString "lay" = _ by decide +kernel, by decide +kernel, by decide +kernel, by decide +kernel, ne _ _ (by decide +kernel), by decide +kernel⟩
  | name n d => exact ⟨Str.ofString "n", Str.ofString "ame", Str.ofString "N", show Str.ofString "name" = _ by decide +kernel, by decide +kernel, by decide +kernel, by decide +kernel, ne _ _ (by decide +kernel), by decide +kernel⟩
  | why n d => exact ⟨Str.ofString "w", Str.ofString "hy", Str.ofString "W", show Str.ofString "why" = _ by decide +kernel, by decide +kernel, by decide +kernel, by decide +kernel, ne _ _ (by decide +kernel), by decide +kernel⟩
  | book => exact ⟨Str.ofString "b", Str.ofString "ook", Str.ofString "B", show Str.ofString "book" = _ by decide +kernel, by decide +kernel, by decide +kernel, by decide +kernel, ne _ _ (by decide +kernel), by decide +kernel⟩
  | take n => exact ⟨Str.ofString "t", Str.ofString "ake", Str.ofString "T", show Str.ofString "take" = _ by decide +kernel, by decide +kernel, by decide +kernel, by decide +kernel, ne _ _ (by decide +kernel), by decide +kernel⟩
  | out n => exact ⟨Str.ofString "o", Str.ofString "ut", Str.ofString "O", show Str.ofString "out" = _ by decide +kernel, by decide +kernel, by decide +kernel, by decide +kernel, ne _ _ (by decide +kernel), by decide +kernel⟩
theorem bad_cap {r : Rw} (h : okR r) : (cutS (textR r) none (some 1)).length ≤ 1 ∧ BadD (Txt.upper (cutS (textR r) none (some 1)) ++ cutS (textR r) (some 1) none) := by
  obtain ⟨a, b, u, e1, e2, e3, e4, e5, e6⟩ := cap_is (r := r)
  have e : ∃ t, textR r = a ++ (b ++ t) ∧ u ++ (b ++ t) = Str.join (Str.ofString " ") ((u ++ b) :: tailR r) := by
    cases ht : tailR r with
    | nil => exact ⟨Str.ofString "", by rw [textJ, ht, app_nil, ← e1]; rfl, by rw [app_nil]; rfl⟩
    | cons w t =>
      refine ⟨Str.ofString " " ++ Str.join (Str.ofString " ") (w :: t), ?_, ?_⟩
      · rw [textJ, ht]
        show verbR r ++ Str.ofString " " ++ Str.join (Str.ofString " ") (w :: t) = _
        rw [e1]
        exact ext_l (by simp only [app_l, List.append_assoc])
      · show _ = (u ++ b) ++ Str.ofString " " ++ Str.join (Str.ofString " ") (w :: t)
        exact ext_l (by simp only [app_l, List.append_assoc])
  obtain ⟨t, h1, h2⟩ := e
  have c1 : cutS (textR r) none (some 1) = a := by
    rw [h1]
    have q := cut_to a (b ++ t)
    rw [e2] at q
    exact q
  have c2 : cutS (textR r) (some 1) none = b ++ t := by
    rw [h1]
    have q := cut_from a (b ++ t)
    rw [e2] at q
    exact q
  rw [c1, c2, e3]
  refine ⟨by omega, badD h2 (by simp) (fun x hx => ?_) (verb_no e5 e6)⟩
  rcases List.mem_cons.mp hx with rfl | hx
  · exact e4
  · exact tail_free h x hx
theorem num_s10 {n : Int} (h : 0 ≤ n) (h1 : n ≤ 1000000000) : (numS n).length ≤ 10 := num_short h h1
theorem text_sum {r : Rw} (h : okR r) : ((verbR r :: tailR r).map (·.length)).sum + (verbR r :: tailR r).length ≤ 120 := by
  have lv := (verb_l r).2.2
  cases r with
  | pub e =>
    have := txt_len h.1
    show (verbR (.pub e)).length + ((txtW e).map (·.length)).sum + ((txtW e).length + 1) ≤ 120
    omega
  | act d k n =>
    have a1 := num_s10 (n := d) (by have := h.1.1; omega) (by have := h.1.2; omega)
    have a2 := (deed_is h.2.1).2.2
    have a3 := num_s10 (n := n) (by have := h.2.2.1; omega) h.2.2.2
    show (verbR (.act d k n)).length + ((numS d).length + (k.length + ((numS n).length + 0))) + 4 ≤ 120
    omega
  | lay n ns =>
    have a1 := num_s10 (n := n) (by have := h.1.1; omega) h.1.2
    have a2 := join_le (Str.ofString ".") (ns.map numS)
    have a3 := sum_le (fun z : Str => z.length) 10 (ns.map numS) fun z hz => by
      obtain ⟨m, hm, rfl⟩ := List.mem_map.mp hz
      exact num_s10 (h.2.2.2 m hm).1 (h.2.2.2 m hm).2
    have l1 : (Str.ofString ".").length = 1 := by decide +kernel
    have h3 := h.2.2.1
    rw [l1] at a2
    rw [List.length_map] at a2 a3
    have a2 : (pathS ns).length ≤ _ := a2
    have a3 : ((ns.map numS).map (·.length)).sum ≤ ns.length * 10 := a3
    show (verbR (.lay n ns)).length + ((numS n).length + ((pathS ns).length + 0)) + 3 ≤ 120
    omega
  | name n d =>
    have a1 := num_s10 (n := n) (by have := h.1.1; omega) h.1.2
    have a2 := num_s10 (n := d) (by have := h.2.1; omega) (by have := h.2.2; omega)
    show (verbR (.name n d)).length + ((numS n).length + ((numS d).length + 0)) + 3 ≤ 120
    omega
  | why n d =>
    have a1 := num_s10 (n := n) (by have := h.1.1; omega) h.1.2
    have a2 := num_s10 (n := d) (by have := h.2.1; omega) (by have := h.2.2; omega)
    show (verbR (.why n d)).length + ((numS n).length + ((numS d).length + 0)) + 3 ≤ 120
    omega
  | book =>
    show (verbR .book).length + 0 + 1 ≤ 120
    omega
  | take n =>
    have a1 := num_s10 (n := n) (by have := h.1; omega) h.2
    show (verbR (.take n)).length + ((numS n).length + 0) + 2 ≤ 120
    omega
  | out n =>
    have a1 := num_s10 (n := n) (by have := h.1; omega) h.2
    show (verbR (.out n)).length + ((numS n).length + 0) + 2 ≤ 120
    omega
theorem text_len {r : Rw} (h : okR r) : (textR r).length ≤ 120 := by
  have h1 := text_sum h
  have h2 := join_le (Str.ofString " ") (verbR r :: tailR r)
  have h3 : (Str.ofString " ").length = 1 := by decide +kernel
  rw [h3, Nat.mul_one] at h2
  exact Nat.le_trans h2 h1
theorem atI_ix {α : Type} {xs : List α} {i : Int} (h0 : 0 ≤ i) (h1 : i < xs.length) : ∃ j v, j < xs.length ∧ xs[j]? = some v ∧ atI xs i = some v ∧ ixN xs.length i = some j := by
  have hj : i.toNat < xs.length := by omega
  refine ⟨i.toNat, xs[i.toNat], hj, List.getElem?_eq_getElem hj, atI_toNat h0 (List.getElem?_eq_getElem hj), ?_⟩
  unfold ixN
  rw [if_pos h0, if_pos h1]
def spNum91 : Sp := fun vs H Q _ => ∃ m, vs = [.int m] ∧ ∀ n H', Same H H' → okN n → Q (.int n) H'
def spDay91 : Sp := fun vs H Q _ => ∃ m, vs = [.int m] ∧ ∀ n H', Same H H' → okD n → Q (.int n) H'
def spEntry91 : Sp := fun vs H Q _ => ∃ m, vs = [.int m] ∧ 0 ≤ m ∧ ∀ a e H', Same H H' → H a = none → H' a = some (.lst (rowV e)) → okR (.pub e) → Q (.ref a) H'
def spEntRow91 : Sp := fun vs H Q _ => ∃ a e, vs = [.ref a] ∧ H a = some (.lst (rowV e)) ∧ okR (.pub e) ∧ ∀ H', Same H H' → Q (.str (textR (.pub e))) H'
def ThAt (H : Hp) (a : Addr) : Rw → Prop
  | .pub e => H a = some (.lst (rowV e))
  | .act d k n => H a = some (.lst [.int d, .str k, .int n])
  | .lay n ns => ∃ t, H a = some (.lst [.int n, .ref t]) ∧ H t = some (.tup (ns.map V.int))
  | .name n d => H a = some (.lst [.int n, .int d])
  | .why n d => H a = some (.lst [.int n, .int d])
  | .book => H a = some (.lst [])
  | .take n => H a = some (.lst [.int n])
  | .out n => H a = some (.lst [.int n])
theorem ThAt.same {H H' : Hp} {a : Addr} {r : Rw} (h : ThAt H a r) (s : Same H H') : ThAt H' a r := by
  cases r with
  | lay n ns => obtain ⟨t, h1, h2⟩ := h; exact ⟨t, s _ _ h1, s _ _ h2⟩
  | _ => exact s _ _ h
def spSp91 : Sp := fun vs H Q _ => ∃ r m, vs = [.str (textR r), .int m] ∧ okR r ∧ ∀ z H', Same H H' → z.length ≤ 200 → BadD z → Q (.str z) H'
def SpD (v : V) : Prop := ∃ y : Str, v = .str y ∧ y.length ≤ 200 ∧ BadD y
theorem SpD.app {xs ys : List V} (h : ∀ v ∈ xs, SpD v) (hc : ∀ v ∈ ys, SpD v) : ∀ v ∈ xs ++ ys, SpD v := fun v hv => by
  rcases List.mem_append.mp hv with hv | hv
  · exact h v hv
  · exact hc v hv
theorem SpD.consts {cs : List Str} (h : (cs.all fun z => decide (z.length ≤ 200) && (partsO z (Txt.split z (Str.ofString " "))).any Option.isNone) = true) : ∀ v ∈ cs.map V.str, SpD v := fun v hv => by
  obtain ⟨z, hz, rfl⟩ := List.mem_map.mp hv
  have q := List.all_eq_true.mp h z hz
  rw [Bool.and_eq_true] at q
  exact ⟨z, rfl, of_decide_eq_true q.1, badD_of q.2⟩
theorem bad_any {r : Rw} (h : okR r) {i : Nat} {w : Str} (hw : (verbR r :: tailR r)[i]? = some w) {v : V} (hv : v ∈ spW3 w) : ∃ z, v = .str z ∧ ((((verbR r :: tailR r).set i z).map (·.length)).sum + ((verbR r :: tailR r).set i z).length ≤ 1048576) ∧ (Txt.join (Str.ofString " ") ((verbR r :: tailR r).set i z)).length ≤ 200 ∧ BadD (Txt.join (Str.ofString " ") ((verbR r :: tailR r).set i z)) := by
  have ts := text_sum h
  have fin : ∀ z, Trs w z → ∃ y, V.str z = .str y ∧ ((((verbR r :: tailR r).set i y).map (·.length)).sum + ((verbR r :: tailR r).set i y).length ≤ 1048576) ∧ (Txt.join (Str.ofString " ") ((verbR r :: tailR r).set i y)).length ≤ 200 ∧ BadD (Txt.join (Str.ofString " ") ((verbR r :: tailR r).set i y)) := fun z ht => by
    have l1 := ht.len
    have l2 := sum_set _ _ _ z hw
    have l3 := join_le (Str.ofString " ") ((verbR r :: tailR r).set i z)
    have l4 : (Str.ofString " ").length = 1 := by decide +kernel
    have l5 : ((verbR r :: tailR r).set i z).length = (verbR r :: tailR r).length := List.length_set ..
    rw [l4, Nat.mul_one] at l3
    refine ⟨z, rfl, by omega, by omega, ?_⟩
    rw [show Txt.join (Str.ofString " ") ((verbR r :: tailR r).set i z) = Str.join (Str.ofString " ") ((verbR r :: tailR r).set i z) from StrLaws.glued_eq_join _ _]
    exact bad_set h hw ht
  unfold spW3 at hv
  rcases List.mem_cons.mp hv with rfl | hv
  · exact fin _ (.inl rfl)
  · rcases List.mem_cons.mp hv with rfl | hv
    · exact fin _ (.inr (.inl rfl))
    · rw [List.mem_singleton.mp hv]
      exact fin _ (.inr (.inr (.inl rfl)))
def spIsE91 (CE : Addr) : Sp := fun vs H Q _ => ∃ x a e, vs = [x, .ref a] ∧ EntAt H CE x e ∧ H a = some (.lst (rowV e)) ∧ ∀ H', Same H H' → Q (.bl true) H'
def spSame91 (CE : Addr) : Sp := fun vs H Q _ => ∃ t q vs' r a, vs = [.ref t, .str (verbR r), .ref a] ∧ H t = some (.tup [.str (verbR r), .ref q]) ∧ H q = some (.lst vs') ∧ PsAt H CE vs' ((ptsR r).map some) ∧ ThAt H a r ∧ ∀ H', Same H H' → Q (.bl true) H'
def spRef91 (K : PySem.W.Frag) : Sp := fun vs H Q _ => ∃ x, vs = [x] ∧ ((Own K H x ∧ isStr x = false) ∨ ∃ z, x = .str z ∧ z.length ≤ 200 ∧ BadD z) ∧ ∀ H', Same H H' → Q (.bl true) H'
theorem ps0 {H : Hp} {CE : Addr} {vs : List V} (h : PsAt H CE vs []) : vs = [] := List.eq_nil_of_length_eq_zero h.1
theorem ps1 {H : Hp} {CE : Addr} {vs : List V} {p : Pt} (h : PsAt H CE vs [some p]) : ∃ v, vs = [v] ∧ PtAt H CE v p := by
  match vs, h with
  | [v], h => exact ⟨v, rfl, h.2 0 v _ rfl rfl⟩
theorem ps2 {H : Hp} {CE : Addr} {vs : List V} {p q : Pt} (h : PsAt H CE vs [some p, some q]) : ∃ v w, vs = [v, w] ∧ PtAt H CE v p ∧ PtAt H CE w q := by
  match vs, h with
  | [v, w], h => exact ⟨v, w, rfl, h.2 0 v _ rfl rfl, h.2 1 w _ rfl rfl⟩
  | [], h => cases h.1
  | [_], h => cases h.1
  | _ :: _ :: _ :: _, h => cases h.1
theorem ps3 {H : Hp} {CE : Addr} {vs : List V} {p q r : Pt} (h : PsAt H CE vs [some p, some q, some r]) : ∃ v w x, vs = [v, w, x] ∧ PtAt H CE v p ∧ PtAt H CE w q ∧ PtAt H CE x r := by
  match vs, h with
  | [v, w, x], h => exact ⟨v, w, x, rfl, h.2 0 v _ rfl rfl, h.2 1 w _ rfl rfl, h.2 2 x _ rfl rfl⟩
  | [], h => cases h.1
  | [_], h => cases h.1
  | [_, _], h => cases h.1
  | _ :: _ :: _ :: _ :: _, h => cases h.1
theorem same_flat {K : PySem.W.Frag} {H : Hp} {q a : Addr} {xs : List V} (h1 : H q = some (.lst xs)) (h2 : H a = some (.lst xs)) (fx : xs.all flatV = true) : SeqEq K H (EqD K H 1) (.ref q) (.ref a) true := by
  have h := SeqEq.flatL (K := K) (n := 1) (SqL.of h1) (SqL.of h2) fx fx
  rw [eqL_self' fx] at h
  exact h
def NoB (K : PySem.W.Frag) (H : Hp) (v : V) : Prop := Own K H v ∧ isBool v = false
theorem same_seq {K : PySem.W.Frag} {H : Hp} {CE q a : Addr} {vs : List V} {r : Rw} (hp : isPub r = false) (hq : H q = some (.lst vs)) (hps : PsAt H CE vs ((ptsR r).map some)) (hth : ThAt H a r) : SeqEq K H (EqD K H 1) (.ref q) (.ref a) true ∧ ∀ v ∈ vs, NoB K H v := by
  have ni : ∀ i : Int, NoB K H (.int i) := fun i => ⟨Own.int, rfl⟩
  have nz : ∀ z : Str, NoB K H (.str z) := fun z => ⟨Own.str, rfl⟩
  cases r with
  | pub e => cases hp
  | act d k n =>
    obtain ⟨v, w, x, rfl, rfl, rfl, rfl⟩ := ps3 hps
    refine ⟨same_flat hq hth rfl, fun v hv => ?_⟩
    simp only [List.mem_cons, List.not_mem_nil, or_false] at hv
    rcases hv with rfl | rfl | rfl
    · exact ni _
    · exact nz _
    · exact ni _
  | lay n ns =>
    obtain ⟨v, w, rfl, rfl, t1, rfl, h1⟩ := ps2 hps
    obtain ⟨t2, ha, h2⟩ := hth
    constructor
    · refine SeqEq.list (e := fun _ => true) (SqL.of hq) (SqL.of ha) rfl fun i x y hx hy => ?_
      rcases i with _ | _ | i
      · cases hx
        cases hy
        exact .inl (.inl ⟨rfl, rfl, (eqV_self rfl).symm⟩)
      · cases hx
        cases hy
        have fx : (ns.map V.int).all flatV = true := by
          rw [List.all_map]
          exact List.all_eq_true.mpr fun _ _ => rfl
        have h := SeqEq.flatT (K := K) (n := 0) (SqT.of h1) (SqT.of h2) rfl fx fx
        rw [eqL_self' fx] at h
        exact .inr h
      · cases hx
    · intro v hv
      simp only [List.mem_cons, List.not_mem_nil, or_false] at hv
      rcases hv with rfl | rfl
      · exact ni _
      · exact ⟨Own.tup h1, rfl⟩
  | name n d =>
    obtain ⟨v, w, rfl, rfl, rfl⟩ := ps2 hps
    refine ⟨same_flat hq hth rfl, fun v hv => ?_⟩
    simp only [List.mem_cons, List.not_mem_nil, or_false] at hv
    rcases hv with rfl | rfl <;> exact ni _
  | why n d =>
    obtain ⟨v, w, rfl, rfl, rfl⟩ := ps2 hps
    refine ⟨same_flat hq hth rfl, fun v hv => ?_⟩
    simp only [List.mem_cons, List.not_mem_nil, or_false] at hv
    rcases hv with rfl | rfl <;> exact ni _
  | book =>
    cases ps0 hps
    exact ⟨same_flat hq hth rfl, fun v hv => nomatch hv⟩
  | take n =>
    obtain ⟨v, rfl, rfl⟩ := ps1 hps
    refine ⟨same_flat hq hth rfl, fun v hv => ?_⟩
    rw [List.mem_singleton.mp hv]
    exact ni _
  | out n =>
    obtain ⟨v, rfl, rfl⟩ := ps1 hps
    refine ⟨same_flat hq hth rfl, fun v hv => ?_⟩
    rw [List.mem_singleton.mp hv]
    exact ni _
def spRow91 : Sp := fun vs H Q _ => ∃ m, vs = [.int m] ∧ 0 ≤ m ∧ ∀ t a r H', Same H H' → okR r → H' t = some (.tup [.str (textR r), .str (verbR r), .ref a]) → ThAt H' a r → Q (.ref t) H'
def spLaw (K : PySem.W.Frag) : Sp := fun vs H Q _ => ∃ (a : Addr) (ns : List Int), vs = [.ref a] ∧ SqL K H a (ns.map V.int) ∧ ns.length ≤ 63 ∧ ∀ H', Q (.bl true) H'
def top (i : Nat) : Stmt := PySem.Challenge.pw_rightname_k91_rows_of_a_desk.main.body.getD i (.Pass ⟨0, 0, 0, 0⟩)
abbrev s_is_whole : Stmt := top 17
abbrev s_is_day : Stmt := top 18
abbrev s_is_number : Stmt := top 19
abbrev s_is_word : Stmt := top 20
abbrev s_is_rank : Stmt := top 21
abbrev s_refuse_head : Stmt := top 24
abbrev s_under_fits : Stmt := top 25
abbrev s_tie_fits : Stmt := top 26
abbrev s_is_deed : Stmt := top 29
abbrev s_whole_of : Stmt := top 31
abbrev s_day_of : Stmt := top 32
abbrev s_number_of : Stmt := top 33
abbrev s_read_row : Stmt := top 34
abbrev s_entry_of : Stmt := top 35
abbrev s_row_of : Stmt := top 39
abbrev s_parts_of : Stmt := top 40
abbrev s_part_of : Stmt := top 41
abbrev s_path_in : Stmt := top 42
abbrev s_Lcell_at : Stmt := top 44
abbrev s_Lwhole : Stmt := top 45
abbrev s_Lmixed : Stmt := top 46
abbrev s_Lword : Stmt := top 47
abbrev s_Lnumber : Stmt := top 48
abbrev s_Lday : Stmt := top 49
abbrev s_Lentry : Stmt := top 50
abbrev s_Lentry_row : Stmt := top 51
abbrev s_Lrow : Stmt := top 52
abbrev s_Lany_word : Stmt := top 53
abbrev s_Lspoilt : Stmt := top 54
abbrev s_Lis_entry : Stmt := top 55
abbrev s_Lsame : Stmt := top 56
abbrev s_Lrefused : Stmt := top 57
abbrev s_law : Stmt := top 58
abbrev s_Entry_init : Stmt := inClass (top 23) 0
theorem rb_Entry_8 {vs : List V} {us : List Value} {zs : List V} {ws : List Value} (r : Vals vs us) (rz : Vals zs ws) : Vals ((fun us ws => us ++ (match ws with | [] => [] | _ => []) : List V → List V → List V) vs zs) ((fun us ws => us ++ (match ws with | [] => [] | _ => []) : List Value → List Value → List Value) us ws) := by
  refine r.append ?_
  cases rz with
  | nil => exact .nil
  | cons _ _ => exact .nil
theorem mb_Entry_8 {K : PySem.W.Frag} {T f : Addr} {fd : FuncData} {o : Obj} {n : Nat} (F : FunD K "__init__" "Entry.__init__" s_Entry_init (.ref T) f fd) (hT : K.lookup T = some o) (hs : o.data = .seq #[.none, .none, .none, .bool true] n) : MkBinds K fd ["self", "number", "day", "rank", "word", "under", "sheet", "base", "described"] [] 8 (fun us ws => us ++ (match ws with | [] => [] | _ => [])) (fun us ws => us ++ (match ws with | [] => [] | _ => [])) :=
  .ofD F hT hs rb_Entry_8 fun _ _ _ _ _ _ y us ws h1 h2 => by
    obtain ⟨a0, us0, rfl, g0⟩ := lenS h1
    obtain ⟨a1, us1, rfl, g1⟩ := lenS g0
    obtain ⟨a2, us2, rfl, g2⟩ := lenS g1
    obtain ⟨a3, us3, rfl, g3⟩ := lenS g2
    obtain ⟨a4, us4, rfl, g4⟩ := lenS g3
    obtain ⟨a5, us5, rfl, g5⟩ := lenS g4
    obtain ⟨a6, us6, rfl, g6⟩ := lenS g5
    obtain ⟨a7, us7, rfl, g7⟩ := lenS g6
    obtain rfl := len0 g7
    obtain rfl := len0 h2
    exact ⟨⟨_, rfl, rfl⟩, rfl⟩
structure Fn (K : PySem.W.Frag) (mg : Str → Option Value) (x : Str) (st : Stmt) (ps : List Str) (f : Addr) (fd : FuncData) : Prop where
  fn : Fun K x x st f fd
  mgf : mg x = some (.ref f)
  bi : Binds K fd ps []
theorem Fn.kp {K : PySem.W.Frag} {mg : Str → Option Value} {x : Str} {st : Stmt} {ps : List Str} {f : Addr} {fd : FuncData} (F : Fn K mg x st ps f fd) : PySem.W.keepIn K (.ref f) = true := F.fn.kp
set_option genInjectivity false in
set_option genSizeOfSpec false in
set_option genSizeOf false in
structure Ad where
  a_is_whole : Addr
  d_is_whole : FuncData
  a_is_day : Addr
  d_is_day : FuncData
  a_is_number : Addr
  d_is_number : FuncData
  a_is_word : Addr
  d_is_word : FuncData
  a_is_rank : Addr
  d_is_rank : FuncData
  a_refuse_head : Addr
  d_refuse_head : FuncData
  a_under_fits : Addr
  d_under_fits : FuncData
  a_tie_fits : Addr
  d_tie_fits : FuncData
  a_is_deed : Addr
  d_is_deed : FuncData
  a_whole_of : Addr
  d_whole_of : FuncData
  a_day_of : Addr
  d_day_of : FuncData
  a_number_of : Addr
  d_number_of : FuncData
  a_read_row : Addr
  d_read_row : FuncData
  a_entry_of : Addr
  d_entry_of : FuncData
  a_row_of : Addr
  d_row_of : FuncData
  a_parts_of : Addr
  d_parts_of : FuncData
  a_part_of : Addr
  d_part_of : FuncData
  a_path_in : Addr
  d_path_in : FuncData
  a_Lcell_at : Addr
  d_Lcell_at : FuncData
  a_Lwhole : Addr
  d_Lwhole : FuncData
  a_Lmixed : Addr
  d_Lmixed : FuncData
  a_Lword : Addr
  d_Lword : FuncData
  a_Lnumber : Addr
  d_Lnumber : FuncData
  a_Lday : Addr
  d_Lday : FuncData
  a_Lentry : Addr
  d_Lentry : FuncData
  a_Lentry_row : Addr
  d_Lentry_row : FuncData
  a_Lrow : Addr
  d_Lrow : FuncData
  a_Lany_word : Addr
  d_Lany_word : FuncData
  a_Lspoilt : Addr
  d_Lspoilt : FuncData
  a_Lis_entry : Addr
  d_Lis_entry : FuncData
  a_Lsame : Addr
  d_Lsame : FuncData
  a_Lrefused : Addr
  d_Lrefused : FuncData
  a_law : Addr
  d_law : FuncData
  c_Entry : Addr
  a_Entry_init : Addr
  t_Entry_init : Addr
  d_Entry_init : FuncData
  u_MOST_LETTERS : Value
  u_LAST_DAY : Value
  u_LAST_NUMBER : Value
  u_FORM_DEPTH : Value
  u_RANKS : Addr
  u_DEEDS : Addr
  u_SHAPES : Addr
  u_SHAPES_0 : Addr
  u_SHAPES_1 : Addr
  u_SHAPES_2 : Addr
  u_SHAPES_3 : Addr
  u_SHAPES_4 : Addr
  u_SHAPES_5 : Addr
  u_SHAPES_6 : Addr
  c_NoNumber : Addr
  c_NoDay : Addr
  c_NoRank : Addr
  c_NoWord : Addr
  c_NoRow : Addr
  c_NoEntry : Addr
  c_RightError : Addr
  c_NoText : Addr
  c_NoSheet : Addr
  c_NoPath : Addr
  c_NoAct : Addr
structure Txt (w : World) (K : PySem.W.Frag) (mg : Str → Option Value) (c : Ad) : Prop where
  is_whole : Fn K mg "is_whole" s_is_whole ["thing"] c.a_is_whole c.d_is_whole
  is_day : Fn K mg "is_day" s_is_day ["thing"] c.a_is_day c.d_is_day
  is_number : Fn K mg "is_number" s_is_number ["thing"] c.a_is_number c.d_is_number
  is_word : Fn K mg "is_word" s_is_word ["thing"] c.a_is_word c.d_is_word
  is_rank : Fn K mg "is_rank" s_is_rank ["thing"] c.a_is_rank c.d_is_rank
  refuse_head : Fn K mg "refuse_head" s_refuse_head ["number", "day", "rank", "word"] c.a_refuse_head c.d_refuse_head
  under_fits : Fn K mg "under_fits" s_under_fits ["rank", "under"] c.a_under_fits c.d_under_fits
  tie_fits : Fn K mg "tie_fits" s_tie_fits ["rank", "sheet", "base"] c.a_tie_fits c.d_tie_fits
  is_deed : Fn K mg "is_deed" s_is_deed ["thing"] c.a_is_deed c.d_is_deed
  whole_of : Fn K mg "whole_of" s_whole_of ["word", "most"] c.a_whole_of c.d_whole_of
  day_of : Fn K mg "day_of" s_day_of ["word"] c.a_day_of c.d_day_of
  number_of : Fn K mg "number_of" s_number_of ["word"] c.a_number_of c.d_number_of
  read_row : Fn K mg "read_row" s_read_row ["row"] c.a_read_row c.d_read_row
  entry_of : Fn K mg "entry_of" s_entry_of ["head", "under", "tie", "bare"] c.a_entry_of c.d_entry_of
  row_of : Fn K mg "row_of" s_row_of ["row"] c.a_row_of c.d_row_of
  parts_of : Fn K mg "parts_of" s_parts_of ["row", "words"] c.a_parts_of c.d_parts_of
  part_of : Fn K mg "part_of" s_part_of ["kind", "word"] c.a_part_of c.d_part_of
  path_in : Fn K mg "path_in" s_path_in ["word"] c.a_path_in c.d_path_in
  Lcell_at : Fn K mg "_law_cell_at" s_Lcell_at ["_law_script", "_law_k"] c.a_Lcell_at c.d_Lcell_at
  Lwhole : Fn K mg "_law_whole" s_Lwhole ["_law_found"] c.a_Lwhole c.d_Lwhole
  Lmixed : Fn K mg "_law_mixed" s_Lmixed ["_law_cell", "_law_k"] c.a_Lmixed c.d_Lmixed
  Lword : Fn K mg "_law_word" s_Lword ["_law_mixed_here"] c.a_Lword c.d_Lword
  Lnumber : Fn K mg "_law_number" s_Lnumber ["_law_mixed_here"] c.a_Lnumber c.d_Lnumber
  Lday : Fn K mg "_law_day" s_Lday ["_law_mixed_here"] c.a_Lday c.d_Lday
  Lentry : Fn K mg "_law_entry" s_Lentry ["_law_mixed_here"] c.a_Lentry c.d_Lentry
  Lentry_row : Fn K mg "_law_entry_row" s_Lentry_row ["_law_fields"] c.a_Lentry_row c.d_Lentry_row
  Lrow : Fn K mg "_law_row" s_Lrow ["_law_mixed_here"] c.a_Lrow c.d_Lrow
  Lany_word : Fn K mg "_law_any_word" s_Lany_word ["_law_text", "_law_number_here"] c.a_Lany_word c.d_Lany_word
  Lspoilt : Fn K mg "_law_spoilt" s_Lspoilt ["_law_text", "_law_way"] c.a_Lspoilt c.d_Lspoilt
  Lis_entry : Fn K mg "_law_is_entry" s_Lis_entry ["_law_found", "_law_fields"] c.a_Lis_entry c.d_Lis_entry
  Lsame : Fn K mg "_law_same" s_Lsame ["_law_found", "_law_word_here", "_law_things"] c.a_Lsame c.d_Lsame
  Lrefused : Fn K mg "_law_refused" s_Lrefused ["_law_thing"] c.a_Lrefused c.d_Lrefused
  law : Fn K mg "law" s_law ["_law_script"] c.a_law c.d_law
  mg_Entry : mg "Entry" = some (.ref c.c_Entry)
  cl_Entry : Cls K c.c_Entry
  mk_Entry : Mk K c.c_Entry c.a_Entry_init
  Entry_init : FunD K "__init__" "Entry.__init__" s_Entry_init (.ref c.t_Entry_init) c.a_Entry_init c.d_Entry_init
  na_Entry_number : NoAttr K c.c_Entry "number"
  na_Entry_day : NoAttr K c.c_Entry "day"
  na_Entry_rank : NoAttr K c.c_Entry "rank"
  na_Entry_word : NoAttr K c.c_Entry "word"
  na_Entry_under : NoAttr K c.c_Entry "under"
  na_Entry_sheet : NoAttr K c.c_Entry "sheet"
  na_Entry_base : NoAttr K c.c_Entry "base"
  na_Entry_described : NoAttr K c.c_Entry "described"
  b_Entry_8 : MkBinds K c.d_Entry_init ["self", "number", "day", "rank", "word", "under", "sheet", "base", "described"] [] 8 (fun us ws => us ++ (match ws with | [] => [] | _ => [])) (fun us ws => us ++ (match ws with | [] => [] | _ => []))
  mg_MOST_LETTERS : mg "MOST_LETTERS" = some c.u_MOST_LETTERS
  rl_MOST_LETTERS : RelV (.int 12) c.u_MOST_LETTERS
  mg_LAST_DAY : mg "LAST_DAY" = some c.u_LAST_DAY
  rl_LAST_DAY : RelV (.int 1000000) c.u_LAST_DAY
  mg_LAST_NUMBER : mg "LAST_NUMBER" = some c.u_LAST_NUMBER
  rl_LAST_NUMBER : RelV (.int 1000000000) c.u_LAST_NUMBER
  mg_FORM_DEPTH : mg "FORM_DEPTH" = some c.u_FORM_DEPTH
  rl_FORM_DEPTH : RelV (.int 3) c.u_FORM_DEPTH
  mg_RANKS : mg "RANKS" = some (.ref c.u_RANKS)
  sq_RANKS : ∀ H, SqT K H c.u_RANKS [.str "genus", .str "species", .str "form"]
  mg_DEEDS : mg "DEEDS" = some (.ref c.u_DEEDS)
  sq_DEEDS : ∀ H, SqT K H c.u_DEEDS [.str "keep", .str "strike", .str "leave"]
  sq_SHAPES_0 : ∀ H, SqT K H c.u_SHAPES_0 [.str "day", .str "deed", .str "number"]
  sq_SHAPES_1 : ∀ H, SqT K H c.u_SHAPES_1 [.str "number", .str "path"]
  sq_SHAPES_2 : ∀ H, SqT K H c.u_SHAPES_2 [.str "number"]
  sq_SHAPES_3 : ∀ H, SqT K H c.u_SHAPES_3 [.str "number", .str "day"]
  sq_SHAPES_4 : ∀ H, SqT K H c.u_SHAPES_4 [.str "number", .str "day"]
  sq_SHAPES_5 : ∀ H, SqT K H c.u_SHAPES_5 []
  sq_SHAPES_6 : ∀ H, SqT K H c.u_SHAPES_6 [.str "number"]
  ks_SHAPES : (c.u_SHAPES == sysModules) = false
  mg_SHAPES : mg "SHAPES" = some (.ref c.u_SHAPES)
  kd_SHAPES : KDict w K c.u_SHAPES ([("act", .ref c.u_SHAPES_0), ("lay", .ref c.u_SHAPES_1), ("take", .ref c.u_SHAPES_2), ("name", .ref c.u_SHAPES_3), ("why", .ref c.u_SHAPES_4), ("book", .ref c.u_SHAPES_5), ("out", .ref c.u_SHAPES_6)] : List (Str × V))
  mg_NoNumber : mg "NoNumber" = some (.ref c.c_NoNumber)
  mg_NoDay : mg "NoDay" = some (.ref c.c_NoDay)
  mg_NoRank : mg "NoRank" = some (.ref c.c_NoRank)
  mg_NoWord : mg "NoWord" = some (.ref c.c_NoWord)
  mg_NoRow : mg "NoRow" = some (.ref c.c_NoRow)
  mg_NoEntry : mg "NoEntry" = some (.ref c.c_NoEntry)
  mg_RightError : mg "RightError" = some (.ref c.c_RightError)
  mg_NoText : mg "NoText" = some (.ref c.c_NoText)
  mg_NoSheet : mg "NoSheet" = some (.ref c.c_NoSheet)
  mg_NoPath : mg "NoPath" = some (.ref c.c_NoPath)
  mg_NoAct : mg "NoAct" = some (.ref c.c_NoAct)
  x_NoNumber : XCls K c.c_NoNumber
  q_NoNumber : XAsk K c.c_NoNumber
  i_NoNumber_NoText : PySem.W.kitOne K (.ref c.c_NoNumber) (.ref c.c_NoText) = some false
  i_NoNumber_NoEntry : PySem.W.kitOne K (.ref c.c_NoNumber) (.ref c.c_NoEntry) = some false
  i_NoNumber_NoSheet : PySem.W.kitOne K (.ref c.c_NoNumber) (.ref c.c_NoSheet) = some false
  i_NoNumber_NoRow : PySem.W.kitOne K (.ref c.c_NoNumber) (.ref c.c_NoRow) = some false
  i_NoNumber_ValueError : PySem.W.kitOne K (.ref c.c_NoNumber) (.type "ValueError") = some true
  i_NoNumber_NoPath : PySem.W.kitOne K (.ref c.c_NoNumber) (.ref c.c_NoPath) = some false
  i_NoNumber_NoAct : PySem.W.kitOne K (.ref c.c_NoNumber) (.ref c.c_NoAct) = some false
  e_NoNumber_RightError : PySem.W.exmOne K (.ref c.c_NoNumber) (.ref c.c_RightError) = some true
  x_NoDay : XCls K c.c_NoDay
  q_NoDay : XAsk K c.c_NoDay
  i_NoDay_NoText : PySem.W.kitOne K (.ref c.c_NoDay) (.ref c.c_NoText) = some false
  i_NoDay_NoEntry : PySem.W.kitOne K (.ref c.c_NoDay) (.ref c.c_NoEntry) = some false
  i_NoDay_NoSheet : PySem.W.kitOne K (.ref c.c_NoDay) (.ref c.c_NoSheet) = some false
  i_NoDay_NoRow : PySem.W.kitOne K (.ref c.c_NoDay) (.ref c.c_NoRow) = some false
  i_NoDay_ValueError : PySem.W.kitOne K (.ref c.c_NoDay) (.type "ValueError") = some true
  i_NoDay_NoPath : PySem.W.kitOne K (.ref c.c_NoDay) (.ref c.c_NoPath) = some false
  i_NoDay_NoAct : PySem.W.kitOne K (.ref c.c_NoDay) (.ref c.c_NoAct) = some false
  e_NoDay_RightError : PySem.W.exmOne K (.ref c.c_NoDay) (.ref c.c_RightError) = some true
  x_NoRank : XCls K c.c_NoRank
  q_NoRank : XAsk K c.c_NoRank
  i_NoRank_NoText : PySem.W.kitOne K (.ref c.c_NoRank) (.ref c.c_NoText) = some false
  i_NoRank_NoEntry : PySem.W.kitOne K (.ref c.c_NoRank) (.ref c.c_NoEntry) = some false
  i_NoRank_NoSheet : PySem.W.kitOne K (.ref c.c_NoRank) (.ref c.c_NoSheet) = some false
  i_NoRank_NoRow : PySem.W.kitOne K (.ref c.c_NoRank) (.ref c.c_NoRow) = some false
  i_NoRank_ValueError : PySem.W.kitOne K (.ref c.c_NoRank) (.type "ValueError") = some true
  i_NoRank_NoPath : PySem.W.kitOne K (.ref c.c_NoRank) (.ref c.c_NoPath) = some false
  i_NoRank_NoAct : PySem.W.kitOne K (.ref c.c_NoRank) (.ref c.c_NoAct) = some false
  e_NoRank_RightError : PySem.W.exmOne K (.ref c.c_NoRank) (.ref c.c_RightError) = some true
  x_NoWord : XCls K c.c_NoWord
  q_NoWord : XAsk K c.c_NoWord
  i_NoWord_NoText : PySem.W.kitOne K (.ref c.c_NoWord) (.ref c.c_NoText) = some false
  i_NoWord_NoEntry : PySem.W.kitOne K (.ref c.c_NoWord) (.ref c.c_NoEntry) = some false
  i_NoWord_NoSheet : PySem.W.kitOne K (.ref c.c_NoWord) (.ref c.c_NoSheet) = some false
  i_NoWord_NoRow : PySem.W.kitOne K (.ref c.c_NoWord) (.ref c.c_NoRow) = some false
  i_NoWord_ValueError : PySem.W.kitOne K (.ref c.c_NoWord) (.type "ValueError") = some true
  i_NoWord_NoPath : PySem.W.kitOne K (.ref c.c_NoWord) (.ref c.c_NoPath) = some false
  i_NoWord_NoAct : PySem.W.kitOne K (.ref c.c_NoWord) (.ref c.c_NoAct) = some false
  e_NoWord_RightError : PySem.W.exmOne K (.ref c.c_NoWord) (.ref c.c_RightError) = some true
  x_NoRow : XCls K c.c_NoRow
  q_NoRow : XAsk K c.c_NoRow
  i_NoRow_NoText : PySem.W.kitOne K (.ref c.c_NoRow) (.ref c.c_NoText) = some false
  i_NoRow_NoEntry : PySem.W.kitOne K (.ref c.c_NoRow) (.ref c.c_NoEntry) = some false
  i_NoRow_NoSheet : PySem.W.kitOne K (.ref c.c_NoRow) (.ref c.c_NoSheet) = some false
  i_NoRow_NoRow : PySem.W.kitOne K (.ref c.c_NoRow) (.ref c.c_NoRow) = some true
  i_NoRow_ValueError : PySem.W.kitOne K (.ref c.c_NoRow) (.type "ValueError") = some true
  i_NoRow_NoPath : PySem.W.kitOne K (.ref c.c_NoRow) (.ref c.c_NoPath) = some false
  i_NoRow_NoAct : PySem.W.kitOne K (.ref c.c_NoRow) (.ref c.c_NoAct) = some false
  e_NoRow_RightError : PySem.W.exmOne K (.ref c.c_NoRow) (.ref c.c_RightError) = some true
  x_NoEntry : XCls K c.c_NoEntry
  q_NoEntry : XAsk K c.c_NoEntry
  i_NoEntry_NoText : PySem.W.kitOne K (.ref c.c_NoEntry) (.ref c.c_NoText) = some false
  i_NoEntry_NoEntry : PySem.W.kitOne K (.ref c.c_NoEntry) (.ref c.c_NoEntry) = some true
  i_NoEntry_NoSheet : PySem.W.kitOne K (.ref c.c_NoEntry) (.ref c.c_NoSheet) = some false
  i_NoEntry_NoRow : PySem.W.kitOne K (.ref c.c_NoEntry) (.ref c.c_NoRow) = some false
  i_NoEntry_ValueError : PySem.W.kitOne K (.ref c.c_NoEntry) (.type "ValueError") = some true
  i_NoEntry_NoPath : PySem.W.kitOne K (.ref c.c_NoEntry) (.ref c.c_NoPath) = some false
  i_NoEntry_NoAct : PySem.W.kitOne K (.ref c.c_NoEntry) (.ref c.c_NoAct) = some false
  e_NoEntry_RightError : PySem.W.exmOne K (.ref c.c_NoEntry) (.ref c.c_RightError) = some true
  w_Entry : IAsk K c.c_Entry
  ws_Entry : PySem.W.kitOne K (.ref c.c_Entry) (.ref c.c_Entry) = some true
  wn_Entry_NoneType : PySem.W.kitOne K (.type "NoneType") (.ref c.c_Entry) = some false
  wn_Entry_int : PySem.W.kitOne K (.type "int") (.ref c.c_Entry) = some false
  wn_Entry_str : PySem.W.kitOne K (.type "str") (.ref c.c_Entry) = some false
  wn_Entry_bool : PySem.W.kitOne K (.type "bool") (.ref c.c_Entry) = some false
  wn_Entry_list : PySem.W.kitOne K (.type "list") (.ref c.c_Entry) = some false
  wn_Entry_tuple : PySem.W.kitOne K (.type "tuple") (.ref c.c_Entry) = some false
  wn_Entry_dict : PySem.W.kitOne K (.type "dict") (.ref c.c_Entry) = some false
  no_len : mg "len" = none
  no_isinstance : mg "isinstance" = none
  no_str : mg "str" = none
  no_bool : mg "bool" = none
  no_all : mg "all" = none
  no_any : mg "any" = none
  no_range : mg "range" = none
  no_int : mg "int" = none
  no_ValueError : mg "ValueError" = none
  no_list : mg "list" = none
  no_tuple : mg "tuple" = none
  no_enumerate : mg "enumerate" = none
  no_zip : mg "zip" = none
theorem sc_is_whole : FnScope ["thing"] ["thing"] (defScope s_is_whole) := ⟨rfl, rfl, rfl, by decide +kernel, rfl, by decide +kernel, by decide +kernel⟩
theorem sc_is_day : FnScope ["thing"] ["thing"] (defScope s_is_day) := ⟨rfl, rfl, rfl, by decide +kernel, rfl, by decide +kernel, by decide +kernel⟩
theorem sc_is_number : FnScope ["thing"] ["thing"] (defScope s_is_number) := ⟨rfl, rfl, rfl, by decide +kernel, rfl, by decide +kernel, by decide +kernel⟩
theorem sc_is_word : FnScope ["thing"] ["thing"] (defScope s_is_word) := ⟨rfl, rfl, rfl, by decide +kernel, rfl, by decide +kernel, by decide +kernel⟩
theorem sc_is_rank : FnScope ["thing"] ["thing"] (defScope s_is_rank) := ⟨rfl, rfl, rfl, by decide +kernel, rfl, by decide +kernel, by decide +kernel⟩
theorem sc_refuse_head : FnScope ["number", "day", "rank", "word"] ["number", "day", "rank", "word"] (defScope s_refuse_head) := ⟨rfl, rfl, rfl, by decide +kernel, rfl, by decide +kernel, by decide +kernel⟩
theorem sc_under_fits : FnScope ["rank", "under"] ["rank", "under"] (defScope s_under_fits) := ⟨rfl, rfl, rfl, by decide +kernel, rfl, by decide +kernel, by decide +kernel⟩
theorem sc_tie_fits : FnScope ["rank", "sheet", "base"] ["rank", "sheet", "base"] (defScope s_tie_fits) := ⟨rfl, rfl, rfl, by decide +kernel, rfl, by decide +kernel, by decide +kernel⟩
theorem sc_is_deed : FnScope ["thing"] ["thing"] (defScope s_is_deed) := ⟨rfl, rfl, rfl, by decide +kernel, rfl, by decide +kernel, by decide +kernel⟩
theorem sc_whole_of : FnScope ["word", "most", "number"] ["word", "most"] (defScope s_whole_of) := ⟨rfl, rfl, rfl, by decide +kernel, rfl, by decide +kernel, by decide +kernel⟩
theorem sc_day_of : FnScope ["word"] ["word"] (defScope s_day_of) := ⟨rfl, rfl, rfl, by decide +kernel, rfl, by decide +kernel, by decide +kernel⟩
theorem sc_number_of : FnScope ["word"] ["word"] (defScope s_number_of) := ⟨rfl, rfl, rfl, by decide +kernel, rfl, by decide +kernel, by decide +kernel⟩
theorem sc_read_row : FnScope ["row", "words", "bare"] ["row"] (defScope s_read_row) := ⟨rfl, rfl, rfl, by decide +kernel, rfl, by decide +kernel, by decide +kernel⟩
theorem sc_entry_of : FnScope ["head", "under", "tie", "bare", "sheet", "base"] ["head", "under", "tie", "bare"] (defScope s_entry_of) := ⟨rfl, rfl, rfl, by decide +kernel, rfl, by decide +kernel, by decide +kernel⟩
theorem sc_row_of : FnScope ["row", "words", "parts"] ["row"] (defScope s_row_of) := ⟨rfl, rfl, rfl, by decide +kernel, rfl, by decide +kernel, by decide +kernel⟩
theorem sc_parts_of : FnScope ["row", "words"] ["row", "words"] (defScope s_parts_of) := ⟨rfl, rfl, rfl, by decide +kernel, rfl, by decide +kernel, by decide +kernel⟩
theorem sc_part_of : FnScope ["kind", "word"] ["kind", "word"] (defScope s_part_of) := ⟨rfl, rfl, rfl, by decide +kernel, rfl, by decide +kernel, by decide +kernel⟩
theorem sc_path_in : FnScope ["word", "places"] ["word"] (defScope s_path_in) := ⟨rfl, rfl, rfl, by decide +kernel, rfl, by decide +kernel, by decide +kernel⟩
theorem sc_Lcell_at : FnScope ["_law_script", "_law_k"] ["_law_script", "_law_k"] (defScope s_Lcell_at) := ⟨rfl, rfl, rfl, by decide +kernel, rfl, by decide +kernel, by decide +kernel⟩
theorem sc_Lwhole : FnScope ["_law_found"] ["_law_found"] (defScope s_Lwhole) := ⟨rfl, rfl, rfl, by decide +kernel, rfl, by decide +kernel, by decide +kernel⟩
theorem sc_Lmixed : FnScope ["_law_cell", "_law_k"] ["_law_cell", "_law_k"] (defScope s_Lmixed) := ⟨rfl, rfl, rfl, by decide +kernel, rfl, by decide +kernel, by decide +kernel⟩
theorem sc_Lword : FnScope ["_law_mixed_here", "_law_letters", "_law_word_here", "_law_k"] ["_law_mixed_here"] (defScope s_Lword) := ⟨rfl, rfl, rfl, by decide +kernel, rfl, by decide +kernel, by decide +kernel⟩
theorem sc_Lnumber : FnScope ["_law_mixed_here"] ["_law_mixed_here"] (defScope s_Lnumber) := ⟨rfl, rfl, rfl, by decide +kernel, rfl, by decide +kernel, by decide +kernel⟩
theorem sc_Lday : FnScope ["_law_mixed_here"] ["_law_mixed_here"] (defScope s_Lday) := ⟨rfl, rfl, rfl, by decide +kernel, rfl, by decide +kernel, by decide +kernel⟩
theorem sc_Lentry : FnScope ["_law_mixed_here", "_law_rank", "_law_fields"] ["_law_mixed_here"] (defScope s_Lentry) := ⟨rfl, rfl, rfl, by decide +kernel, rfl, by decide +kernel, by decide +kernel⟩
theorem sc_Lentry_row : FnScope ["_law_fields", "_law_words"] ["_law_fields"] (defScope s_Lentry_row) := ⟨rfl, rfl, rfl, by decide +kernel, rfl, by decide +kernel, by decide +kernel⟩
theorem sc_Lrow : FnScope ["_law_mixed_here", "_law_way", "_law_rest", "_law_number_here", "_law_day_here", "_law_fields", "_law_deed", "_law_path", "_law_word_here"] ["_law_mixed_here"] (defScope s_Lrow) := ⟨rfl, rfl, rfl, by decide +kernel, rfl, by decide +kernel, by decide +kernel⟩
theorem sc_Lany_word : FnScope ["_law_text", "_law_number_here", "_law_words", "_law_at"] ["_law_text", "_law_number_here"] (defScope s_Lany_word) := ⟨rfl, rfl, rfl, by decide +kernel, rfl, by decide +kernel, by decide +kernel⟩
theorem sc_Lspoilt : FnScope ["_law_text", "_law_way", "_law_some"] ["_law_text", "_law_way"] (defScope s_Lspoilt) := ⟨rfl, rfl, rfl, by decide +kernel, rfl, by decide +kernel, by decide +kernel⟩
theorem sc_Lis_entry : FnScope ["_law_found", "_law_fields"] ["_law_found", "_law_fields"] (defScope s_Lis_entry) := ⟨rfl, rfl, rfl, by decide +kernel, rfl, by decide +kernel, by decide +kernel⟩
theorem sc_Lsame : FnScope ["_law_found", "_law_word_here", "_law_things"] ["_law_found", "_law_word_here", "_law_things"] (defScope s_Lsame) := ⟨rfl, rfl, rfl, by decide +kernel, rfl, by decide +kernel, by decide +kernel⟩
theorem sc_Lrefused : FnScope ["_law_thing", "_law_caught", "e"] ["_law_thing"] (defScope s_Lrefused) := ⟨rfl, rfl, rfl, by decide +kernel, rfl, by decide +kernel, by decide +kernel⟩
theorem sc_law : FnScope ["_law_script", "_law_k", "_law_cell", "_law_mixed_here", "_law_text", "_law_word_here", "_law_things", "_law_spoilt_here", "_law_found"] ["_law_script"] (defScope s_law) := ⟨rfl, rfl, rfl, by decide +kernel, rfl, by decide +kernel, by decide +kernel⟩
theorem sc_Entry_init : FnScope ["self", "number", "day", "rank", "word", "under", "sheet", "base", "described"] ["self", "number", "day", "rank", "word", "under", "sheet", "base", "described"] (defScope s_Entry_init) := ⟨rfl, rfl, rfl, by decide +kernel, rfl, by decide +kernel, by decide +kernel⟩
section
variable {P : Program} {w : World} {K : PySem.W.Frag} {mg : Str → Option Value} {base : Heap} {c : Ad}
set_option maxHeartbeats 4000000 in
theorem ok_is_whole (T : Txt w K mg c) : FnOk P w K mg base CX0 1 c.a_is_whole c.d_is_whole ["thing"] (spW K) := by
  refine T.is_whole.fn.ok sc_is_whole (fun vs H Q E h => ?_) (fun cdv A outer s H vs Q E hr h => ?_)
  · obtain ⟨x, rfl, _⟩ := h
    rfl
  · obtain ⟨x, rfl, ow, k⟩ := h
    refine ⟨_, (pss_one (ps_ret (pe_and (pe_callB call_isiA rfl T.no_isinstance bt_isinstance (pa_cons (pv 0) (pa_cons (pe_bltn (v := .ty "int") rfl T.no_int bt_int rfl) pa_nil))) (pe_one (pe_not (pe_callB call_isiA rfl T.no_isinstance bt_isinstance (pa_cons (pv 0) (pa_cons (pe_bltn (v := .ty "bool") rfl T.no_bool bt_bool rfl) pa_nil)))))))), ?_⟩
    refine ⟨x, rfl, rIsiA.int ow ⟨_, rfl, ?_⟩⟩
    cases x with
    | int i => exact iteT ⟨_, rfl, rIsiA.bool ow ⟨_, rfl, k⟩⟩
    | bl b => exact iteT ⟨_, rfl, rIsiA.bool ow ⟨_, rfl, k⟩⟩
    | _ => exact iteF k
set_option maxHeartbeats 4000000 in
theorem ok_is_day (T : Txt w K mg c) : FnOk P w K mg base CX0 2 c.a_is_day c.d_is_day ["thing"] (spR K 1000000) := by
  refine T.is_day.fn.ok sc_is_day (fun vs H Q E h => ?_) (fun cdv A outer s H vs Q E hr h => ?_)
  · obtain ⟨x, rfl, _⟩ := h
    rfl
  · obtain ⟨x, rfl, ow, k⟩ := h
    refine ⟨_, (pss_one (ps_ret (pe_and (pe_call (ok_is_whole T) (hr.mono (by decide)) rfl T.is_whole.mgf T.is_whole.kp T.is_whole.bi .nil pass0 (pa_cons (pv 0) pa_nil)) (pe_one (pe_chain op_le op_le pe_int (pv 0) (pe_glob rfl T.mg_LAST_DAY T.rl_LAST_DAY)))))), ?_⟩
    refine ⟨x, rfl, x, rfl, ow, _, rfl, ?_⟩
    cases x with
    | int i =>
      refine iteT ⟨_, rfl, _, _, rfl, rfl, _, rfl, ?_⟩
      by_cases h1 : 1 ≤ i
      · rw [if_pos (decide_eq_true h1)]
        refine ⟨_, _, rfl, rfl, ?_⟩
        simpa [inR, h1] using k
      · rw [if_neg (by simp [h1])]
        simpa [inR, h1] using k
    | _ => exact iteF k
set_option maxHeartbeats 4000000 in
theorem ok_is_number (T : Txt w K mg c) : FnOk P w K mg base CX0 2 c.a_is_number c.d_is_number ["thing"] (spR K 1000000000) := by
  refine T.is_number.fn.ok sc_is_number (fun vs H Q E h => ?_) (fun cdv A outer s H vs Q E hr h => ?_)
  · obtain ⟨x, rfl, _⟩ := h
    rfl
  · obtain ⟨x, rfl, ow, k⟩ := h
    refine ⟨_, (pss_one (ps_ret (pe_and (pe_call (ok_is_whole T) (hr.mono (by decide)) rfl T.is_whole.mgf T.is_whole.kp T.is_whole.bi .nil pass0 (pa_cons (pv 0) pa_nil)) (pe_one (pe_chain op_le op_le pe_int (pv 0) (pe_glob rfl T.mg_LAST_NUMBER T.rl_LAST_NUMBER)))))), ?_⟩
    refine ⟨x, rfl, x, rfl, ow, _, rfl, ?_⟩
    cases x with
    | int i =>
      refine iteT ⟨_, rfl, _, _, rfl, rfl, _, rfl, ?_⟩
      by_cases h1 : 1 ≤ i
      · rw [if_pos (decide_eq_true h1)]
        refine ⟨_, _, rfl, rfl, ?_⟩
        simpa [inR, h1] using k
      · rw [if_neg (by simp [h1])]
        simpa [inR, h1] using k
    | _ => exact iteF k
set_option maxHeartbeats 4000000 in
theorem ok_is_word (T : Txt w K mg c) : FnOk P w K mg base CX0 1 c.a_is_word c.d_is_word ["thing"] (spWord K) := by
  refine T.is_word.fn.ok sc_is_word (fun vs H Q E h => ?_) (fun cdv A outer s H vs Q E hr h => ?_)
  · obtain ⟨x, rfl, _⟩ := h
    rfl
  · obtain ⟨x, rfl, ow, hz, k⟩ := h
    refine ⟨_, (pss_cons (ps_if (PW.pt (pw_or (pt_not (pt_val (pe_callB call_isiA rfl T.no_isinstance bt_isinstance (pa_cons (pv 0) (pa_cons (pe_bltn (v := .ty "str") rfl T.no_str bt_str rfl) pa_nil))))) (pw_or1 (pt_not (pt_chain op_le op_le pe_int (pe_callB call_len_str rfl T.no_len bt_len (pa_cons (pv 0) pa_nil)) (pe_glob rfl T.mg_MOST_LETTERS T.rl_MOST_LETTERS))))))
        (pss_one (ps_ret pe_bl))
        pss_nil)
      (pss_one (ps_ret (pe_callB (call_all rfl) rfl T.no_all bt_all (pa_cons (pe_comp (N' := ["sign"]) (js := [none]) rfl rfl (by decide +kernel) (by decide +kernel) (free_nil (by decide +kernel)) (cap_nil rfl rfl) (pi_str (pv 0)) (fun B => ⟨(pg_name (i := 0) (show List.Nodup (["sign"] : List Str) by decide +kernel) rfl (Or.inl rfl)), pifs_nil, (pe_chain op_le_str op_le_str pe_str (pv 0) pe_str)⟩)) pa_nil))))), ?_⟩
    refine ⟨x, rfl, rIsiA.str ow ⟨_, rfl, ?_⟩⟩
    cases x with
    | str z =>
      have hz : z.length ≤ sizeLine := hz
      refine iteF ?_
      walk_at "rd"
      refine ⟨hz, ?_⟩
      walk_at "rd"
      refine ite2 (fun h1 => ?_) (fun h1 => ?_)
      · walk_at "rd"
        by_cases h2 : ((z.length : Int) ≤ 12)
        · rw [decide_eq_true h2]
          refine iteF ⟨_, rfl, _, rfl, fun l B hl => ?_⟩
          have en : z.cps.toList.length = z.length := by simp [Str.length]
          refine loop_by z.cps.size (fun i σ acc H' => (∃ o, σ = [o]) ∧ acc = (z.cps.toList.take i).map (fun c => V.bl (letter c)) ∧ H' = upd H l (.lst acc)) hz ?_ ?_ ?_ ?_ ?_
          · exact ⟨⟨_, rfl⟩, rfl, rfl⟩
          · rintro i σ acc H' hi ⟨_, e, e'⟩
            refine ⟨by rw [e']; exact upd_same, ?_⟩
            rw [e, List.length_map, List.length_take]
            omega
          · intro i σ acc H' hi _
            exact hi
          · rintro i x σ acc H' H'' hi ⟨⟨o, rfl⟩, e, e'⟩ ⟨rfl, c, hc, rfl⟩
            have hc' : z.cps.toList[i]? = some c := by simpa using hc
            have fin : ∀ b, b = letter c → H'' l = some (.lst acc) ∧ Nx z.cps.size i ((∃ o, ([o].set 0 (some (V.str ⟨#[c]⟩)) : St) = [o]) ∧ acc ++ [V.bl b] = (z.cps.toList.take (i + 1)).map (fun c => V.bl (letter c)) ∧ upd H'' l (.lst (acc ++ [V.bl b])) = upd H l (.lst (acc ++ [V.bl b]))) := by
              intro b eb
              refine ⟨by rw [e']; exact upd_same, Nx.mk hi ⟨⟨_, rfl⟩, ?_, by rw [e', upd_upd]⟩⟩
              rw [take_one hc', List.map_append, ← e, eb]
              rfl
            walk_at "rd"
            rw [le_a]
            refine ite2 (fun g1 => ?_) (fun g1 => ?_)
            · walk_at "rd"
              refine fin _ ?_
              rw [le_z]
              unfold letter
              rw [g1]
              rfl
            · refine fin _ ?_
              unfold letter
              rw [eq_false_of_ne_true g1]
              rfl
          · rintro σ acc H' ⟨_, e, e'⟩
            refine ⟨rfl, l, z.cps.toList.map letter, rfl, SqL.of (by rw [e', upd_same, e, List.take_of_length_le (by simp)]; simp), ?_⟩
            have q := k H' (by rw [e']; exact Same.new hl)
            have ev : isWord (.str z) = (z.cps.toList.map letter).all id := by
              rw [isWord_str, h1, decide_eq_true h2, List.all_map]
              rfl
            rw [ev] at q
            exact q
        · rw [decide_eq_false h2]
          refine iteT ?_
          have ev : isWord (.str z) = false := by
            rw [isWord_str, decide_eq_false h2, Bool.and_false, Bool.false_and]
          have q := k H (Same.refl H)
          rw [ev] at q
          exact q
      · have ev : isWord (.str z) = false := by
          rw [isWord_str, eq_false_of_ne_true h1, Bool.false_and, Bool.false_and]
        have q := k H (Same.refl H)
        rw [ev] at q
        walk_at "rd"
        exact q
    | _ => exact iteT (k _ (Same.refl H))
set_option maxHeartbeats 4000000 in
theorem ok_is_rank (T : Txt w K mg c) : FnOk P w K mg base CX0 1 c.a_is_rank c.d_is_rank ["thing"] (spRank K) := by
  refine T.is_rank.fn.ok sc_is_rank (fun vs H Q E h => ?_) (fun cdv A outer s H vs Q E hr h => ?_)
  · obtain ⟨x, rfl, _⟩ := h
    rfl
  · obtain ⟨x, rfl, ow, k⟩ := h
    refine ⟨_, (pss_one (ps_ret (pe_and (pe_callB call_isiA rfl T.no_isinstance bt_isinstance (pa_cons (pv 0) (pa_cons (pe_bltn (v := .ty "str") rfl T.no_str bt_str rfl) pa_nil))) (pe_one (pe_cmpR op_in_seq (pv 0) (pe_glob (v := .ref c.u_RANKS) rfl T.mg_RANKS rfl) (by with_unfolding_all rfl)))))), ?_⟩
    refine ⟨x, rfl, rIsiA.str ow ⟨_, rfl, ?_⟩⟩
    cases x with
    | str z => exact iteT ⟨_, rfl, c.u_RANKS, ranks, rfl, .inr (T.sq_RANKS _), rfl, rfl, k⟩
    | _ => exact iteF k
set_option maxHeartbeats 4000000 in
theorem ok_refuse_head (T : Txt w K mg c) : FnOk P w K mg base (CXx P w) 3 c.a_refuse_head c.d_refuse_head ["number", "day", "rank", "word"] (spHead K ⟨c.c_NoNumber, c.c_NoDay, c.c_NoRank, c.c_NoWord, c.c_NoEntry⟩) := by
  refine T.refuse_head.fn.okx sc_refuse_head (fun vs H Q E h => ?_) (fun cdv A outer s H vs Q E hr h => ?_)
  · obtain ⟨n, d, r, w, rfl, _⟩ := h
    rfl
  · obtain ⟨n, d, r, w, rfl, on, od, or', ow, fw, k⟩ := h
    refine ⟨_, (pss_cons (ps_if (pt_not (pt_val (pe_call (ok_is_number T) (hr.mono (by decide)) rfl T.is_number.mgf T.is_number.kp T.is_number.bi .nil pass0 (pa_cons (pv 0) pa_nil))))
        (pss_one (ps_raise T.x_NoNumber rfl rfl T.mg_NoNumber rz_def (pa_cons pe_str pa_nil)))
        pss_nil)
      (pss_cons (ps_if (pt_not (pt_val (pe_call (ok_is_day T) (hr.mono (by decide)) rfl T.is_day.mgf T.is_day.kp T.is_day.bi .nil pass0 (pa_cons (pv 1) pa_nil))))
        (pss_one (ps_raise T.x_NoDay rfl rfl T.mg_NoDay rz_def (pa_cons pe_str pa_nil)))
        pss_nil)
      (pss_cons (ps_if (pt_not (pt_val (pe_call (ok_is_rank T) (hr.mono (by decide)) rfl T.is_rank.mgf T.is_rank.kp T.is_rank.bi .nil pass0 (pa_cons (pv 2) pa_nil))))
        (pss_one (ps_raise T.x_NoRank rfl rfl T.mg_NoRank rz_def (pa_cons pe_str pa_nil)))
        pss_nil)
      (pss_one (ps_if (pt_not (pt_val (pe_call (ok_is_word T) (hr.mono (by decide)) rfl T.is_word.mgf T.is_word.kp T.is_word.bi .nil pass0 (pa_cons (pv 3) pa_nil))))
        (pss_one (ps_raise T.x_NoWord rfl rfl T.mg_NoWord rz_def (pa_cons pe_str pa_nil)))
        pss_nil))))), ?_⟩
    walk_at "rd"
    refine ⟨on, ?_⟩
    walk_at "rd"
    refine iteB (fun h1 => ?_) (fun h1 => ?_)
    · have h1 : inR 1000000000 n = false := by simpa using h1
      have e : whyH n d r w = 1 := by unfold whyH; rw [if_pos h1]
      have q := (k H (Same.refl H)).2 (by rw [e]; decide)
      rw [e] at q
      exact ⟨le_ble rfl, q⟩
    have h1 : ¬ inR 1000000000 n = false := by simpa using h1
    walk_at "rd"
    refine ⟨od, ?_⟩
    walk_at "rd"
    refine iteB (fun h2 => ?_) (fun h2 => ?_)
    · have h2 : inR 1000000 d = false := by simpa using h2
      have e : whyH n d r w = 2 := by unfold whyH; rw [if_neg h1, if_pos h2]
      have q := (k H (Same.refl H)).2 (by rw [e]; decide)
      rw [e] at q
      exact ⟨le_ble rfl, q⟩
    have h2 : ¬ inR 1000000 d = false := by simpa using h2
    walk_at "rd"
    refine ⟨or', ?_⟩
    walk_at "rd"
    refine iteB (fun h3 => ?_) (fun h3 => ?_)
    · have h3 : isRank r = false := by simpa using h3
      have e : whyH n d r w = 3 := by unfold whyH; rw [if_neg h1, if_neg h2, if_pos h3]
      have q := (k H (Same.refl H)).2 (by rw [e]; decide)
      rw [e] at q
      exact ⟨le_ble rfl, q⟩
    have h3 : ¬ isRank r = false := by simpa using h3
    walk_at "rd"
    refine ⟨ow, fw, fun H' s1 => ?_⟩
    walk_at "rd"
    refine iteB (fun h4 => ?_) (fun h4 => ?_)
    · have h4 : isWord w = false := by simpa using h4
      have e : whyH n d r w = 4 := by unfold whyH; rw [if_neg h1, if_neg h2, if_neg h3, if_pos h4]
      have q := (k H' s1).2 (by rw [e]; decide)
      rw [e] at q
      exact ⟨le_ble rfl, q⟩
    have h4 : ¬ isWord w = false := by simpa using h4
    exact (k H' s1).1 (by unfold whyH; rw [if_neg h1, if_neg h2, if_neg h3, if_neg h4])
set_option maxHeartbeats 4000000 in
theorem ok_under_fits (T : Txt w K mg c) : FnOk P w K mg base CX0 3 c.a_under_fits c.d_under_fits ["rank", "under"] (spUnder K) := by
  refine T.under_fits.fn.ok sc_under_fits (fun vs H Q E h => ?_) (fun cdv A outer s H vs Q E hr h => ?_)
  · obtain ⟨z, u, rfl, _⟩ := h
    rfl
  · obtain ⟨z, u, rfl, ou, k⟩ := h
    refine ⟨_, (pss_cons (ps_if (pt_cmpR op_eq (pv 0) pe_str (nomark _))
        (pss_one (ps_ret (pe_cmp (pc_isN (pv 1)))))
        pss_nil)
      (pss_one (ps_ret (pe_call (ok_is_number T) (hr.mono (by decide)) rfl T.is_number.mgf T.is_number.kp T.is_number.bi .nil pass0 (pa_cons (pv 1) pa_nil))))), ?_⟩
    walk_at "rd"
    refine ite2 (fun h => ?_) (fun h => ?_)
    · have e : underFits (.str z) u = decide (u = .non) := by unfold underFits; rw [if_pos (of_decide_eq_true h)]
      rw [e] at k
      walk_at "rd"
      exact k
    · have e : underFits (.str z) u = inR 1000000000 u := by unfold underFits; rw [if_neg (fun q => h (decide_eq_true q))]
      rw [e] at k
      exact ⟨_, rfl, u, rfl, ou, k⟩
set_option maxHeartbeats 4000000 in
theorem ok_tie_fits (T : Txt w K mg c) : FnOk P w K mg base CX0 3 c.a_tie_fits c.d_tie_fits ["rank", "sheet", "base"] (spTie K) := by
  refine T.tie_fits.fn.ok sc_tie_fits (fun vs H Q E h => ?_) (fun cdv A outer s H vs Q E hr h => ?_)
  · obtain ⟨z, s', b, rfl, _⟩ := h
    rfl
  · obtain ⟨z, s', b, rfl, os, ob, k⟩ := h
    refine ⟨_, (pss_cons (ps_if (pt_cmp (pc_isN (pv 2)))
        (pss_one (ps_ret (pe_call (ok_is_number T) (hr.mono (by decide)) rfl T.is_number.mgf T.is_number.kp T.is_number.bi .nil pass0 (pa_cons (pv 1) pa_nil))))
        pss_nil)
      (pss_one (ps_ret (pe_and (pe_cmpR op_ne (pv 0) pe_str (nomark _)) (pe_and (pe_cmp (pc_isN (pv 1))) (pe_one (pe_call (ok_is_number T) (hr.mono (by decide)) rfl T.is_number.mgf T.is_number.kp T.is_number.bi .nil pass0 (pa_cons (pv 2) pa_nil)))))))), ?_⟩
    walk_at "rd"
    refine ite2 (fun h => ?_) (fun h => ?_)
    · have e : tieFits (.str z) s' b = inR 1000000000 s' := by unfold tieFits; rw [if_pos (of_decide_eq_true h)]
      rw [e] at k
      exact ⟨_, rfl, s', rfl, os, k⟩
    have hb : ¬ b = .non := fun q => h (decide_eq_true q)
    walk_at "rd"
    refine iteB (fun h1 => ?_) (fun h1 => ?_)
    · walk_at "rd"
      refine iteB (fun h2 => ?_) (fun h2 => ?_)
      · have e : tieFits (.str z) s' b = inR 1000000000 b := by
          unfold tieFits
          rw [if_neg hb, h1, h2]
          rfl
        rw [e] at k
        exact ⟨_, rfl, b, rfl, ob, k⟩
      · have e : tieFits (.str z) s' b = false := by
          unfold tieFits
          rw [if_neg hb, h2]
          simp
        rw [e] at k
        exact k
    · have e : tieFits (.str z) s' b = false := by
        unfold tieFits
        rw [if_neg hb, h1]
        rfl
      rw [e] at k
      exact k
set_option maxHeartbeats 4000000 in
theorem ok_Entry_init (T : Txt w K mg c) : FnOk P w K mg base (CXx P w) 4 c.a_Entry_init c.d_Entry_init ["self", "number", "day", "rank", "word", "under", "sheet", "base", "described"] (spInit K c.c_Entry ⟨c.c_NoNumber, c.c_NoDay, c.c_NoRank, c.c_NoWord, c.c_NoEntry⟩) := by
  refine T.Entry_init.okx sc_Entry_init (fun vs H Q E h => ?_) (fun cdv A outer s H vs Q E hr h => ?_)
  · obtain ⟨a, dx, n, d, r, w, u, s', b, kk, rfl, _⟩ := h
    rfl
  · obtain ⟨a, dx, n, d, r, w, u, s', b, kk, rfl, ha, on, od, or', ow, fw, ou, os, ob, k⟩ := h
    refine ⟨_, (pss_cons (ps_expr (pe_callS (ok_refuse_head T) (hr.mono (by decide)) rfl T.refuse_head.mgf T.refuse_head.kp T.refuse_head.bi .nil pass_def (pa_cons (pv 1) (pa_cons (pv 2) (pa_cons (pv 3) (pa_cons (pv 4) pa_nil))))))
      (pss_cons (ps_if (pt_not (pt_val (pe_call (ok_under_fits T) (hr.mono (by decide)) rfl T.under_fits.mgf T.under_fits.kp T.under_fits.bi .nil pass0 (pa_cons (pv 3) (pa_cons (pv 5) pa_nil)))))
        (pss_one (ps_raise T.x_NoEntry rfl rfl T.mg_NoEntry rz_def (pa_cons pe_str pa_nil)))
        pss_nil)
      (pss_cons (ps_if (pt_not (pt_val (pe_call (ok_tie_fits T) (hr.mono (by decide)) rfl T.tie_fits.mgf T.tie_fits.kp T.tie_fits.bi .nil pass0 (pa_cons (pv 3) (pa_cons (pv 6) (pa_cons (pv 7) pa_nil))))))
        (pss_one (ps_raise T.x_NoEntry rfl rfl T.mg_NoEntry rz_def (pa_cons pe_str pa_nil)))
        pss_nil)
      (pss_cons (ps_fld (pv 0) (pv 1) rfl)
      (pss_cons (ps_fld (pv 0) (pv 2) rfl)
      (pss_cons (ps_fld (pv 0) (pv 3) rfl)
      (pss_cons (ps_fld (pv 0) (pv 4) rfl)
      (pss_cons (ps_fld (pv 0) (pv 5) rfl)
      (pss_cons (ps_fld (pv 0) (pv 6) rfl)
      (pss_cons (ps_fld (pv 0) (pv 7) rfl)
      (pss_one (ps_fld (pv 0) (pv 8) rfl)))))))))))), ?_⟩
    refine ⟨_, rfl, _, rfl, _, rfl, _, rfl, n, d, r, w, rfl, on, od, or', ow, fw, fun H' s1 => ⟨fun h0 => ?_, fun h0 => ?_⟩⟩
    rotate_left
    · have e : why n d r w u s' b = whyH n d r w := by unfold why; rw [if_pos h0]
      have q := (k H' s1).2 (by rw [e]; exact h0)
      rw [e] at q
      exact q
    have hr3 : ∃ z : Str, r = .str z := by
      unfold whyH at h0
      split at h0
      · cases h0
      · split at h0
        · cases h0
        · split at h0
          · cases h0
          · rename_i q
            cases r <;> first | exact ⟨_, rfl⟩ | exact absurd rfl q
    obtain ⟨z, rfl⟩ := hr3
    refine ⟨_, rfl, _, rfl, z, u, rfl, ou.same s1, _, rfl, ?_⟩
    refine iteB (fun h1 => ?_) (fun h1 => ?_)
    · have h1 : underFits (.str z) u = false := by simpa using h1
      have e : why n d (.str z) w u s' b = 5 := by unfold why; rw [if_neg (by rw [h0]; decide), if_pos h1]
      have q := (k H' s1).2 (by rw [e]; decide)
      rw [e] at q
      exact ⟨le_ble rfl, q⟩
    have h1 : ¬ underFits (.str z) u = false := by simpa using h1
    refine ⟨_, rfl, _, rfl, _, rfl, z, s', b, rfl, os.same s1, ob.same s1, _, rfl, ?_⟩
    refine iteB (fun h2 => ?_) (fun h2 => ?_)
    · have h2 : tieFits (.str z) s' b = false := by simpa using h2
      have e : why n d (.str z) w u s' b = 5 := by unfold why; rw [if_neg (by rw [h0]; decide), if_neg h1, if_pos h2]
      have q := (k H' s1).2 (by rw [e]; decide)
      rw [e] at q
      exact ⟨le_ble rfl, q⟩
    have h2 : ¬ tieFits (.str z) s' b = false := by simpa using h2
    have q := (k H' s1).1 (by unfold why; rw [if_neg (by rw [h0]; decide), if_neg h1, if_neg h2])
    have a0 := s1 _ _ ha
    refine ⟨_, rfl, _, rfl, a, c.c_Entry, dx, _, rfl, a0, T.cl_Entry, T.na_Entry_number, le_ble rfl, ?_⟩
    refine ⟨_, rfl, _, rfl, a, c.c_Entry, dx, _, rfl, upd_same, T.cl_Entry, T.na_Entry_day, le_ble rfl, ?_⟩
    refine ⟨_, rfl, _, rfl, a, c.c_Entry, dx, _, rfl, upd_same, T.cl_Entry, T.na_Entry_rank, le_ble rfl, ?_⟩
    refine ⟨_, rfl, _, rfl, a, c.c_Entry, dx, _, rfl, upd_same, T.cl_Entry, T.na_Entry_word, le_ble rfl, ?_⟩
    refine ⟨_, rfl, _, rfl, a, c.c_Entry, dx, _, rfl, upd_same, T.cl_Entry, T.na_Entry_under, le_ble rfl, ?_⟩
    refine ⟨_, rfl, _, rfl, a, c.c_Entry, dx, _, rfl, upd_same, T.cl_Entry, T.na_Entry_sheet, le_ble rfl, ?_⟩
    refine ⟨_, rfl, _, rfl, a, c.c_Entry, dx, _, rfl, upd_same, T.cl_Entry, T.na_Entry_base, le_ble rfl, ?_⟩
    refine ⟨_, rfl, _, rfl, a, c.c_Entry, dx, _, rfl, upd_same, T.cl_Entry, T.na_Entry_described, le_ble rfl, ?_⟩
    rw [upd_upd, upd_upd, upd_upd, upd_upd, upd_upd, upd_upd, upd_upd]
    exact q
set_option maxHeartbeats 4000000 in
theorem ok_whole_of (T : Txt w K mg c) : FnOk P w K mg base CX0 1 c.a_whole_of c.d_whole_of ["word", "most"] (spOf) := by
  refine T.whole_of.fn.ok sc_whole_of (fun vs H Q E h => ?_) (fun cdv A outer s H vs Q E hr h => ?_)
  · obtain ⟨z, m, rfl, _⟩ := h
    rfl
  · obtain ⟨z, m, rfl, hz, h0, h1, k⟩ := h
    refine ⟨_, (pss_cons (ps_if (PW.pt (pw_or (pt_not (pt_val (pe_callB call_isiA rfl T.no_isinstance bt_isinstance (pa_cons (pv 0) (pa_cons (pe_bltn (v := .ty "str") rfl T.no_str bt_str rfl) pa_nil))))) (pw_or1 (pt_cmpR op_eq (pv 0) pe_str (nomark _)))))
        (pss_one (ps_ret pe_non))
        pss_nil)
      (pss_cons (ps_if (pt_cmpR op_gt (pe_callB call_len_str rfl T.no_len bt_len (pa_cons (pv 0) pa_nil)) (pe_callB call_len_str rfl T.no_len bt_len (pa_cons (pe_callTy call_str_int rfl T.no_str bt_str (pa_cons (pv 1) pa_nil)) pa_nil)) (nomark _))
        (pss_one (ps_ret pe_non))
        pss_nil)
      (pss_cons (ps_if (pt_not (pt_val (pe_callB (call_all rfl) rfl T.no_all bt_all (pa_cons (pe_comp (N' := ["sign"]) (js := [none]) rfl rfl (by decide +kernel) (by decide +kernel) (free_nil (by decide +kernel)) (cap_nil rfl rfl) (pi_str (pv 0)) (fun B => ⟨(pg_name (i := 0) (show List.Nodup (["sign"] : List Str) by decide +kernel) rfl (Or.inl rfl)), pifs_nil, (pe_chain op_le_str op_le_str pe_str (pv 0) pe_str)⟩)) pa_nil))))
        (pss_one (ps_ret pe_non))
        pss_nil)
      (pss_cons (ps_if (PW.pt (pw_and (pt_cmpR op_ne (pv 0) pe_str (nomark _)) (pw_and1 (pt_cmpR op_eq (pe_ix ix_str (pv 0) pe_int (fun _ _ => rfl)) pe_str (nomark _)))))
        (pss_one (ps_ret pe_non))
        pss_nil)
      (pss_cons (ps_set (i := 2) sc_whole_of.nd rfl (Or.inl rfl) (pe_callTy call_int_text rfl T.no_int bt_int (pa_cons (pv 0) pa_nil)))
      (pss_one (ps_ret (pe_ifExp (pt_cmpR op_le (pv 2) (pv 1) (nomark _)) (pv 2) pe_non)))))))), ?_⟩
    refine ⟨_, rfl, rIsiA.str Own.str ⟨_, rfl, iteF ?_⟩⟩
    walk_at "rd"
    have h80 : (200 : Nat) ≤ sizeLine := le_ble rfl
    have zl := len_l z
    have fin0 : ∀ G, Same H G → numV z m = .non → Q .non G := fun G s e => by rw [← e]; exact k G s
    refine ite2 (fun g => ?_) (fun g => ?_)
    · have e : z = "" := V.str.inj (of_decide_eq_true g)
      subst e
      exact fin0 _ (Same.refl H) (numV_non rfl)
    have hne : z.cps.toList ≠ [] := fun q => g (decide_eq_true (congrArg V.str (nil_of q)))
    walk_at "rd"
    refine ⟨by omega, ?_⟩
    walk_at "rd"
    have e13 : (Str.ofString (toString m)).length ≤ 13 := by
      rw [num_len h0]
      exact Nat.le_trans (digits_mono 1000000000000 m.toNat (by omega)) (le_ble (by decide +kernel))
    refine ⟨?_, ?_⟩
    · rcases Nat.eq_zero_or_pos m.natAbs with e | e
      · rw [e]; decide
      · exact (Nat.log2_lt (by omega)).mpr (Nat.lt_of_le_of_lt (show m.natAbs ≤ 1000000000000 by omega) (by decide +kernel))
    walk_at "rd"
    refine ⟨by omega, ?_⟩
    walk_at "rd"
    refine ite2 (fun g2 => ?_) (fun g2 => ?_)
    · refine fin0 _ (Same.refl H) ?_
      cases hn : isNum z.cps.toList with
      | false => exact numV_non hn
      | true =>
        refine numV_more ?_
        have g2 := of_decide_eq_true g2
        unfold isNum at hn
        rw [Bool.and_eq_true] at hn
        have hl := num_len h0
        have := digits_more (m := m.toNat) (all_fig hn.2) ?_ (by omega)
        · unfold val; omega
        · revert hn
          generalize z.cps.toList = cs
          intro hn
          match cs, hn.1 with
          | c :: r, h =>
            unfold headOk at h
            rw [Bool.or_eq_true] at h
            rcases h with h | h
            · rw [of_decide_eq_true h]; exact .inl rfl
            · have h : c ≠ 48 := fun q => by rw [q] at h; exact absurd h (by decide)
              have hc := (all_fig hn.2) c (List.mem_cons_self ..)
              exact .inr ⟨c, r, rfl, by omega⟩
    walk_at "rd"
    refine fun l B hl => ?_
    refine loop_by z.cps.size (fun i σ acc H' => (∃ o, σ = [o]) ∧ acc = (z.cps.toList.take i).map (fun c => V.bl (fig c)) ∧ H' = upd H l (.lst acc)) (by show z.length ≤ _; omega) ?_ ?_ ?_ ?_ ?_
    · exact ⟨⟨_, rfl⟩, rfl, rfl⟩
    · rintro i σ acc H' hi ⟨_, e, e'⟩
      refine ⟨by rw [e']; exact upd_same, ?_⟩
      rw [e, List.length_map, List.length_take]
      omega
    · intro i σ acc H' hi _
      exact hi
    · rintro i x σ acc H' H'' hi ⟨⟨o, rfl⟩, e, e'⟩ ⟨rfl, c, hc, rfl⟩
      have hc' : z.cps.toList[i]? = some c := by simpa using hc
      have fin : ∀ b, b = fig c → H'' l = some (.lst acc) ∧ Nx z.cps.size i ((∃ o, ([o].set 0 (some (V.str ⟨#[c]⟩)) : St) = [o]) ∧ acc ++ [V.bl b] = (z.cps.toList.take (i + 1)).map (fun c => V.bl (fig c)) ∧ upd H'' l (.lst (acc ++ [V.bl b])) = upd H l (.lst (acc ++ [V.bl b]))) := by
        intro b eb
        refine ⟨by rw [e']; exact upd_same, Nx.mk hi ⟨⟨_, rfl⟩, ?_, by rw [e', upd_upd]⟩⟩
        rw [take_one hc', List.map_append, ← e, eb]
        rfl
      walk_at "rd"
      rw [le_0]
      refine ite2 (fun g1 => ?_) (fun g1 => ?_)
      · walk_at "rd"
        refine fin _ ?_
        rw [le_9]
        unfold fig
        rw [g1]
        rfl
      · refine fin _ ?_
        unfold fig
        rw [eq_false_of_ne_true g1]
        rfl
    rintro σ acc H' ⟨_, e, e'⟩
    refine ⟨rfl, l, z.cps.toList.map fig, rfl, SqL.of (by rw [e', upd_same, e, List.take_of_length_le (by simp)]; simp), ?_⟩
    have sH : Same H H' := by rw [e']; exact Same.new hl
    have ea : (z.cps.toList.map fig).all id = z.cps.toList.all fig := by rw [List.all_map]; rfl
    rw [ea]
    clear e e'
    refine ⟨_, rfl, ?_⟩
    cases ha : z.cps.toList.all fig with
    | false => exact iteT (fin0 _ sH (numV_non (isNum_fig ha)))
    | true =>
      refine iteF ?_
      obtain ⟨c0, r0, ec⟩ := List.exists_cons_of_ne_nil hne
      have at0 : atI z.cps.toList 0 = some c0 := by rw [ec]; exact atI_nat (j := 0) (xs := c0 :: r0) rfl
      refine ⟨_, rfl, rfl, _, rfl, ?_⟩
      refine ite2 (fun g3 => ?_) (fun g3 => ?_)
      · have n0 : z ≠ "0" := fun q => by subst q; exact absurd g3 (by decide +kernel)
        refine ⟨_, rfl, _, _, c0, rfl, rfl, by omega, at0, rfl, _, rfl, ?_⟩
        refine ite2 (fun g4 => ?_) (fun g4 => ?_)
        · have e48 : c0 = 48 := by
            have q := congrArg (fun x : Str => x.cps.toList) (V.str.inj (of_decide_eq_true g4))
            have q : [c0] = [48] := q
            exact (List.cons.inj q).1
          refine fin0 _ sH (numV_non (isNum_head ?_))
          rw [ec, e48]
          rw [headOk_cons]
          have : r0 ≠ [] := fun q => n0 (ext_l (by rw [ec, e48, q]; rfl))
          rw [decide_eq_false this]
          rfl
        have hh : headOk z.cps.toList = true := by
          rw [ec]
          rw [headOk_cons]
          have : c0 ≠ 48 := fun q => g4 (by rw [q]; decide +kernel)
          rw [decide_eq_false this, Bool.not_false, Bool.or_true]
        refine ⟨_, rfl, z, val z.cps.toList, rfl, intText_digits (all_fig ha) hne (by omega), by omega, ?_⟩
        walk_at "rd"
        have en : isNum z.cps.toList = true := by unfold isNum; rw [hh, ha]; rfl
        refine ite2 (fun g => ?_) (fun g => ?_)
        · walk_at "rd"
          rw [← numV_is en (of_decide_eq_true g)]
          exact k _ sH
        · refine fin0 _ sH (numV_more ?_)
          have : ¬ val z.cps.toList ≤ m := fun q => g (decide_eq_true q)
          omega
      · have e0 : z = "0" := by
          have := Decidable.of_not_not (p := V.str z = V.str (Str.ofString "0")) (fun q => g3 (by rw [decide_eq_false q]; rfl))
          exact V.str.inj this
        have hh : headOk z.cps.toList = true := by rw [e0]; rfl
        refine ⟨_, rfl, z, val z.cps.toList, rfl, intText_digits (all_fig ha) hne (by omega), by omega, ?_⟩
        walk_at "rd"
        have en : isNum z.cps.toList = true := by unfold isNum; rw [hh, ha]; rfl
        refine ite2 (fun g => ?_) (fun g => ?_)
        · walk_at "rd"
          rw [← numV_is en (of_decide_eq_true g)]
          exact k _ sH
        · refine fin0 _ sH (numV_more ?_)
          have : ¬ val z.cps.toList ≤ m := fun q => g (decide_eq_true q)
          omega
set_option maxHeartbeats 4000000 in
theorem ok_day_of (T : Txt w K mg c) : FnOk P w K mg base CX0 2 c.a_day_of c.d_day_of ["word"] (spNumOf 1000000) := by
  refine T.day_of.fn.ok sc_day_of (fun vs H Q E h => ?_) (fun cdv A outer s H vs Q E hr h => ?_)
  · obtain ⟨z, rfl, _⟩ := h
    rfl
  · obtain ⟨z, rfl, hz, k⟩ := h
    refine ⟨_, (pss_one (ps_ret (pe_call (ok_whole_of T) (hr.mono (by decide)) rfl T.whole_of.mgf T.whole_of.kp T.whole_of.bi .nil pass0 (pa_cons (pv 0) (pa_cons (pe_glob rfl T.mg_LAST_DAY T.rl_LAST_DAY) pa_nil))))), ?_⟩
    exact ⟨_, rfl, z, 1000000, rfl, hz, by decide, by decide, k⟩
set_option maxHeartbeats 4000000 in
theorem ok_number_of (T : Txt w K mg c) : FnOk P w K mg base CX0 2 c.a_number_of c.d_number_of ["word"] (spNumOf 1000000000) := by
  refine T.number_of.fn.ok sc_number_of (fun vs H Q E h => ?_) (fun cdv A outer s H vs Q E hr h => ?_)
  · obtain ⟨z, rfl, _⟩ := h
    rfl
  · obtain ⟨z, rfl, hz, k⟩ := h
    refine ⟨_, (pss_one (ps_ret (pe_call (ok_whole_of T) (hr.mono (by decide)) rfl T.whole_of.mgf T.whole_of.kp T.whole_of.bi .nil pass0 (pa_cons (pv 0) (pa_cons (pe_glob rfl T.mg_LAST_NUMBER T.rl_LAST_NUMBER) pa_nil))))), ?_⟩
    exact ⟨_, rfl, z, 1000000000, rfl, hz, by decide, by decide, k⟩
set_option maxHeartbeats 4000000 in
theorem ok_entry_of (T : Txt w K mg c) : FnOk P w K mg base CX0 6 c.a_entry_of c.d_entry_of ["head", "under", "tie", "bare"] (spEntOf c.c_Entry) := by
  refine T.entry_of.fn.ok sc_entry_of (fun vs H Q E h => ?_) (fun cdv A outer s H vs Q E hr h => ?_)
  · obtain ⟨h, t, z0, z1, z2, z3, u, t0, t1, b, rfl, _⟩ := h
    rfl
  · obtain ⟨h, t, z0, z1, z2, z3, u, t0, t1, b, rfl, hh, ht, hu, l0, l1, l3, lt, k0, k1⟩ := h
    refine ⟨_, (pss_cons (ps_set (i := 4) sc_entry_of.nd rfl (Or.inl rfl) pe_non)
      (pss_cons (ps_set (i := 5) sc_entry_of.nd rfl (Or.inl rfl) pe_non)
      (pss_cut (ps_if (pt_cmpR op_eq (pe_ix ix_list (pv 2) pe_int (fun _ _ => rfl)) pe_str (nomark _))
        (pss_one (ps_set (i := 4) sc_entry_of.nd rfl (Or.inl rfl) (pe_call (ok_number_of T) (hr.mono (by decide)) rfl T.number_of.mgf T.number_of.kp T.number_of.bi .nil pass0 (pa_cons (pe_ix ix_list (pv 2) pe_int (fun _ _ => rfl)) pa_nil))))
        (pss_one (ps_if (PW.pt (pw_and (pt_cmpR op_eq (pe_ix ix_list (pv 2) pe_int (fun _ _ => rfl)) pe_str (nomark _)) (pw_and1 (pt_not (pt_val (pv 3))))))
        (pss_one (ps_set (i := 5) sc_entry_of.nd rfl (Or.inl rfl) (pe_call (ok_number_of T) (hr.mono (by decide)) rfl T.number_of.mgf T.number_of.kp T.number_of.bi .nil pass0 (pa_cons (pe_ix ix_list (pv 2) pe_int (fun _ _ => rfl)) pa_nil))))
        pss_nil)))
      (pss_one (ps_tryN rfl rfl rfl rfl T.mg_RightError (fun Ez pins W hp =>
        (pss_one (ps_ret (pe_makeS T.mk_Entry (ok_Entry_init T) (hr.mono (by decide)) rfl T.mg_Entry T.b_Entry_8 hp (pa_cons (pe_call (ok_number_of T) (hr.mono (by decide)) rfl T.number_of.mgf T.number_of.kp T.number_of.bi .nil pass0 (pa_cons (pe_ix ix_list (pv 0) pe_int (fun _ _ => rfl)) pa_nil)) (pa_cons (pe_call (ok_day_of T) (hr.mono (by decide)) rfl T.day_of.mgf T.day_of.kp T.day_of.bi .nil pass0 (pa_cons (pe_ix ix_list (pv 0) pe_int (fun _ _ => rfl)) pa_nil)) (pa_cons (pe_ix ix_list (pv 0) pe_int (fun _ _ => rfl)) (pa_cons (pe_ix ix_list (pv 0) pe_int (fun _ _ => rfl)) (pa_cons (pv 1) (pa_cons (pv 4) (pa_cons (pv 5) (pa_cons (pe_not (pv 3)) pa_nil)))))))) pk_nil))))
        (fun e => (pss_one (ps_ret pe_non)))))))), ?_⟩
    have f0 : atI [V.str t0, V.str t1] 0 = some (.str t0) := atI_nat (j := 0) rfl
    have f1 : atI [V.str t0, V.str t1] 1 = some (.str t1) := atI_nat (j := 1) rfl
    refine ⟨fun σ' G' => Same H G' ∧ σ' = [some (.ref h), some u, some (.ref t), some (.bl b), some (sV t0 t1), some (bV t0 t1 b)], ?_, ?_⟩
    · refine ⟨_, rfl, t, _, _, _, rfl, rfl, SqL.of ht, f0, rfl, _, rfl, ?_⟩
      refine ite2 (fun q => ?_) (fun q => ?_)
      · have q := of_decide_eq_true q
        have e1 : sV t0 t1 = numV t1 1000000000 := if_pos q
        have e2 : bV t0 t1 b = .non := if_pos q
        rw [e1, e2]
        exact ⟨_, rfl, t, _, _, _, rfl, rfl, SqL.of ht, f1, t1, rfl, lt, fun G sG => ⟨sG, rfl⟩⟩
      · have q : ¬ V.str t0 = V.str (Str.ofString "tied") := fun w => q (decide_eq_true w)
        have e1 : sV t0 t1 = .non := if_neg q
        have e2 : bV t0 t1 b = if V.str t0 = V.str (Str.ofString "of") ∧ b = false then numV t1 1000000000 else .non := if_neg q
        rw [e1, e2]
        refine ⟨_, rfl, t, _, _, _, rfl, rfl, SqL.of ht, f0, rfl, _, rfl, ?_⟩
        refine ite2 (fun q2 => ?_) (fun q2 => ?_)
        · have q2 := of_decide_eq_true q2
          refine ⟨_, rfl, _, rfl, ?_⟩
          cases b with
          | true =>
            have e3 : (if V.str t0 = V.str (Str.ofString "of") ∧ true = false then numV t1 1000000000 else V.non) = V.non := if_neg (fun w => nomatch w.2)
            rw [e3]
            exact iteF ⟨Same.refl H, rfl⟩
          | false =>
            have e3 : (if V.str t0 = V.str (Str.ofString "of") ∧ false = false then numV t1 1000000000 else V.non) = numV t1 1000000000 := if_pos ⟨q2, rfl⟩
            rw [e3]
            exact iteT ⟨_, rfl, t, _, _, _, rfl, rfl, SqL.of ht, f1, t1, rfl, lt, fun G sG => ⟨sG, rfl⟩⟩
        · have e3 : (if V.str t0 = V.str (Str.ofString "of") ∧ b = false then numV t1 1000000000 else V.non) = V.non := if_neg (fun w => q2 (decide_eq_true w.1))
          rw [e3]
          exact iteF ⟨Same.refl H, rfl⟩
    rintro σ G ⟨sG, rfl⟩
    have hh := sG _ _ hh
    have g0 : atI [V.str z0, V.str z1, V.str z2, V.str z3] 0 = some (.str z0) := atI_nat (j := 0) rfl
    have g1 : atI [V.str z0, V.str z1, V.str z2, V.str z3] 1 = some (.str z1) := atI_nat (j := 1) rfl
    have g2 : atI [V.str z0, V.str z1, V.str z2, V.str z3] 2 = some (.str z2) := atI_nat (j := 2) rfl
    have g3 : atI [V.str z0, V.str z1, V.str z2, V.str z3] 3 = some (.str z3) := atI_nat (j := 3) rfl
    have hs := sV_num t0 t1
    have hb := bV_num t0 t1 b
    obtain ⟨wy, hw⟩ : ∃ wy, whyR z0 z1 z2 z3 u t0 t1 b = wy := ⟨_, rfl⟩
    have wy5 : wy ≤ 5 := by
      rw [← hw]
      unfold whyR why
      split
      · unfold whyH
        repeat (first | split | decide)
      · repeat (first | split | decide)
    refine ⟨fun σ1 C dd H1 => Same H H1 ∧ partE z0 z1 z2 z3 u t0 t1 b = none ∧ (C = .ref c.c_NoNumber ∨ C = .ref c.c_NoDay ∨ C = .ref c.c_NoRank ∨ C = .ref c.c_NoWord ∨ C = .ref c.c_NoEntry), fun pins W => ?_, ?_⟩
    · refine ⟨_, rfl, h, _, _, _, rfl, rfl, SqL.of hh, g1, z1, rfl, l1, fun G1 s1 => ?_⟩
      refine ⟨_, rfl, h, _, _, _, rfl, rfl, SqL.of (s1 _ _ hh), g0, z0, rfl, l0, fun G2 s2 => ?_⟩
      have s12 := s1.trans s2
      refine ⟨_, rfl, h, _, _, _, rfl, rfl, SqL.of (s12 _ _ hh), g2, _, rfl, h, _, _, _, rfl, rfl, SqL.of (s12 _ _ hh), g3, _, rfl, _, rfl, _, rfl, _, rfl, ?_⟩
      refine ⟨_, rfl, rfl, rfl, fun xa dx hxa hdx ne => ?_⟩
      refine ⟨xa, dx, numV z1 1000000000, numV z0 1000000, .str z2, .str z3, u, sV t0 t1, bV t0 t1 b, .bl (!b), rfl, upd_same, (numV_num _ _).own, (numV_num _ _).own, Own.str, Own.str, Nat.le_trans l3 (le_ble rfl), hu.own, hs.own, hb.own, fun G3 s3 => ⟨fun h0 => ?_, fun h0 => ?_⟩⟩
      · obtain ⟨ef, okk⟩ := part_is hu h0
        have s4 := Same.upd (o := .ins c.c_Entry dx (fieldsE (enR z0 z1 z2 z3 u t0 t1 b))) ((Same.made hxa hdx ne).trans s3) hxa
        rw [ef]
        exact ⟨rfl, k1 _ (if_pos h0) okk _ _ (sG.trans (s12.trans s4)) ⟨xa, dx, rfl, upd_same⟩⟩
      · have pn : partE z0 z1 z2 z3 u t0 t1 b = none := if_neg h0
        have sA := (sG.trans s12).trans ((Same.made hxa hdx ne).trans s3)
        refine ⟨sA, pn, ?_⟩
        have hw : why (numV z1 1000000000) (numV z0 1000000) (.str z2) (.str z3) u (sV t0 t1) (bV t0 t1 b) = wy := hw
        rw [hw] at h0 ⊢
        match wy, h0, wy5 with
        | 0, h0, _ => exact absurd rfl h0
        | 1, _, _ => exact .inl rfl
        | 2, _, _ => exact .inr (.inl rfl)
        | 3, _, _ => exact .inr (.inr (.inl rfl))
        | 4, _, _ => exact .inr (.inr (.inr (.inl rfl)))
        | 5, _, _ => exact .inr (.inr (.inr (.inr rfl)))
    rintro σ1 C dd H1 ⟨s1, hn, hC⟩
    refine ⟨?_, fun e he => k0 hn _ (s1.trans (Same.new he))⟩
    rcases hC with rfl | rfl | rfl | rfl | rfl
    · exact T.e_NoNumber_RightError
    · exact T.e_NoDay_RightError
    · exact T.e_NoRank_RightError
    · exact T.e_NoWord_RightError
    · exact T.e_NoEntry_RightError
set_option maxHeartbeats 4000000 in
theorem ok_read_row (T : Txt w K mg c) : FnOk P w K mg base CX0 7 c.a_read_row c.d_read_row ["row"] (spReadRow c.c_Entry) := by
  refine T.read_row.fn.ok sc_read_row (fun vs H Q E h => ?_) (fun cdv A outer s H vs Q E hr h => ?_)
  · obtain ⟨z, rfl, _⟩ := h
    rfl
  · obtain ⟨z, rfl, hz, k0, k1⟩ := h
    refine ⟨_, (pss_cons (ps_if (pt_not (pt_val (pe_callB call_isiA rfl T.no_isinstance bt_isinstance (pa_cons (pv 0) (pa_cons (pe_bltn (v := .ty "str") rfl T.no_str bt_str rfl) pa_nil)))))
        (pss_one (ps_ret pe_non))
        pss_nil)
      (pss_cut (ps_set (i := 1) sc_read_row.nd rfl (Or.inl rfl) (pe_bm PySem.F.plainAttrs_str PySem.F.slot_str_split PySem.F.type_str_split mt_split (pv 0) (pa_cons pe_str pa_nil)))
      (pss_cut (ps_set (i := 2) sc_read_row.nd rfl (Or.inl rfl) (pe_cmpR op_eq (pe_ix ix_list (pv 1) (pe_un un_neg pe_int) (fun _ _ => rfl)) pe_str (nomark _)))
      (pss_cut (ps_if (pt_val (pv 2))
        (pss_one (ps_set (i := 1) sc_read_row.nd rfl (Or.inl rfl) (pe_slice sl_list (pv 1) po_none (po_some (pe_un un_neg pe_int)))))
        pss_nil)
      (pss_cut (ps_if (PW.pt (pw_and (pt_cmpR op_eq (pe_callB call_len_seq rfl T.no_len bt_len (pa_cons (pv 1) pa_nil)) pe_int (nomark _)) (pw_and1 (pt_cmpR op_eq (pe_ix ix_list (pv 1) pe_int (fun _ _ => rfl)) pe_str (nomark _)))))
        (pss_one (ps_ret (pe_call (ok_entry_of T) (hr.mono (by decide)) rfl T.entry_of.mgf T.entry_of.kp T.entry_of.bi .nil pass0 (pa_cons (pe_slice sl_list (pv 1) po_none (po_some pe_int)) (pa_cons pe_non (pa_cons (pe_slice sl_list (pv 1) (po_some pe_int) po_none) (pa_cons (pv 2) pa_nil)))))))
        pss_nil)
      (pss_cons (ps_if (PW.pt (pw_and (pt_cmpR op_eq (pe_callB call_len_seq rfl T.no_len bt_len (pa_cons (pv 1) pa_nil)) pe_int (nomark _)) (pw_and (pt_cmpR op_ne (pe_ix ix_list (pv 1) pe_int (fun _ _ => rfl)) pe_str (nomark _)) (pw_and1 (pt_cmpR op_eq (pe_ix ix_list (pv 1) pe_int (fun _ _ => rfl)) pe_str (nomark _))))))
        (pss_one (ps_ret (pe_call (ok_entry_of T) (hr.mono (by decide)) rfl T.entry_of.mgf T.entry_of.kp T.entry_of.bi .nil pass0 (pa_cons (pe_slice sl_list (pv 1) po_none (po_some pe_int)) (pa_cons (pe_call (ok_number_of T) (hr.mono (by decide)) rfl T.number_of.mgf T.number_of.kp T.number_of.bi .nil pass0 (pa_cons (pe_ix ix_list (pv 1) pe_int (fun _ _ => rfl)) pa_nil)) (pa_cons (pe_slice sl_list (pv 1) (po_some pe_int) po_none) (pa_cons (pv 2) pa_nil)))))))
        pss_nil)
      (pss_one (ps_ret pe_non)))))))), ?_⟩
    have sz : 2000 < sizeLine := le_ble rfl
    have hrow : rowE z = rowW (bareW (Txt.split z (Str.ofString " "))) (coreW (Txt.split z (Str.ofString " "))) := rfl
    have hl200 : ∀ x ∈ Txt.split z (Str.ofString " "), x.length ≤ 200 := fun x hx => Nat.le_trans (split_each (by decide +kernel) hx) hz
    have ne : Txt.split z (Str.ofString " ") ≠ [] := fun q => by
      have p := PyProof.Rows.split_pos z (Str.ofString " ")
      rw [q] at p
      exact absurd p (by decide)
    refine ⟨_, rfl, rIsiA.str Own.str ⟨_, rfl, iteF ?_⟩⟩
    refine ⟨fun σ' G' => Same H G' ∧ ∃ l, G' l = some (.lst ((Txt.split z (Str.ofString " ")).map V.str)) ∧ σ' = [some (.str z), some (.ref l), none], ?_, ?_⟩
    · exact ⟨_, rfl, rfl, z, _, rfl, rfl, by omega, by decide +kernel, fun l hl => ⟨Same.new hl, l, upd_same, rfl⟩⟩
    generalize Txt.split z (Str.ofString " ") = S at hrow hl200 ne
    rintro σ G ⟨sG, l, hl, rfl⟩
    refine ⟨fun σ' G' => G = G' ∧ σ' = [some (.str z), some (.ref l), some (.bl (bareW S))], ?_, ?_⟩
    · obtain ⟨I, x, eS⟩ : ∃ I x, S = I ++ [x] := ⟨_, _, (List.dropLast_concat_getLast ne).symm⟩
      have bw : bareW S = decide (V.str x = V.str (Str.ofString "bare")) := by unfold bareW; rw [eS, List.getLast?_concat]
      have fl : atI (S.map V.str) (-1) = some (.str x) := by rw [eS, List.map_append]; exact atI_last _ _
      rw [bw]
      walk_at "rd"
      refine ⟨l, _, _, _, rfl, rfl, SqL.of hl, fl, ?_⟩
      exact ⟨rfl, rfl, rfl⟩
    rintro σ G' ⟨rfl, rfl⟩
    refine ⟨fun σ' G' => Same H G' ∧ ∃ l2, G' l2 = some (.lst ((coreW S).map V.str)) ∧ σ' = [some (.str z), some (.ref l2), some (.bl (bareW S))], ?_, ?_⟩
    · refine ⟨_, rfl, _, rfl, ?_⟩
      unfold coreW
      cases hb : bareW S with
      | true =>
        refine iteT ?_
        walk_at "rd"
        refine ⟨l, _, rfl, SqL.of hl, fun p hp => ?_⟩
        rw [L2.cut_last (fun q => ne (List.map_eq_nil_iff.mp q)), ← List.map_dropLast]
        exact ⟨sG.trans (Same.new hp), p, upd_same, rfl⟩
      | false => exact iteF ⟨sG, l, hl, rfl⟩
    have hc200 : ∀ x ∈ coreW S, x.length ≤ 200 := fun x hx => hl200 x (by
      unfold coreW at hx
      split at hx
      · exact (List.dropLast_sublist _).subset hx
      · exact hx)
    generalize coreW S = C at hrow hc200
    generalize bareW S = b at hrow
    clear hl sG ne hl200 S G l
    rintro σ G ⟨sG, l, hl, rfl⟩
    have lm : ((C.map V.str).length : Int) = C.length := by rw [List.length_map]
    refine ⟨fun σ' G' => Same H G' ∧ σ' = [some (.str z), some (.ref l), some (.bl b)] ∧ G' l = some (.lst (C.map V.str)) ∧ (C.length = 6 → rowE z = none), ?_, ?_⟩
    · refine ⟨_, rfl, l, _, rfl, .inl (SqL.of hl), rfl, _, rfl, ?_⟩
      refine ite2 (fun q => ?_) (fun q => iteF ⟨sG, rfl, hl, fun w => absurd (decide_eq_true (by rw [lm, w]; rfl)) q⟩)
      have q := V.int.inj (of_decide_eq_true q)
      obtain ⟨a0, a1, a2, a3, a4, a5, rfl⟩ := list6 (l := C) (by rw [lm] at q; exact Int.ofNat.inj q)
      have f2 : atI ([a0, a1, a2, a3, a4, a5].map V.str) 2 = some (.str a2) := atI_nat (j := 2) rfl
      refine ⟨_, rfl, l, _, _, _, rfl, rfl, SqL.of hl, f2, rfl, _, rfl, ?_⟩
      refine ite2 (fun g => ?_) (fun g => ⟨sG, rfl, hl, fun _ => ?_⟩)
      · have g := of_decide_eq_true g
        have er : rowE z = partE a0 a1 a2 a3 .non a4 a5 b := by rw [hrow]; exact if_pos g
        walk_at "rd"
        refine ⟨l, _, rfl, SqL.of hl, fun p1 hp1 => ?_⟩
        have t1 := Same.new (o := HO.lst [V.str a0, V.str a1, V.str a2, V.str a3]) hp1
        walk_at "rd"
        refine ⟨l, _, rfl, SqL.of (t1 _ _ hl), fun p2 hp2 => ?_⟩
        have t2 := Same.new (o := HO.lst [V.str a4, V.str a5]) hp2
        have s2 := sG.trans (t1.trans t2)
        exact ⟨_, rfl, p1, p2, a0, a1, a2, a3, .non, a4, a5, b, rfl, t2 _ _ upd_same, upd_same, .inl rfl, hc200 _ (by simp), hc200 _ (by simp), hc200 _ (by simp), hc200 _ (by simp), fun h G' s' => k0 (er.trans h) _ (s2.trans s'), fun e h okk x G' s' hx => k1 e (er.trans h) okk _ _ (s2.trans s') hx⟩
      · rw [hrow]
        exact if_neg fun w => g (decide_eq_true w)
    rintro σ G1 ⟨s1, rfl, h1, h6⟩
    clear hl sG G
    refine ⟨_, rfl, l, _, rfl, .inl (SqL.of h1), rfl, _, rfl, ?_⟩
    have none8 : C.length ≠ 8 → rowE z = none := fun w => by
      by_cases w6 : C.length = 6
      · exact h6 w6
      · rw [hrow]; exact rowW_no w6 w
    refine ite2 (fun q => ?_) (fun q => iteF (k0 (none8 fun w => q (decide_eq_true (by rw [lm, w]; rfl))) _ s1))
    have q := V.int.inj (of_decide_eq_true q)
    obtain ⟨a0, a1, a2, a3, a4, a5, a6, a7, rfl⟩ := list8 (l := C) (by rw [lm] at q; exact Int.ofNat.inj q)
    have f2 : atI ([a0, a1, a2, a3, a4, a5, a6, a7].map V.str) 2 = some (.str a2) := atI_nat (j := 2) rfl
    have f4 : atI ([a0, a1, a2, a3, a4, a5, a6, a7].map V.str) 4 = some (.str a4) := atI_nat (j := 4) rfl
    have f5 : atI ([a0, a1, a2, a3, a4, a5, a6, a7].map V.str) 5 = some (.str a5) := atI_nat (j := 5) rfl
    refine ⟨_, rfl, l, _, _, _, rfl, rfl, SqL.of h1, f2, rfl, _, rfl, ?_⟩
    by_cases g : V.str a2 = V.str (Str.ofString "genus")
    · have er : rowE z = none := by rw [hrow]; exact if_pos g
      refine ite2 (fun w => ?_) (fun _ => iteF (k0 er _ s1))
      rw [decide_eq_true g] at w
      cases w
    refine ite2 (fun _ => ?_) (fun w => absurd (by rw [decide_eq_false g]; rfl) w)
    refine ⟨_, rfl, l, _, _, _, rfl, rfl, SqL.of h1, f4, rfl, _, rfl, ?_⟩
    have er : rowE z = if V.str a4 = V.str (Str.ofString "under") then partE a0 a1 a2 a3 (numV a5 1000000000) a6 a7 b else none := by rw [hrow]; exact if_neg g
    refine ite2 (fun w => ?_) (fun w => k0 (er.trans (if_neg fun v => w (decide_eq_true v))) _ s1)
    have er := er.trans (if_pos (of_decide_eq_true w))
    walk_at "rd"
    refine ⟨l, _, rfl, SqL.of h1, fun p1 hp1 => ?_⟩
    have t1 := Same.new (o := HO.lst [V.str a0, V.str a1, V.str a2, V.str a3]) hp1
    walk_at "rd"
    refine ⟨l, _, _, _, rfl, rfl, SqL.of (t1 _ _ h1), f5, a5, rfl, hc200 _ (by simp), fun G2 s2 => ?_⟩
    have s12 := t1.trans s2
    have kp1 := s2 _ _ (upd_same (H := G1) (a := p1) (o := .lst [V.str a0, V.str a1, V.str a2, V.str a3]))
    walk_at "rd"
    refine ⟨l, _, rfl, SqL.of (s12 _ _ h1), fun p2 hp2 => ?_⟩
    have t2 := Same.new (o := HO.lst [V.str a6, V.str a7]) hp2
    have s3 := s1.trans (s12.trans t2)
    exact ⟨_, rfl, p1, p2, a0, a1, a2, a3, numV a5 1000000000, a6, a7, b, rfl, t2 _ _ kp1, upd_same, numV_num _ _, hc200 _ (by simp), hc200 _ (by simp), hc200 _ (by simp), hc200 _ (by simp), fun h G' s' => k0 (er.trans h) _ (s3.trans s'), fun e h okk x G' s' hx => k1 e (er.trans h) okk _ _ (s3.trans s') hx⟩
set_option maxHeartbeats 4000000 in
theorem ok_is_deed (T : Txt w K mg c) : FnOk P w K mg base CX0 1 c.a_is_deed c.d_is_deed ["thing"] (spDeed K) := by
  refine T.is_deed.fn.ok sc_is_deed (fun vs H Q E h => ?_) (fun cdv A outer s H vs Q E hr h => ?_)
  · obtain ⟨x, rfl, _⟩ := h
    rfl
  · obtain ⟨x, rfl, ow, k⟩ := h
    refine ⟨_, (pss_one (ps_ret (pe_and (pe_callB call_isiA rfl T.no_isinstance bt_isinstance (pa_cons (pv 0) (pa_cons (pe_bltn (v := .ty "str") rfl T.no_str bt_str rfl) pa_nil))) (pe_one (pe_cmpR op_in_seq (pv 0) (pe_glob (v := .ref c.u_DEEDS) rfl T.mg_DEEDS rfl) (by with_unfolding_all rfl)))))), ?_⟩
    refine ⟨x, rfl, rIsiA.str ow ⟨_, rfl, ?_⟩⟩
    cases x with
    | str z => exact iteT ⟨_, rfl, c.u_DEEDS, deeds, rfl, .inr (T.sq_DEEDS _), rfl, rfl, k⟩
    | _ => exact iteF k
set_option maxHeartbeats 4000000 in
theorem ok_path_in (T : Txt w K mg c) : FnOk P w K mg base CX0 3 c.a_path_in c.d_path_in ["word"] (spPathIn) := by
  refine T.path_in.fn.ok sc_path_in (fun vs H Q E h => ?_) (fun cdv A outer s H vs Q E hr h => ?_)
  · obtain ⟨z, rfl, _⟩ := h
    rfl
  · obtain ⟨z, rfl, hz, k0, k1⟩ := h
    refine ⟨_, (pss_cut (ps_setComp (i := 1) sc_path_in.nd rfl rfl (N' := ["place"]) (js := [none]) rfl rfl (by decide +kernel) (by decide +kernel) (free_nil (by decide +kernel)) (cap_nil rfl rfl) (pi_list (pe_bm PySem.F.plainAttrs_str PySem.F.slot_str_split PySem.F.type_str_split mt_split (pv 0) (pa_cons pe_str pa_nil))) (fun B => ⟨(pg_name (i := 0) (show List.Nodup (["place"] : List Str) by decide +kernel) rfl (Or.inl rfl)), pifs_nil, (pe_call (ok_number_of T) (hr.mono (by decide)) rfl T.number_of.mgf T.number_of.kp T.number_of.bi .nil pass0 (pa_cons (pv 0) pa_nil))⟩))
      (pss_cons (ps_if (PW.pt (pw_or (pt_cmpR op_gt (pe_callB call_len_seq rfl T.no_len bt_len (pa_cons (pv 1) pa_nil)) (pe_glob rfl T.mg_FORM_DEPTH T.rl_FORM_DEPTH) (nomark _)) (pw_or1 (pt_val (pe_callB (call_any rfl) rfl T.no_any bt_any (pa_cons (pe_comp (N' := ["place"]) (js := [none]) rfl rfl (by decide +kernel) (by decide +kernel) (free_nil (by decide +kernel)) (cap_nil rfl rfl) (pi_list (pv 1)) (fun B => ⟨(pg_name (i := 0) (show List.Nodup (["place"] : List Str) by decide +kernel) rfl (Or.inl rfl)), pifs_nil, (pe_cmp (pc_isN (pv 0)))⟩)) pa_nil))))))
        (pss_one (ps_ret pe_non))
        pss_nil)
      (pss_one (ps_ret (pe_callTy call_tuple_of rfl T.no_tuple bt_tuple (pa_cons (pv 1) pa_nil)))))), ?_⟩
    have sz : 2000 < sizeLine := le_ble rfl
    have hpz : pathE z = if (Txt.split z (Str.ofString ".")).length ≤ 3 then allInt (numsO (Txt.split z (Str.ofString "."))) else none := rfl
    have hl200 : ∀ x ∈ Txt.split z (Str.ofString "."), x.length ≤ 200 := fun x hx => Nat.le_trans (split_each (by decide +kernel) hx) hz
    have hcnt := PyProof.Rows.split_le z (Str.ofString ".")
    refine ⟨fun σ' G' => Same H G' ∧ ∃ p, G' p = some (.lst (numsO (Txt.split z (Str.ofString ".")))) ∧ σ' = [some (.str z), some (.ref p)], ?_, ?_⟩
    · refine ⟨_, rfl, rfl, z, _, rfl, rfl, by omega, by decide +kernel, fun l hl => ?_⟩
      generalize Txt.split z (Str.ofString ".") = S at hl200 hcnt ⊢
      have t1 := Same.new (o := HO.lst (S.map V.str)) hl
      have kl := upd_same (H := H) (a := l) (o := HO.lst (S.map V.str))
      generalize upd H l (.lst (S.map V.str)) = G1 at t1 kl ⊢
      refine ⟨l, rfl, ⟨_, SqL.of kl⟩, fun m B hm => ?_⟩
      refine loop_all (P := fun i v => ∃ w, S[i]? = some w ∧ v = numV w 1000000000) hm (SqL.of kl) (by rw [List.length_map]; omega) (fun σ => ∃ o, σ = [o]) ⟨_, rfl⟩ ?_ ?_
      · rintro i x σ G Kt hx ⟨o, rfl⟩ sG kt
        rw [List.getElem?_map] at hx
        cases hw : S[i]? with
        | none => rw [hw] at hx; cases hx
        | some w =>
          rw [hw] at hx
          cases hx
          exact ⟨_, rfl, w, rfl, hl200 w (List.mem_of_getElem? hw), fun G2 s2 => kt _ _ _ ⟨_, rfl⟩ s2 ⟨w, hw, rfl⟩⟩
      · intro G2 acc s2 h2 l2 hp
        have e : acc = numsO S := list_of (by rw [l2, List.length_map]) fun j v hv => by
          obtain ⟨w, hw, rfl⟩ := hp j v hv
          exact ⟨w, hw, rfl⟩
        subst e
        exact ⟨t1.trans s2, m, h2, rfl⟩
    generalize Txt.split z (Str.ofString ".") = S at hpz hl200 hcnt
    rintro σ G ⟨sG, p, hp, rfl⟩
    have ln : (numsO S).length = S.length := List.length_map ..
    have nv : ∀ v ∈ numsO S, NumV v := fun v hv => by
      obtain ⟨w, _, rfl⟩ := List.mem_map.mp hv
      exact numV_num _ _
    refine ⟨_, rfl, p, _, rfl, .inl (SqL.of hp), _, _, rfl, rfl, _, rfl, ?_⟩
    refine ite2 (fun q => ?_) (fun q => ?_)
    · have q := of_decide_eq_true q
      exact iteT (k0 (hpz.trans (if_neg (by omega))) _ sG)
    have q3 : S.length ≤ 3 := by
      have : ¬ (3 : Int) < (numsO S).length := fun w => q (decide_eq_true w)
      omega
    rw [if_pos q3] at hpz
    refine ⟨_, rfl, p, rfl, ⟨_, SqL.of hp⟩, fun m B hm => ?_⟩
    refine loop_all (P := fun i v => ∃ x, (numsO S)[i]? = some x ∧ v = .bl (decide (x = .non))) hm (SqL.of hp) (by omega) (fun σ => ∃ o, σ = [o]) ⟨_, rfl⟩ ?_ ?_
    · rintro i x σ G' Kt hx ⟨o, rfl⟩ s' kt
      refine ⟨_, rfl, ?_⟩
      rcases nv x (List.mem_of_getElem? hx) with rfl | ⟨i, rfl⟩
      · exact kt _ _ _ ⟨_, rfl⟩ (Same.refl _) ⟨_, hx, rfl⟩
      · exact kt _ _ _ ⟨_, rfl⟩ (Same.refl _) ⟨_, hx, rfl⟩
    intro G2 acc s2 h2 l2 ha
    have e : acc = ((numsO S).map fun x => decide (x = .non)).map V.bl := by
      rw [List.map_map]
      exact list_of l2 ha
    subst e
    refine ⟨m, _, rfl, SqL.of h2, ?_⟩
    have ea : (((numsO S).map fun x => decide (x = V.non)).any id) = (numsO S).any fun x => decide (x = V.non) := by rw [List.any_map]; rfl
    rw [ea]
    cases hb : (numsO S).any fun x => decide (x = V.non) with
    | true => exact ⟨_, rfl, iteT (k0 (hpz.trans (allInt_none nv hb)) _ (sG.trans s2))⟩
    | false =>
      obtain ⟨ns, e1, e2⟩ := allInt_some nv hb
      refine ⟨_, rfl, iteF ?_⟩
      have hp := s2 _ _ hp
      rw [e2] at hp
      refine ⟨_, rfl, p, _, rfl, .inl ⟨SqL.of hp, fun t ht => ?_⟩⟩
      exact k1 ns (hpz.trans e1) t _ ((sG.trans s2).trans (Same.new ht)) upd_same
set_option maxHeartbeats 4000000 in
theorem ok_part_of (T : Txt w K mg c) : FnOk P w K mg base CX0 4 c.a_part_of c.d_part_of ["kind", "word"] (spPartOf c.c_Entry) := by
  refine T.part_of.fn.ok sc_part_of (fun vs H Q E h => ?_) (fun cdv A outer s H vs Q E hr h => ?_)
  · obtain ⟨kd, z, rfl, _⟩ := h
    rfl
  · obtain ⟨kd, z, rfl, hz, k⟩ := h
    refine ⟨_, (pss_cons (ps_if (pt_cmpR op_eq (pv 0) pe_str (nomark _))
        (pss_one (ps_ret (pe_call (ok_path_in T) (hr.mono (by decide)) rfl T.path_in.mgf T.path_in.kp T.path_in.bi .nil pass0 (pa_cons (pv 1) pa_nil))))
        pss_nil)
      (pss_cons (ps_if (pt_cmpR op_eq (pv 0) pe_str (nomark _))
        (pss_one (ps_ret (pe_ifExp (pt_val (pe_call (ok_is_deed T) (hr.mono (by decide)) rfl T.is_deed.mgf T.is_deed.kp T.is_deed.bi .nil pass0 (pa_cons (pv 1) pa_nil))) (pv 1) pe_non)))
        pss_nil)
      (pss_cons (ps_if (pt_cmpR op_eq (pv 0) pe_str (nomark _))
        (pss_one (ps_ret (pe_ifExp (pt_val (pe_call (ok_is_day T) (hr.mono (by decide)) rfl T.is_day.mgf T.is_day.kp T.is_day.bi .nil pass0 (pa_cons (pe_call (ok_day_of T) (hr.mono (by decide)) rfl T.day_of.mgf T.day_of.kp T.day_of.bi .nil pass0 (pa_cons (pv 1) pa_nil)) pa_nil))) (pe_call (ok_day_of T) (hr.mono (by decide)) rfl T.day_of.mgf T.day_of.kp T.day_of.bi .nil pass0 (pa_cons (pv 1) pa_nil)) pe_non)))
        pss_nil)
      (pss_one (ps_ret (pe_ifExp (pt_val (pe_call (ok_is_number T) (hr.mono (by decide)) rfl T.is_number.mgf T.is_number.kp T.is_number.bi .nil pass0 (pa_cons (pe_call (ok_number_of T) (hr.mono (by decide)) rfl T.number_of.mgf T.number_of.kp T.number_of.bi .nil pass0 (pa_cons (pv 1) pa_nil)) pa_nil))) (pe_call (ok_number_of T) (hr.mono (by decide)) rfl T.number_of.mgf T.number_of.kp T.number_of.bi .nil pass0 (pa_cons (pv 1) pa_nil)) pe_non)))))), ?_⟩
    refine ⟨_, rfl, rfl, _, rfl, ?_⟩
    refine ite2 (fun q => ?_) (fun q => ?_)
    · have q := of_decide_eq_true q
      have e : partO kd z = (pathE z).map Pt.path := if_pos q
      refine ⟨_, rfl, z, rfl, hz, fun h G s' => k _ _ s' (by rw [e, h]; exact rfl), fun ns h t G s' ht => k _ _ s' (by rw [e, h]; exact ⟨t, rfl, ht⟩)⟩
    have q : ¬ V.str kd = V.str (Str.ofString "path") := fun w => q (decide_eq_true w)
    refine ⟨_, rfl, rfl, _, rfl, ?_⟩
    refine ite2 (fun q2 => ?_) (fun q2 => ?_)
    · have q2 := of_decide_eq_true q2
      have e : partO kd z = if isDeed (.str z) = true then some (.txt z) else none := (if_neg q).trans (if_pos q2)
      refine ⟨_, rfl, .str z, rfl, Own.str, ?_⟩
      cases hd : isDeed (.str z) with
      | true => exact ⟨_, rfl, iteT ⟨_, rfl, k _ _ (Same.refl H) (by rw [e, hd]; exact rfl)⟩⟩
      | false => exact ⟨_, rfl, iteF (k _ _ (Same.refl H) (by rw [e, hd]; exact rfl))⟩
    have q2 : ¬ V.str kd = V.str (Str.ofString "deed") := fun w => q2 (decide_eq_true w)
    have num : ∀ (m : Int) (Ga G : Hp), Same H G → partO kd z = numP m z → inR m (numV z m) = true → Q (numV z m) G := fun m Ga G sG e h => k _ _ sG (by
      rw [e]
      unfold numP
      rw [if_pos h]
      rcases numV_num z m with w | ⟨i, w⟩
      · rw [w] at h; cases h
      · rw [w]; exact rfl)
    refine ⟨_, rfl, rfl, _, rfl, ?_⟩
    refine ite2 (fun q3 => ?_) (fun q3 => ?_)
    · have q3 := of_decide_eq_true q3
      have e : partO kd z = numP 1000000 z := (if_neg q).trans ((if_neg q2).trans (if_pos q3))
      refine ⟨_, rfl, z, rfl, hz, fun G1 s1 => ⟨_, rfl, (numV_num _ _).own, ?_⟩⟩
      cases hd : inR 1000000 (numV z 1000000) with
      | true => exact ⟨_, rfl, iteT ⟨_, rfl, z, rfl, hz, fun G2 s2 => num _ G1 _ (s1.trans s2) e hd⟩⟩
      | false => exact ⟨_, rfl, iteF (k _ _ s1 (by rw [e]; unfold numP; rw [hd]; exact rfl))⟩
    have q3 : ¬ V.str kd = V.str (Str.ofString "day") := fun w => q3 (decide_eq_true w)
    have e : partO kd z = numP 1000000000 z := (if_neg q).trans ((if_neg q2).trans (if_neg q3))
    refine ⟨_, rfl, z, rfl, hz, fun G1 s1 => ⟨_, rfl, (numV_num _ _).own, ?_⟩⟩
    cases hd : inR 1000000000 (numV z 1000000000) with
    | true => exact ⟨_, rfl, iteT ⟨_, rfl, z, rfl, hz, fun G2 s2 => num _ G1 _ (s1.trans s2) e hd⟩⟩
    | false => exact ⟨_, rfl, iteF (k _ _ s1 (by rw [e]; unfold numP; rw [hd]; exact rfl))⟩
set_option maxHeartbeats 4000000 in
theorem ok_parts_of (T : Txt w K mg c) : FnOk P w K mg base CX0 8 c.a_parts_of c.d_parts_of ["row", "words"] (spPartsOf c.c_Entry) := by
  refine T.parts_of.fn.ok sc_parts_of (fun vs H Q E h => ?_) (fun cdv A outer s H vs Q E hr h => ?_)
  · obtain ⟨z, l, rfl, _⟩ := h
    rfl
  · obtain ⟨z, l, rfl, hz, hl, k⟩ := h
    refine ⟨_, (pss_cons (ps_if (pt_cmpR op_eq (pe_ix ix_list (pv 1) pe_int (fun _ _ => rfl)) pe_str (nomark _))
        (pss_one (ps_ret (pe_lst (pa_cons (pe_call (ok_read_row T) (hr.mono (by decide)) rfl T.read_row.mgf T.read_row.kp T.read_row.bi .nil pass0 (pa_cons (pe_slice sl_str (pv 0) (po_some (pe_callB call_len_str rfl T.no_len bt_len (pa_cons pe_str pa_nil))) po_none) pa_nil)) pa_nil))))
        pss_nil)
      (pss_cons (ps_if (PW.pt (pw_or (pt_cmpR op_notInK (pe_ix ix_list (pv 1) pe_int (fun _ _ => rfl)) (pe_glob (v := .ref c.u_SHAPES) rfl T.mg_SHAPES rfl) (by with_unfolding_all rfl)) (pw_or1 (pt_cmpR op_ne (pe_callB call_len_seq rfl T.no_len bt_len (pa_cons (pe_ix ix_kdict (pe_glob (v := .ref c.u_SHAPES) rfl T.mg_SHAPES rfl) (pe_ix ix_list (pv 1) pe_int (fun _ _ => rfl)) (fun _ _ => rfl)) pa_nil)) (pe_op op_sub (pe_callB call_len_seq rfl T.no_len bt_len (pa_cons (pv 1) pa_nil)) pe_int) (nomark _)))))
        (pss_one (ps_ret (pe_lst (pa_cons pe_non pa_nil))))
        pss_nil)
      (pss_one (ps_ret (pe_comp (N' := ["kind", "word"]) (js := [none, none]) rfl rfl (by decide +kernel) (by decide +kernel) (free_nil (by decide +kernel)) (cap_nil rfl rfl) (pi_zipT rfl T.no_zip (pa_cons (pe_ix ix_kdict (pe_glob (v := .ref c.u_SHAPES) rfl T.mg_SHAPES rfl) (pe_ix ix_list (pv 1) pe_int (fun _ _ => rfl)) (fun _ _ => rfl)) (pa_cons (pe_slice sl_list (pv 1) (po_some pe_int) po_none) pa_nil))) (fun B => ⟨(pg_tup rfl (pgs_cons (pg_name (i := 0) (show List.Nodup (["kind", "word"] : List Str) by decide +kernel) rfl (Or.inl rfl)) (pgs_cons (pg_name (i := 1) (show List.Nodup (["kind", "word"] : List Str) by decide +kernel) rfl (Or.inl rfl)) pgs_nil))), pifs_nil, (pe_call (ok_part_of T) (hr.mono (by decide)) rfl T.part_of.mgf T.part_of.kp T.part_of.bi .nil pass0 (pa_cons (pv 0) (pa_cons (pv 1) pa_nil)))⟩)))))), ?_⟩
    have sz : 2000 < sizeLine := le_ble rfl
    have hl200 : ∀ x ∈ Txt.split z (Str.ofString " "), x.length ≤ 200 := fun x hx => Nat.le_trans (split_each (by decide +kernel) hx) hz
    have hcnt := PyProof.Rows.split_le z (Str.ofString " ")
    have ne : Txt.split z (Str.ofString " ") ≠ [] := fun q => by
      have p := PyProof.Rows.split_pos z (Str.ofString " ")
      rw [q] at p
      exact absurd p (by decide)
    generalize Txt.split z (Str.ofString " ") = S at hl hl200 hcnt ne k
    obtain ⟨w0, r, rfl⟩ := List.exists_cons_of_ne_nil ne
    have f0 : atI ((w0 :: r).map V.str) 0 = some (.str w0) := atI_nat (j := 0) rfl
    refine ⟨_, rfl, l, _, _, _, rfl, rfl, SqL.of hl, f0, rfl, _, rfl, ?_⟩
    refine ite2 (fun q => ?_) (fun q => ?_)
    · have q := of_decide_eq_true q
      have e : partsO z (w0 :: r) = [(rowE (cutS z (some 8) none)).map Pt.ent] := if_pos q
      rw [e] at k
      have l8 : ((Str.ofString "publish ").length : Int) = 8 := by decide +kernel
      have fin : ∀ v G', Same H G' → POk G' c.c_Entry v ((rowE (cutS z (some 8) none)).map Pt.ent) → ∀ p, G' p = none → Q (.ref p) (upd G' p (.lst [v])) := fun v G' s' hv p hp => k p [v] _ (s'.trans (Same.new hp)) (s'.free hp) upd_same (le_ble rfl) ⟨rfl, fun j x o h1 h2 => by
        cases j with
        | zero =>
          cases h1
          cases h2
          exact hv.same (Same.new hp)
        | succ j => cases h1⟩
      refine ⟨_, rfl, _, rfl, le_ble (by decide +kernel), _, rfl, z, rfl, by omega, ?_⟩
      rw [l8]
      refine ⟨_, rfl, Nat.le_trans (cutS_le _ _ _) hz, fun h G' s' => ⟨le_ble rfl, fin _ _ s' (by rw [h]; exact rfl)⟩, fun e h _ x G' s' hx => ⟨le_ble rfl, fin _ _ s' (by rw [h]; exact hx)⟩⟩
    have q : ¬ V.str w0 = V.str (Str.ofString "publish") := fun w => q (decide_eq_true w)
    have key : (shapeOf w0 = none ∧ ([("act", V.ref c.u_SHAPES_0), ("lay", V.ref c.u_SHAPES_1), ("take", V.ref c.u_SHAPES_2), ("name", V.ref c.u_SHAPES_3), ("why", V.ref c.u_SHAPES_4), ("book", V.ref c.u_SHAPES_5), ("out", V.ref c.u_SHAPES_6)] : List (Str × V)).lookup w0 = none) ∨ ∃ ks a, shapeOf w0 = some ks ∧ ([("act", V.ref c.u_SHAPES_0), ("lay", V.ref c.u_SHAPES_1), ("take", V.ref c.u_SHAPES_2), ("name", V.ref c.u_SHAPES_3), ("why", V.ref c.u_SHAPES_4), ("book", V.ref c.u_SHAPES_5), ("out", V.ref c.u_SHAPES_6)] : List (Str × V)).lookup w0 = some (.ref a) ∧ (∀ H, SqT K H a (ks.map V.str)) ∧ ks.length ≤ 3 := by
      unfold shapeOf shapes
      simp only [look_if]
      by_cases h0 : w0 = Str.ofString "act"
      · rw [if_pos h0, if_pos h0]
        exact .inr ⟨_, _, rfl, rfl, T.sq_SHAPES_0, le_ble rfl⟩
      rw [if_neg h0, if_neg h0]
      by_cases h1 : w0 = Str.ofString "lay"
      · rw [if_pos h1, if_pos h1]
        exact .inr ⟨_, _, rfl, rfl, T.sq_SHAPES_1, le_ble rfl⟩
      rw [if_neg h1, if_neg h1]
      by_cases h2 : w0 = Str.ofString "take"
      · rw [if_pos h2, if_pos h2]
        exact .inr ⟨_, _, rfl, rfl, T.sq_SHAPES_2, le_ble rfl⟩
      rw [if_neg h2, if_neg h2]
      by_cases h3 : w0 = Str.ofString "name"
      · rw [if_pos h3, if_pos h3]
        exact .inr ⟨_, _, rfl, rfl, T.sq_SHAPES_3, le_ble rfl⟩
      rw [if_neg h3, if_neg h3]
      by_cases h4 : w0 = Str.ofString "why"
      · rw [if_pos h4, if_pos h4]
        exact .inr ⟨_, _, rfl, rfl, T.sq_SHAPES_4, le_ble rfl⟩
      rw [if_neg h4, if_neg h4]
      by_cases h5 : w0 = Str.ofString "book"
      · rw [if_pos h5, if_pos h5]
        exact .inr ⟨_, _, rfl, rfl, T.sq_SHAPES_5, le_ble rfl⟩
      rw [if_neg h5, if_neg h5]
      by_cases h6 : w0 = Str.ofString "out"
      · rw [if_pos h6, if_pos h6]
        exact .inr ⟨_, _, rfl, rfl, T.sq_SHAPES_6, le_ble rfl⟩
      rw [if_neg h6, if_neg h6]
      exact .inl ⟨rfl, rfl⟩
    have e0 : partsO z (w0 :: r) = match shapeOf w0 with
        | none => [none]
        | some ks => if ks.length = r.length then List.zipWith partO ks r else [none] := if_neg q
    have none1 : partsO z (w0 :: r) = [none] → ∀ p, H p = none → Q (.ref p) (upd H p (.lst [.non])) := fun e p hp => k p [.non] _ (Same.new hp) hp upd_same (le_ble rfl) (by
      rw [e]
      refine ⟨rfl, fun j x o h1 h2 => ?_⟩
      cases j with
      | zero =>
        cases h1
        cases h2
        exact rfl
      | succ j => cases h1)
    refine ⟨_, rfl, l, _, _, _, rfl, rfl, SqL.of hl, f0, c.u_SHAPES, _, w0, rfl, rfl, T.kd_SHAPES, T.ks_SHAPES, _, rfl, ?_⟩
    rcases key with ⟨h1, h2⟩ | ⟨ks, a, h1, h2, sq, lk⟩
    · rw [h2]
      rw [h1] at e0
      exact iteT ⟨le_ble rfl, none1 e0⟩
    rw [h2]
    rw [h1] at e0
    refine iteF ?_
    refine ⟨_, rfl, l, _, _, _, rfl, rfl, SqL.of hl, f0, c.u_SHAPES, _, w0, .ref a, rfl, rfl, T.kd_SHAPES, h2, a, _, rfl, .inr (sq _), _, rfl, l, _, rfl, .inl (SqL.of hl), _, _, rfl, rfl, rfl, _, rfl, ?_⟩
    have lks : (ks.map V.str).length = ks.length := List.length_map ..
    have lwr : ((w0 :: r).map V.str).length = r.length + 1 := by rw [List.length_map, List.length_cons]
    refine ite2 (fun q2 => ?_) (fun q2 => ?_)
    · refine ⟨le_ble rfl, none1 (e0.trans (if_neg fun w => ?_))⟩
      rw [decide_eq_true (by rw [lks, lwr, w]; congr 1; omega)] at q2
      cases q2
    have lkr : ks.length = r.length := Decidable.of_not_not fun w => q2 (by
      rw [lks, lwr, decide_eq_false (fun z => w (by have := V.int.inj z; omega))]
      rfl)
    have e0 := e0.trans (if_pos lkr)
    refine ⟨_, rfl, l, _, _, _, rfl, rfl, SqL.of hl, f0, c.u_SHAPES, _, w0, .ref a, rfl, rfl, T.kd_SHAPES, h2, _, rfl, _, rfl, l, _, rfl, SqL.of hl, fun p hp => ?_⟩
    rw [show cutV ((w0 :: r).map V.str) (some 1) none = r.map V.str from cut_tl _ _]
    have t1 := Same.new (o := HO.lst (r.map V.str)) hp
    have kp := upd_same (H := H) (a := p) (o := HO.lst (r.map V.str))
    generalize upd H p (.lst (r.map V.str)) = G1 at t1 kp ⊢
    refine ⟨a, p, rfl, ⟨_, sq _⟩, ⟨_, SqL.of kp⟩, fun m B hm => ?_⟩
    refine loop_zipT (xs := ks.map V.str) (ys := r.map V.str) (fun i σ acc G => (∃ o1 o2, σ = [o1, o2]) ∧ Same G1 G ∧ G m = some (.lst acc) ∧ acc.length = i ∧ ∀ (j : Nat) v, acc[j]? = some v → ∃ kd w, ks[j]? = some kd ∧ r[j]? = some w ∧ POk G c.c_Entry v (partO kd w)) (by rw [List.length_map, List.length_map, lkr]) (by omega) ?_ ?_ ?_ ?_
    · exact ⟨⟨_, _, rfl⟩, Same.new hm, upd_same, rfl, fun j v h => by rw [List.getElem?_nil] at h; cases h⟩
    · rintro i σ acc G hi ⟨_, sG, h1, h2, _⟩
      exact ⟨h1, sq _, SqL.of (sG _ _ kp), by omega⟩
    · rintro i x y T' σ acc G hx hy ⟨⟨o1, o2, rfl⟩, sG, h1, h2, h3⟩ hT
      rw [List.getElem?_map] at hx hy
      cases hk : ks[i]? with
      | none => rw [hk] at hx; cases hx
      | some kd =>
        cases hw : r[i]? with
        | none => rw [hw] at hy; cases hy
        | some w =>
          rw [hk] at hx
          rw [hw] at hy
          cases hx
          cases hy
          have hi : i < (ks.map V.str).length := by rw [lks]; exact (List.getElem?_eq_some_iff.mp hk).1
          have st := Same.new (o := HO.tup [V.str kd, .str w]) hT
          refine ⟨T', _, rfl, SqT.of upd_same, rfl, _, _, rfl, _, _, rfl, rfl, ?_⟩
          refine ⟨_, rfl, _, rfl, kd, w, rfl, hl200 w (List.mem_cons_of_mem _ (List.mem_of_getElem? hw)), fun v G2 s2 hv => ?_⟩
          have s12 := st.trans s2
          have hm2 := s12 _ _ h1
          refine ⟨hm2, Nx.mk hi ⟨⟨_, _, rfl⟩, fun b u hb => ?_, upd_same, by rw [List.length_append, h2]; rfl, fun j v' hv' => ?_⟩⟩
          · rw [upd_ne (ne_of_none hb hm)]
            exact s12 _ _ (sG _ _ hb)
          · rcases Nat.lt_trichotomy j acc.length with z | z | z
            · rw [List.getElem?_append_left z] at hv'
              obtain ⟨kd', w', e1, e2, e3⟩ := h3 j v' hv'
              exact ⟨kd', w', e1, e2, (e3.same s12).put hm2⟩
            · subst z
              rw [List.getElem?_append_right (Nat.le_refl _), Nat.sub_self] at hv'
              cases hv'
              rw [h2]
              exact ⟨kd, w, hk, hw, hv.put hm2⟩
            · rw [List.getElem?_append_right (by omega), List.getElem?_eq_none (by show 1 ≤ _; omega)] at hv'
              cases hv'
    · rintro σ acc G ⟨_, sG, h1, h2, h3⟩
      refine k m acc G (t1.trans sG) (t1.free hm) h1 (by omega) ?_
      rw [e0]
      refine ⟨by rw [h2, List.length_zipWith, lks, lkr, Nat.min_self], fun j v o hv ho => ?_⟩
      obtain ⟨kd, w, e1, e2, e3⟩ := h3 j v hv
      rw [List.getElem?_zipWith, e1, e2] at ho
      cases ho
      exact e3
set_option maxHeartbeats 4000000 in
theorem ok_row_of (T : Txt w K mg c) : FnOk P w K mg base (CXx P w) 9 c.a_row_of c.d_row_of ["row"] (spDeskRow K c.c_Entry c.c_NoRow) := by
  refine T.row_of.fn.okx sc_row_of (fun vs H Q E h => ?_) (fun cdv A outer s H vs Q E hr h => ?_)
  · obtain ⟨x, rfl, _⟩ := h
    rfl
  · obtain ⟨x, rfl, h0⟩ := h
    refine ⟨_, (pss_cons (ps_if (pt_not (pt_val (pe_callB call_isiA rfl T.no_isinstance bt_isinstance (pa_cons (pv 0) (pa_cons (pe_bltn (v := .ty "str") rfl T.no_str bt_str rfl) pa_nil)))))
        (pss_one (ps_raise T.x_NoRow rfl rfl T.mg_NoRow rz_def (pa_cons pe_str pa_nil)))
        pss_nil)
      (pss_cut (ps_set (i := 1) sc_row_of.nd rfl (Or.inl rfl) (pe_bm PySem.F.plainAttrs_str PySem.F.slot_str_split PySem.F.type_str_split mt_split (pv 0) (pa_cons pe_str pa_nil)))
      (pss_cut (ps_set (i := 2) sc_row_of.nd rfl (Or.inl rfl) (pe_call (ok_parts_of T) (hr.mono (by decide)) rfl T.parts_of.mgf T.parts_of.kp T.parts_of.bi .nil pass0 (pa_cons (pv 0) (pa_cons (pv 1) pa_nil))))
      (pss_cut (ps_if (pt_val (pe_callB (call_any rfl) rfl T.no_any bt_any (pa_cons (pe_comp (N' := ["part"]) (js := [none]) rfl rfl (by decide +kernel) (by decide +kernel) (free_nil (by decide +kernel)) (cap_nil rfl rfl) (pi_list (pv 2)) (fun B => ⟨(pg_name (i := 0) (show List.Nodup (["part"] : List Str) by decide +kernel) rfl (Or.inl rfl)), pifs_nil, (pe_cmp (pc_isN (pv 0)))⟩)) pa_nil)))
        (pss_one (ps_raise T.x_NoRow rfl rfl T.mg_NoRow rz_def (pa_cons pe_str pa_nil)))
        pss_nil)
      (pss_one (ps_ret (pe_tup (pa_cons (pe_ix ix_list (pv 1) pe_int (fun _ _ => rfl)) (pa_cons (pv 2) pa_nil))))))))), ?_⟩
    have sz : 2000 < sizeLine := le_ble rfl
    rcases h0 with ⟨ow, ns, k⟩ | ⟨z, rfl, hz, k0, k1⟩
    · refine ⟨_, rfl, rIsiA.str ow ⟨_, rfl, ?_⟩⟩
      rw [ns]
      exact iteT ⟨le_ble rfl, k H (Same.refl H)⟩
    refine ⟨_, rfl, rIsiA.str Own.str ⟨_, rfl, iteF ?_⟩⟩
    have hcnt := PyProof.Rows.split_le z (Str.ofString " ")
    have ne : Txt.split z (Str.ofString " ") ≠ [] := fun q => by
      have p := PyProof.Rows.split_pos z (Str.ofString " ")
      rw [q] at p
      exact absurd p (by decide)
    refine ⟨fun σ' G' => Same H G' ∧ ∃ l, G' l = some (.lst ((Txt.split z (Str.ofString " ")).map V.str)) ∧ σ' = [some (.str z), some (.ref l), none], ?_, ?_⟩
    · exact ⟨_, rfl, rfl, z, _, rfl, rfl, by omega, by decide +kernel, fun l hl => ⟨Same.new hl, l, upd_same, rfl⟩⟩
    rintro σ G ⟨sG, l, hl, rfl⟩
    refine ⟨fun σ' G' => Same G G' ∧ ∃ q vs', G q = none ∧ G' q = some (.lst vs') ∧ vs'.length ≤ 20 ∧ PsAt G' c.c_Entry vs' (partsO z (Txt.split z (Str.ofString " "))) ∧ σ' = [some (.str z), some (.ref l), some (.ref q)], ?_, ?_⟩
    · exact ⟨_, rfl, _, rfl, z, l, rfl, hz, hl, fun q vs' G' s' f hq lv hp => ⟨s', q, vs', f, hq, lv, hp, rfl⟩⟩
    rintro σ G1 ⟨s1, q, vs', fq, hq, lv, hp, rfl⟩
    have sG1 := sG.trans s1
    have f1 := sG.free fq
    generalize hS : Txt.split z (Str.ofString " ") = S at hl hp ne k0 k1
    obtain ⟨w0, r, rfl⟩ := List.exists_cons_of_ne_nil ne
    refine ⟨fun σ' G' => Same G1 G' ∧ σ' = [some (.str z), some (.ref l), some (.ref q)] ∧ ∃ ps : List Pt, partsO z (w0 :: r) = ps.map some, ?_, ?_⟩
    · refine ⟨_, rfl, q, rfl, ⟨_, SqL.of hq⟩, fun m B hm => ?_⟩
      refine loop_all (P := fun i v => ∃ x, vs'[i]? = some x ∧ v = .bl (decide (x = .non))) hm (SqL.of hq) (by omega) (fun σ => ∃ o, σ = [o]) ⟨_, rfl⟩ ?_ ?_
      · rintro i x σ G' Kt hx ⟨o, rfl⟩ s' kt
        refine ⟨_, rfl, ?_⟩
        cases x <;> exact kt _ _ _ ⟨_, rfl⟩ (Same.refl _) ⟨_, hx, rfl⟩
      intro G2 acc s2 h2 l2 ha
      have e : acc = (vs'.map fun x => decide (x = .non)).map V.bl := by
        rw [List.map_map]
        exact list_of l2 ha
      subst e
      have e3 : (vs'.map fun x => decide (x = V.non)) = (partsO z (w0 :: r)).map Option.isNone := by
        refine List.ext_getElem? fun j => ?_
        rw [List.getElem?_map, List.getElem?_map]
        cases hv : vs'[j]? with
        | none =>
          have := List.getElem?_eq_none_iff.mp hv
          rw [List.getElem?_eq_none_iff.mpr (by rw [← hp.1]; exact this)]
          rfl
        | some v =>
          have hj : j < (partsO z (w0 :: r)).length := by rw [← hp.1]; exact (List.getElem?_eq_some_iff.mp hv).1
          rw [List.getElem?_eq_getElem hj]
          show some (decide (v = V.non)) = some (Option.isNone _)
          rw [(hp.2 j v _ hv (List.getElem?_eq_getElem hj)).non]
      refine ⟨m, _, rfl, SqL.of h2, ?_⟩
      rw [e3]
      cases hb : ((partsO z (w0 :: r)).map Option.isNone).any id with
      | true =>
        refine ⟨_, rfl, iteT ⟨le_ble rfl, k0 ?_ _ (sG1.trans s2)⟩⟩
        rw [List.any_map, List.any_eq_true] at hb
        obtain ⟨x, hx, hn⟩ := hb
        have : x = none := Option.isNone_iff_eq_none.mp hn
        rw [← this]
        exact hx
      | false =>
        refine ⟨_, rfl, iteF ⟨s2, rfl, ?_⟩⟩
        have hs : ∀ {L : List (Option Pt)}, (L.map Option.isNone).any id = false → ∃ ps : List Pt, L = ps.map some := fun {L} => by
          induction L with
          | nil => intro _; exact ⟨[], rfl⟩
          | cons x t ih =>
            intro h
            rw [List.map_cons, List.any_cons, Bool.or_eq_false_iff] at h
            obtain ⟨ps, e⟩ := ih h.2
            cases x with
            | none => cases h.1
            | some p => exact ⟨p :: ps, by rw [e]; rfl⟩
        exact hs hb
    rintro σ G2 ⟨s2, rfl, ps, hps⟩
    rw [hps] at hp
    have f0 : atI ((w0 :: r).map V.str) 0 = some (.str w0) := atI_nat (j := 0) rfl
    refine ⟨_, rfl, l, _, _, _, rfl, rfl, SqL.of ((s1.trans s2) _ _ hl), f0, _, rfl, le_ble rfl, fun t ht => ?_⟩
    have t3 := Same.new (o := HO.tup [V.str w0, .ref q]) ht
    exact k1 w0 r ps rfl hps t q vs' _ (sG1.trans (s2.trans t3)) f1 upd_same (t3 _ _ (s2 _ _ hq)) lv ((hp.same s2).same t3)
set_option maxHeartbeats 4000000 in
theorem ok_Lcell_at (T : Txt w K mg c) : FnOk P w K mg base CX0 1 c.a_Lcell_at c.d_Lcell_at ["_law_script", "_law_k"] (spCell K) := by
  refine T.Lcell_at.fn.ok sc_Lcell_at (fun vs H Q E h => ?_) (fun cdv A outer s H vs Q E hr h => ?_)
  · obtain ⟨a, i, ns, rfl, _⟩ := h
    rfl
  · obtain ⟨a, i, ns, rfl, h0, hS, k⟩ := h
    refine ⟨_, (pss_cons (ps_if (pt_cmpR op_lt (pv 1) (pe_callB call_len_seq rfl T.no_len bt_len (pa_cons (pv 0) pa_nil)) (nomark _))
        (pss_one (ps_ret (pe_ix ix_list (pv 0) (pv 1) (fun _ _ => rfl))))
        pss_nil)
      (pss_one (ps_ret pe_int))), ?_⟩
    refine ⟨_, rfl, _, rfl, a, _, rfl, .inl hS, _, _, rfl, rfl, _, rfl, ?_⟩
    refine ite2 (fun hl => ?_) (fun _ => k 0)
    obtain ⟨v, hv, hm⟩ := atI_in (xs := ns.map V.int) h0 (of_decide_eq_true hl)
    obtain ⟨z, _, rfl⟩ := List.mem_map.mp hm
    exact ⟨_, rfl, _, rfl, a, _, i, _, rfl, rfl, hS, hv, k z⟩
set_option maxHeartbeats 4000000 in
theorem ok_Lwhole (T : Txt w K mg c) : FnOk P w K mg base CX0 1 c.a_Lwhole c.d_Lwhole ["_law_found"] (spW K) := by
  refine T.Lwhole.fn.ok sc_Lwhole (fun vs H Q E h => ?_) (fun cdv A outer s H vs Q E hr h => ?_)
  · obtain ⟨x, rfl, _⟩ := h
    rfl
  · obtain ⟨x, rfl, ow, k⟩ := h
    refine ⟨_, (pss_one (ps_ret (pe_and (pe_callB call_isiA rfl T.no_isinstance bt_isinstance (pa_cons (pv 0) (pa_cons (pe_bltn (v := .ty "int") rfl T.no_int bt_int rfl) pa_nil))) (pe_one (pe_not (pe_callB call_isiA rfl T.no_isinstance bt_isinstance (pa_cons (pv 0) (pa_cons (pe_bltn (v := .ty "bool") rfl T.no_bool bt_bool rfl) pa_nil)))))))), ?_⟩
    refine ⟨x, rfl, rIsiA.int ow ⟨_, rfl, ?_⟩⟩
    cases x with
    | int i => exact iteT ⟨_, rfl, rIsiA.bool ow ⟨_, rfl, k⟩⟩
    | bl b => exact iteT ⟨_, rfl, rIsiA.bool ow ⟨_, rfl, k⟩⟩
    | _ => exact iteF k
set_option maxHeartbeats 4000000 in
theorem ok_Lmixed (T : Txt w K mg c) : FnOk P w K mg base CX0 1 c.a_Lmixed c.d_Lmixed ["_law_cell", "_law_k"] (spMixB) := by
  refine T.Lmixed.fn.ok sc_Lmixed (fun vs H Q E h => ?_) (fun cdv A outer s H vs Q E hr h => ?_)
  · obtain ⟨n, i, rfl, _⟩ := h
    rfl
  · obtain ⟨n, i, rfl, h0, h1, k⟩ := h
    refine ⟨_, (pss_cut (ps_if (PW.pt (pw_and (pt_cmpR op_eq (pe_op op_mod (pv 0) pe_int) pe_int (nomark _)) (pw_and1 (pt_cmpR op_gt (pv 0) (pe_op op_pow pe_int pe_int) (nomark _)))))
        (pss_one (ps_ret (pe_op op_mod (pe_op op_fdiv (pv 0) pe_int) (pe_op op_pow pe_int pe_int))))
        pss_nil)
      (pss_one (ps_ret (pe_op op_mod (pe_op op_mul (pe_op op_add (pe_op op_mod (pv 0) (pe_op op_pow pe_int pe_int)) pe_int) (pe_op op_add pe_int (pe_op op_mul (pe_op op_mul pe_int (pv 1)) (pv 1)))) pe_int)))), ?_⟩
    have sq : i * i ≤ 100 * 100 := Int.mul_le_mul (by omega) (by omega) (by omega) (by omega)
    have sq0 : 0 ≤ i * i := Int.mul_nonneg h0 h0
    have e3 : 7919 * i * i = 7919 * (i * i) := Int.mul_assoc _ _ _
    refine ⟨fun σ G => G = H ∧ σ = [some (.int n), some (.int i)], ?_, ?_⟩
    · walk_at "rd"
      refine ite2 (fun _ => ?_) (fun _ => ⟨rfl, rfl⟩)
      walk_at "rd"
      refine ite2 (fun _ => ?_) (fun _ => ⟨rfl, rfl⟩)
      walk_at "rd"
      exact k _ (Int.emod_nonneg _ (by decide))
    rintro σ G ⟨rfl, rfl⟩
    walk_at "rd"
    refine ⟨.inl ⟨by omega, by omega⟩, ?_⟩
    walk_at "rd"
    refine ⟨.inr ⟨by rw [e3]; omega, by rw [e3]; omega⟩, ?_⟩
    walk_at "rd"
    exact k _ (Int.emod_nonneg _ (by decide))
set_option maxHeartbeats 4000000 in
theorem ok_Lword (T : Txt w K mg c) : FnOk P w K mg base CX0 1 c.a_Lword c.d_Lword ["_law_mixed_here"] (spMkW) := by
  refine T.Lword.fn.ok sc_Lword (fun vs H Q E h => ?_) (fun cdv A outer s H vs Q E hr h => ?_)
  · obtain ⟨m, rfl, _⟩ := h
    rfl
  · obtain ⟨m, rfl, h0, k⟩ := h
    refine ⟨_, (pss_cons (ps_set (i := 1) sc_Lword.nd rfl (Or.inl rfl) pe_str)
      (pss_cons (ps_set (i := 2) sc_Lword.nd rfl (Or.inl rfl) pe_str)
      (pss_cons (ps_for PassesOwn.never rfl (pi_range1 rfl T.no_range (pa_cons (pe_op op_add pe_int (pe_op op_mod (pv 0) pe_int)) pa_nil)) (pg_name (i := 3) sc_Lword.nd rfl (Or.inl rfl))
        (pss_one (ps_set (i := 2) sc_Lword.nd rfl (Or.inl rfl) (pe_op op_add_str (pv 2) (pe_ix ix_str (pv 1) (pe_op op_mod (pe_op op_add (pe_op op_fdiv (pe_op op_fdiv (pv 0) pe_int) (pe_op op_add (pv 3) pe_int)) (pe_op op_mul (pv 3) (pv 3))) pe_int) (fun _ _ => rfl))))))
      (pss_one (ps_ret (pv 2)))))), ?_⟩
    walk_at "rd"
    refine ⟨by omega, by omega, ?_⟩
    have abc : (Str.ofString "abcdefghijklmnopqrstuvwxyz").cps.toList.length = 26 := by decide +kernel
    have abl : ∀ c ∈ (Str.ofString "abcdefghijklmnopqrstuvwxyz").cps.toList, letter c = true := by decide +kernel
    refine for_range (n := (1 + m % 12).toNat) (lo := 0) (fun i σ H' => H' = H ∧ ∃ (z : Str) (o : Option V), σ = [some (.int m), some (.str (Str.ofString "abcdefghijklmnopqrstuvwxyz")), some (.str z), o] ∧ z.length = i ∧ z.cps.toList.all letter = true) ?_ ?_ ?_
    · exact ⟨rfl, _, _, rfl, rfl, rfl⟩
    · rintro i σ H' hi ⟨rfl, z, o, rfl, hz, ha⟩
      have hi' : (i : Int) < 12 := by omega
      walk_at "rd"
      refine ⟨⟨by omega, by omega⟩, ?_⟩
      walk_at "rd"
      refine ⟨.inl ⟨by omega, by omega⟩, ?_⟩
      walk_at "rd"
      obtain ⟨ch, hv, hm⟩ := atI_in (xs := (Str.ofString "abcdefghijklmnopqrstuvwxyz").cps.toList) (i := (m / 12 / (0 + (i : Int) + 1) + (0 + (i : Int)) * (0 + (i : Int))) % 26) (Int.emod_nonneg _ (by decide)) (by rw [abc]; exact Int.emod_lt_of_pos _ (by decide))
      refine ⟨_, _, ch, rfl, rfl, le_ble rfl, hv, ?_⟩
      have h13 : (13 : Nat) + 1 ≤ sizeLine := le_ble rfl
      refine ⟨_, _, rfl, rfl, ?_, ?_⟩
      · show z.length + 1 ≤ sizeLine
        omega
      · refine ⟨rfl, _, _, rfl, ?_, ?_⟩
        · rw [Str.length_append, hz]
          rfl
        · rw [all_app, ha]
          show (true && ([ch].all letter)) = true
          rw [List.all_cons, abl ch hm]
          rfl
    · rintro σ H' ⟨rfl, z, o, rfl, hz, ha⟩
      walk_at "rd"
      refine k z ?_
      rw [isWord_str, ha, decide_eq_true (by omega), decide_eq_true (by omega)]
      rfl
set_option maxHeartbeats 4000000 in
theorem ok_Lnumber (T : Txt w K mg c) : FnOk P w K mg base CX0 1 c.a_Lnumber c.d_Lnumber ["_law_mixed_here"] (spNum91) := by
  refine T.Lnumber.fn.ok sc_Lnumber (fun vs H Q E h => ?_) (fun cdv A outer s H vs Q E hr h => ?_)
  · obtain ⟨m, rfl, _⟩ := h
    rfl
  · obtain ⟨m, rfl, k⟩ := h
    refine ⟨_, (pss_one (ps_ret (pe_ix ix_list (pe_lst (pa_cons (pe_op op_add pe_int (pe_op op_mod (pe_op op_fdiv (pv 0) pe_int) pe_int)) (pa_cons (pe_op op_add pe_int (pe_op op_mod (pe_op op_mul (pv 0) pe_int) (pe_op op_pow pe_int pe_int))) (pa_cons (pe_op op_sub (pe_op op_pow pe_int pe_int) (pe_op op_mod (pe_op op_fdiv (pv 0) pe_int) pe_int)) pa_nil)))) (pe_op op_mod (pv 0) pe_int) (fun _ _ => rfl)))), ?_⟩
    have eN : (10 : Int) ^ Int.toNat 9 = 1000000000 := by decide
    walk_at "rd"
    refine ⟨le_ble rfl, fun p hp => ?_⟩
    obtain ⟨v, hv, hm⟩ := atI_in (xs := [V.int (1 + m / 3 % 20), V.int (1 + m * 16807 % 10 ^ Int.toNat 9), V.int (10 ^ Int.toNat 9 - m / 3 % 2)]) (i := m % 3) (Int.emod_nonneg _ (by decide)) (Int.emod_lt_of_pos _ (by decide))
    refine ⟨_, rfl, _, _, rfl, rfl, (by decide : (0 : Int) < 3), p, _, _, _, rfl, rfl, SqL.of upd_same, hv, ?_⟩
    rw [eN] at hm
    simp only [List.mem_cons, List.not_mem_nil, or_false] at hm
    rcases hm with rfl | rfl | rfl
    · exact k _ _ (Same.new hp) ⟨by omega, by omega⟩
    · exact k _ _ (Same.new hp) ⟨by omega, by omega⟩
    · exact k _ _ (Same.new hp) ⟨by omega, by omega⟩
set_option maxHeartbeats 4000000 in
theorem ok_Lday (T : Txt w K mg c) : FnOk P w K mg base CX0 1 c.a_Lday c.d_Lday ["_law_mixed_here"] (spDay91) := by
  refine T.Lday.fn.ok sc_Lday (fun vs H Q E h => ?_) (fun cdv A outer s H vs Q E hr h => ?_)
  · obtain ⟨m, rfl, _⟩ := h
    rfl
  · obtain ⟨m, rfl, k⟩ := h
    refine ⟨_, (pss_one (ps_ret (pe_ix ix_list (pe_lst (pa_cons (pe_op op_add pe_int (pe_op op_mod (pe_op op_fdiv (pv 0) pe_int) pe_int)) (pa_cons (pe_op op_add pe_int (pe_op op_mod (pe_op op_mul (pv 0) pe_int) (pe_op op_pow pe_int pe_int))) (pa_cons (pe_op op_sub (pe_op op_pow pe_int pe_int) (pe_op op_mod (pe_op op_fdiv (pv 0) pe_int) pe_int)) pa_nil)))) (pe_op op_mod (pv 0) pe_int) (fun _ _ => rfl)))), ?_⟩
    have eN : (10 : Int) ^ Int.toNat 6 = 1000000 := by decide
    walk_at "rd"
    refine ⟨le_ble rfl, fun p hp => ?_⟩
    obtain ⟨v, hv, hm⟩ := atI_in (xs := [V.int (1 + m / 3 % 20), V.int (1 + m * 16807 % 10 ^ Int.toNat 6), V.int (10 ^ Int.toNat 6 - m / 3 % 2)]) (i := m % 3) (Int.emod_nonneg _ (by decide)) (Int.emod_lt_of_pos _ (by decide))
    refine ⟨_, rfl, _, _, rfl, rfl, (by decide : (0 : Int) < 3), p, _, _, _, rfl, rfl, SqL.of upd_same, hv, ?_⟩
    rw [eN] at hm
    simp only [List.mem_cons, List.not_mem_nil, or_false] at hm
    rcases hm with rfl | rfl | rfl
    · exact k _ _ (Same.new hp) ⟨by omega, by omega⟩
    · exact k _ _ (Same.new hp) ⟨by omega, by omega⟩
    · exact k _ _ (Same.new hp) ⟨by omega, by omega⟩
set_option maxHeartbeats 4000000 in
theorem ok_Lentry (T : Txt w K mg c) : FnOk P w K mg base CX0 2 c.a_Lentry c.d_Lentry ["_law_mixed_here"] (spEntry91) := by
  refine T.Lentry.fn.ok sc_Lentry (fun vs H Q E h => ?_) (fun cdv A outer s H vs Q E hr h => ?_)
  · obtain ⟨m, rfl, _⟩ := h
    rfl
  · obtain ⟨m, rfl, m0, k⟩ := h
    refine ⟨_, (pss_cut (ps_set (i := 1) sc_Lentry.nd rfl (Or.inl rfl) (pe_ix ix_list (pe_lst (pa_cons pe_str (pa_cons pe_str (pa_cons pe_str pa_nil)))) (pe_op op_mod (pv 0) pe_int) (fun _ _ => rfl)))
      (pss_cut (ps_set (i := 2) sc_Lentry.nd rfl (Or.inl rfl) (pe_lst (pa_cons (pe_call (ok_Lday T) (hr.mono (by decide)) rfl T.Lday.mgf T.Lday.kp T.Lday.bi .nil pass0 (pa_cons (pe_op op_fdiv (pv 0) pe_int) pa_nil)) (pa_cons (pe_call (ok_Lnumber T) (hr.mono (by decide)) rfl T.Lnumber.mgf T.Lnumber.kp T.Lnumber.bi .nil pass0 (pa_cons (pe_op op_fdiv (pv 0) pe_int) pa_nil)) (pa_cons (pv 1) (pa_cons (pe_call (ok_Lword T) (hr.mono (by decide)) rfl T.Lword.mgf T.Lword.kp T.Lword.bi .nil pass0 (pa_cons (pe_op op_fdiv (pv 0) pe_int) pa_nil)) (pa_cons pe_non (pa_cons pe_non (pa_cons pe_non (pa_cons pe_bl pa_nil))))))))))
      (pss_cut (ps_if (pt_cmpR op_ne (pv 1) pe_str (nomark _))
        (pss_one (ps_asg (pe_call (ok_Lnumber T) (hr.mono (by decide)) rfl T.Lnumber.mgf T.Lnumber.kp T.Lnumber.bi .nil pass0 (pa_cons (pe_op op_fdiv (pv 0) pe_int) pa_nil)) (pg_sub (pv 2) pe_int set_list)))
        pss_nil)
      (pss_cons (ps_if (PW.pt (pw_and (pt_cmpR op_ne (pv 1) pe_str (nomark _)) (pw_and1 (pt_cmpR op_eq (pe_op op_mod (pe_op op_fdiv (pv 0) pe_int) pe_int) pe_int (nomark _)))))
        (pss_one (ps_asg (pe_call (ok_Lnumber T) (hr.mono (by decide)) rfl T.Lnumber.mgf T.Lnumber.kp T.Lnumber.bi .nil pass0 (pa_cons (pe_op op_fdiv (pv 0) pe_int) pa_nil)) (pg_sub (pv 2) pe_int set_list)))
        (pss_cons (ps_asg (pe_call (ok_Lnumber T) (hr.mono (by decide)) rfl T.Lnumber.mgf T.Lnumber.kp T.Lnumber.bi .nil pass0 (pa_cons (pe_op op_fdiv (pv 0) pe_int) pa_nil)) (pg_sub (pv 2) pe_int set_list))
      (pss_one (ps_asg (pe_cmpR op_gt (pe_op op_mod (pe_op op_fdiv (pv 0) pe_int) pe_int) pe_int (nomark _)) (pg_sub (pv 2) pe_int set_list)))))
      (pss_one (ps_ret (pv 2))))))), ?_⟩
    refine ⟨fun σ G => Same H G ∧ ∃ r : Str, isRank (.str r) = true ∧ r.length ≤ 7 ∧ σ = [some (.int m), some (.str r), none], ?_, ?_⟩
    · refine ⟨le_ble rfl, fun p hp => ?_⟩
      obtain ⟨v, hv, hm⟩ := atI_in (xs := [V.str (Str.ofString "genus"), V.str (Str.ofString "species"), V.str (Str.ofString "form")]) (i := m % 3) (Int.emod_nonneg _ (by decide)) (Int.emod_lt_of_pos _ (by decide))
      refine ⟨_, rfl, _, _, rfl, rfl, (by decide : (0 : Int) < 3), p, _, _, _, rfl, rfl, SqL.of upd_same, hv, ?_⟩
      simp only [List.mem_cons, List.not_mem_nil, or_false] at hm
      rcases hm with rfl | rfl | rfl
      · exact ⟨Same.new hp, _, by decide +kernel, by decide +kernel, rfl⟩
      · exact ⟨Same.new hp, _, by decide +kernel, by decide +kernel, rfl⟩
      · exact ⟨Same.new hp, _, by decide +kernel, by decide +kernel, rfl⟩
    rintro σ G ⟨sG, r, hr1, hr2, rfl⟩
    refine ⟨fun σ G' => Same H G' ∧ ∃ a d n w, H a = none ∧ okD d ∧ okN n ∧ isWord (.str w) = true ∧ G' a = some (.lst [.int d, .int n, .str r, .str w, .non, .non, .non, .bl true]) ∧ σ = [some (.int m), some (.str r), some (.ref a)], ?_, ?_⟩
    · refine ⟨_, rfl, _, _, rfl, rfl, ⟨by decide, by decide⟩, _, rfl, fun d G1 s1 hd => ?_⟩
      refine ⟨_, rfl, _, _, rfl, rfl, ⟨by decide, by decide⟩, _, rfl, fun n G2 s2 hn => ?_⟩
      refine ⟨_, rfl, _, rfl, _, _, rfl, rfl, ⟨by decide, by decide⟩, _, rfl, by omega, fun w hw => ?_⟩
      refine ⟨le_ble rfl, fun a ha => ?_⟩
      have s3 := sG.trans (s1.trans s2)
      exact ⟨s3.trans (Same.new ha), a, d, n, w, s3.free ha, hd, hn, hw, upd_same, rfl⟩
    rintro σ G1 ⟨s1, a, d, n, w, fa, hd, hn, hw, ha, rfl⟩
    have put : ∀ G2 xs, Same G1 G2 → Same H (upd G2 a (.lst xs)) := fun G2 xs s2 b u hb => by
      rw [upd_ne (ne_of_none hb fa)]
      exact s2 _ _ (s1 _ _ hb)
    refine ⟨fun σ G' => Same H G' ∧ ∃ u : Option Int, (r = Str.ofString "genus" → u = none) ∧ (r ≠ Str.ofString "genus" → ∃ x, u = some x ∧ okN x) ∧ G' a = some (.lst [.int d, .int n, .str r, .str w, optV u, .non, .non, .bl true]) ∧ σ = [some (.int m), some (.str r), some (.ref a)], ?_, ?_⟩
    · refine ⟨_, rfl, rfl, _, rfl, ?_⟩
      refine ite2 (fun q => ?_) (fun q => ?_)
      · have q : r ≠ Str.ofString "genus" := fun z => by rw [z] at q; exact absurd q (by decide +kernel)
        refine ⟨_, rfl, _, _, rfl, rfl, ⟨by decide, by decide⟩, _, rfl, fun x G2 s2 hx => ?_⟩
        exact ⟨_, rfl, a, _, _, 4, rfl, rfl, s2 _ _ ha, rfl, put G2 _ s2, some x, fun z => absurd z q, fun _ => ⟨x, rfl, hx⟩, upd_same, rfl⟩
      · have q : r = Str.ofString "genus" := Decidable.of_not_not fun z => q (by
          rw [decide_eq_false (fun w => z (V.str.inj w))]
          rfl)
        exact ⟨s1, none, fun _ => rfl, fun z => absurd q z, ha, rfl⟩
    rintro σ G2 ⟨s2, u, u1, u2, ha, rfl⟩
    have put : ∀ G3 xs, Same G2 G3 → Same H (upd G3 a (.lst xs)) := fun G3 xs s3 b u hb => by
      rw [upd_ne (ne_of_none hb fa)]
      exact s3 _ _ (s2 _ _ hb)
    have wl : w.length ≤ 12 := by
      rw [isWord_str, Bool.and_eq_true, Bool.and_eq_true] at hw
      have := of_decide_eq_true hw.1.2
      omega
    have hu : underFits (.str r) (optV u) = true := by
      by_cases e : r = Str.ofString "genus"
      · rw [u1 e, e]
        decide +kernel
      · obtain ⟨x, rfl, x1, x2⟩ := u2 e
        rw [under_n e]
        exact inR_of x1 x2
    have fin : ∀ (t : Int) (sv bv : Option Int) (kk : Bool), okN t → ((sv = some t ∧ bv = none) ∨ (sv = none ∧ bv = some t ∧ kk = true ∧ r ≠ Str.ofString "genus")) → okR (.pub ⟨n, d, r, w, u, sv, bv, kk⟩) := fun t sv bv kk ht hsb => by
      have htf : tieFits (.str r) (optV sv) (optV bv) = true := by
        rcases hsb with ⟨rfl, rfl⟩ | ⟨rfl, rfl, _, e⟩
        · show tieFits (.str r) (.int t) .non = true
          rw [tie_n]; exact inR_of ht.1 ht.2
        · show tieFits (.str r) .non (.int t) = true
          rw [tie_b (b := V.int t) _ _ (by intro q; cases q), inR_of ht.1 ht.2, decide_eq_false (fun q => e (V.str.inj q))]
          rfl
      refine ⟨⟨hn.1, hn.2, hd.1, hd.2, hr2, wl, fun x hx => ?_, fun x hx => ?_, fun hx => ?_⟩, ok_of (inR_of hn.1 hn.2) (inR_of hd.1 hd.2) hr1 hw hu htf, ?_⟩
      · have hx : u = some x := hx
        by_cases e : r = Str.ofString "genus"
        · rw [u1 e] at hx; cases hx
        · obtain ⟨y, e2, y1⟩ := u2 e
          rw [e2] at hx; cases hx; exact y1
      · have hx : bv = some x := hx
        rcases hsb with ⟨_, e⟩ | ⟨_, e, _⟩
        · rw [e] at hx; cases hx
        · rw [e] at hx; cases hx; exact ht
      · have hx : bv = none := hx
        rcases hsb with ⟨e, _⟩ | ⟨_, e, _⟩
        · exact ⟨t, e, ht⟩
        · rw [e] at hx; cases hx
      · rcases hsb with ⟨rfl, rfl⟩ | ⟨rfl, rfl, rfl, _⟩
        · cases kk <;> rfl
        · rfl
    refine ⟨_, rfl, rfl, _, rfl, ?_⟩
    have put2 : ∀ G3 xs ys, Same G2 G3 → Same H (upd (upd G3 a (.lst xs)) a (.lst ys)) := fun G3 xs ys s3 b u hb => by
      rw [upd_ne (ne_of_none hb fa), upd_ne (ne_of_none hb fa)]
      exact s3 _ _ (s2 _ _ hb)
    refine ite2 (fun q => ?_) (fun q => ?_)
    · have q : r ≠ Str.ofString "genus" := fun z => by rw [z] at q; exact absurd q (by decide +kernel)
      walk_at "rd"
      refine ite2 (fun _ => ?_) (fun _ => ?_)
      · refine ⟨_, rfl, _, _, rfl, rfl, ⟨by decide, by decide⟩, _, rfl, fun t G3 s3 ht => ?_⟩
        refine ⟨_, rfl, a, _, _, 6, rfl, rfl, s3 _ _ ha, rfl, ?_⟩
        exact ⟨_, rfl, k a ⟨n, d, r, w, u, none, some t, true⟩ _ (put G3 _ s3) fa upd_same (fin t none (some t) true ht (.inr ⟨rfl, rfl, rfl, q⟩))⟩
      · refine ⟨_, rfl, _, _, rfl, rfl, ⟨by decide, by decide⟩, _, rfl, fun t G3 s3 ht => ?_⟩
        refine ⟨_, rfl, a, _, _, 5, rfl, rfl, s3 _ _ ha, rfl, ?_⟩
        walk_at "rd"
        exact ⟨a, _, _, 7, rfl, rfl, upd_same, rfl, _, rfl, k a ⟨n, d, r, w, u, some t, none, decide (0 < m / 23 % 3)⟩ _ (put2 G3 _ _ s3) fa upd_same (fin t (some t) none _ ht (.inl ⟨rfl, rfl⟩))⟩
    · refine iteF ?_
      refine ⟨_, rfl, _, _, rfl, rfl, ⟨by decide, by decide⟩, _, rfl, fun t G3 s3 ht => ?_⟩
      refine ⟨_, rfl, a, _, _, 5, rfl, rfl, s3 _ _ ha, rfl, ?_⟩
      walk_at "rd"
      exact ⟨a, _, _, 7, rfl, rfl, upd_same, rfl, _, rfl, k a ⟨n, d, r, w, u, some t, none, decide (0 < m / 23 % 3)⟩ _ (put2 G3 _ _ s3) fa upd_same (fin t (some t) none _ ht (.inl ⟨rfl, rfl⟩))⟩
set_option maxHeartbeats 4000000 in
theorem ok_Lentry_row (T : Txt w K mg c) : FnOk P w K mg base CX0 1 c.a_Lentry_row c.d_Lentry_row ["_law_fields"] (spEntRow91) := by
  refine T.Lentry_row.fn.ok sc_Lentry_row (fun vs H Q E h => ?_) (fun cdv A outer s H vs Q E hr h => ?_)
  · obtain ⟨a, e, rfl, _⟩ := h
    rfl
  · obtain ⟨a, e, rfl, ha, okr, k⟩ := h
    refine ⟨_, (pss_cons (ps_set (i := 1) sc_Lentry_row.nd rfl (Or.inl rfl) (pe_lst (pa_cons pe_str (pa_cons (pe_callTy call_str_int rfl T.no_str bt_str (pa_cons (pe_ix ix_list (pv 0) pe_int (fun _ _ => rfl)) pa_nil)) (pa_cons (pe_callTy call_str_int rfl T.no_str bt_str (pa_cons (pe_ix ix_list (pv 0) pe_int (fun _ _ => rfl)) pa_nil)) (pa_cons (pe_ix ix_list (pv 0) pe_int (fun _ _ => rfl)) (pa_cons (pe_ix ix_list (pv 0) pe_int (fun _ _ => rfl)) pa_nil)))))))
      (pss_cut (ps_if (pt_cmp (pc_notN (pe_ix ix_list (pv 0) pe_int (fun _ _ => rfl))))
        (pss_one (ps_set (i := 1) sc_Lentry_row.nd rfl (Or.inl rfl) (pe_op op_cat (pv 1) (pe_lst (pa_cons pe_str (pa_cons (pe_callTy call_str_int rfl T.no_str bt_str (pa_cons (pe_ix ix_list (pv 0) pe_int (fun _ _ => rfl)) pa_nil)) pa_nil))))))
        pss_nil)
      (pss_cons (ps_if (pt_cmp (pc_notN (pe_ix ix_list (pv 0) pe_int (fun _ _ => rfl))))
        (pss_one (ps_ret (pe_bm PySem.F.plainAttrs_str PySem.F.slot_str_join PySem.F.type_str_join mt_join pe_str (pa_cons (pe_op op_cat (pv 1) (pe_lst (pa_cons pe_str (pa_cons (pe_callTy call_str_int rfl T.no_str bt_str (pa_cons (pe_ix ix_list (pv 0) pe_int (fun _ _ => rfl)) pa_nil)) pa_nil)))) pa_nil))))
        pss_nil)
      (pss_cut (ps_set (i := 1) sc_Lentry_row.nd rfl (Or.inl rfl) (pe_op op_cat (pv 1) (pe_lst (pa_cons pe_str (pa_cons (pe_callTy call_str_int rfl T.no_str bt_str (pa_cons (pe_ix ix_list (pv 0) pe_int (fun _ _ => rfl)) pa_nil)) pa_nil)))))
      (pss_cut (ps_if (pt_not (pt_val (pe_ix ix_list (pv 0) pe_int (fun _ _ => rfl))))
        (pss_one (ps_expr (pe_bm PySem.F.plainAttrs_list PySem.F.slot_list_append PySem.F.type_list_append (MtM.r mt_append) (pv 1) (pa_cons pe_str pa_nil))))
        pss_nil)
      (pss_one (ps_ret (pe_bm PySem.F.plainAttrs_str PySem.F.slot_str_join PySem.F.type_str_join mt_join pe_str (pa_cons (pv 1) pa_nil))))))))), ?_⟩
    have fit := okr.1
    have n0 := fit.n0
    have n1 := fit.n1
    have d0 := fit.d0
    have d1 := fit.d1
    have sz : 2000 < sizeLine := le_ble rfl
    have f0 : atI (rowV e) 0 = some (.int e.d) := atI_nat (j := 0) rfl
    have f1 : atI (rowV e) 1 = some (.int e.n) := atI_nat (j := 1) rfl
    have f2 : atI (rowV e) 2 = some (.str e.r) := atI_nat (j := 2) rfl
    have f3 : atI (rowV e) 3 = some (.str e.w) := atI_nat (j := 3) rfl
    have f4 : atI (rowV e) 4 = some (optV e.u) := atI_nat (j := 4) rfl
    have f5 : atI (rowV e) 5 = some (optV e.s) := atI_nat (j := 5) rfl
    have f6 : atI (rowV e) 6 = some (optV e.b) := atI_nat (j := 6) rfl
    have f7 : atI (rowV e) 7 = some (.bl e.k) := atI_nat (j := 7) rfl
    have tl := text_sum okr
    have te : Txt.join (Str.ofString " ") (Str.ofString "publish" :: txtW e) = textR (.pub e) := rfl
    have tl : ((Str.ofString "publish" :: txtW e).map (·.length)).sum + (Str.ofString "publish" :: txtW e).length ≤ 120 := tl
    refine ⟨_, rfl, a, _, _, _, rfl, rfl, SqL.of ha, f0, _, rfl, log_ok (by omega) (by omega), ?_⟩
    refine ⟨_, rfl, a, _, _, _, rfl, rfl, SqL.of ha, f1, _, rfl, log_ok (by omega) (by omega), ?_⟩
    refine ⟨_, rfl, a, _, _, _, rfl, rfl, SqL.of ha, f2, ?_⟩
    refine ⟨_, rfl, a, _, _, _, rfl, rfl, SqL.of ha, f3, le_ble rfl, fun p hp => ?_⟩
    refine ⟨fun σ G => Same H G ∧ ∃ w, σ = [some (.ref a), some (.ref w)] ∧ G w = some (.lst (([Str.ofString "publish", numS e.d, numS e.n, e.r, e.w] ++ txtU e.u).map V.str)), ?_, ?_⟩
    · refine ⟨_, rfl, a, _, _, _, rfl, rfl, SqL.of (Same.new hp _ _ ha), f4, ?_⟩
      cases hu : e.u with
      | none => exact ⟨_, rfl, iteF ⟨Same.new hp, p, rfl, upd_same⟩⟩
      | some u =>
        rw [hu] at f4
        have hh := fit.u u hu
        refine ⟨_, rfl, iteT ?_⟩
        refine ⟨_, rfl, _, rfl, a, _, _, _, rfl, rfl, SqL.of (Same.new hp _ _ ha), f4, _, rfl, log_ok (by omega) hh.2, le_ble rfl, fun q hq => ?_⟩
        exact ⟨p, q, _, _, rfl, rfl, Same.new hq _ _ upd_same, upd_same, le_ble rfl, fun q2 hq2 => ⟨(Same.new hp).trans ((Same.new hq).trans (Same.new hq2)), q2, rfl, upd_same⟩⟩
    rintro σ G ⟨sG, w, rfl, hw⟩
    have lU : (txtU e.u).length ≤ 2 := by cases e.u <;> exact le_ble rfl
    have ha2 := sG _ _ ha
    have ll : (([Str.ofString "publish", numS e.d, numS e.n, e.r, e.w] ++ txtU e.u).map V.str).length + 3 ≤ sizeLine := by
      rw [List.length_map, List.length_append]
      show 5 + _ + 3 ≤ _
      omega
    refine ⟨_, rfl, a, _, _, _, rfl, rfl, SqL.of ha2, f6, ?_⟩
    cases hb : e.b with
    | some b =>
      rw [hb] at f6
      have hh := fit.b b hb
      have tw : Str.ofString "publish" :: txtW e = [Str.ofString "publish", numS e.d, numS e.n, e.r, e.w] ++ txtU e.u ++ [Str.ofString "of", numS b] := by
        show Str.ofString "publish" :: ([Str.ofString (toString e.d), Str.ofString (toString e.n), e.r, e.w] ++ txtU e.u ++ txtT e.s e.b e.k) = _
        rw [hb]
        rfl
      rw [tw] at tl te
      refine ⟨_, rfl, iteT ?_⟩
      refine ⟨rfl, _, rfl, _, rfl, a, _, _, _, rfl, rfl, SqL.of ha2, f6, _, rfl, log_ok (by omega) hh.2, le_ble rfl, fun q hq => ?_⟩
      refine ⟨w, q, _, _, rfl, rfl, Same.new hq _ _ hw, upd_same, by show _ + 2 ≤ _; omega, fun q2 hq2 => ?_⟩
      refine ⟨_, q2, [Str.ofString "publish", numS e.d, numS e.n, e.r, e.w] ++ txtU e.u ++ [Str.ofString "of", numS b], rfl, rfl, SqL.of ?_, le_ble (by decide +kernel), by omega, ?_⟩
      · rw [List.map_append (l₁ := [Str.ofString "publish", numS e.d, numS e.n, e.r, e.w] ++ txtU e.u)]
        exact upd_same
      · rw [te]
        exact k _ (sG.trans ((Same.new hq).trans (Same.new hq2)))
    | none =>
      rw [hb] at f6
      obtain ⟨s, hs, hh⟩ := fit.s hb
      rw [hs] at f5
      refine ⟨_, rfl, iteF ?_⟩
      refine ⟨fun σ G' => Same H G' ∧ ∃ w2, H w2 = none ∧ σ = [some (.ref a), some (.ref w2)] ∧ G' w2 = some (.lst (([Str.ofString "publish", numS e.d, numS e.n, e.r, e.w] ++ txtU e.u ++ [Str.ofString "tied", numS s]).map V.str)), ?_, ?_⟩
      · refine ⟨_, rfl, _, rfl, a, _, _, _, rfl, rfl, SqL.of ha2, f5, _, rfl, log_ok (by omega) hh.2, le_ble rfl, fun q hq => ?_⟩
        refine ⟨w, q, _, _, rfl, rfl, Same.new hq _ _ hw, upd_same, by show _ + 2 ≤ _; omega, fun q2 hq2 => ?_⟩
        refine ⟨sG.trans ((Same.new hq).trans (Same.new hq2)), q2, (sG.trans (Same.new hq)).free hq2, rfl, ?_⟩
        rw [List.map_append (l₁ := [Str.ofString "publish", numS e.d, numS e.n, e.r, e.w] ++ txtU e.u)]
        exact upd_same
      rintro σ G2 ⟨s2, w2, f2w, rfl, hw2⟩
      have l2 : (([Str.ofString "publish", numS e.d, numS e.n, e.r, e.w] ++ txtU e.u ++ [Str.ofString "tied", numS s]).map V.str).length + 1 ≤ sizeLine := by
        rw [List.length_map, List.length_append, List.length_append]
        show 5 + _ + 2 + 1 ≤ _
        omega
      refine ⟨fun σ G' => Same H G' ∧ σ = [some (.ref a), some (.ref w2)] ∧ G' w2 = some (.lst ((Str.ofString "publish" :: txtW e).map V.str)), ?_, ?_⟩
      · refine ⟨_, rfl, a, _, _, _, rfl, rfl, SqL.of (s2 _ _ ha), f7, ?_⟩
        have tw : Str.ofString "publish" :: txtW e = [Str.ofString "publish", numS e.d, numS e.n, e.r, e.w] ++ txtU e.u ++ txtT (some s) none e.k := by
          show Str.ofString "publish" :: ([Str.ofString (toString e.d), Str.ofString (toString e.n), e.r, e.w] ++ txtU e.u ++ txtT e.s e.b e.k) = _
          rw [hb, hs]
          rfl
        cases hk : e.k with
        | true =>
          rw [hk] at tw
          refine ⟨_, rfl, iteF ⟨s2, rfl, ?_⟩⟩
          rw [tw]
          exact hw2
        | false =>
          rw [hk] at tw
          refine ⟨_, rfl, iteT ?_⟩
          refine ⟨_, rfl, .inl ⟨rfl, _, SqL.of hw2⟩, w2, _, _, rfl, rfl, hw2, l2, fun b u hb => ?_, rfl, ?_⟩
          · rw [upd_ne (ne_of_none hb f2w)]
            exact s2 _ _ hb
          · rw [tw, show txtT (some s) none false = [Str.ofString "tied", numS s] ++ [Str.ofString "bare"] from rfl, ← List.append_assoc, List.map_append (l₂ := [Str.ofString "bare"])]
            exact upd_same
      rintro σ G3 ⟨s3, rfl, hw3⟩
      refine ⟨rfl, _, rfl, _, w2, Str.ofString "publish" :: txtW e, rfl, rfl, SqL.of hw3, le_ble (by decide +kernel), by omega, ?_⟩
      rw [te]
      exact k _ s3
set_option maxHeartbeats 4000000 in
theorem ok_Lrow (T : Txt w K mg c) : FnOk P w K mg base CX0 3 c.a_Lrow c.d_Lrow ["_law_mixed_here"] (spRow91) := by
  refine T.Lrow.fn.ok sc_Lrow (fun vs H Q E h => ?_) (fun cdv A outer s H vs Q E hr h => ?_)
  · obtain ⟨m, rfl, _⟩ := h
    rfl
  · obtain ⟨m, rfl, m0, k⟩ := h
    refine ⟨_, (pss_cons (ps_set (i := 1) sc_Lrow.nd rfl (Or.inl rfl) (pe_op op_mod (pv 0) pe_int))
      (pss_cons (ps_set (i := 2) sc_Lrow.nd rfl (Or.inl rfl) (pe_op op_fdiv (pv 0) pe_int))
      (pss_cons (ps_set (i := 3) sc_Lrow.nd rfl (Or.inl rfl) (pe_call (ok_Lnumber T) (hr.mono (by decide)) rfl T.Lnumber.mgf T.Lnumber.kp T.Lnumber.bi .nil pass0 (pa_cons (pv 2) pa_nil)))
      (pss_cons (ps_set (i := 4) sc_Lrow.nd rfl (Or.inl rfl) (pe_call (ok_Lday T) (hr.mono (by decide)) rfl T.Lday.mgf T.Lday.kp T.Lday.bi .nil pass0 (pa_cons (pe_op op_fdiv (pv 2) pe_int) pa_nil)))
      (pss_cons (ps_if (pt_cmpR op_lt (pv 1) pe_int (nomark _))
        (pss_cons (ps_set (i := 5) sc_Lrow.nd rfl (Or.inl rfl) (pe_call (ok_Lentry T) (hr.mono (by decide)) rfl T.Lentry.mgf T.Lentry.kp T.Lentry.bi .nil pass0 (pa_cons (pv 2) pa_nil)))
      (pss_one (ps_ret (pe_tup (pa_cons (pe_call (ok_Lentry_row T) (hr.mono (by decide)) rfl T.Lentry_row.mgf T.Lentry_row.kp T.Lentry_row.bi .nil pass0 (pa_cons (pv 5) pa_nil)) (pa_cons pe_str (pa_cons (pv 5) pa_nil)))))))
        pss_nil)
      (pss_cons (ps_if (pt_cmpR op_eq (pv 1) pe_int (nomark _))
        (pss_cut (ps_set (i := 6) sc_Lrow.nd rfl (Or.inl rfl) (pe_ix ix_list (pe_lst (pa_cons pe_str (pa_cons pe_str (pa_cons pe_str pa_nil)))) (pe_op op_mod (pe_op op_fdiv (pv 2) pe_int) pe_int) (fun _ _ => rfl)))
      (pss_one (ps_ret (pe_tup (pa_cons (pe_bm PySem.F.plainAttrs_str PySem.F.slot_str_join PySem.F.type_str_join mt_join pe_str (pa_cons (pe_lst (pa_cons pe_str (pa_cons (pe_callTy call_str_int rfl T.no_str bt_str (pa_cons (pv 4) pa_nil)) (pa_cons (pv 6) (pa_cons (pe_callTy call_str_int rfl T.no_str bt_str (pa_cons (pv 3) pa_nil)) pa_nil))))) pa_nil)) (pa_cons pe_str (pa_cons (pe_lst (pa_cons (pv 4) (pa_cons (pv 6) (pa_cons (pv 3) pa_nil)))) pa_nil)))))))
        pss_nil)
      (pss_cons (ps_if (pt_cmpR op_eq (pv 1) pe_int (nomark _))
        (pss_cut (ps_set (i := 7) sc_Lrow.nd rfl (Or.inl rfl) (pe_slice sl_list (pe_lst (pa_cons (pe_op op_mod (pv 2) pe_int) (pa_cons (pe_op op_sub (pv 3) pe_int) (pa_cons (pe_op op_sub (pe_op op_pow pe_int pe_int) (pe_op op_mod (pv 2) pe_int)) pa_nil)))) po_none (po_some (pe_op op_add pe_int (pe_op op_mod (pe_op op_fdiv (pv 2) pe_int) pe_int)))))
      (pss_one (ps_ret (pe_tup (pa_cons (pe_op op_add_str (pe_op op_add_str (pe_op op_add_str pe_str (pe_callTy call_str_int rfl T.no_str bt_str (pa_cons (pv 3) pa_nil))) pe_str) (pe_bm PySem.F.plainAttrs_str PySem.F.slot_str_join PySem.F.type_str_join mt_join pe_str (pa_cons (pe_comp (N' := ["_law_place"]) (js := [none]) rfl rfl (by decide +kernel) (by decide +kernel) (free_nil (by decide +kernel)) (cap_nil rfl rfl) (pi_list (pv 7)) (fun B => ⟨(pg_name (i := 0) (show List.Nodup (["_law_place"] : List Str) by decide +kernel) rfl (Or.inl rfl)), pifs_nil, (pe_callTy call_str_int rfl T.no_str bt_str (pa_cons (pv 0) pa_nil))⟩)) pa_nil))) (pa_cons pe_str (pa_cons (pe_lst (pa_cons (pv 3) (pa_cons (pe_callTy call_tuple_of rfl T.no_tuple bt_tuple (pa_cons (pv 7) pa_nil)) pa_nil))) pa_nil)))))))
        pss_nil)
      (pss_cons (ps_if (pt_cmpR op_lt (pv 1) pe_int (nomark _))
        (pss_cut (ps_set (i := 8) sc_Lrow.nd rfl (Or.inl rfl) (pe_ix ix_list (pe_lst (pa_cons pe_str (pa_cons pe_str pa_nil))) (pe_op op_sub (pv 1) pe_int) (fun _ _ => rfl)))
      (pss_one (ps_ret (pe_tup (pa_cons (pe_bm PySem.F.plainAttrs_str PySem.F.slot_str_join PySem.F.type_str_join mt_join pe_str (pa_cons (pe_lst (pa_cons (pv 8) (pa_cons (pe_callTy call_str_int rfl T.no_str bt_str (pa_cons (pv 3) pa_nil)) (pa_cons (pe_callTy call_str_int rfl T.no_str bt_str (pa_cons (pv 4) pa_nil)) pa_nil)))) pa_nil)) (pa_cons (pv 8) (pa_cons (pe_lst (pa_cons (pv 3) (pa_cons (pv 4) pa_nil))) pa_nil)))))))
        pss_nil)
      (pss_cons (ps_if (pt_cmpR op_eq (pv 1) pe_int (nomark _))
        (pss_one (ps_ret (pe_tup (pa_cons pe_str (pa_cons pe_str (pa_cons (pe_lst pa_nil) pa_nil))))))
        pss_nil)
      (pss_cut (ps_set (i := 8) sc_Lrow.nd rfl (Or.inl rfl) (pe_ix ix_list (pe_lst (pa_cons pe_str (pa_cons pe_str pa_nil))) (pe_op op_sub (pv 1) pe_int) (fun _ _ => rfl)))
      (pss_one (ps_ret (pe_tup (pa_cons (pe_op op_add_str (pe_op op_add_str (pv 8) pe_str) (pe_callTy call_str_int rfl T.no_str bt_str (pa_cons (pv 3) pa_nil))) (pa_cons (pv 8) (pa_cons (pe_lst (pa_cons (pv 3) pa_nil)) pa_nil)))))))))))))))), ?_⟩
    have e9 : (10 : Int) ^ Int.toNat 9 = 1000000000 := by decide
    have w0 := Int.emod_nonneg m (b := 9) (by decide)
    have w1 := Int.emod_lt_of_pos m (b := 9) (by decide)
    have r0 : 0 ≤ m / 9 := by omega
    walk_at "rd"
    refine fun n G1 s1 hn => ?_
    walk_at "rd"
    refine fun d G2 s2 hd => ?_
    have sG := s1.trans s2
    have ln := log_ok (i := n) (by have := hn.1; omega) hn.2
    have ld := log_ok (i := d) (by have := hd.1; omega) (by have := hd.2; omega)
    walk_at "rd"
    refine ite2 (fun q => ?_) (fun q => ?_)
    · refine ⟨_, rfl, _, rfl, r0, fun a e G3 s3 fa ha oke => ?_⟩
      refine ⟨_, rfl, a, e, rfl, ha, oke, fun G4 s4 => ?_⟩
      refine ⟨_, rfl, le_ble rfl, fun t ht => ?_⟩
      have t5 := Same.new (o := HO.tup [V.str (textR (.pub e)), .str (Str.ofString "publish"), .ref a]) ht
      exact k t a (.pub e) _ (sG.trans (s3.trans (s4.trans t5))) oke upd_same ((s4.trans t5) _ _ ha)
    walk_at "rd"
    refine ite2 (fun q2 => ?_) (fun q2 => ?_)
    · refine ⟨fun σ G => Same H G ∧ ∃ kd : Str, isDeed (.str kd) = true ∧ σ = [some (.int m), some (.int (m % 9)), some (.int (m / 9)), some (.int n), some (.int d), none, some (.str kd), none, none], ?_, ?_⟩
      · refine ⟨le_ble rfl, fun p hp => ?_⟩
        obtain ⟨v, hv, hm⟩ := atI_in (xs := [V.str (Str.ofString "keep"), V.str (Str.ofString "strike"), V.str (Str.ofString "leave")]) (i := m / 9 / 5 % 3) (Int.emod_nonneg _ (by decide)) (Int.emod_lt_of_pos _ (by decide))
        refine ⟨_, rfl, _, _, rfl, rfl, ⟨by decide, by decide⟩, _, _, rfl, rfl, (by decide : (0 : Int) < 3), p, _, _, _, rfl, rfl, SqL.of upd_same, hv, ?_⟩
        simp only [List.mem_cons, List.not_mem_nil, or_false] at hm
        rcases hm with rfl | rfl | rfl
        · exact ⟨sG.trans (Same.new hp), _, by decide +kernel, rfl⟩
        · exact ⟨sG.trans (Same.new hp), _, by decide +kernel, rfl⟩
        · exact ⟨sG.trans (Same.new hp), _, by decide +kernel, rfl⟩
      rintro σ G3 ⟨s3, kd, hk, rfl⟩
      have okr : okR (.act d kd n) := ⟨hd, hk, hn⟩
      have tl := text_sum okr
      refine ⟨rfl, _, rfl, _, rfl, ld, _, rfl, _, rfl, _, rfl, ln, le_ble rfl, fun p hp => ?_⟩
      have t1 := Same.new (o := HO.lst ((verbR (.act d kd n) :: tailR (.act d kd n)).map V.str)) hp
      refine ⟨_, p, verbR (.act d kd n) :: tailR (.act d kd n), rfl, rfl, SqL.of upd_same, le_ble (by decide +kernel), by omega, ?_⟩
      refine ⟨_, rfl, _, rfl, _, rfl, le_ble rfl, fun q1 hq1 => ⟨le_ble rfl, fun t ht => ?_⟩⟩
      have t2 := Same.new (o := HO.lst [V.int d, .str kd, .int n]) hq1
      have t3 := Same.new (o := HO.tup [V.str (textR (.act d kd n)), .str (Str.ofString "act"), .ref q1]) ht
      exact k t q1 (.act d kd n) _ (s3.trans (t1.trans (t2.trans t3))) okr upd_same (t3 _ _ upd_same)
    walk_at "rd"
    refine ite2 (fun q3 => ?_) (fun q3 => ?_)
    · refine ⟨fun σ G => Same H G ∧ ∃ (p : Addr) (ns : List Int), G p = some (.lst (ns.map V.int)) ∧ 1 ≤ ns.length ∧ ns.length ≤ 3 ∧ (∀ x ∈ ns, 0 ≤ x ∧ x ≤ 1000000000) ∧ σ = [some (.int m), some (.int (m % 9)), some (.int (m / 9)), some (.int n), some (.int d), none, none, some (.ref p), none], ?_, ?_⟩
      · walk_at "rd"
        refine ⟨le_ble rfl, fun p0 hp0 => ?_⟩
        have t0 := Same.new (o := HO.lst [V.int (m / 9 % 4), .int (n - 1), .int (10 ^ Int.toNat 9 - m / 9 % 3)]) hp0
        obtain ⟨kk, hk, k1, k3⟩ : ∃ kk : Nat, 1 + m / 9 / 4 % 3 = (kk : Int) ∧ 1 ≤ kk ∧ kk ≤ 3 := ⟨(1 + m / 9 / 4 % 3).toNat, by omega, by omega, by omega⟩
        refine ⟨_, rfl, _, _, rfl, rfl, ⟨by decide, by decide⟩, _, _, rfl, rfl, (by decide : (0 : Int) < 3), _, _, rfl, rfl, _, rfl, p0, _, rfl, SqL.of upd_same, fun p hp => ?_⟩
        have t1 := Same.new (o := HO.lst (cutV [V.int (m / 9 % 4), .int (n - 1), .int (10 ^ Int.toNat 9 - m / 9 % 3)] none (some (1 + m / 9 / 4 % 3)))) hp
        have hn1 := hn.1
        have hn2 := hn.2
        refine ⟨sG.trans (t0.trans t1), p, [m / 9 % 4, n - 1, 10 ^ Int.toNat 9 - m / 9 % 3].take kk, ?_, by rw [List.length_take]; show 1 ≤ min kk 3; omega, by rw [List.length_take]; show min kk 3 ≤ 3; omega, fun x hx => ?_, rfl⟩
        · rw [List.map_take]
          have e : cutV [V.int (m / 9 % 4), .int (n - 1), .int (10 ^ Int.toNat 9 - m / 9 % 3)] none (some (1 + m / 9 / 4 % 3)) = ([m / 9 % 4, n - 1, 10 ^ Int.toNat 9 - m / 9 % 3].map V.int).take kk := by
            rw [hk]
            exact cut_lit _ kk
          rw [← e]
          exact upd_same
        · have hx := List.mem_of_mem_take hx
          rw [e9] at hx
          simp only [List.mem_cons, List.not_mem_nil, or_false] at hx
          rcases hx with rfl | rfl | rfl <;> omega
      rintro σ G3 ⟨s3, p, ns, hp, l1, l3, hx, rfl⟩
      have okr : okR (.lay n ns) := ⟨hn, l1, l3, hx⟩
      have sz : 2000 < sizeLine := le_ble rfl
      have b1 := num_s10 (n := n) (by have := hn.1; omega) hn.2
      have b1' : (Str.ofString (toString n)).length ≤ 10 := b1
      have c1 : (Str.ofString "lay ").length = 4 := by decide +kernel
      have c2 : (Str.ofString " ").length = 1 := by decide +kernel
      have tl := text_sum okr
      have tl : (Str.ofString "lay").length + ((numS n).length + ((pathS ns).length + 0)) + 3 ≤ 120 := tl
      refine ⟨_, rfl, _, rfl, ln, _, _, rfl, rfl, by omega, _, _, rfl, rfl, by rw [Str.length_append]; omega, rfl, ?_⟩
      refine ⟨_, rfl, p, rfl, ⟨_, SqL.of hp⟩, fun mm B hmm => ?_⟩
      refine loop_all (P := fun i v => ∃ x, ns[i]? = some x ∧ v = V.str (numS x)) hmm (SqL.of hp) (by rw [List.length_map]; omega) (fun σ => ∃ o, σ = [o]) ⟨_, rfl⟩ ?_ ?_
      · rintro i x σ G Kt hi ⟨o, rfl⟩ s' kt
        rw [List.getElem?_map] at hi
        cases hw : ns[i]? with
        | none => rw [hw] at hi; cases hi
        | some y =>
          rw [hw] at hi
          cases hi
          have hy := hx y (List.mem_of_getElem? hw)
          exact ⟨_, rfl, _, rfl, log_ok hy.1 hy.2, kt _ _ _ ⟨_, rfl⟩ (Same.refl _) ⟨y, hw, rfl⟩⟩
      intro G4 acc s4 h4 l4 ha
      have e : acc = (ns.map numS).map V.str := by
        rw [List.map_map]
        exact list_of (by rw [l4, List.length_map]) ha
      subst e
      have sl := sum_le (fun z : Str => z.length) 10 (ns.map numS) fun z hz => by
        obtain ⟨y, hy, rfl⟩ := List.mem_map.mp hz
        exact num_s10 (hx y hy).1 (hx y hy).2
      rw [List.length_map] at sl
      have sl : ((ns.map numS).map (·.length)).sum ≤ ns.length * 10 := sl
      refine ⟨_, mm, ns.map numS, rfl, rfl, SqL.of h4, le_ble (by decide +kernel), by rw [List.length_map]; omega, ?_⟩
      refine ⟨_, _, rfl, rfl, by rw [Str.length_append, Str.length_append]; show _ + (pathS ns).length ≤ _; omega, ?_⟩
      have hp4 := s4 _ _ hp
      refine ⟨_, rfl, _, rfl, p, _, rfl, .inl ⟨SqL.of hp4, fun tt htt => ?_⟩⟩
      have t1 := Same.new (o := HO.tup (ns.map V.int)) htt
      refine ⟨le_ble rfl, fun q1 hq1 => ⟨le_ble rfl, fun t ht => ?_⟩⟩
      have t2 := Same.new (o := HO.lst [V.int n, .ref tt]) hq1
      have te : Str.ofString "lay " ++ Str.ofString (toString n) ++ Str.ofString " " ++ Txt.join (Str.ofString ".") (ns.map numS) = textR (.lay n ns) := by
        rw [textJ, show Str.ofString "lay " = Str.ofString "lay" ++ Str.ofString " " by decide +kernel]
        show _ = Str.ofString "lay" ++ Str.ofString " " ++ (numS n ++ Str.ofString " " ++ pathS ns)
        exact ext_l (by simp only [app_l, List.append_assoc]; rfl)
      rw [te]
      have t3 := Same.new (o := HO.tup [V.str (textR (.lay n ns)), .str (Str.ofString "lay"), .ref q1]) ht
      exact k t q1 (.lay n ns) _ (s3.trans (s4.trans (t1.trans (t2.trans t3)))) okr upd_same ⟨tt, t3 _ _ upd_same, t3 _ _ (t2 _ _ upd_same)⟩
    walk_at "rd"
    refine ite2 (fun q4 => ?_) (fun q4 => ?_)
    · have a1 : ¬ m % 9 < 2 := fun z => q (decide_eq_true z)
      have a2 : m % 9 ≠ 2 := fun z => q2 (decide_eq_true (congrArg V.int z))
      have a3 : m % 9 ≠ 3 := fun z => q3 (decide_eq_true (congrArg V.int z))
      have a4 : m % 9 < 6 := of_decide_eq_true q4
      refine ⟨fun σ G => Same H G ∧ ∃ nm : Str, (nm = Str.ofString "name" ∨ nm = Str.ofString "why") ∧ σ = [some (.int m), some (.int (m % 9)), some (.int (m / 9)), some (.int n), some (.int d), none, none, none, some (.str nm)], ?_, ?_⟩
      · refine ⟨le_ble rfl, fun p hp => ?_⟩
        obtain ⟨v, hv, hm⟩ := atI_in (xs := [V.str (Str.ofString "name"), V.str (Str.ofString "why")]) (i := m % 9 - 4) (by omega) (by show m % 9 - 4 < 2; omega)
        refine ⟨_, rfl, _, _, rfl, rfl, p, _, _, _, rfl, rfl, SqL.of upd_same, hv, ?_⟩
        simp only [List.mem_cons, List.not_mem_nil, or_false] at hm
        rcases hm with rfl | rfl
        · exact ⟨sG.trans (Same.new hp), _, .inl rfl, rfl⟩
        · exact ⟨sG.trans (Same.new hp), _, .inr rfl, rfl⟩
      rintro σ G3 ⟨s3, nm, hnm, rfl⟩
      have fin : ∀ r : Rw, okR r → verbR r = nm → tailR r = [numS n, numS d] → (∀ (H' : Hp) q1, H' q1 = some (.lst [.int n, .int d]) → ThAt H' q1 r) → ∀ t q1 H', Same G3 H' → H' t = some (.tup [.str (Txt.join (Str.ofString " ") [nm, numS n, numS d]), .str nm, .ref q1]) → H' q1 = some (.lst [.int n, .int d]) → Q (.ref t) H' := fun r okr e1 e2 th t q1 H' s' ht hq => by
        refine k t q1 r H' (s3.trans s') okr ?_ (th H' q1 hq)
        rw [ht, ← e1, ← e2]
        rfl
      have fin : ∀ t q1 H', Same G3 H' → H' t = some (.tup [.str (Txt.join (Str.ofString " ") [nm, numS n, numS d]), .str nm, .ref q1]) → H' q1 = some (.lst [.int n, .int d]) → Q (.ref t) H' := by
        rcases hnm with rfl | rfl
        · exact fin (.name n d) ⟨hn, hd⟩ rfl rfl fun _ _ h => h
        · exact fin (.why n d) ⟨hn, hd⟩ rfl rfl fun _ _ h => h
      have nl : nm.length ≤ 4 := by rcases hnm with rfl | rfl <;> decide +kernel
      have b1 := num_s10 (n := n) (by have := hn.1; omega) hn.2
      have b2 := num_s10 (n := d) (by have := hd.1; omega) (by have := hd.2; omega)
      refine ⟨rfl, _, rfl, _, rfl, _, rfl, ln, _, rfl, _, rfl, ld, le_ble rfl, fun p hp => ?_⟩
      have t1 := Same.new (o := HO.lst ([nm, numS n, numS d].map V.str)) hp
      refine ⟨_, p, [nm, numS n, numS d], rfl, rfl, SqL.of upd_same, le_ble (by decide +kernel), by show nm.length + ((numS n).length + ((numS d).length + 0)) + 3 ≤ _; omega, ?_⟩
      refine ⟨_, rfl, _, rfl, _, rfl, le_ble rfl, fun q1 hq1 => ⟨le_ble rfl, fun t ht => ?_⟩⟩
      have t2 := Same.new (o := HO.lst [V.int n, .int d]) hq1
      have t3 := Same.new (o := HO.tup [V.str (Txt.join (Str.ofString " ") [nm, numS n, numS d]), .str nm, .ref q1]) ht
      exact fin t q1 _ (t1.trans (t2.trans t3)) upd_same (t3 _ _ upd_same)
    walk_at "rd"
    refine ite2 (fun q5 => ?_) (fun q5 => ?_)
    · refine ⟨le_ble rfl, fun q1 hq1 => ⟨le_ble rfl, fun t ht => ?_⟩⟩
      have t2 := Same.new (o := HO.lst []) hq1
      have t3 := Same.new (o := HO.tup [V.str (Str.ofString "book"), .str (Str.ofString "book"), .ref q1]) ht
      exact k t q1 .book _ (sG.trans (t2.trans t3)) trivial upd_same (t3 _ _ upd_same)
    have a4 : ¬ m % 9 < 6 := fun z => q4 (decide_eq_true z)
    have a5 : m % 9 ≠ 6 := fun z => q5 (decide_eq_true (congrArg V.int z))
    refine ⟨fun σ G => Same H G ∧ ∃ nm : Str, (nm = Str.ofString "take" ∨ nm = Str.ofString "out") ∧ σ = [some (.int m), some (.int (m % 9)), some (.int (m / 9)), some (.int n), some (.int d), none, none, none, some (.str nm)], ?_, ?_⟩
    · refine ⟨le_ble rfl, fun p hp => ?_⟩
      obtain ⟨v, hv, hm⟩ := atI_in (xs := [V.str (Str.ofString "take"), V.str (Str.ofString "out")]) (i := m % 9 - 7) (by omega) (by show m % 9 - 7 < 2; omega)
      refine ⟨_, rfl, _, _, rfl, rfl, p, _, _, _, rfl, rfl, SqL.of upd_same, hv, ?_⟩
      simp only [List.mem_cons, List.not_mem_nil, or_false] at hm
      rcases hm with rfl | rfl
      · exact ⟨sG.trans (Same.new hp), _, .inl rfl, rfl⟩
      · exact ⟨sG.trans (Same.new hp), _, .inr rfl, rfl⟩
    rintro σ G3 ⟨s3, nm, hnm, rfl⟩
    have sz : 2000 < sizeLine := le_ble rfl
    have nl : nm.length ≤ 4 := by rcases hnm with rfl | rfl <;> decide +kernel
    have l1 : (Str.ofString " ").length = 1 := by decide +kernel
    have b1 := num_s10 (n := n) (by have := hn.1; omega) hn.2
    have b1' : (Str.ofString (toString n)).length ≤ 10 := b1
    refine ⟨_, rfl, _, _, rfl, rfl, by omega, _, rfl, _, rfl, ln, _, _, rfl, rfl, by rw [Str.length_append]; omega, ?_⟩
    refine ⟨_, rfl, _, rfl, le_ble rfl, fun q1 hq1 => ⟨le_ble rfl, fun t ht => ?_⟩⟩
    have t2 := Same.new (o := HO.lst [V.int n]) hq1
    have t3 := Same.new (o := HO.tup [V.str (nm ++ Str.ofString " " ++ numS n), .str nm, .ref q1]) ht
    rcases hnm with rfl | rfl
    · exact k t q1 (.take n) _ (s3.trans (t2.trans t3)) hn (by rw [textJ]; exact upd_same) (t3 _ _ upd_same)
    · exact k t q1 (.out n) _ (s3.trans (t2.trans t3)) hn (by rw [textJ]; exact upd_same) (t3 _ _ upd_same)
set_option maxHeartbeats 4000000 in
theorem ok_Lany_word (T : Txt w K mg c) : FnOk P w K mg base CX0 1 c.a_Lany_word c.d_Lany_word ["_law_text", "_law_number_here"] (spSp91) := by
  refine T.Lany_word.fn.ok sc_Lany_word (fun vs H Q E h => ?_) (fun cdv A outer s H vs Q E hr h => ?_)
  · obtain ⟨r, m, rfl, _⟩ := h
    rfl
  · obtain ⟨r, m, rfl, okr, k⟩ := h
    refine ⟨_, (pss_cons (ps_set (i := 2) sc_Lany_word.nd rfl (Or.inl rfl) (pe_bm PySem.F.plainAttrs_str PySem.F.slot_str_split PySem.F.type_str_split mt_split (pv 0) (pa_cons pe_str pa_nil)))
      (pss_cons (ps_set (i := 3) sc_Lany_word.nd rfl (Or.inl rfl) (pe_op op_mod (pv 1) (pe_callB call_len_seq rfl T.no_len bt_len (pa_cons (pv 2) pa_nil))))
      (pss_cons (ps_asg (pe_ix ix_list (pe_lst (pa_cons (pe_op op_add_str pe_str (pe_ix ix_list (pv 2) (pv 3) (fun _ _ => rfl))) (pa_cons (pe_op op_add_str (pe_ix ix_list (pv 2) (pv 3) (fun _ _ => rfl)) pe_str) (pa_cons (pe_op op_add_str (pe_ix ix_list (pv 2) (pv 3) (fun _ _ => rfl)) pe_str) pa_nil)))) (pe_op op_mod (pe_op op_fdiv (pv 1) pe_int) pe_int) (fun _ _ => rfl)) (pg_sub (pv 2) (pv 3) set_list))
      (pss_one (ps_ret (pe_bm PySem.F.plainAttrs_str PySem.F.slot_str_join PySem.F.type_str_join mt_join pe_str (pa_cons (pv 2) pa_nil))))))), ?_⟩
    have sz : 2000 < sizeLine := le_ble rfl
    have rl := text_len okr
    refine ⟨_, rfl, rfl, _, _, rfl, rfl, by omega, by decide +kernel, fun l hl => ?_⟩
    rw [(row_good okr).1]
    have sl := Same.new (o := HO.lst ((verbR r :: tailR r).map V.str)) hl
    have kl := upd_same (H := H) (a := l) (o := HO.lst ((verbR r :: tailR r).map V.str))
    have hfree := hl
    generalize upd H l (.lst ((verbR r :: tailR r).map V.str)) = G at sl kl ⊢
    have tl := text_sum okr
    have lm : ((verbR r :: tailR r).map V.str).length = (verbR r :: tailR r).length := List.length_map ..
    have tp : 0 < (verbR r :: tailR r).length := Nat.succ_pos _
    obtain ⟨j, v, hj, hv, hat, hix⟩ := atI_ix (xs := (verbR r :: tailR r).map V.str) (i := m % ((verbR r :: tailR r).map V.str).length) (Int.emod_nonneg _ (by omega)) (Int.emod_lt_of_pos _ (by omega))
    rw [List.getElem?_map] at hv
    cases hw : (verbR r :: tailR r)[j]? with
    | none => rw [hw] at hv; cases hv
    | some w =>
      rw [hw] at hv
      cases hv
      have wl : w.length ≤ 120 := by
        have l3 := sum_set _ _ _ (Str.ofString "") hw
        have l4 : (Str.ofString "").length = 0 := by decide +kernel
        omega
      have l1 : (Str.ofString "0").length = 1 := by decide +kernel
      have l2 : (Str.ofString "000000000000").length = 12 := by decide +kernel
      have l3 : (Str.ofString "\t").length = 1 := by decide +kernel
      generalize hL : verbR r :: tailR r = L at *
      walk_at "rd"
      refine ⟨l, _, rfl, .inl (SqL.of kl), _, _, rfl, rfl, by omega, ?_⟩
      refine ⟨_, rfl, _, rfl, l, _, _, _, rfl, rfl, SqL.of kl, hat, _, _, rfl, rfl, by omega, ?_⟩
      refine ⟨_, rfl, _, rfl, l, _, _, _, rfl, rfl, SqL.of kl, hat, _, _, rfl, rfl, by omega, ?_⟩
      refine ⟨_, rfl, _, rfl, l, _, _, _, rfl, rfl, SqL.of kl, hat, _, _, rfl, rfl, by omega, le_ble rfl, fun p hp => ?_⟩
      have sp := Same.new (o := HO.lst (spW3 w)) hp
      obtain ⟨v3, h3, m3⟩ := atI_in (xs := spW3 w) (i := m / 11 % 3) (Int.emod_nonneg _ (by decide)) (Int.emod_lt_of_pos _ (by decide))
      rw [← hL] at hw
      obtain ⟨z, rfl, z2, z1, z3⟩ := bad_any okr hw m3
      rw [hL] at z1 z2 z3
      refine ⟨_, rfl, _, _, rfl, rfl, ⟨by decide, by decide⟩, _, _, rfl, rfl, (by decide : (0 : Int) < 3), p, _, _, _, rfl, rfl, SqL.of upd_same, h3, ?_⟩
      have kl2 := sp _ _ kl
      refine ⟨_, rfl, _, rfl, l, _, _, j, rfl, rfl, kl2, hix, ?_⟩
      rw [← List.map_set]
      have s3 : Same H (upd (upd G p (.lst (spW3 w))) l (.lst ((L.set j z).map V.str))) := fun b u hb => by
        rw [upd_ne (ne_of_none hb hfree)]
        exact sp _ _ (sl _ _ hb)
      exact ⟨rfl, _, rfl, _, l, _, rfl, rfl, SqL.of upd_same, le_ble (by decide +kernel), z2, k _ _ s3 z1 z3⟩
set_option maxHeartbeats 4000000 in
theorem ok_Lspoilt (T : Txt w K mg c) : FnOk P w K mg base CX0 1 c.a_Lspoilt c.d_Lspoilt ["_law_text", "_law_way"] (spSp91) := by
  refine T.Lspoilt.fn.ok sc_Lspoilt (fun vs H Q E h => ?_) (fun cdv A outer s H vs Q E hr h => ?_)
  · obtain ⟨r, m, rfl, _⟩ := h
    rfl
  · obtain ⟨r, m, rfl, okr, k⟩ := h
    refine ⟨_, (pss_bp (psb_set (i := 2) sc_Lspoilt.nd rfl (Or.inl rfl) (peb_lst (peb_op op_add_str (pv 0)) (pap_cons (PE.p (pe_op op_add_str pe_str (pv 0))) (pap_cons (PE.p (pe_op op_add_str (pv 0) pe_str)) (pap_cons (PE.p (pe_op op_add_str (pe_bm0 PySem.F.plainAttrs_str PySem.F.slot_str_upper PySem.F.type_str_upper mt_upper (pe_slice sl_str (pv 0) po_none (po_some pe_int))) (pe_slice sl_str (pv 0) (po_some pe_int) po_none))) (pap_cons (pep_op op_add_str (pep_rep (pe_op op_add_str pe_str (pv 0)) (by decide +kernel)) (PE.p pe_str)) (PA.p pa_nil))))))) (psp_set (i := 2) sc_Lspoilt.nd rfl (Or.inl rfl) (pep_op op_cat (PE.p (pv 2)) (pep_lst (pap_cons (pep_op op_add_str (pep_rep (pv 0) (by decide +kernel)) (PE.p pe_str)) (PA.p (pa_cons pe_str (pa_cons pe_str (pa_cons pe_str (pa_cons pe_str (pa_cons pe_str pa_nil))))))))))
      (pss_cons (ps_set (i := 2) sc_Lspoilt.nd rfl (Or.inl rfl) (pe_op op_cat (pv 2) (pe_lst (pa_cons pe_str (pa_cons pe_str (pa_cons pe_str (pa_cons pe_str (pa_cons pe_str (pa_cons pe_str (pa_cons pe_str pa_nil))))))))))
      (pss_cons (ps_set (i := 2) sc_Lspoilt.nd rfl (Or.inl rfl) (pe_op op_cat (pv 2) (pe_lst (pa_cons pe_str (pa_cons pe_str (pa_cons pe_str (pa_cons pe_str (pa_cons pe_str (pa_cons pe_str (pa_cons pe_str pa_nil))))))))))
      (pss_one (ps_ret (pe_ix ix_list (pv 2) (pe_op op_mod (pv 1) pe_int) (fun _ _ => rfl))))))), ?_⟩
    have sz : 2000 < sizeLine := le_ble rfl
    have rl := text_len okr
    have l1 : (Str.ofString " ").length = 1 := by decide +kernel
    have l2 : (Str.ofString "  ").length = 2 := by decide +kernel
    have l3 : (Str.ofString " x").length = 2 := by decide +kernel
    have l4 : (Str.ofString "x").length = 1 := by decide +kernel
    have l5 : (Str.ofString "\n").length = 1 := by decide +kernel
    have l6 : (Str.ofString "").length = 0 := by decide +kernel
    have bc := bad_cap okr
    have cl : (cutS (textR r) (some 1) none).length ≤ 120 := Nat.le_trans (cutS_le _ _ _) rl
    have ul := PyProof.Rows.len_upper (cutS (textR r) none (some 1))
    have rp := rep1_len (Str.ofString "x" ++ textR r) (Str.ofString "x") (Str.ofString "")
    have rq := rep1_len (textR r) (Str.ofString " ") (Str.ofString "  ")
    rw [Str.length_append] at rp
    refine ⟨_, rfl, _, _, rfl, rfl, by omega, ?_⟩
    refine ⟨_, rfl, _, _, rfl, rfl, by omega, ?_⟩
    refine ⟨_, rfl, _, _, rfl, rfl, by omega, ?_⟩
    refine ⟨_, rfl, _, rfl, _, rfl, by omega, rfl, _, rfl, rfl, by omega, ?_⟩
    refine ⟨_, rfl, _, rfl, _, rfl, by omega, _, _, rfl, rfl, by omega, ?_⟩
    refine ⟨_, rfl, _, _, rfl, rfl, by omega, _, rfl, by rw [Str.length_append]; omega, _, _, rfl, rfl, by omega, le_ble rfl, fun p0 hp0 => ?_⟩
    have hx : ∀ v ∈ [V.str (textR r ++ Str.ofString " "), .str (Str.ofString " " ++ textR r), .str (textR r ++ Str.ofString " x"), .str (Txt.upper (cutS (textR r) none (some 1)) ++ cutS (textR r) (some 1) none), .str (rep1 (Str.ofString "x" ++ textR r) (Str.ofString "x") (Str.ofString "") ++ Str.ofString "\n")], SpD v := fun v hv => by
      rcases List.mem_cons.mp hv with rfl | hv
      · exact ⟨_, rfl, by rw [Str.length_append]; omega, bad_behind okr⟩
      rcases List.mem_cons.mp hv with rfl | hv
      · exact ⟨_, rfl, by rw [Str.length_append]; omega, bad_ahead okr⟩
      rcases List.mem_cons.mp hv with rfl | hv
      · exact ⟨_, rfl, by rw [Str.length_append]; omega, bad_x okr⟩
      rcases List.mem_cons.mp hv with rfl | hv
      · exact ⟨_, rfl, by rw [Str.length_append]; omega, bc.2⟩
      rw [List.mem_singleton.mp hv]
      exact ⟨_, rfl, by rw [Str.length_append]; omega, bad_line okr⟩
    have lx : ([V.str (textR r ++ Str.ofString " "), .str (Str.ofString " " ++ textR r), .str (textR r ++ Str.ofString " x"), .str (Txt.upper (cutS (textR r) none (some 1)) ++ cutS (textR r) (some 1) none), .str (rep1 (Str.ofString "x" ++ textR r) (Str.ofString "x") (Str.ofString "") ++ Str.ofString "\n")]).length = 5 := rfl
    generalize hG : upd H p0 (HO.lst _) = G0
    have sG : Same H G0 := by rw [← hG]; exact Same.new hp0
    have kp : G0 p0 = some (.lst [V.str (textR r ++ Str.ofString " "), .str (Str.ofString " " ++ textR r), .str (textR r ++ Str.ofString " x"), .str (Txt.upper (cutS (textR r) none (some 1)) ++ cutS (textR r) (some 1) none), .str (rep1 (Str.ofString "x" ++ textR r) (Str.ofString "x") (Str.ofString "") ++ Str.ofString "\n")]) := by rw [← hG]; exact upd_same
    clear hG
    generalize [V.str (textR r ++ Str.ofString " "), .str (Str.ofString " " ++ textR r), .str (textR r ++ Str.ofString " x"), .str (Txt.upper (cutS (textR r) none (some 1)) ++ cutS (textR r) (some 1) none), .str (rep1 (Str.ofString "x" ++ textR r) (Str.ofString "x") (Str.ofString "") ++ Str.ofString "\n")] = xs0 at hx lx kp
    have hc1 : ∀ v ∈ (V.str (rep1 (textR r) (Str.ofString " ") (Str.ofString "  ") ++ Str.ofString " x") :: [Str.ofString "", Str.ofString "publish", Str.ofString "publish 5", Str.ofString "act 5 keep", Str.ofString "act 5 kept 1"].map V.str), SpD v := fun v hv => by
      rcases List.mem_cons.mp hv with rfl | hv
      · exact ⟨_, rfl, by rw [Str.length_append]; omega, bad_two okr⟩
      · exact SpD.consts (cs := [Str.ofString "", Str.ofString "publish", Str.ofString "publish 5", Str.ofString "act 5 keep", Str.ofString "act 5 kept 1"]) (by decide +kernel) v hv
    refine ⟨_, rfl, _, rfl, _, rfl, by omega, _, _, rfl, rfl, by omega, le_ble rfl, fun q1 hq1 => ?_⟩
    have u1 := Same.new (o := HO.lst (V.str (rep1 (textR r) (Str.ofString " ") (Str.ofString "  ") ++ Str.ofString " x") :: [Str.ofString "", Str.ofString "publish", Str.ofString "publish 5", Str.ofString "act 5 keep", Str.ofString "act 5 kept 1"].map V.str)) hq1
    have lx1 : (xs0 ++ (V.str (rep1 (textR r) (Str.ofString " ") (Str.ofString "  ") ++ Str.ofString " x") :: [Str.ofString "", Str.ofString "publish", Str.ofString "publish 5", Str.ofString "act 5 keep", Str.ofString "act 5 kept 1"].map V.str)).length = 11 := by rw [List.length_append, lx]; rfl
    refine ⟨p0, q1, xs0, (V.str (rep1 (textR r) (Str.ofString " ") (Str.ofString "  ") ++ Str.ofString " x") :: [Str.ofString "", Str.ofString "publish", Str.ofString "publish 5", Str.ofString "act 5 keep", Str.ofString "act 5 kept 1"].map V.str), rfl, rfl, u1 _ _ kp, upd_same, by rw [lx]; exact le_ble rfl, fun p1 hp1 => ?_⟩
    have hx := SpD.app hx hc1
    have v1 := Same.new (o := HO.lst (xs0 ++ (V.str (rep1 (textR r) (Str.ofString " ") (Str.ofString "  ") ++ Str.ofString " x") :: [Str.ofString "", Str.ofString "publish", Str.ofString "publish 5", Str.ofString "act 5 keep", Str.ofString "act 5 kept 1"].map V.str))) hp1
    have lx := lx1
    clear lx1
    generalize hG : upd (upd G0 q1 (HO.lst _)) p1 (HO.lst _) = G1
    have sG : Same H G1 := by rw [← hG]; exact sG.trans (u1.trans v1)
    have kp : G1 p1 = some (.lst (xs0 ++ (V.str (rep1 (textR r) (Str.ofString " ") (Str.ofString "  ") ++ Str.ofString " x") :: [Str.ofString "", Str.ofString "publish", Str.ofString "publish 5", Str.ofString "act 5 keep", Str.ofString "act 5 kept 1"].map V.str))) := by rw [← hG]; exact upd_same
    clear hG
    generalize xs0 ++ (V.str (rep1 (textR r) (Str.ofString " ") (Str.ofString "  ") ++ Str.ofString " x") :: [Str.ofString "", Str.ofString "publish", Str.ofString "publish 5", Str.ofString "act 5 keep", Str.ofString "act 5 kept 1"].map V.str) = xs1 at hx lx kp
    have hc2 : ∀ v ∈ ([Str.ofString "act 0 keep 1", Str.ofString "act 1000001 keep 1", Str.ofString "lay 1", Str.ofString "lay 1 0.0.0.0", Str.ofString "lay 1 .0", Str.ofString "lay 1 0.", Str.ofString "lay 0 0"].map V.str), SpD v := SpD.consts (by decide +kernel)
    refine ⟨_, rfl, le_ble rfl, fun q2 hq2 => ?_⟩
    have u2 := Same.new (o := HO.lst ([Str.ofString "act 0 keep 1", Str.ofString "act 1000001 keep 1", Str.ofString "lay 1", Str.ofString "lay 1 0.0.0.0", Str.ofString "lay 1 .0", Str.ofString "lay 1 0.", Str.ofString "lay 0 0"].map V.str)) hq2
    have lx2 : (xs1 ++ ([Str.ofString "act 0 keep 1", Str.ofString "act 1000001 keep 1", Str.ofString "lay 1", Str.ofString "lay 1 0.0.0.0", Str.ofString "lay 1 .0", Str.ofString "lay 1 0.", Str.ofString "lay 0 0"].map V.str)).length = 18 := by rw [List.length_append, lx]; rfl
    refine ⟨p1, q2, xs1, ([Str.ofString "act 0 keep 1", Str.ofString "act 1000001 keep 1", Str.ofString "lay 1", Str.ofString "lay 1 0.0.0.0", Str.ofString "lay 1 .0", Str.ofString "lay 1 0.", Str.ofString "lay 0 0"].map V.str), rfl, rfl, u2 _ _ kp, upd_same, by rw [lx]; exact le_ble rfl, fun p2 hp2 => ?_⟩
    have hx := SpD.app hx hc2
    have v2 := Same.new (o := HO.lst (xs1 ++ ([Str.ofString "act 0 keep 1", Str.ofString "act 1000001 keep 1", Str.ofString "lay 1", Str.ofString "lay 1 0.0.0.0", Str.ofString "lay 1 .0", Str.ofString "lay 1 0.", Str.ofString "lay 0 0"].map V.str))) hp2
    have lx := lx2
    clear lx2
    generalize hG : upd (upd G1 q2 (HO.lst _)) p2 (HO.lst _) = G2
    have sG : Same H G2 := by rw [← hG]; exact sG.trans (u2.trans v2)
    have kp : G2 p2 = some (.lst (xs1 ++ ([Str.ofString "act 0 keep 1", Str.ofString "act 1000001 keep 1", Str.ofString "lay 1", Str.ofString "lay 1 0.0.0.0", Str.ofString "lay 1 .0", Str.ofString "lay 1 0.", Str.ofString "lay 0 0"].map V.str))) := by rw [← hG]; exact upd_same
    clear hG
    generalize xs1 ++ ([Str.ofString "act 0 keep 1", Str.ofString "act 1000001 keep 1", Str.ofString "lay 1", Str.ofString "lay 1 0.0.0.0", Str.ofString "lay 1 .0", Str.ofString "lay 1 0.", Str.ofString "lay 0 0"].map V.str) = xs2 at hx lx kp
    have hc3 : ∀ v ∈ ([Str.ofString "take 0", Str.ofString "take", Str.ofString "name 1", Str.ofString "why 1 0", Str.ofString "out 1 1", Str.ofString "books", Str.ofString "lay 1 00.1"].map V.str), SpD v := SpD.consts (by decide +kernel)
    refine ⟨_, rfl, le_ble rfl, fun q3 hq3 => ?_⟩
    have u3 := Same.new (o := HO.lst ([Str.ofString "take 0", Str.ofString "take", Str.ofString "name 1", Str.ofString "why 1 0", Str.ofString "out 1 1", Str.ofString "books", Str.ofString "lay 1 00.1"].map V.str)) hq3
    have lx3 : (xs2 ++ ([Str.ofString "take 0", Str.ofString "take", Str.ofString "name 1", Str.ofString "why 1 0", Str.ofString "out 1 1", Str.ofString "books", Str.ofString "lay 1 00.1"].map V.str)).length = 25 := by rw [List.length_append, lx]; rfl
    refine ⟨p2, q3, xs2, ([Str.ofString "take 0", Str.ofString "take", Str.ofString "name 1", Str.ofString "why 1 0", Str.ofString "out 1 1", Str.ofString "books", Str.ofString "lay 1 00.1"].map V.str), rfl, rfl, u3 _ _ kp, upd_same, by rw [lx]; exact le_ble rfl, fun p3 hp3 => ?_⟩
    have hx := SpD.app hx hc3
    have v3 := Same.new (o := HO.lst (xs2 ++ ([Str.ofString "take 0", Str.ofString "take", Str.ofString "name 1", Str.ofString "why 1 0", Str.ofString "out 1 1", Str.ofString "books", Str.ofString "lay 1 00.1"].map V.str))) hp3
    have lx := lx3
    clear lx3
    generalize hG : upd (upd G2 q3 (HO.lst _)) p3 (HO.lst _) = G3
    have sG : Same H G3 := by rw [← hG]; exact sG.trans (u3.trans v3)
    have kp : G3 p3 = some (.lst (xs2 ++ ([Str.ofString "take 0", Str.ofString "take", Str.ofString "name 1", Str.ofString "why 1 0", Str.ofString "out 1 1", Str.ofString "books", Str.ofString "lay 1 00.1"].map V.str))) := by rw [← hG]; exact upd_same
    clear hG
    generalize xs2 ++ ([Str.ofString "take 0", Str.ofString "take", Str.ofString "name 1", Str.ofString "why 1 0", Str.ofString "out 1 1", Str.ofString "books", Str.ofString "lay 1 00.1"].map V.str) = xs3 at hx lx kp
    obtain ⟨v, hv, hm⟩ := atI_in (xs := xs3) (i := m % 25) (Int.emod_nonneg _ (by decide)) (by rw [lx]; exact Int.emod_lt_of_pos _ (by decide))
    obtain ⟨y, rfl, yl, hy⟩ := hx v hm
    exact ⟨_, rfl, _, rfl, _, _, rfl, rfl, (by decide : (0 : Int) < 25), p3, _, _, _, rfl, rfl, SqL.of kp, hv, k y _ sG yl hy⟩
set_option maxHeartbeats 4000000 in
theorem ok_Lis_entry (T : Txt w K mg c) : FnOk P w K mg base CX0 2 c.a_Lis_entry c.d_Lis_entry ["_law_found", "_law_fields"] (spIsE91 c.c_Entry) := by
  refine T.Lis_entry.fn.ok sc_Lis_entry (fun vs H Q E h => ?_) (fun cdv A outer s H vs Q E hr h => ?_)
  · obtain ⟨x, a, e, rfl, _⟩ := h
    rfl
  · obtain ⟨x, a, e, rfl, hx, ha, k⟩ := h
    refine ⟨_, (pss_cons (ps_if (PW.pt (pw_or (pt_not (pt_val (pe_callB call_isiA rfl T.no_isinstance bt_isinstance (pa_cons (pv 0) (pa_cons (pe_glob (v := .ref c.c_Entry) rfl T.mg_Entry rfl) pa_nil))))) (pw_or (pt_not (pt_val (pe_call (ok_Lwhole T) (hr.mono (by decide)) rfl T.Lwhole.mgf T.Lwhole.kp T.Lwhole.bi .nil pass0 (pa_cons (pe_fld (pv 0) rfl) pa_nil)))) (pw_or1 (pt_not (pt_val (pe_call (ok_Lwhole T) (hr.mono (by decide)) rfl T.Lwhole.mgf T.Lwhole.kp T.Lwhole.bi .nil pass0 (pa_cons (pe_fld (pv 0) rfl) pa_nil))))))))
        (pss_one (ps_ret pe_bl))
        pss_nil)
      (pss_cons (ps_if (pt_cmpR (op_neD (hu62 hr)) (pe_lst (pa_cons (pe_fld (pv 0) rfl) (pa_cons (pe_fld (pv 0) rfl) (pa_cons (pe_fld (pv 0) rfl) (pa_cons (pe_fld (pv 0) rfl) pa_nil))))) (pe_slice sl_list (pv 1) po_none (po_some pe_int)) (nomark _))
        (pss_one (ps_ret pe_bl))
        pss_nil)
      (pss_cons (ps_if (pt_cmpR (op_neD (hu62 hr)) (pe_lst (pa_cons (pe_fld (pv 0) rfl) (pa_cons (pe_fld (pv 0) rfl) (pa_cons (pe_fld (pv 0) rfl) pa_nil)))) (pe_slice sl_list (pv 1) (po_some pe_int) (po_some pe_int)) (nomark _))
        (pss_one (ps_ret pe_bl))
        pss_nil)
      (pss_one (ps_ret (pe_and (pe_callB call_isiA rfl T.no_isinstance bt_isinstance (pa_cons (pe_fld (pv 0) rfl) (pa_cons (pe_bltn (v := .ty "bool") rfl T.no_bool bt_bool rfl) pa_nil))) (pe_one (pe_cmpR op_eq (pe_fld (pv 0) rfl) (pe_ix ix_list (pv 1) pe_int (fun _ _ => rfl)) (nomark _))))))))), ?_⟩
    obtain ⟨b, dx, rfl, hb⟩ := hx
    refine ⟨_, rfl, rIsiA.ins hb T.cl_Entry T.w_Entry T.ws_Entry ⟨_, rfl, iteF ?_⟩⟩
    refine ⟨_, rfl, b, _, dx, _, _, rfl, hb, T.cl_Entry, T.na_Entry_number, rfl, _, rfl, Own.int, _, rfl, iteF ?_⟩
    refine ⟨_, rfl, b, _, dx, _, _, rfl, hb, T.cl_Entry, T.na_Entry_day, rfl, _, rfl, Own.int, _, rfl, iteF ?_⟩
    refine ⟨_, rfl, b, _, dx, _, _, rfl, hb, T.cl_Entry, T.na_Entry_day, rfl, _, rfl, b, _, dx, _, _, rfl, hb, T.cl_Entry, T.na_Entry_number, rfl, _, rfl, b, _, dx, _, _, rfl, hb, T.cl_Entry, T.na_Entry_rank, rfl, _, rfl, b, _, dx, _, _, rfl, hb, T.cl_Entry, T.na_Entry_word, rfl, le_ble rfl, fun q1 hq1 => ?_⟩
    have u1 := Same.new (o := HO.lst [V.int e.d, V.int e.n, V.str e.r, V.str e.w]) hq1
    walk_at "rd"
    refine ⟨a, _, rfl, SqL.of (u1 _ _ ha), fun p1 hp1 => ?_⟩
    have u2 := Same.new (o := HO.lst [V.int e.d, V.int e.n, V.str e.r, V.str e.w]) hp1
    refine ⟨0, true, by decide, sameK (xs := [V.int e.d, V.int e.n, V.str e.r, V.str e.w]) (u2 _ _ upd_same) upd_same rfl, _, rfl, iteF ?_⟩
    have s2 := u1.trans u2
    have hb2 := s2 _ _ hb
    have ha2 := s2 _ _ ha
    refine ⟨_, rfl, b, _, dx, _, _, rfl, hb2, T.cl_Entry, T.na_Entry_under, rfl, _, rfl, b, _, dx, _, _, rfl, hb2, T.cl_Entry, T.na_Entry_sheet, rfl, _, rfl, b, _, dx, _, _, rfl, hb2, T.cl_Entry, T.na_Entry_base, rfl, le_ble rfl, fun q3 hq3 => ?_⟩
    have u3 := Same.new (o := HO.lst [optV e.u, optV e.s, optV e.b]) hq3
    walk_at "rd"
    refine ⟨a, _, rfl, SqL.of (u3 _ _ ha2), fun p4 hp4 => ?_⟩
    have u4 := Same.new (o := HO.lst [optV e.u, optV e.s, optV e.b]) hp4
    have fl : ([optV e.u, optV e.s, optV e.b] : List V).all flatV = true := by cases e.u <;> cases e.s <;> cases e.b <;> rfl
    refine ⟨0, true, by decide, sameK (xs := [optV e.u, optV e.s, optV e.b]) (u4 _ _ upd_same) upd_same fl, _, rfl, iteF ?_⟩
    have s4 := s2.trans (u3.trans u4)
    have hb5 := s4 _ _ hb
    have ha5 := s4 _ _ ha
    have g7 : atI (rowV e) 7 = some (.bl e.k) := atI_nat (j := 7) rfl
    refine ⟨_, rfl, b, _, dx, _, _, rfl, hb5, T.cl_Entry, T.na_Entry_described, rfl, rIsiA.bool Own.bl ⟨_, rfl, iteT ?_⟩⟩
    refine ⟨_, rfl, b, _, dx, _, _, rfl, hb5, T.cl_Entry, T.na_Entry_described, rfl, ?_⟩
    refine ⟨_, rfl, a, _, _, _, rfl, rfl, SqL.of ha5, g7, rfl, ?_⟩
    rw [decide_eq_true rfl]
    exact k _ s4
set_option maxHeartbeats 4000000 in
theorem ok_Lsame (T : Txt w K mg c) : FnOk P w K mg base CX0 3 c.a_Lsame c.d_Lsame ["_law_found", "_law_word_here", "_law_things"] (spSame91 c.c_Entry) := by
  refine T.Lsame.fn.ok sc_Lsame (fun vs H Q E h => ?_) (fun cdv A outer s H vs Q E hr h => ?_)
  · obtain ⟨t, q, vs', r, a, rfl, _⟩ := h
    rfl
  · obtain ⟨t, q, vs', r, a, rfl, ht, hq, hp, hth, k⟩ := h
    refine ⟨_, (pss_cons (ps_if (PW.pt (pw_or (pt_not (pt_val (pe_callB call_isiA rfl T.no_isinstance bt_isinstance (pa_cons (pv 0) (pa_cons (pe_bltn (v := .ty "tuple") rfl T.no_tuple bt_tuple rfl) pa_nil))))) (pw_or (pt_cmpR op_ne (pe_callB call_len_seq rfl T.no_len bt_len (pa_cons (pv 0) pa_nil)) pe_int (nomark _)) (pw_or (pt_cmpR op_ne (pe_ix ix_tup (pv 0) pe_int (fun _ _ => rfl)) (pv 1) (nomark _)) (pw_or1 (pt_not (pt_val (pe_callB call_isiA rfl T.no_isinstance bt_isinstance (pa_cons (pe_ix ix_tup (pv 0) pe_int (fun _ _ => rfl)) (pa_cons (pe_bltn (v := .ty "list") rfl T.no_list bt_list rfl) pa_nil))))))))))
        (pss_one (ps_ret pe_bl))
        pss_nil)
      (pss_cons (ps_if (pt_cmpR op_eq (pv 1) pe_str (nomark _))
        (pss_one (ps_ret (pe_and (pe_cmpR op_eq (pe_callB call_len_seq rfl T.no_len bt_len (pa_cons (pe_ix ix_tup (pv 0) pe_int (fun _ _ => rfl)) pa_nil)) pe_int (nomark _)) (pe_one (pe_call (ok_Lis_entry T) (hr.mono (by decide)) rfl T.Lis_entry.mgf T.Lis_entry.kp T.Lis_entry.bi .nil pass0 (pa_cons (pe_ix ix_list (pe_ix ix_tup (pv 0) pe_int (fun _ _ => rfl)) pe_int (fun _ _ => rfl)) (pa_cons (pv 2) pa_nil)))))))
        pss_nil)
      (pss_cons (ps_if (pt_cmpR (op_neD (hu62 hr)) (pe_ix ix_tup (pv 0) pe_int (fun _ _ => rfl)) (pv 2) (nomark _))
        (pss_one (ps_ret pe_bl))
        pss_nil)
      (pss_one (ps_ret (pe_cmpR (op_eqD (hu62 hr)) (pe_comp (N' := ["_law_thing"]) (js := [none]) rfl rfl (by decide +kernel) (by decide +kernel) (free_nil (by decide +kernel)) (cap_nil rfl rfl) (pi_list (pe_ix ix_tup (pv 0) pe_int (fun _ _ => rfl))) (fun B => ⟨(pg_name (i := 0) (show List.Nodup (["_law_thing"] : List Str) by decide +kernel) rfl (Or.inl rfl)), (pifs_one (pt_val (pe_callB call_isiA rfl T.no_isinstance bt_isinstance (pa_cons (pv 0) (pa_cons (pe_bltn (v := .ty "bool") rfl T.no_bool bt_bool rfl) pa_nil))))), (pv 0)⟩)) (pe_lst pa_nil) (nomark _))))))), ?_⟩
    have f0 : atI [V.str (verbR r), V.ref q] 0 = some (.str (verbR r)) := atI_nat (j := 0) rfl
    have f1 : atI [V.str (verbR r), V.ref q] 1 = some (.ref q) := atI_nat (j := 1) rfl
    refine ⟨_, rfl, rIsiA.ty (.tup ht) rfl ⟨_, rfl, iteF ?_⟩⟩
    refine ⟨_, rfl, t, _, rfl, .inr (SqT.of ht), rfl, _, rfl, ?_⟩
    refine ite2 (fun h => ?_) (fun _ => ?_)
    · rw [decide_eq_true (show V.int ([V.str (verbR r), V.ref q].length : Int) = V.int 2 from rfl)] at h
      cases h
    refine ⟨_, rfl, t, _, _, _, rfl, rfl, SqT.of ht, f0, _, rfl, rfl, _, rfl, ?_⟩
    refine ite2 (fun h => ?_) (fun _ => ?_)
    · rw [decide_eq_true rfl] at h
      cases h
    refine ⟨_, rfl, t, _, _, _, rfl, rfl, SqT.of ht, f1, rIsiA.ty (.lst hq) rfl ⟨_, rfl, iteF ?_⟩⟩
    refine ⟨_, rfl, rfl, _, rfl, ?_⟩
    cases hpb : isPub r with
    | true =>
      obtain ⟨e, rfl⟩ := pub_is hpb
      refine ite2 (fun _ => ?_) (fun h => absurd (decide_eq_true rfl) h)
      obtain ⟨v, rfl, hv⟩ := ps1 hp
      refine ⟨_, rfl, t, _, _, _, rfl, rfl, SqT.of ht, f1, q, _, rfl, .inl (SqL.of hq), rfl, _, rfl, ?_⟩
      rw [decide_eq_true (show V.int ([v].length : Int) = V.int 1 from rfl)]
      have g0 : atI [v] 0 = some v := atI_nat (j := 0) rfl
      refine iteT ⟨_, rfl, t, _, _, _, rfl, rfl, SqT.of ht, f1, q, _, _, _, rfl, rfl, SqL.of hq, g0, ?_⟩
      exact ⟨_, rfl, v, a, e, rfl, hv, hth, k⟩
    | false =>
      have ne := (shape_ks hpb).2.2
      refine ite2 (fun h => absurd (of_decide_eq_true h) ne) (fun _ => ?_)
      obtain ⟨sq, nb⟩ := same_seq (K := K) hpb hq hp hth
      refine ⟨_, rfl, t, _, _, _, rfl, rfl, SqT.of ht, f1, _, rfl, 1, true, by decide, sq, _, rfl, iteF ?_⟩
      have sz : 2000 < sizeLine := le_ble rfl
      have lv : vs'.length ≤ 20 := by
        rw [hp.1, List.length_map]
        cases r <;> exact le_ble rfl
      refine ⟨_, rfl, t, _, _, _, rfl, rfl, SqT.of ht, f1, q, rfl, ⟨_, SqL.of hq⟩, fun m B hm => ?_⟩
      refine loop_lst (xs := vs') (fun i σ acc G => (∃ o, σ = [o]) ∧ Same H G ∧ G m = some (.lst acc) ∧ acc = []) (by omega) ?_ ?_ ?_ ?_
      · exact ⟨⟨_, rfl⟩, Same.new hm, upd_same, rfl⟩
      · rintro i σ acc G hi ⟨_, s', h1, h2⟩
        exact ⟨h1, SqL.of (s' _ _ hq), by rw [h2]; exact Nat.zero_le _⟩
      · rintro i x σ acc G hx ⟨⟨o, rfl⟩, s', h1, h2⟩
        have hi : i < vs'.length := (List.getElem?_eq_some_iff.mp hx).1
        obtain ⟨ow, nbx⟩ := nb x (List.mem_of_getElem? hx)
        refine ⟨_, rfl, rIsiA.bool (ow.same s') ⟨_, rfl, ?_⟩⟩
        rw [nbx]
        exact iteF (Nx.mk hi ⟨⟨_, rfl⟩, s', h1, h2⟩)
      · rintro σ acc G ⟨_, s', h1, h2⟩
        subst h2
        refine ⟨le_ble rfl, fun q0 hq0 => ?_⟩
        have t0 := Same.new (o := HO.lst []) hq0
        exact ⟨0, _, by decide, seqNil (SqL.of (t0 _ _ h1)) (SqL.of upd_same), k _ (s'.trans t0)⟩
set_option maxHeartbeats 4000000 in
theorem ok_Lrefused (T : Txt w K mg c) : FnOk P w K mg base CX0 10 c.a_Lrefused c.d_Lrefused ["_law_thing"] (spRef91 K) := by
  refine T.Lrefused.fn.ok sc_Lrefused (fun vs H Q E h => ?_) (fun cdv A outer s H vs Q E hr h => ?_)
  · obtain ⟨x, rfl, _⟩ := h
    rfl
  · obtain ⟨x, rfl, h0, k⟩ := h
    refine ⟨_, (pss_cons (ps_set (i := 1) sc_Lrefused.nd rfl (Or.inl rfl) pe_non)
      (pss_cut (ps_try rfl rfl rfl sc_Lrefused.nd (i := 2) rfl rfl rfl T.mg_RightError (fun Ez pins W hp =>
        (pss_one (ps_expr (pe_callS (ok_row_of T) (hr.mono (by decide)) rfl T.row_of.mgf T.row_of.kp T.row_of.bi .nil hp (pa_cons (pv 0) pa_nil)))))
        (fun e => (pss_one (ps_set (i := 1) sc_Lrefused.nd rfl (Or.inl rfl) (pv 2)))))
      (pss_cons (ps_if (PW.pt (pw_or (pt_not (pt_val (pe_callB call_isiA rfl T.no_isinstance bt_isinstance (pa_cons (pv 1) (pa_cons (pe_glob (v := .ref c.c_NoRow) rfl T.mg_NoRow rfl) pa_nil))))) (pw_or1 (pt_not (pt_val (pe_callB call_isiA rfl T.no_isinstance bt_isinstance (pa_cons (pv 1) (pa_cons (pe_bltn (v := .ty "ValueError") rfl T.no_ValueError bt_ValueError rfl) pa_nil))))))))
        (pss_one (ps_ret pe_bl))
        pss_nil)
      (pss_cons (ps_if (PW.pt (pw_or (pt_val (pe_callB call_isiA rfl T.no_isinstance bt_isinstance (pa_cons (pv 1) (pa_cons (pe_glob (v := .ref c.c_NoText) rfl T.mg_NoText rfl) pa_nil)))) (pw_or (pt_val (pe_callB call_isiA rfl T.no_isinstance bt_isinstance (pa_cons (pv 1) (pa_cons (pe_glob (v := .ref c.c_NoEntry) rfl T.mg_NoEntry rfl) pa_nil)))) (pw_or1 (pt_val (pe_callB call_isiA rfl T.no_isinstance bt_isinstance (pa_cons (pv 1) (pa_cons (pe_glob (v := .ref c.c_NoSheet) rfl T.mg_NoSheet rfl) pa_nil))))))))
        (pss_one (ps_ret pe_bl))
        pss_nil)
      (pss_one (ps_ret (pe_and (pe_not (pe_callB call_isiA rfl T.no_isinstance bt_isinstance (pa_cons (pv 1) (pa_cons (pe_glob (v := .ref c.c_NoPath) rfl T.mg_NoPath rfl) pa_nil)))) (pe_one (pe_not (pe_callB call_isiA rfl T.no_isinstance bt_isinstance (pa_cons (pv 1) (pa_cons (pe_glob (v := .ref c.c_NoAct) rfl T.mg_NoAct rfl) pa_nil)))))))))))), ?_⟩
    refine ⟨fun σ G => ∃ e0, Same H G ∧ G e0 = some (exO (.ref c.c_NoRow) none e0) ∧ σ = [some x, some (.ref e0), none], ?_, ?_⟩
    · refine ⟨fun σ1 C dd H1 => σ1 = [some x, some .non, none] ∧ Same H H1 ∧ C = .ref c.c_NoRow ∧ dd = none, fun pins W => ?_, ?_⟩
      · refine ⟨_, rfl, x, rfl, ?_⟩
        rcases h0 with ⟨ow, ns⟩ | ⟨z, rfl, hz, hb⟩
        · exact .inl ⟨ow, ns, fun G sG => ⟨rfl, sG, rfl, rfl⟩⟩
        · refine .inr ⟨z, rfl, hz, fun _ G sG => ⟨rfl, sG, rfl, rfl⟩, fun w r ps e1 e2 => ?_⟩
          exfalso
          unfold BadD at hb
          rw [e1, e2] at hb
          obtain ⟨p, _, e⟩ := List.mem_map.mp hb
          cases e
      · rintro σ1 C dd H1 ⟨rfl, sH, rfl, rfl⟩
        refine ⟨T.e_NoRow_RightError, fun e0 he0 => ?_⟩
        exact ⟨_, rfl, e0, sH.trans (Same.new he0), upd_same, rfl⟩
    rintro σ G ⟨e0, sG, he, rfl⟩
    refine ⟨_, rfl, rIsiA.exc he T.q_NoRow T.i_NoRow_NoRow ⟨_, rfl, iteF ?_⟩⟩
    refine ⟨_, rfl, rIsiA.excT he T.q_NoRow T.i_NoRow_ValueError ⟨_, rfl, iteF ?_⟩⟩
    refine ⟨_, rfl, rIsiA.exc he T.q_NoRow T.i_NoRow_NoText ⟨_, rfl, iteF ?_⟩⟩
    refine ⟨_, rfl, rIsiA.exc he T.q_NoRow T.i_NoRow_NoEntry ⟨_, rfl, iteF ?_⟩⟩
    refine ⟨_, rfl, rIsiA.exc he T.q_NoRow T.i_NoRow_NoSheet ⟨_, rfl, iteF ?_⟩⟩
    refine ⟨_, rfl, rIsiA.exc he T.q_NoRow T.i_NoRow_NoPath ?_⟩
    walk_at "rd"
    exact rIsiA.exc he T.q_NoRow T.i_NoRow_NoAct ⟨_, rfl, k G sG⟩
set_option maxHeartbeats 4000000 in
theorem ok_law (T : Txt w K mg c) : FnOk P w K mg base CX0 11 c.a_law c.d_law ["_law_script"] (spLaw K) := by
  refine T.law.fn.ok sc_law (fun vs H Q E h => ?_) (fun cdv A outer s H vs Q E hr h => ?_)
  · obtain ⟨a, ns, rfl, _⟩ := h
    rfl
  · obtain ⟨a, ns, rfl, hS, hn, k⟩ := h
    refine ⟨_, (pss_cut (ps_if (pt_not (pt_val (pe_call (ok_Lrefused T) (hr.mono (by decide)) rfl T.Lrefused.mgf T.Lrefused.kp T.Lrefused.bi .nil pass0 (pa_cons (pe_ix ix_list (pe_lst (pa_cons pe_non (pa_cons pe_int (pa_cons (pe_lst pa_nil) (pa_cons pe_bl (pa_cons (pe_tup (pa_cons pe_str pa_nil)) (pa_cons (pe_lst (pa_cons pe_str pa_nil)) (pa_cons pe_dnewK pa_nil)))))))) (pe_op op_mod (pe_call (ok_Lcell_at T) (hr.mono (by decide)) rfl T.Lcell_at.mgf T.Lcell_at.kp T.Lcell_at.bi .nil pass0 (pa_cons (pv 0) (pa_cons pe_int pa_nil))) pe_int) (fun _ _ => rfl)) pa_nil))))
        (pss_one (ps_ret pe_bl))
        pss_nil)
      (pss_cons (ps_for PassesOwn.never rfl (pi_enum rfl T.no_enumerate (pa_cons (pe_slice sl_list (pv 0) (po_some pe_int) (po_some pe_int)) pa_nil)) (pg_tup rfl (pgs_cons (pg_name (i := 1) sc_law.nd rfl (Or.inl rfl)) (pgs_cons (pg_name (i := 2) sc_law.nd rfl (Or.inl rfl)) pgs_nil)))
        (pss_cons (ps_set (i := 3) sc_law.nd rfl (Or.inl rfl) (pe_call (ok_Lmixed T) (hr.mono (by decide)) rfl T.Lmixed.mgf T.Lmixed.kp T.Lmixed.bi .nil pass0 (pa_cons (pv 2) (pa_cons (pv 1) pa_nil))))
      (pss_cons (ps_asg (pe_call (ok_Lrow T) (hr.mono (by decide)) rfl T.Lrow.mgf T.Lrow.kp T.Lrow.bi .nil pass0 (pa_cons (pv 3) pa_nil)) (pg_tup rfl (pgs_cons (pg_name (i := 4) sc_law.nd rfl (Or.inl rfl)) (pgs_cons (pg_name (i := 5) sc_law.nd rfl (Or.inl rfl)) (pgs_cons (pg_name (i := 6) sc_law.nd rfl (Or.inl rfl)) pgs_nil)))))
      (pss_one (ps_if (pt_cmpR op_eq (pe_op op_mod (pe_op op_fdiv (pv 3) pe_int) pe_int) pe_int (nomark _))
        (pss_cons (ps_set (i := 7) sc_law.nd rfl (Or.inl rfl) (pe_ix ix_list (pe_lst (pa_cons (pe_call (ok_Lspoilt T) (hr.mono (by decide)) rfl T.Lspoilt.mgf T.Lspoilt.kp T.Lspoilt.bi .nil pass0 (pa_cons (pv 4) (pa_cons (pe_op op_fdiv (pv 3) pe_int) pa_nil))) (pa_cons (pe_call (ok_Lany_word T) (hr.mono (by decide)) rfl T.Lany_word.mgf T.Lany_word.kp T.Lany_word.bi .nil pass0 (pa_cons (pv 4) (pa_cons (pe_op op_fdiv (pv 3) pe_int) pa_nil))) pa_nil))) (pe_op op_mod (pe_op op_fdiv (pv 3) pe_int) pe_int) (fun _ _ => rfl)))
      (pss_one (ps_if (pt_not (pt_val (pe_call (ok_Lrefused T) (hr.mono (by decide)) rfl T.Lrefused.mgf T.Lrefused.kp T.Lrefused.bi .nil pass0 (pa_cons (pv 7) pa_nil))))
        (pss_one (ps_ret pe_bl))
        pss_nil)))
        (pss_cons (ps_set (i := 8) sc_law.nd rfl (Or.inl rfl) (pe_callS (ok_row_of T) (hr.mono (by decide)) rfl T.row_of.mgf T.row_of.kp T.row_of.bi .nil passE0 (pa_cons (pv 4) pa_nil)))
      (pss_cons (ps_if (pt_not (pt_val (pe_call (ok_Lsame T) (hr.mono (by decide)) rfl T.Lsame.mgf T.Lsame.kp T.Lsame.bi .nil pass0 (pa_cons (pv 8) (pa_cons (pv 5) (pa_cons (pv 6) pa_nil))))))
        (pss_one (ps_ret pe_bl))
        pss_nil)
      (pss_cons (ps_expr (pe_bm PySem.F.plainAttrs_list PySem.F.slot_list_append PySem.F.type_list_append (MtM.r mt_append) (pe_ix ix_tup (pv 8) pe_int (fun _ _ => rfl)) (pa_cons pe_int pa_nil)))
      (pss_one (ps_if (pt_not (pt_val (pe_call (ok_Lsame T) (hr.mono (by decide)) rfl T.Lsame.mgf T.Lsame.kp T.Lsame.bi .nil pass0 (pa_cons (pe_callS (ok_row_of T) (hr.mono (by decide)) rfl T.row_of.mgf T.row_of.kp T.row_of.bi .nil passE0 (pa_cons (pv 4) pa_nil)) (pa_cons (pv 5) (pa_cons (pv 6) pa_nil))))))
        (pss_one (ps_ret pe_bl))
        pss_nil))))))))))
      (pss_one (ps_ret pe_bl)))), ?_⟩
    have sz : 2000 < sizeLine := le_ble rfl
    refine ⟨fun σ G => Same H G ∧ σ = [some (.ref a), none, none, none, none, none, none, none, none], ?_, ?_⟩
    · refine ⟨le_ble rfl, fun o1 ho1 => ?_⟩
      have u1 := Same.new (o := HO.lst []) ho1
      have q1 := upd_same (H := H) (a := o1) (o := HO.lst [])
      generalize upd H o1 (.lst []) = J1 at u1 q1 ⊢
      refine ⟨le_ble rfl, fun o2 ho2 => ?_⟩
      have u2 := Same.new (o := HO.tup [V.str (Str.ofString "book")]) ho2
      have q2 := upd_same (H := J1) (a := o2) (o := HO.tup [V.str (Str.ofString "book")])
      generalize upd J1 o2 (.tup [V.str (Str.ofString "book")]) = J2 at u2 q2 ⊢
      refine ⟨le_ble rfl, fun o3 ho3 => ?_⟩
      have u3 := Same.new (o := HO.lst [V.str (Str.ofString "book")]) ho3
      have q3 := upd_same (H := J2) (a := o3) (o := HO.lst [V.str (Str.ofString "book")])
      generalize upd J2 o3 (.lst [V.str (Str.ofString "book")]) = J3 at u3 q3 ⊢
      refine fun o4 ho4 => ?_
      have u4 := Same.new (o := HO.dK []) ho4
      have q4 := upd_same (H := J3) (a := o4) (o := HO.dK [])
      generalize upd J3 o4 (.dK []) = J4 at u4 q4 ⊢
      refine ⟨le_ble rfl, fun o5 ho5 => ?_⟩
      have u5 := Same.new (o := HO.lst [V.non, V.int 5, .ref o1, .bl true, .ref o2, .ref o3, .ref o4]) ho5
      have s5 := u1.trans (u2.trans (u3.trans (u4.trans u5)))
      refine ⟨_, rfl, a, 0, ns, rfl, Int.le_refl _, s5.seq hS, fun c0 => ?_⟩
      obtain ⟨v, hv, hm⟩ := atI_in (xs := [V.non, V.int 5, .ref o1, .bl true, .ref o2, .ref o3, .ref o4]) (i := c0 % 7) (Int.emod_nonneg _ (by decide)) (Int.emod_lt_of_pos _ (by decide))
      refine ⟨_, _, rfl, rfl, (by decide : (0 : Int) < 7), o5, _, _, _, rfl, rfl, SqL.of upd_same, hv, v, rfl, .inl ⟨?_, ?_⟩, fun J6 u6 => ⟨_, rfl, iteF ⟨s5.trans u6, rfl⟩⟩⟩
      · simp only [List.mem_cons, List.not_mem_nil, or_false] at hm
        rcases hm with rfl | rfl | rfl | rfl | rfl | rfl | rfl
        · exact Own.non
        · exact Own.int
        · exact Own.lst ((u2.trans (u3.trans (u4.trans u5))) _ _ q1)
        · exact Own.bl
        · exact Own.tup ((u3.trans (u4.trans u5)) _ _ q2)
        · exact Own.lst ((u4.trans u5) _ _ q3)
        · exact Own.dK (u5 _ _ q4)
      · simp only [List.mem_cons, List.not_mem_nil, or_false] at hm
        rcases hm with rfl | rfl | rfl | rfl | rfl | rfl | rfl <;> rfl
    rintro σ G0 ⟨s0, rfl⟩
    refine ⟨_, rfl, _, rfl, _, rfl, a, _, rfl, s0.seq hS, fun p hp => ?_⟩
    have cl := cutV_length (ns.map V.int) (some 1) (some 64)
    rw [List.length_map] at cl
    have cm : ∀ x ∈ cutV (ns.map V.int) (some 1) (some 64), ∃ n, x = .int n := fun x hx => by
      obtain ⟨n, _, e⟩ := List.mem_map.mp (List.mem_of_mem_drop (List.mem_of_mem_take hx))
      exact ⟨n, e.symm⟩
    generalize cutV (ns.map V.int) (some 1) (some 64) = xs at cl cm ⊢
    have t1 := Same.new (o := HO.lst xs) hp
    have kp := upd_same (H := G0) (a := p) (o := HO.lst xs)
    generalize upd G0 p (.lst xs) = G1 at t1 kp ⊢
    refine ⟨p, rfl, ⟨_, SqL.of kp⟩, ?_⟩
    refine for_enum (xs := xs) (fun i σ G => Same G1 G ∧ ∃ z1 z2 z3 z4 z5 z6 z7 z8, σ = [some (.ref a), z1, z2, z3, z4, z5, z6, z7, z8]) ⟨Same.refl _, _, _, _, _, _, _, _, _, rfl⟩ ?_ ?_ ?_
    · rintro i σ G _ ⟨h, _⟩
      exact SqL.of (h _ _ kp)
    · rintro i x σ G T' hx ⟨sG, z1, z2, z3, z4, z5, z6, z7, z8, rfl⟩ hT
      obtain ⟨n, rfl⟩ := cm x (List.mem_of_getElem? hx)
      have hi : i < xs.length := (List.getElem?_eq_some_iff.mp hx).1
      have st := Same.new (o := HO.tup [V.int i, .int n]) hT
      refine ⟨T', _, rfl, SqT.of upd_same, rfl, _, _, rfl, _, _, rfl, rfl, ?_⟩
      have sG := sG.trans st
      generalize upd G T' (.tup [V.int i, .int n]) = G2 at sG ⊢
      refine ⟨_, rfl, _, rfl, n, i, rfl, by omega, by omega, fun m m0 => ?_⟩
      refine ⟨_, rfl, m, rfl, m0, fun t b r G3 s3 okr ht hth => ?_⟩
      refine ⟨t, _, rfl, SqT.of ht, rfl, ?_⟩
      walk_at "rd"
      obtain ⟨g1, g2⟩ := row_good okr
      have tl := text_len okr
      have sG := sG.trans s3
      have noN : ∀ X : Prop, none ∈ partsO (textR r) (Txt.split (textR r) (Str.ofString " ")) → X := fun X h => by
        rw [g1, g2] at h
        obtain ⟨p, _, e⟩ := List.mem_map.mp h
        cases e
      have inj : ∀ w r' (ps : List Pt), Txt.split (textR r) (Str.ofString " ") = w :: r' → partsO (textR r) (w :: r') = ps.map some → w = verbR r ∧ ps.map some = (ptsR r).map some := fun w r' ps e1 e2 => by
        rw [g1] at e1
        obtain ⟨rfl, rfl⟩ := List.cons.inj e1
        exact ⟨rfl, e2.symm.trans g2⟩
      refine ite2 (fun q => ?_) (fun q => ?_)
      · refine ⟨_, rfl, _, rfl, _, _, rfl, rfl, ⟨by decide, by decide⟩, r, _, rfl, okr, fun y1 G4 s4 l1 b1 => ?_⟩
        refine ⟨_, rfl, _, rfl, _, _, rfl, rfl, ⟨by decide, by decide⟩, r, _, rfl, okr, fun y2 G5 s5 l2 b2 => ?_⟩
        refine ⟨le_ble rfl, fun q3 hq3 => ?_⟩
        have t5 := Same.new (o := HO.lst [V.str y1, V.str y2]) hq3
        obtain ⟨v, hv, hm⟩ := atI_in (xs := [V.str y1, V.str y2]) (i := m / 36 % 2) (Int.emod_nonneg _ (by decide)) (Int.emod_lt_of_pos _ (by decide))
        obtain ⟨y, rfl, ly, hy⟩ : SpD v := by
          rcases List.mem_cons.mp hm with rfl | hm
          · exact ⟨_, rfl, l1, b1⟩
          · rw [List.mem_singleton.mp hm]; exact ⟨_, rfl, l2, b2⟩
        refine ⟨_, rfl, _, _, rfl, rfl, ⟨by decide, by decide⟩, _, _, rfl, rfl, (by decide : (0 : Int) < 2), q3, _, _, _, rfl, rfl, SqL.of upd_same, hv, ?_⟩
        exact ⟨_, rfl, .str y, rfl, .inr ⟨y, rfl, ly, hy⟩, fun G6 s6 => ⟨_, rfl, iteF ⟨sG.trans (s4.trans (s5.trans (t5.trans s6))), _, _, _, _, _, _, _, _, rfl⟩⟩⟩
      · refine ⟨_, rfl, .str (textR r), rfl, .inr ⟨textR r, rfl, by omega, fun h => noN _ h, fun w r' ps e1 e2 t4 q4 vs' G4 s4 fq ht4 hq4 lv hp => ?_⟩⟩
        obtain ⟨rfl, e3⟩ := inj w r' ps e1 e2
        rw [e3] at hp
        refine ⟨_, rfl, _, rfl, _, rfl, t4, q4, vs', r, b, rfl, ht4, hq4, hp, hth.same s4, fun G5 s5 => ⟨_, rfl, iteF ?_⟩⟩
        have f1 : atI [V.str (verbR r), V.ref q4] 1 = some (.ref q4) := atI_nat (j := 1) rfl
        have hq5 := s5 _ _ hq4
        have ht5 := s5 _ _ ht4
        refine ⟨_, rfl, t4, _, _, _, rfl, rfl, SqT.of ht5, f1, .inl ⟨rfl, _, SqL.of hq5⟩, q4, _, _, rfl, rfl, hq5, by omega, ?_⟩
        have s6 : Same G3 (upd G5 q4 (.lst (vs' ++ [.int 0]))) := fun c u hc => by
          rw [upd_ne (ne_of_none hc fq)]
          exact s5 _ _ (s4 _ _ hc)
        generalize upd G5 q4 (.lst (vs' ++ [.int 0])) = G6 at s6 ⊢
        refine ⟨_, rfl, .str (textR r), rfl, .inr ⟨textR r, rfl, by omega, fun h => noN _ h, fun w r' ps e1 e2 t7 q7 vs7 G7 s7 fq7 ht7 hq7 lv7 hp7 => ?_⟩⟩
        obtain ⟨rfl, e3⟩ := inj w r' ps e1 e2
        rw [e3] at hp7
        exact ⟨_, rfl, _, rfl, t7, q7, vs7, r, b, rfl, ht7, hq7, hp7, hth.same (s6.trans s7), fun G8 s8 => ⟨_, rfl, iteF ⟨sG.trans (s6.trans (s7.trans s8)), _, _, _, _, _, _, _, _, rfl⟩⟩⟩
    rintro σ G ⟨sG, _⟩
    exact k _
end
theorem all_mk {l : PySem.W.OpenLaw} {w : World} {K : PySem.W.Frag} {h : Heap} {mg : Str → Option Value} {fa : Addr} (X : K.In h) (G : h.Ns mainGlobals mg) (hfa : mg "law" = some (.ref fa))
    {f0 : Addr} {od0 an0 : Option Addr} {sl0 : Array (Option Value)} {oc0 kV0 dc0 pm0 cd0 ct0 : Value}
    {f1 : Addr} {od1 an1 : Option Addr} {sl1 : Array (Option Value)} {oc1 kV1 dc1 pm1 cd1 ct1 : Value}
    {f2 : Addr} {od2 an2 : Option Addr} {sl2 : Array (Option Value)} {oc2 kV2 dc2 pm2 cd2 ct2 : Value}
    {f3 : Addr} {od3 an3 : Option Addr} {sl3 : Array (Option Value)} {oc3 kV3 dc3 pm3 cd3 ct3 : Value}
    {f4 : Addr} {od4 an4 : Option Addr} {sl4 : Array (Option Value)} {oc4 kV4 dc4 pm4 cd4 ct4 : Value}
    {f5 : Addr} {od5 an5 : Option Addr} {sl5 : Array (Option Value)} {oc5 kV5 dc5 pm5 cd5 ct5 : Value}
    {f6 : Addr} {od6 an6 : Option Addr} {sl6 : Array (Option Value)} {oc6 kV6 dc6 pm6 cd6 ct6 : Value}
    {f7 : Addr} {od7 an7 : Option Addr} {sl7 : Array (Option Value)} {oc7 kV7 dc7 pm7 cd7 ct7 : Value}
    {f8 : Addr} {od8 an8 : Option Addr} {sl8 : Array (Option Value)} {oc8 kV8 dc8 pm8 cd8 ct8 : Value}
    {f9 : Addr} {od9 an9 : Option Addr} {sl9 : Array (Option Value)} {oc9 kV9 dc9 pm9 cd9 ct9 : Value}
    {f10 : Addr} {od10 an10 : Option Addr} {sl10 : Array (Option Value)} {oc10 kV10 dc10 pm10 cd10 ct10 : Value}
    {f11 : Addr} {od11 an11 : Option Addr} {sl11 : Array (Option Value)} {oc11 kV11 dc11 pm11 cd11 ct11 : Value}
    {f12 : Addr} {od12 an12 : Option Addr} {sl12 : Array (Option Value)} {oc12 kV12 dc12 pm12 cd12 ct12 : Value}
    {f13 : Addr} {od13 an13 : Option Addr} {sl13 : Array (Option Value)} {oc13 kV13 dc13 pm13 cd13 ct13 : Value}
    {f14 : Addr} {od14 an14 : Option Addr} {sl14 : Array (Option Value)} {oc14 kV14 dc14 pm14 cd14 ct14 : Value}
    {f15 : Addr} {od15 an15 : Option Addr} {sl15 : Array (Option Value)} {oc15 kV15 dc15 pm15 cd15 ct15 : Value}
    {f16 : Addr} {od16 an16 : Option Addr} {sl16 : Array (Option Value)} {oc16 kV16 dc16 pm16 cd16 ct16 : Value}
    {f17 : Addr} {od17 an17 : Option Addr} {sl17 : Array (Option Value)} {oc17 kV17 dc17 pm17 cd17 ct17 : Value}
    {f18 : Addr} {od18 an18 : Option Addr} {sl18 : Array (Option Value)} {oc18 kV18 dc18 pm18 cd18 ct18 : Value}
    {f19 : Addr} {od19 an19 : Option Addr} {sl19 : Array (Option Value)} {oc19 kV19 dc19 pm19 cd19 ct19 : Value}
    {f20 : Addr} {od20 an20 : Option Addr} {sl20 : Array (Option Value)} {oc20 kV20 dc20 pm20 cd20 ct20 : Value}
    {f21 : Addr} {od21 an21 : Option Addr} {sl21 : Array (Option Value)} {oc21 kV21 dc21 pm21 cd21 ct21 : Value}
    {f22 : Addr} {od22 an22 : Option Addr} {sl22 : Array (Option Value)} {oc22 kV22 dc22 pm22 cd22 ct22 : Value}
    {f23 : Addr} {od23 an23 : Option Addr} {sl23 : Array (Option Value)} {oc23 kV23 dc23 pm23 cd23 ct23 : Value}
    {f24 : Addr} {od24 an24 : Option Addr} {sl24 : Array (Option Value)} {oc24 kV24 dc24 pm24 cd24 ct24 : Value}
    {f25 : Addr} {od25 an25 : Option Addr} {sl25 : Array (Option Value)} {oc25 kV25 dc25 pm25 cd25 ct25 : Value}
    {f26 : Addr} {od26 an26 : Option Addr} {sl26 : Array (Option Value)} {oc26 kV26 dc26 pm26 cd26 ct26 : Value}
    {f27 : Addr} {od27 an27 : Option Addr} {sl27 : Array (Option Value)} {oc27 kV27 dc27 pm27 cd27 ct27 : Value}
    {f28 : Addr} {od28 an28 : Option Addr} {sl28 : Array (Option Value)} {oc28 kV28 dc28 pm28 cd28 ct28 : Value}
    {f29 : Addr} {od29 an29 : Option Addr} {sl29 : Array (Option Value)} {oc29 kV29 dc29 pm29 cd29 ct29 : Value}
    {f30 : Addr} {od30 an30 : Option Addr} {sl30 : Array (Option Value)} {oc30 kV30 dc30 pm30 cd30 ct30 : Value}
    {f31 : Addr} {od31 an31 : Option Addr} {sl31 : Array (Option Value)} {oc31 kV31 dc31 pm31 cd31 ct31 : Value}
    {f32 : Addr} {od32 an32 : Option Addr} {sl32 : Array (Option Value)} {oc32 kV32 dc32 pm32 cd32 ct32 : Value}
    {c_Entry f_Entry t_Entry : Addr} {od_Entry an_Entry : Option Addr} {sl_Entry : Array (Option Value)} {oc_Entry kV_Entry dc_Entry pm_Entry cd_Entry ct_Entry : Value} {o_Entry : Obj} {n_Entry : Nat}
    {u_MOST_LETTERS : Value}
    {u_LAST_DAY : Value}
    {u_LAST_NUMBER : Value}
    {u_FORM_DEPTH : Value}
    {u_RANKS : Addr} {o_RANKS : Obj} {i_RANKS : List Value} {n_RANKS : Nat}
    {u_DEEDS : Addr} {o_DEEDS : Obj} {i_DEEDS : List Value} {n_DEEDS : Nat}
    {u_SHAPES : Addr} {e_SHAPES : List DictEntry} {n_SHAPES : Nat}
    {u_SHAPES_0 : Addr}
    {u_SHAPES_1 : Addr}
    {u_SHAPES_2 : Addr}
    {u_SHAPES_3 : Addr}
    {u_SHAPES_4 : Addr}
    {u_SHAPES_5 : Addr}
    {u_SHAPES_6 : Addr}
    {o_SHAPES_0 : Obj} {i_SHAPES_0 : List Value} {n_SHAPES_0 : Nat}
    {o_SHAPES_1 : Obj} {i_SHAPES_1 : List Value} {n_SHAPES_1 : Nat}
    {o_SHAPES_2 : Obj} {i_SHAPES_2 : List Value} {n_SHAPES_2 : Nat}
    {o_SHAPES_3 : Obj} {i_SHAPES_3 : List Value} {n_SHAPES_3 : Nat}
    {o_SHAPES_4 : Obj} {i_SHAPES_4 : List Value} {n_SHAPES_4 : Nat}
    {o_SHAPES_5 : Obj} {i_SHAPES_5 : List Value} {n_SHAPES_5 : Nat}
    {o_SHAPES_6 : Obj} {i_SHAPES_6 : List Value} {n_SHAPES_6 : Nat}
    {c_NoNumber : Addr}
    {c_NoDay : Addr}
    {c_NoRank : Addr}
    {c_NoWord : Addr}
    {c_NoRow : Addr}
    {c_NoEntry : Addr}
    {c_RightError : Addr}
    {c_NoText : Addr}
    {c_NoSheet : Addr}
    {c_NoPath : Addr}
    {c_NoAct : Addr}
    {N_NoNumber A_NoNumber : Addr} {nm_NoNumber q_NoNumber : Str} {bs_NoNumber : List Value} {hd_NoNumber : Bool} {sn_NoNumber : List Str} {sub_NoNumber : List Value} {ab_NoNumber : Bool} {col_NoNumber : Option Bool} {dd_NoNumber : Option Addr} {k0_NoNumber k1_NoNumber k2_NoNumber k3_NoNumber k5_NoNumber : Option Value}
    {es_NoNumber : Array DictEntry} {x1_NoNumber : Value} {x2_NoNumber : Option Addr} {x3_NoNumber : Nat} {x4_NoNumber : Array (Option Value)} {y0_NoNumber : Value} {y1_NoNumber : Option Addr} {y2_NoNumber : ClassData} {y3_NoNumber : Array (Option Value)} {et_NoNumber : Array DictEntry} {z1_NoNumber : Value} {z2_NoNumber : Option Addr} {z3_NoNumber : Nat} {z4_NoNumber : Array (Option Value)}
    {N_NoDay A_NoDay : Addr} {nm_NoDay q_NoDay : Str} {bs_NoDay : List Value} {hd_NoDay : Bool} {sn_NoDay : List Str} {sub_NoDay : List Value} {ab_NoDay : Bool} {col_NoDay : Option Bool} {dd_NoDay : Option Addr} {k0_NoDay k1_NoDay k2_NoDay k3_NoDay k5_NoDay : Option Value}
    {es_NoDay : Array DictEntry} {x1_NoDay : Value} {x2_NoDay : Option Addr} {x3_NoDay : Nat} {x4_NoDay : Array (Option Value)} {y0_NoDay : Value} {y1_NoDay : Option Addr} {y2_NoDay : ClassData} {y3_NoDay : Array (Option Value)} {et_NoDay : Array DictEntry} {z1_NoDay : Value} {z2_NoDay : Option Addr} {z3_NoDay : Nat} {z4_NoDay : Array (Option Value)}
    {N_NoRank A_NoRank : Addr} {nm_NoRank q_NoRank : Str} {bs_NoRank : List Value} {hd_NoRank : Bool} {sn_NoRank : List Str} {sub_NoRank : List Value} {ab_NoRank : Bool} {col_NoRank : Option Bool} {dd_NoRank : Option Addr} {k0_NoRank k1_NoRank k2_NoRank k3_NoRank k5_NoRank : Option Value}
    {es_NoRank : Array DictEntry} {x1_NoRank : Value} {x2_NoRank : Option Addr} {x3_NoRank : Nat} {x4_NoRank : Array (Option Value)} {y0_NoRank : Value} {y1_NoRank : Option Addr} {y2_NoRank : ClassData} {y3_NoRank : Array (Option Value)} {et_NoRank : Array DictEntry} {z1_NoRank : Value} {z2_NoRank : Option Addr} {z3_NoRank : Nat} {z4_NoRank : Array (Option Value)}
    {N_NoWord A_NoWord : Addr} {nm_NoWord q_NoWord : Str} {bs_NoWord : List Value} {hd_NoWord : Bool} {sn_NoWord : List Str} {sub_NoWord : List Value} {ab_NoWord : Bool} {col_NoWord : Option Bool} {dd_NoWord : Option Addr} {k0_NoWord k1_NoWord k2_NoWord k3_NoWord k5_NoWord : Option Value}
    {es_NoWord : Array DictEntry} {x1_NoWord : Value} {x2_NoWord : Option Addr} {x3_NoWord : Nat} {x4_NoWord : Array (Option Value)} {y0_NoWord : Value} {y1_NoWord : Option Addr} {y2_NoWord : ClassData} {y3_NoWord : Array (Option Value)} {et_NoWord : Array DictEntry} {z1_NoWord : Value} {z2_NoWord : Option Addr} {z3_NoWord : Nat} {z4_NoWord : Array (Option Value)}
    {N_NoRow A_NoRow : Addr} {nm_NoRow q_NoRow : Str} {bs_NoRow : List Value} {hd_NoRow : Bool} {sn_NoRow : List Str} {sub_NoRow : List Value} {ab_NoRow : Bool} {col_NoRow : Option Bool} {dd_NoRow : Option Addr} {k0_NoRow k1_NoRow k2_NoRow k3_NoRow k5_NoRow : Option Value}
    {es_NoRow : Array DictEntry} {x1_NoRow : Value} {x2_NoRow : Option Addr} {x3_NoRow : Nat} {x4_NoRow : Array (Option Value)} {y0_NoRow : Value} {y1_NoRow : Option Addr} {y2_NoRow : ClassData} {y3_NoRow : Array (Option Value)} {et_NoRow : Array DictEntry} {z1_NoRow : Value} {z2_NoRow : Option Addr} {z3_NoRow : Nat} {z4_NoRow : Array (Option Value)}
    {N_NoEntry A_NoEntry : Addr} {nm_NoEntry q_NoEntry : Str} {bs_NoEntry : List Value} {hd_NoEntry : Bool} {sn_NoEntry : List Str} {sub_NoEntry : List Value} {ab_NoEntry : Bool} {col_NoEntry : Option Bool} {dd_NoEntry : Option Addr} {k0_NoEntry k1_NoEntry k2_NoEntry k3_NoEntry k5_NoEntry : Option Value}
    {es_NoEntry : Array DictEntry} {x1_NoEntry : Value} {x2_NoEntry : Option Addr} {x3_NoEntry : Nat} {x4_NoEntry : Array (Option Value)} {y0_NoEntry : Value} {y1_NoEntry : Option Addr} {y2_NoEntry : ClassData} {y3_NoEntry : Array (Option Value)} {et_NoEntry : Array DictEntry} {z1_NoEntry : Value} {z2_NoEntry : Option Addr} {z3_NoEntry : Nat} {z4_NoEntry : Array (Option Value)}
    (a0 : PySem.W.nsIn K mainGlobals "is_whole" = some (some (.ref f0)))
    (l0 : K.lookup f0 = some ⟨oc0, od0, .func (PySem.W.fnOf "is_whole" "is_whole" (defArgs s_is_whole) (defBody s_is_whole) (defScope s_is_whole) .none kV0 dc0 pm0 an0 cd0 ct0), sl0⟩)
    (c0 : PySem.W.codeIn K cd0 "is_whole" = true)
    (k0 : PySem.W.keepIn K (.ref f0) = true)
    (a1 : PySem.W.nsIn K mainGlobals "is_day" = some (some (.ref f1)))
    (l1 : K.lookup f1 = some ⟨oc1, od1, .func (PySem.W.fnOf "is_day" "is_day" (defArgs s_is_day) (defBody s_is_day) (defScope s_is_day) .none kV1 dc1 pm1 an1 cd1 ct1), sl1⟩)
    (c1 : PySem.W.codeIn K cd1 "is_day" = true)
    (k1 : PySem.W.keepIn K (.ref f1) = true)
    (a2 : PySem.W.nsIn K mainGlobals "is_number" = some (some (.ref f2)))
    (l2 : K.lookup f2 = some ⟨oc2, od2, .func (PySem.W.fnOf "is_number" "is_number" (defArgs s_is_number) (defBody s_is_number) (defScope s_is_number) .none kV2 dc2 pm2 an2 cd2 ct2), sl2⟩)
    (c2 : PySem.W.codeIn K cd2 "is_number" = true)
    (k2 : PySem.W.keepIn K (.ref f2) = true)
    (a3 : PySem.W.nsIn K mainGlobals "is_word" = some (some (.ref f3)))
    (l3 : K.lookup f3 = some ⟨oc3, od3, .func (PySem.W.fnOf "is_word" "is_word" (defArgs s_is_word) (defBody s_is_word) (defScope s_is_word) .none kV3 dc3 pm3 an3 cd3 ct3), sl3⟩)
    (c3 : PySem.W.codeIn K cd3 "is_word" = true)
    (k3 : PySem.W.keepIn K (.ref f3) = true)
    (a4 : PySem.W.nsIn K mainGlobals "is_rank" = some (some (.ref f4)))
    (l4 : K.lookup f4 = some ⟨oc4, od4, .func (PySem.W.fnOf "is_rank" "is_rank" (defArgs s_is_rank) (defBody s_is_rank) (defScope s_is_rank) .none kV4 dc4 pm4 an4 cd4 ct4), sl4⟩)
    (c4 : PySem.W.codeIn K cd4 "is_rank" = true)
    (k4 : PySem.W.keepIn K (.ref f4) = true)
    (a5 : PySem.W.nsIn K mainGlobals "refuse_head" = some (some (.ref f5)))
    (l5 : K.lookup f5 = some ⟨oc5, od5, .func (PySem.W.fnOf "refuse_head" "refuse_head" (defArgs s_refuse_head) (defBody s_refuse_head) (defScope s_refuse_head) .none kV5 dc5 pm5 an5 cd5 ct5), sl5⟩)
    (c5 : PySem.W.codeIn K cd5 "refuse_head" = true)
    (k5 : PySem.W.keepIn K (.ref f5) = true)
    (a6 : PySem.W.nsIn K mainGlobals "under_fits" = some (some (.ref f6)))
    (l6 : K.lookup f6 = some ⟨oc6, od6, .func (PySem.W.fnOf "under_fits" "under_fits" (defArgs s_under_fits) (defBody s_under_fits) (defScope s_under_fits) .none kV6 dc6 pm6 an6 cd6 ct6), sl6⟩)
    (c6 : PySem.W.codeIn K cd6 "under_fits" = true)
    (k6 : PySem.W.keepIn K (.ref f6) = true)
    (a7 : PySem.W.nsIn K mainGlobals "tie_fits" = some (some (.ref f7)))
    (l7 : K.lookup f7 = some ⟨oc7, od7, .func (PySem.W.fnOf "tie_fits" "tie_fits" (defArgs s_tie_fits) (defBody s_tie_fits) (defScope s_tie_fits) .none kV7 dc7 pm7 an7 cd7 ct7), sl7⟩)
    (c7 : PySem.W.codeIn K cd7 "tie_fits" = true)
    (k7 : PySem.W.keepIn K (.ref f7) = true)
    (a8 : PySem.W.nsIn K mainGlobals "is_deed" = some (some (.ref f8)))
    (l8 : K.lookup f8 = some ⟨oc8, od8, .func (PySem.W.fnOf "is_deed" "is_deed" (defArgs s_is_deed) (defBody s_is_deed) (defScope s_is_deed) .none kV8 dc8 pm8 an8 cd8 ct8), sl8⟩)
    (c8 : PySem.W.codeIn K cd8 "is_deed" = true)
    (k8 : PySem.W.keepIn K (.ref f8) = true)
    (a9 : PySem.W.nsIn K mainGlobals "whole_of" = some (some (.ref f9)))
    (l9 : K.lookup f9 = some ⟨oc9, od9, .func (PySem.W.fnOf "whole_of" "whole_of" (defArgs s_whole_of) (defBody s_whole_of) (defScope s_whole_of) .none kV9 dc9 pm9 an9 cd9 ct9), sl9⟩)
    (c9 : PySem.W.codeIn K cd9 "whole_of" = true)
    (k9 : PySem.W.keepIn K (.ref f9) = true)
    (a10 : PySem.W.nsIn K mainGlobals "day_of" = some (some (.ref f10)))
    (l10 : K.lookup f10 = some ⟨oc10, od10, .func (PySem.W.fnOf "day_of" "day_of" (defArgs s_day_of) (defBody s_day_of) (defScope s_day_of) .none kV10 dc10 pm10 an10 cd10 ct10), sl10⟩)
    (c10 : PySem.W.codeIn K cd10 "day_of" = true)
    (k10 : PySem.W.keepIn K (.ref f10) = true)
    (a11 : PySem.W.nsIn K mainGlobals "number_of" = some (some (.ref f11)))
    (l11 : K.lookup f11 = some ⟨oc11, od11, .func (PySem.W.fnOf "number_of" "number_of" (defArgs s_number_of) (defBody s_number_of) (defScope s_number_of) .none kV11 dc11 pm11 an11 cd11 ct11), sl11⟩)
    (c11 : PySem.W.codeIn K cd11 "number_of" = true)
    (k11 : PySem.W.keepIn K (.ref f11) = true)
    (a12 : PySem.W.nsIn K mainGlobals "read_row" = some (some (.ref f12)))
    (l12 : K.lookup f12 = some ⟨oc12, od12, .func (PySem.W.fnOf "read_row" "read_row" (defArgs s_read_row) (defBody s_read_row) (defScope s_read_row) .none kV12 dc12 pm12 an12 cd12 ct12), sl12⟩)
    (c12 : PySem.W.codeIn K cd12 "read_row" = true)
    (k12 : PySem.W.keepIn K (.ref f12) = true)
    (a13 : PySem.W.nsIn K mainGlobals "entry_of" = some (some (.ref f13)))
    (l13 : K.lookup f13 = some ⟨oc13, od13, .func (PySem.W.fnOf "entry_of" "entry_of" (defArgs s_entry_of) (defBody s_entry_of) (defScope s_entry_of) .none kV13 dc13 pm13 an13 cd13 ct13), sl13⟩)
    (c13 : PySem.W.codeIn K cd13 "entry_of" = true)
    (k13 : PySem.W.keepIn K (.ref f13) = true)
    (a14 : PySem.W.nsIn K mainGlobals "row_of" = some (some (.ref f14)))
    (l14 : K.lookup f14 = some ⟨oc14, od14, .func (PySem.W.fnOf "row_of" "row_of" (defArgs s_row_of) (defBody s_row_of) (defScope s_row_of) .none kV14 dc14 pm14 an14 cd14 ct14), sl14⟩)
    (c14 : PySem.W.codeIn K cd14 "row_of" = true)
    (k14 : PySem.W.keepIn K (.ref f14) = true)
    (a15 : PySem.W.nsIn K mainGlobals "parts_of" = some (some (.ref f15)))
    (l15 : K.lookup f15 = some ⟨oc15, od15, .func (PySem.W.fnOf "parts_of" "parts_of" (defArgs s_parts_of) (defBody s_parts_of) (defScope s_parts_of) .none kV15 dc15 pm15 an15 cd15 ct15), sl15⟩)
    (c15 : PySem.W.codeIn K cd15 "parts_of" = true)
    (k15 : PySem.W.keepIn K (.ref f15) = true)
    (a16 : PySem.W.nsIn K mainGlobals "part_of" = some (some (.ref f16)))
    (l16 : K.lookup f16 = some ⟨oc16, od16, .func (PySem.W.fnOf "part_of" "part_of" (defArgs s_part_of) (defBody s_part_of) (defScope s_part_of) .none kV16 dc16 pm16 an16 cd16 ct16), sl16⟩)
    (c16 : PySem.W.codeIn K cd16 "part_of" = true)
    (k16 : PySem.W.keepIn K (.ref f16) = true)
    (a17 : PySem.W.nsIn K mainGlobals "path_in" = some (some (.ref f17)))
    (l17 : K.lookup f17 = some ⟨oc17, od17, .func (PySem.W.fnOf "path_in" "path_in" (defArgs s_path_in) (defBody s_path_in) (defScope s_path_in) .none kV17 dc17 pm17 an17 cd17 ct17), sl17⟩)
    (c17 : PySem.W.codeIn K cd17 "path_in" = true)
    (k17 : PySem.W.keepIn K (.ref f17) = true)
    (a18 : PySem.W.nsIn K mainGlobals "_law_cell_at" = some (some (.ref f18)))
    (l18 : K.lookup f18 = some ⟨oc18, od18, .func (PySem.W.fnOf "_law_cell_at" "_law_cell_at" (defArgs s_Lcell_at) (defBody s_Lcell_at) (defScope s_Lcell_at) .none kV18 dc18 pm18 an18 cd18 ct18), sl18⟩)
    (c18 : PySem.W.codeIn K cd18 "_law_cell_at" = true)
    (k18 : PySem.W.keepIn K (.ref f18) = true)
    (a19 : PySem.W.nsIn K mainGlobals "_law_whole" = some (some (.ref f19)))
    (l19 : K.lookup f19 = some ⟨oc19, od19, .func (PySem.W.fnOf "_law_whole" "_law_whole" (defArgs s_Lwhole) (defBody s_Lwhole) (defScope s_Lwhole) .none kV19 dc19 pm19 an19 cd19 ct19), sl19⟩)
    (c19 : PySem.W.codeIn K cd19 "_law_whole" = true)
    (k19 : PySem.W.keepIn K (.ref f19) = true)
    (a20 : PySem.W.nsIn K mainGlobals "_law_mixed" = some (some (.ref f20)))
    (l20 : K.lookup f20 = some ⟨oc20, od20, .func (PySem.W.fnOf "_law_mixed" "_law_mixed" (defArgs s_Lmixed) (defBody s_Lmixed) (defScope s_Lmixed) .none kV20 dc20 pm20 an20 cd20 ct20), sl20⟩)
    (c20 : PySem.W.codeIn K cd20 "_law_mixed" = true)
    (k20 : PySem.W.keepIn K (.ref f20) = true)
    (a21 : PySem.W.nsIn K mainGlobals "_law_word" = some (some (.ref f21)))
    (l21 : K.lookup f21 = some ⟨oc21, od21, .func (PySem.W.fnOf "_law_word" "_law_word" (defArgs s_Lword) (defBody s_Lword) (defScope s_Lword) .none kV21 dc21 pm21 an21 cd21 ct21), sl21⟩)
    (c21 : PySem.W.codeIn K cd21 "_law_word" = true)
    (k21 : PySem.W.keepIn K (.ref f21) = true)
    (a22 : PySem.W.nsIn K mainGlobals "_law_number" = some (some (.ref f22)))
    (l22 : K.lookup f22 = some ⟨oc22, od22, .func (PySem.W.fnOf "_law_number" "_law_number" (defArgs s_Lnumber) (defBody s_Lnumber) (defScope s_Lnumber) .none kV22 dc22 pm22 an22 cd22 ct22), sl22⟩)
    (c22 : PySem.W.codeIn K cd22 "_law_number" = true)
    (k22 : PySem.W.keepIn K (.ref f22) = true)
    (a23 : PySem.W.nsIn K mainGlobals "_law_day" = some (some (.ref f23)))
    (l23 : K.lookup f23 = some ⟨oc23, od23, .func (PySem.W.fnOf "_law_day" "_law_day" (defArgs s_Lday) (defBody s_Lday) (defScope s_Lday) .none kV23 dc23 pm23 an23 cd23 ct23), sl23⟩)
    (c23 : PySem.W.codeIn K cd23 "_law_day" = true)
    (k23 : PySem.W.keepIn K (.ref f23) = true)
    (a24 : PySem.W.nsIn K mainGlobals "_law_entry" = some (some (.ref f24)))
    (l24 : K.lookup f24 = some ⟨oc24, od24, .func (PySem.W.fnOf "_law_entry" "_law_entry" (defArgs s_Lentry) (defBody s_Lentry) (defScope s_Lentry) .none kV24 dc24 pm24 an24 cd24 ct24), sl24⟩)
    (c24 : PySem.W.codeIn K cd24 "_law_entry" = true)
    (k24 : PySem.W.keepIn K (.ref f24) = true)
    (a25 : PySem.W.nsIn K mainGlobals "_law_entry_row" = some (some (.ref f25)))
    (l25 : K.lookup f25 = some ⟨oc25, od25, .func (PySem.W.fnOf "_law_entry_row" "_law_entry_row" (defArgs s_Lentry_row) (defBody s_Lentry_row) (defScope s_Lentry_row) .none kV25 dc25 pm25 an25 cd25 ct25), sl25⟩)
    (c25 : PySem.W.codeIn K cd25 "_law_entry_row" = true)
    (k25 : PySem.W.keepIn K (.ref f25) = true)
    (a26 : PySem.W.nsIn K mainGlobals "_law_row" = some (some (.ref f26)))
    (l26 : K.lookup f26 = some ⟨oc26, od26, .func (PySem.W.fnOf "_law_row" "_law_row" (defArgs s_Lrow) (defBody s_Lrow) (defScope s_Lrow) .none kV26 dc26 pm26 an26 cd26 ct26), sl26⟩)
    (c26 : PySem.W.codeIn K cd26 "_law_row" = true)
    (k26 : PySem.W.keepIn K (.ref f26) = true)
    (a27 : PySem.W.nsIn K mainGlobals "_law_any_word" = some (some (.ref f27)))
    (l27 : K.lookup f27 = some ⟨oc27, od27, .func (PySem.W.fnOf "_law_any_word" "_law_any_word" (defArgs s_Lany_word) (defBody s_Lany_word) (defScope s_Lany_word) .none kV27 dc27 pm27 an27 cd27 ct27), sl27⟩)
    (c27 : PySem.W.codeIn K cd27 "_law_any_word" = true)
    (k27 : PySem.W.keepIn K (.ref f27) = true)
    (a28 : PySem.W.nsIn K mainGlobals "_law_spoilt" = some (some (.ref f28)))
    (l28 : K.lookup f28 = some ⟨oc28, od28, .func (PySem.W.fnOf "_law_spoilt" "_law_spoilt" (defArgs s_Lspoilt) (defBody s_Lspoilt) (defScope s_Lspoilt) .none kV28 dc28 pm28 an28 cd28 ct28), sl28⟩)
    (c28 : PySem.W.codeIn K cd28 "_law_spoilt" = true)
    (k28 : PySem.W.keepIn K (.ref f28) = true)
    (a29 : PySem.W.nsIn K mainGlobals "_law_is_entry" = some (some (.ref f29)))
    (l29 : K.lookup f29 = some ⟨oc29, od29, .func (PySem.W.fnOf "_law_is_entry" "_law_is_entry" (defArgs s_Lis_entry) (defBody s_Lis_entry) (defScope s_Lis_entry) .none kV29 dc29 pm29 an29 cd29 ct29), sl29⟩)
    (c29 : PySem.W.codeIn K cd29 "_law_is_entry" = true)
    (k29 : PySem.W.keepIn K (.ref f29) = true)
    (a30 : PySem.W.nsIn K mainGlobals "_law_same" = some (some (.ref f30)))
    (l30 : K.lookup f30 = some ⟨oc30, od30, .func (PySem.W.fnOf "_law_same" "_law_same" (defArgs s_Lsame) (defBody s_Lsame) (defScope s_Lsame) .none kV30 dc30 pm30 an30 cd30 ct30), sl30⟩)
    (c30 : PySem.W.codeIn K cd30 "_law_same" = true)
    (k30 : PySem.W.keepIn K (.ref f30) = true)
    (a31 : PySem.W.nsIn K mainGlobals "_law_refused" = some (some (.ref f31)))
    (l31 : K.lookup f31 = some ⟨oc31, od31, .func (PySem.W.fnOf "_law_refused" "_law_refused" (defArgs s_Lrefused) (defBody s_Lrefused) (defScope s_Lrefused) .none kV31 dc31 pm31 an31 cd31 ct31), sl31⟩)
    (c31 : PySem.W.codeIn K cd31 "_law_refused" = true)
    (k31 : PySem.W.keepIn K (.ref f31) = true)
    (a32 : PySem.W.nsIn K mainGlobals "law" = some (some (.ref f32)))
    (l32 : K.lookup f32 = some ⟨oc32, od32, .func (PySem.W.fnOf "law" "law" (defArgs s_law) (defBody s_law) (defScope s_law) .none kV32 dc32 pm32 an32 cd32 ct32), sl32⟩)
    (c32 : PySem.W.codeIn K cd32 "law" = true)
    (k32 : PySem.W.keepIn K (.ref f32) = true)
    (cg_Entry : PySem.W.nsIn K mainGlobals "Entry" = some (some (.ref c_Entry)))
    (pg_Entry : PySem.W.plainGet K c_Entry Str.empty = true)
    (hd_Entry : PySem.W.hasDictIn K c_Entry = true)
    (po_Entry : PySem.W.plainOver K c_Entry = true)
    (sa_Entry : PySem.W.findIn K (.ref c_Entry) "__setattr__" = some (some (.builtin "object.__setattr__")))
    (mk_Entry : PySem.W.makesIn K c_Entry = true)
    (in_Entry : PySem.W.findIn K (.ref c_Entry) "__init__" = some (some (.ref f_Entry)))
    (fn_Entry : PySem.W.isFn K (.ref f_Entry) = true)
    (kc_Entry : PySem.W.keepIn K (.ref c_Entry) = true)
    (kf_Entry : PySem.W.keepIn K (.ref f_Entry) = true)
    (lf_Entry : K.lookup f_Entry = some ⟨oc_Entry, od_Entry, .func (PySem.W.fnOf "__init__" "Entry.__init__" (defArgs s_Entry_init) (defBody s_Entry_init) (defScope s_Entry_init) (.ref t_Entry) kV_Entry dc_Entry pm_Entry an_Entry cd_Entry ct_Entry), sl_Entry⟩)
    (cf_Entry : PySem.W.codeIn K cd_Entry "Entry.__init__" = true)
    (lt_Entry : K.lookup t_Entry = some o_Entry)
    (dt_Entry : o_Entry.data = .seq #[.none, .none, .none, .bool true] n_Entry)
    (na_Entry_number : PySem.W.findIn K (.ref c_Entry) "number" = some none)
    (na_Entry_day : PySem.W.findIn K (.ref c_Entry) "day" = some none)
    (na_Entry_rank : PySem.W.findIn K (.ref c_Entry) "rank" = some none)
    (na_Entry_word : PySem.W.findIn K (.ref c_Entry) "word" = some none)
    (na_Entry_under : PySem.W.findIn K (.ref c_Entry) "under" = some none)
    (na_Entry_sheet : PySem.W.findIn K (.ref c_Entry) "sheet" = some none)
    (na_Entry_base : PySem.W.findIn K (.ref c_Entry) "base" = some none)
    (na_Entry_described : PySem.W.findIn K (.ref c_Entry) "described" = some none)
    (cg_MOST_LETTERS : PySem.W.nsIn K mainGlobals "MOST_LETTERS" = some (some u_MOST_LETTERS))
    (cr_MOST_LETTERS : RelV (.int 12) u_MOST_LETTERS)
    (cg_LAST_DAY : PySem.W.nsIn K mainGlobals "LAST_DAY" = some (some u_LAST_DAY))
    (cr_LAST_DAY : RelV (.int 1000000) u_LAST_DAY)
    (cg_LAST_NUMBER : PySem.W.nsIn K mainGlobals "LAST_NUMBER" = some (some u_LAST_NUMBER))
    (cr_LAST_NUMBER : RelV (.int 1000000000) u_LAST_NUMBER)
    (cg_FORM_DEPTH : PySem.W.nsIn K mainGlobals "FORM_DEPTH" = some (some u_FORM_DEPTH))
    (cr_FORM_DEPTH : RelV (.int 3) u_FORM_DEPTH)
    (cg_RANKS : PySem.W.nsIn K mainGlobals "RANKS" = some (some (.ref u_RANKS)))
    (cl_RANKS : K.lookup u_RANKS = some o_RANKS)
    (cc_RANKS : o_RANKS.cls = .type "tuple")
    (cd_RANKS : o_RANKS.data = .seq i_RANKS.toArray n_RANKS)
    (cv_RANKS : Vals [.str "genus", .str "species", .str "form"] i_RANKS)
    (cg_DEEDS : PySem.W.nsIn K mainGlobals "DEEDS" = some (some (.ref u_DEEDS)))
    (cl_DEEDS : K.lookup u_DEEDS = some o_DEEDS)
    (cc_DEEDS : o_DEEDS.cls = .type "tuple")
    (cd_DEEDS : o_DEEDS.data = .seq i_DEEDS.toArray n_DEEDS)
    (cv_DEEDS : Vals [.str "keep", .str "strike", .str "leave"] i_DEEDS)
    (cg_SHAPES : PySem.W.nsIn K mainGlobals "SHAPES" = some (some (.ref u_SHAPES)))
    (cl_SHAPES : K.lookup u_SHAPES = some ⟨.type "dict", none, .dict e_SHAPES.toArray n_SHAPES, #[]⟩)
    (cv_SHAPES : Paired (EntryIs w) ([("act", .ref u_SHAPES_0), ("lay", .ref u_SHAPES_1), ("take", .ref u_SHAPES_2), ("name", .ref u_SHAPES_3), ("why", .ref u_SHAPES_4), ("book", .ref u_SHAPES_5), ("out", .ref u_SHAPES_6)] : List (Str × V)) e_SHAPES)
    (cl_SHAPES_0 : K.lookup u_SHAPES_0 = some o_SHAPES_0)
    (cc_SHAPES_0 : o_SHAPES_0.cls = .type "tuple")
    (cd_SHAPES_0 : o_SHAPES_0.data = .seq i_SHAPES_0.toArray n_SHAPES_0)
    (cv_SHAPES_0 : Vals [.str "day", .str "deed", .str "number"] i_SHAPES_0)
    (cl_SHAPES_1 : K.lookup u_SHAPES_1 = some o_SHAPES_1)
    (cc_SHAPES_1 : o_SHAPES_1.cls = .type "tuple")
    (cd_SHAPES_1 : o_SHAPES_1.data = .seq i_SHAPES_1.toArray n_SHAPES_1)
    (cv_SHAPES_1 : Vals [.str "number", .str "path"] i_SHAPES_1)
    (cl_SHAPES_2 : K.lookup u_SHAPES_2 = some o_SHAPES_2)
    (cc_SHAPES_2 : o_SHAPES_2.cls = .type "tuple")
    (cd_SHAPES_2 : o_SHAPES_2.data = .seq i_SHAPES_2.toArray n_SHAPES_2)
    (cv_SHAPES_2 : Vals [.str "number"] i_SHAPES_2)
    (cl_SHAPES_3 : K.lookup u_SHAPES_3 = some o_SHAPES_3)
    (cc_SHAPES_3 : o_SHAPES_3.cls = .type "tuple")
    (cd_SHAPES_3 : o_SHAPES_3.data = .seq i_SHAPES_3.toArray n_SHAPES_3)
    (cv_SHAPES_3 : Vals [.str "number", .str "day"] i_SHAPES_3)
    (cl_SHAPES_4 : K.lookup u_SHAPES_4 = some o_SHAPES_4)
    (cc_SHAPES_4 : o_SHAPES_4.cls = .type "tuple")
    (cd_SHAPES_4 : o_SHAPES_4.data = .seq i_SHAPES_4.toArray n_SHAPES_4)
    (cv_SHAPES_4 : Vals [.str "number", .str "day"] i_SHAPES_4)
    (cl_SHAPES_5 : K.lookup u_SHAPES_5 = some o_SHAPES_5)
    (cc_SHAPES_5 : o_SHAPES_5.cls = .type "tuple")
    (cd_SHAPES_5 : o_SHAPES_5.data = .seq i_SHAPES_5.toArray n_SHAPES_5)
    (cv_SHAPES_5 : Vals [] i_SHAPES_5)
    (cl_SHAPES_6 : K.lookup u_SHAPES_6 = some o_SHAPES_6)
    (cc_SHAPES_6 : o_SHAPES_6.cls = .type "tuple")
    (cd_SHAPES_6 : o_SHAPES_6.data = .seq i_SHAPES_6.toArray n_SHAPES_6)
    (cv_SHAPES_6 : Vals [.str "number"] i_SHAPES_6)
    (cs_SHAPES : (u_SHAPES == sysModules) = false)
    (cg_NoNumber : PySem.W.nsIn K mainGlobals "NoNumber" = some (some (.ref c_NoNumber)))
    (cg_NoDay : PySem.W.nsIn K mainGlobals "NoDay" = some (some (.ref c_NoDay)))
    (cg_NoRank : PySem.W.nsIn K mainGlobals "NoRank" = some (some (.ref c_NoRank)))
    (cg_NoWord : PySem.W.nsIn K mainGlobals "NoWord" = some (some (.ref c_NoWord)))
    (cg_NoRow : PySem.W.nsIn K mainGlobals "NoRow" = some (some (.ref c_NoRow)))
    (cg_NoEntry : PySem.W.nsIn K mainGlobals "NoEntry" = some (some (.ref c_NoEntry)))
    (cg_RightError : PySem.W.nsIn K mainGlobals "RightError" = some (some (.ref c_RightError)))
    (cg_NoText : PySem.W.nsIn K mainGlobals "NoText" = some (some (.ref c_NoText)))
    (cg_NoSheet : PySem.W.nsIn K mainGlobals "NoSheet" = some (some (.ref c_NoSheet)))
    (cg_NoPath : PySem.W.nsIn K mainGlobals "NoPath" = some (some (.ref c_NoPath)))
    (cg_NoAct : PySem.W.nsIn K mainGlobals "NoAct" = some (some (.ref c_NoAct)))
    (xl_NoNumber : K.lookup c_NoNumber = some (excClassObj nm_NoNumber q_NoNumber c_NoNumber N_NoNumber bs_NoNumber (.ref A_NoNumber :: vmro) hd_NoNumber sn_NoNumber sub_NoNumber ab_NoNumber col_NoNumber dd_NoNumber k0_NoNumber k1_NoNumber k2_NoNumber k3_NoNumber k5_NoNumber "ValueError.__new__"))
    (xn_NoNumber : K.lookup N_NoNumber = some ⟨x1_NoNumber, x2_NoNumber, .dict es_NoNumber x3_NoNumber, x4_NoNumber⟩)
    (xs_NoNumber : strKeysB es_NoNumber = true)
    (xi_NoNumber : nsFind es_NoNumber "__init__" = none)
    (xa_NoNumber : K.lookup A_NoNumber = some { cls := y0_NoNumber, dict := y1_NoNumber, data := .cls y2_NoNumber, slots := y3_NoNumber })
    (xb_NoNumber : K.lookup y2_NoNumber.ns = some ⟨z1_NoNumber, z2_NoNumber, .dict et_NoNumber z3_NoNumber, z4_NoNumber⟩)
    (xt_NoNumber : strKeysB et_NoNumber = true)
    (xj_NoNumber : nsFind et_NoNumber "__init__" = none)
    (qcs_NoNumber : (PySem.W.clsIn K c_NoNumber).isSome = true)
    (qga_NoNumber : PySem.W.findIn K (.ref c_NoNumber) "__getattribute__" = some (some (.builtin "BaseException.__getattribute__")))
    (qgt_NoNumber : PySem.W.findIn K (.ref c_NoNumber) "__getattr__" = some none)
    (qca_NoNumber : PySem.W.findIn K (.ref c_NoNumber) "__class__" = some (some (.builtin "object.__class__")))
    (qgg_NoNumber : PySem.W.specialIn K (.builtin "object.__class__") "__get__" = some (some (.builtin "getset_descriptor.__get__")))
    (qtk_NoNumber : PySem.W.takesIn K (.builtin "object.__class__") = some true)
    (qmo_NoNumber : PySem.W.mroIn K c_NoNumber (.type "object") = some true)
    (qsb_NoNumber : PySem.W.subIn K (.ref c_NoNumber) (.type "BaseException") = some true)
    (i_NoNumber_NoText : PySem.W.kitOne K (.ref c_NoNumber) (.ref c_NoText) = some false)
    (i_NoNumber_NoEntry : PySem.W.kitOne K (.ref c_NoNumber) (.ref c_NoEntry) = some false)
    (i_NoNumber_NoSheet : PySem.W.kitOne K (.ref c_NoNumber) (.ref c_NoSheet) = some false)
    (i_NoNumber_NoRow : PySem.W.kitOne K (.ref c_NoNumber) (.ref c_NoRow) = some false)
    (i_NoNumber_ValueError : PySem.W.kitOne K (.ref c_NoNumber) (.type "ValueError") = some true)
    (i_NoNumber_NoPath : PySem.W.kitOne K (.ref c_NoNumber) (.ref c_NoPath) = some false)
    (i_NoNumber_NoAct : PySem.W.kitOne K (.ref c_NoNumber) (.ref c_NoAct) = some false)
    (e_NoNumber_RightError : PySem.W.exmOne K (.ref c_NoNumber) (.ref c_RightError) = some true)
    (xl_NoDay : K.lookup c_NoDay = some (excClassObj nm_NoDay q_NoDay c_NoDay N_NoDay bs_NoDay (.ref A_NoDay :: vmro) hd_NoDay sn_NoDay sub_NoDay ab_NoDay col_NoDay dd_NoDay k0_NoDay k1_NoDay k2_NoDay k3_NoDay k5_NoDay "ValueError.__new__"))
    (xn_NoDay : K.lookup N_NoDay = some ⟨x1_NoDay, x2_NoDay, .dict es_NoDay x3_NoDay, x4_NoDay⟩)
    (xs_NoDay : strKeysB es_NoDay = true)
    (xi_NoDay : nsFind es_NoDay "__init__" = none)
    (xa_NoDay : K.lookup A_NoDay = some { cls := y0_NoDay, dict := y1_NoDay, data := .cls y2_NoDay, slots := y3_NoDay })
    (xb_NoDay : K.lookup y2_NoDay.ns = some ⟨z1_NoDay, z2_NoDay, .dict et_NoDay z3_NoDay, z4_NoDay⟩)
    (xt_NoDay : strKeysB et_NoDay = true)
    (xj_NoDay : nsFind et_NoDay "__init__" = none)
    (qcs_NoDay : (PySem.W.clsIn K c_NoDay).isSome = true)
    (qga_NoDay : PySem.W.findIn K (.ref c_NoDay) "__getattribute__" = some (some (.builtin "BaseException.__getattribute__")))
    (qgt_NoDay : PySem.W.findIn K (.ref c_NoDay) "__getattr__" = some none)
    (qca_NoDay : PySem.W.findIn K (.ref c_NoDay) "__class__" = some (some (.builtin "object.__class__")))
    (qgg_NoDay : PySem.W.specialIn K (.builtin "object.__class__") "__get__" = some (some (.builtin "getset_descriptor.__get__")))
    (qtk_NoDay : PySem.W.takesIn K (.builtin "object.__class__") = some true)
    (qmo_NoDay : PySem.W.mroIn K c_NoDay (.type "object") = some true)
    (qsb_NoDay : PySem.W.subIn K (.ref c_NoDay) (.type "BaseException") = some true)
    (i_NoDay_NoText : PySem.W.kitOne K (.ref c_NoDay) (.ref c_NoText) = some false)
    (i_NoDay_NoEntry : PySem.W.kitOne K (.ref c_NoDay) (.ref c_NoEntry) = some false)
    (i_NoDay_NoSheet : PySem.W.kitOne K (.ref c_NoDay) (.ref c_NoSheet) = some false)
    (i_NoDay_NoRow : PySem.W.kitOne K (.ref c_NoDay) (.ref c_NoRow) = some false)
    (i_NoDay_ValueError : PySem.W.kitOne K (.ref c_NoDay) (.type "ValueError") = some true)
    (i_NoDay_NoPath : PySem.W.kitOne K (.ref c_NoDay) (.ref c_NoPath) = some false)
    (i_NoDay_NoAct : PySem.W.kitOne K (.ref c_NoDay) (.ref c_NoAct) = some false)
    (e_NoDay_RightError : PySem.W.exmOne K (.ref c_NoDay) (.ref c_RightError) = some true)
    (xl_NoRank : K.lookup c_NoRank = some (excClassObj nm_NoRank q_NoRank c_NoRank N_NoRank bs_NoRank (.ref A_NoRank :: vmro) hd_NoRank sn_NoRank sub_NoRank ab_NoRank col_NoRank dd_NoRank k0_NoRank k1_NoRank k2_NoRank k3_NoRank k5_NoRank "ValueError.__new__"))
    (xn_NoRank : K.lookup N_NoRank = some ⟨x1_NoRank, x2_NoRank, .dict es_NoRank x3_NoRank, x4_NoRank⟩)
    (xs_NoRank : strKeysB es_NoRank = true)
    (xi_NoRank : nsFind es_NoRank "__init__" = none)
    (xa_NoRank : K.lookup A_NoRank = some { cls := y0_NoRank, dict := y1_NoRank, data := .cls y2_NoRank, slots := y3_NoRank })
    (xb_NoRank : K.lookup y2_NoRank.ns = some ⟨z1_NoRank, z2_NoRank, .dict et_NoRank z3_NoRank, z4_NoRank⟩)
    (xt_NoRank : strKeysB et_NoRank = true)
    (xj_NoRank : nsFind et_NoRank "__init__" = none)
    (qcs_NoRank : (PySem.W.clsIn K c_NoRank).isSome = true)
    (qga_NoRank : PySem.W.findIn K (.ref c_NoRank) "__getattribute__" = some (some (.builtin "BaseException.__getattribute__")))
    (qgt_NoRank : PySem.W.findIn K (.ref c_NoRank) "__getattr__" = some none)
    (qca_NoRank : PySem.W.findIn K (.ref c_NoRank) "__class__" = some (some (.builtin "object.__class__")))
    (qgg_NoRank : PySem.W.specialIn K (.builtin "object.__class__") "__get__" = some (some (.builtin "getset_descriptor.__get__")))
    (qtk_NoRank : PySem.W.takesIn K (.builtin "object.__class__") = some true)
    (qmo_NoRank : PySem.W.mroIn K c_NoRank (.type "object") = some true)
    (qsb_NoRank : PySem.W.subIn K (.ref c_NoRank) (.type "BaseException") = some true)
    (i_NoRank_NoText : PySem.W.kitOne K (.ref c_NoRank) (.ref c_NoText) = some false)
    (i_NoRank_NoEntry : PySem.W.kitOne K (.ref c_NoRank) (.ref c_NoEntry) = some false)
    (i_NoRank_NoSheet : PySem.W.kitOne K (.ref c_NoRank) (.ref c_NoSheet) = some false)
    (i_NoRank_NoRow : PySem.W.kitOne K (.ref c_NoRank) (.ref c_NoRow) = some false)
    (i_NoRank_ValueError : PySem.W.kitOne K (.ref c_NoRank) (.type "ValueError") = some true)
    (i_NoRank_NoPath : PySem.W.kitOne K (.ref c_NoRank) (.ref c_NoPath) = some false)
    (i_NoRank_NoAct : PySem.W.kitOne K (.ref c_NoRank) (.ref c_NoAct) = some false)
    (e_NoRank_RightError : PySem.W.exmOne K (.ref c_NoRank) (.ref c_RightError) = some true)
    (xl_NoWord : K.lookup c_NoWord = some (excClassObj nm_NoWord q_NoWord c_NoWord N_NoWord bs_NoWord (.ref A_NoWord :: vmro) hd_NoWord sn_NoWord sub_NoWord ab_NoWord col_NoWord dd_NoWord k0_NoWord k1_NoWord k2_NoWord k3_NoWord k5_NoWord "ValueError.__new__"))
    (xn_NoWord : K.lookup N_NoWord = some ⟨x1_NoWord, x2_NoWord, .dict es_NoWord x3_NoWord, x4_NoWord⟩)
    (xs_NoWord : strKeysB es_NoWord = true)
    (xi_NoWord : nsFind es_NoWord "__init__" = none)
    (xa_NoWord : K.lookup A_NoWord = some { cls := y0_NoWord, dict := y1_NoWord, data := .cls y2_NoWord, slots := y3_NoWord })
    (xb_NoWord : K.lookup y2_NoWord.ns = some ⟨z1_NoWord, z2_NoWord, .dict et_NoWord z3_NoWord, z4_NoWord⟩)
    (xt_NoWord : strKeysB et_NoWord = true)
    (xj_NoWord : nsFind et_NoWord "__init__" = none)
    (qcs_NoWord : (PySem.W.clsIn K c_NoWord).isSome = true)
    (qga_NoWord : PySem.W.findIn K (.ref c_NoWord) "__getattribute__" = some (some (.builtin "BaseException.__getattribute__")))
    (qgt_NoWord : PySem.W.findIn K (.ref c_NoWord) "__getattr__" = some none)
    (qca_NoWord : PySem.W.findIn K (.ref c_NoWord) "__class__" = some (some (.builtin "object.__class__")))
    (qgg_NoWord : PySem.W.specialIn K (.builtin "object.__class__") "__get__" = some (some (.builtin "getset_descriptor.__get__")))
    (qtk_NoWord : PySem.W.takesIn K (.builtin "object.__class__") = some true)
    (qmo_NoWord : PySem.W.mroIn K c_NoWord (.type "object") = some true)
    (qsb_NoWord : PySem.W.subIn K (.ref c_NoWord) (.type "BaseException") = some true)
    (i_NoWord_NoText : PySem.W.kitOne K (.ref c_NoWord) (.ref c_NoText) = some false)
    (i_NoWord_NoEntry : PySem.W.kitOne K (.ref c_NoWord) (.ref c_NoEntry) = some false)
    (i_NoWord_NoSheet : PySem.W.kitOne K (.ref c_NoWord) (.ref c_NoSheet) = some false)
    (i_NoWord_NoRow : PySem.W.kitOne K (.ref c_NoWord) (.ref c_NoRow) = some false)
    (i_NoWord_ValueError : PySem.W.kitOne K (.ref c_NoWord) (.type "ValueError") = some true)
    (i_NoWord_NoPath : PySem.W.kitOne K (.ref c_NoWord) (.ref c_NoPath) = some false)
    (i_NoWord_NoAct : PySem.W.kitOne K (.ref c_NoWord) (.ref c_NoAct) = some false)
    (e_NoWord_RightError : PySem.W.exmOne K (.ref c_NoWord) (.ref c_RightError) = some true)
    (xl_NoRow : K.lookup c_NoRow = some (excClassObj nm_NoRow q_NoRow c_NoRow N_NoRow bs_NoRow (.ref A_NoRow :: vmro) hd_NoRow sn_NoRow sub_NoRow ab_NoRow col_NoRow dd_NoRow k0_NoRow k1_NoRow k2_NoRow k3_NoRow k5_NoRow "ValueError.__new__"))
    (xn_NoRow : K.lookup N_NoRow = some ⟨x1_NoRow, x2_NoRow, .dict es_NoRow x3_NoRow, x4_NoRow⟩)
    (xs_NoRow : strKeysB es_NoRow = true)
    (xi_NoRow : nsFind es_NoRow "__init__" = none)
    (xa_NoRow : K.lookup A_NoRow = some { cls := y0_NoRow, dict := y1_NoRow, data := .cls y2_NoRow, slots := y3_NoRow })
    (xb_NoRow : K.lookup y2_NoRow.ns = some ⟨z1_NoRow, z2_NoRow, .dict et_NoRow z3_NoRow, z4_NoRow⟩)
    (xt_NoRow : strKeysB et_NoRow = true)
    (xj_NoRow : nsFind et_NoRow "__init__" = none)
    (qcs_NoRow : (PySem.W.clsIn K c_NoRow).isSome = true)
    (qga_NoRow : PySem.W.findIn K (.ref c_NoRow) "__getattribute__" = some (some (.builtin "BaseException.__getattribute__")))
    (qgt_NoRow : PySem.W.findIn K (.ref c_NoRow) "__getattr__" = some none)
    (qca_NoRow : PySem.W.findIn K (.ref c_NoRow) "__class__" = some (some (.builtin "object.__class__")))
    (qgg_NoRow : PySem.W.specialIn K (.builtin "object.__class__") "__get__" = some (some (.builtin "getset_descriptor.__get__")))
    (qtk_NoRow : PySem.W.takesIn K (.builtin "object.__class__") = some true)
    (qmo_NoRow : PySem.W.mroIn K c_NoRow (.type "object") = some true)
    (qsb_NoRow : PySem.W.subIn K (.ref c_NoRow) (.type "BaseException") = some true)
    (i_NoRow_NoText : PySem.W.kitOne K (.ref c_NoRow) (.ref c_NoText) = some false)
    (i_NoRow_NoEntry : PySem.W.kitOne K (.ref c_NoRow) (.ref c_NoEntry) = some false)
    (i_NoRow_NoSheet : PySem.W.kitOne K (.ref c_NoRow) (.ref c_NoSheet) = some false)
    (i_NoRow_NoRow : PySem.W.kitOne K (.ref c_NoRow) (.ref c_NoRow) = some true)
    (i_NoRow_ValueError : PySem.W.kitOne K (.ref c_NoRow) (.type "ValueError") = some true)
    (i_NoRow_NoPath : PySem.W.kitOne K (.ref c_NoRow) (.ref c_NoPath) = some false)
    (i_NoRow_NoAct : PySem.W.kitOne K (.ref c_NoRow) (.ref c_NoAct) = some false)
    (e_NoRow_RightError : PySem.W.exmOne K (.ref c_NoRow) (.ref c_RightError) = some true)
    (xl_NoEntry : K.lookup c_NoEntry = some (excClassObj nm_NoEntry q_NoEntry c_NoEntry N_NoEntry bs_NoEntry (.ref A_NoEntry :: vmro) hd_NoEntry sn_NoEntry sub_NoEntry ab_NoEntry col_NoEntry dd_NoEntry k0_NoEntry k1_NoEntry k2_NoEntry k3_NoEntry k5_NoEntry "ValueError.__new__"))
    (xn_NoEntry : K.lookup N_NoEntry = some ⟨x1_NoEntry, x2_NoEntry, .dict es_NoEntry x3_NoEntry, x4_NoEntry⟩)
    (xs_NoEntry : strKeysB es_NoEntry = true)
    (xi_NoEntry : nsFind es_NoEntry "__init__" = none)
    (xa_NoEntry : K.lookup A_NoEntry = some { cls := y0_NoEntry, dict := y1_NoEntry, data := .cls y2_NoEntry, slots := y3_NoEntry })
    (xb_NoEntry : K.lookup y2_NoEntry.ns = some ⟨z1_NoEntry, z2_NoEntry, .dict et_NoEntry z3_NoEntry, z4_NoEntry⟩)
    (xt_NoEntry : strKeysB et_NoEntry = true)
    (xj_NoEntry : nsFind et_NoEntry "__init__" = none)
    (qcs_NoEntry : (PySem.W.clsIn K c_NoEntry).isSome = true)
    (qga_NoEntry : PySem.W.findIn K (.ref c_NoEntry) "__getattribute__" = some (some (.builtin "BaseException.__getattribute__")))
    (qgt_NoEntry : PySem.W.findIn K (.ref c_NoEntry) "__getattr__" = some none)
    (qca_NoEntry : PySem.W.findIn K (.ref c_NoEntry) "__class__" = some (some (.builtin "object.__class__")))
    (qgg_NoEntry : PySem.W.specialIn K (.builtin "object.__class__") "__get__" = some (some (.builtin "getset_descriptor.__get__")))
    (qtk_NoEntry : PySem.W.takesIn K (.builtin "object.__class__") = some true)
    (qmo_NoEntry : PySem.W.mroIn K c_NoEntry (.type "object") = some true)
    (qsb_NoEntry : PySem.W.subIn K (.ref c_NoEntry) (.type "BaseException") = some true)
    (i_NoEntry_NoText : PySem.W.kitOne K (.ref c_NoEntry) (.ref c_NoText) = some false)
    (i_NoEntry_NoEntry : PySem.W.kitOne K (.ref c_NoEntry) (.ref c_NoEntry) = some true)
    (i_NoEntry_NoSheet : PySem.W.kitOne K (.ref c_NoEntry) (.ref c_NoSheet) = some false)
    (i_NoEntry_NoRow : PySem.W.kitOne K (.ref c_NoEntry) (.ref c_NoRow) = some false)
    (i_NoEntry_ValueError : PySem.W.kitOne K (.ref c_NoEntry) (.type "ValueError") = some true)
    (i_NoEntry_NoPath : PySem.W.kitOne K (.ref c_NoEntry) (.ref c_NoPath) = some false)
    (i_NoEntry_NoAct : PySem.W.kitOne K (.ref c_NoEntry) (.ref c_NoAct) = some false)
    (e_NoEntry_RightError : PySem.W.exmOne K (.ref c_NoEntry) (.ref c_RightError) = some true)
    (wc_Entry : PySem.W.findIn K (.ref c_Entry) "__class__" = some (some (.builtin "object.__class__")))
    (wg_Entry : PySem.W.specialIn K (.builtin "object.__class__") "__get__" = some (some (.builtin "getset_descriptor.__get__")))
    (wt_Entry : PySem.W.takesIn K (.builtin "object.__class__") = some true)
    (wm_Entry : PySem.W.mroIn K c_Entry (.type "object") = some true)
    (ws_Entry : PySem.W.kitOne K (.ref c_Entry) (.ref c_Entry) = some true)
    (wn_Entry_NoneType : PySem.W.kitOne K (.type "NoneType") (.ref c_Entry) = some false)
    (wn_Entry_int : PySem.W.kitOne K (.type "int") (.ref c_Entry) = some false)
    (wn_Entry_str : PySem.W.kitOne K (.type "str") (.ref c_Entry) = some false)
    (wn_Entry_bool : PySem.W.kitOne K (.type "bool") (.ref c_Entry) = some false)
    (wn_Entry_list : PySem.W.kitOne K (.type "list") (.ref c_Entry) = some false)
    (wn_Entry_tuple : PySem.W.kitOne K (.type "tuple") (.ref c_Entry) = some false)
    (wn_Entry_dict : PySem.W.kitOne K (.type "dict") (.ref c_Entry) = some false)
    (z_len : PySem.W.nsIn K mainGlobals "len" = some none)
    (z_isinstance : PySem.W.nsIn K mainGlobals "isinstance" = some none)
    (z_str : PySem.W.nsIn K mainGlobals "str" = some none)
    (z_bool : PySem.W.nsIn K mainGlobals "bool" = some none)
    (z_all : PySem.W.nsIn K mainGlobals "all" = some none)
    (z_any : PySem.W.nsIn K mainGlobals "any" = some none)
    (z_range : PySem.W.nsIn K mainGlobals "range" = some none)
    (z_int : PySem.W.nsIn K mainGlobals "int" = some none)
    (z_ValueError : PySem.W.nsIn K mainGlobals "ValueError" = some none)
    (z_list : PySem.W.nsIn K mainGlobals "list" = some none)
    (z_tuple : PySem.W.nsIn K mainGlobals "tuple" = some none)
    (z_enumerate : PySem.W.nsIn K mainGlobals "enumerate" = some none)
    (z_zip : PySem.W.nsIn K mainGlobals "zip" = some none)
    : ∃ fd : FuncData, (∀ (s : Shared) (v : Value), BindsTo s fd ⟨[v], []⟩ [("_law_script", v)]) ∧ ∀ base : Heap, K.In base → base.Ns mainGlobals mg → FnOk l.prog w K mg base CX0 11 fa fd ["_law_script"] (spLaw K) := by
  have e := hfa.symm.trans (PySem.W.mg_of X G a32)
  cases e
  have F0 := fun_mk (st := s_is_whole) l0 c0 k0
  have b0 := F0.binds (ps := ["thing"]) fun _ _ _ _ _ _ us hl => by
    obtain ⟨a0, us0, rfl, g0⟩ := lenS hl
    obtain rfl := len0 g0
    rfl
  have F1 := fun_mk (st := s_is_day) l1 c1 k1
  have b1 := F1.binds (ps := ["thing"]) fun _ _ _ _ _ _ us hl => by
    obtain ⟨a0, us0, rfl, g0⟩ := lenS hl
    obtain rfl := len0 g0
    rfl
  have F2 := fun_mk (st := s_is_number) l2 c2 k2
  have b2 := F2.binds (ps := ["thing"]) fun _ _ _ _ _ _ us hl => by
    obtain ⟨a0, us0, rfl, g0⟩ := lenS hl
    obtain rfl := len0 g0
    rfl
  have F3 := fun_mk (st := s_is_word) l3 c3 k3
  have b3 := F3.binds (ps := ["thing"]) fun _ _ _ _ _ _ us hl => by
    obtain ⟨a0, us0, rfl, g0⟩ := lenS hl
    obtain rfl := len0 g0
    rfl
  have F4 := fun_mk (st := s_is_rank) l4 c4 k4
  have b4 := F4.binds (ps := ["thing"]) fun _ _ _ _ _ _ us hl => by
    obtain ⟨a0, us0, rfl, g0⟩ := lenS hl
    obtain rfl := len0 g0
    rfl
  have F5 := fun_mk (st := s_refuse_head) l5 c5 k5
  have b5 := F5.binds (ps := ["number", "day", "rank", "word"]) fun _ _ _ _ _ _ us hl => by
    obtain ⟨a0, us0, rfl, g0⟩ := lenS hl
    obtain ⟨a1, us1, rfl, g1⟩ := lenS g0
    obtain ⟨a2, us2, rfl, g2⟩ := lenS g1
    obtain ⟨a3, us3, rfl, g3⟩ := lenS g2
    obtain rfl := len0 g3
    rfl
  have F6 := fun_mk (st := s_under_fits) l6 c6 k6
  have b6 := F6.binds (ps := ["rank", "under"]) fun _ _ _ _ _ _ us hl => by
    obtain ⟨a0, us0, rfl, g0⟩ := lenS hl
    obtain ⟨a1, us1, rfl, g1⟩ := lenS g0
    obtain rfl := len0 g1
    rfl
  have F7 := fun_mk (st := s_tie_fits) l7 c7 k7
  have b7 := F7.binds (ps := ["rank", "sheet", "base"]) fun _ _ _ _ _ _ us hl => by
    obtain ⟨a0, us0, rfl, g0⟩ := lenS hl
    obtain ⟨a1, us1, rfl, g1⟩ := lenS g0
    obtain ⟨a2, us2, rfl, g2⟩ := lenS g1
    obtain rfl := len0 g2
    rfl
  have F8 := fun_mk (st := s_is_deed) l8 c8 k8
  have b8 := F8.binds (ps := ["thing"]) fun _ _ _ _ _ _ us hl => by
    obtain ⟨a0, us0, rfl, g0⟩ := lenS hl
    obtain rfl := len0 g0
    rfl
  have F9 := fun_mk (st := s_whole_of) l9 c9 k9
  have b9 := F9.binds (ps := ["word", "most"]) fun _ _ _ _ _ _ us hl => by
    obtain ⟨a0, us0, rfl, g0⟩ := lenS hl
    obtain ⟨a1, us1, rfl, g1⟩ := lenS g0
    obtain rfl := len0 g1
    rfl
  have F10 := fun_mk (st := s_day_of) l10 c10 k10
  have b10 := F10.binds (ps := ["word"]) fun _ _ _ _ _ _ us hl => by
    obtain ⟨a0, us0, rfl, g0⟩ := lenS hl
    obtain rfl := len0 g0
    rfl
  have F11 := fun_mk (st := s_number_of) l11 c11 k11
  have b11 := F11.binds (ps := ["word"]) fun _ _ _ _ _ _ us hl => by
    obtain ⟨a0, us0, rfl, g0⟩ := lenS hl
    obtain rfl := len0 g0
    rfl
  have F12 := fun_mk (st := s_read_row) l12 c12 k12
  have b12 := F12.binds (ps := ["row"]) fun _ _ _ _ _ _ us hl => by
    obtain ⟨a0, us0, rfl, g0⟩ := lenS hl
    obtain rfl := len0 g0
    rfl
  have F13 := fun_mk (st := s_entry_of) l13 c13 k13
  have b13 := F13.binds (ps := ["head", "under", "tie", "bare"]) fun _ _ _ _ _ _ us hl => by
    obtain ⟨a0, us0, rfl, g0⟩ := lenS hl
    obtain ⟨a1, us1, rfl, g1⟩ := lenS g0
    obtain ⟨a2, us2, rfl, g2⟩ := lenS g1
    obtain ⟨a3, us3, rfl, g3⟩ := lenS g2
    obtain rfl := len0 g3
    rfl
  have F14 := fun_mk (st := s_row_of) l14 c14 k14
  have b14 := F14.binds (ps := ["row"]) fun _ _ _ _ _ _ us hl => by
    obtain ⟨a0, us0, rfl, g0⟩ := lenS hl
    obtain rfl := len0 g0
    rfl
  have F15 := fun_mk (st := s_parts_of) l15 c15 k15
  have b15 := F15.binds (ps := ["row", "words"]) fun _ _ _ _ _ _ us hl => by
    obtain ⟨a0, us0, rfl, g0⟩ := lenS hl
    obtain ⟨a1, us1, rfl, g1⟩ := lenS g0
    obtain rfl := len0 g1
    rfl
  have F16 := fun_mk (st := s_part_of) l16 c16 k16
  have b16 := F16.binds (ps := ["kind", "word"]) fun _ _ _ _ _ _ us hl => by
    obtain ⟨a0, us0, rfl, g0⟩ := lenS hl
    obtain ⟨a1, us1, rfl, g1⟩ := lenS g0
    obtain rfl := len0 g1
    rfl
  have F17 := fun_mk (st := s_path_in) l17 c17 k17
  have b17 := F17.binds (ps := ["word"]) fun _ _ _ _ _ _ us hl => by
    obtain ⟨a0, us0, rfl, g0⟩ := lenS hl
    obtain rfl := len0 g0
    rfl
  have F18 := fun_mk (st := s_Lcell_at) l18 c18 k18
  have b18 := F18.binds (ps := ["_law_script", "_law_k"]) fun _ _ _ _ _ _ us hl => by
    obtain ⟨a0, us0, rfl, g0⟩ := lenS hl
    obtain ⟨a1, us1, rfl, g1⟩ := lenS g0
    obtain rfl := len0 g1
    rfl
  have F19 := fun_mk (st := s_Lwhole) l19 c19 k19
  have b19 := F19.binds (ps := ["_law_found"]) fun _ _ _ _ _ _ us hl => by
    obtain ⟨a0, us0, rfl, g0⟩ := lenS hl
    obtain rfl := len0 g0
    rfl
  have F20 := fun_mk (st := s_Lmixed) l20 c20 k20
  have b20 := F20.binds (ps := ["_law_cell", "_law_k"]) fun _ _ _ _ _ _ us hl => by
    obtain ⟨a0, us0, rfl, g0⟩ := lenS hl
    obtain ⟨a1, us1, rfl, g1⟩ := lenS g0
    obtain rfl := len0 g1
    rfl
  have F21 := fun_mk (st := s_Lword) l21 c21 k21
  have b21 := F21.binds (ps := ["_law_mixed_here"]) fun _ _ _ _ _ _ us hl => by
    obtain ⟨a0, us0, rfl, g0⟩ := lenS hl
    obtain rfl := len0 g0
    rfl
  have F22 := fun_mk (st := s_Lnumber) l22 c22 k22
  have b22 := F22.binds (ps := ["_law_mixed_here"]) fun _ _ _ _ _ _ us hl => by
    obtain ⟨a0, us0, rfl, g0⟩ := lenS hl
    obtain rfl := len0 g0
    rfl
  have F23 := fun_mk (st := s_Lday) l23 c23 k23
  have b23 := F23.binds (ps := ["_law_mixed_here"]) fun _ _ _ _ _ _ us hl => by
    obtain ⟨a0, us0, rfl, g0⟩ := lenS hl
    obtain rfl := len0 g0
    rfl
  have F24 := fun_mk (st := s_Lentry) l24 c24 k24
  have b24 := F24.binds (ps := ["_law_mixed_here"]) fun _ _ _ _ _ _ us hl => by
    obtain ⟨a0, us0, rfl, g0⟩ := lenS hl
    obtain rfl := len0 g0
    rfl
  have F25 := fun_mk (st := s_Lentry_row) l25 c25 k25
  have b25 := F25.binds (ps := ["_law_fields"]) fun _ _ _ _ _ _ us hl => by
    obtain ⟨a0, us0, rfl, g0⟩ := lenS hl
    obtain rfl := len0 g0
    rfl
  have F26 := fun_mk (st := s_Lrow) l26 c26 k26
  have b26 := F26.binds (ps := ["_law_mixed_here"]) fun _ _ _ _ _ _ us hl => by
    obtain ⟨a0, us0, rfl, g0⟩ := lenS hl
    obtain rfl := len0 g0
    rfl
  have F27 := fun_mk (st := s_Lany_word) l27 c27 k27
  have b27 := F27.binds (ps := ["_law_text", "_law_number_here"]) fun _ _ _ _ _ _ us hl => by
    obtain ⟨a0, us0, rfl, g0⟩ := lenS hl
    obtain ⟨a1, us1, rfl, g1⟩ := lenS g0
    obtain rfl := len0 g1
    rfl
  have F28 := fun_mk (st := s_Lspoilt) l28 c28 k28
  have b28 := F28.binds (ps := ["_law_text", "_law_way"]) fun _ _ _ _ _ _ us hl => by
    obtain ⟨a0, us0, rfl, g0⟩ := lenS hl
    obtain ⟨a1, us1, rfl, g1⟩ := lenS g0
    obtain rfl := len0 g1
    rfl
  have F29 := fun_mk (st := s_Lis_entry) l29 c29 k29
  have b29 := F29.binds (ps := ["_law_found", "_law_fields"]) fun _ _ _ _ _ _ us hl => by
    obtain ⟨a0, us0, rfl, g0⟩ := lenS hl
    obtain ⟨a1, us1, rfl, g1⟩ := lenS g0
    obtain rfl := len0 g1
    rfl
  have F30 := fun_mk (st := s_Lsame) l30 c30 k30
  have b30 := F30.binds (ps := ["_law_found", "_law_word_here", "_law_things"]) fun _ _ _ _ _ _ us hl => by
    obtain ⟨a0, us0, rfl, g0⟩ := lenS hl
    obtain ⟨a1, us1, rfl, g1⟩ := lenS g0
    obtain ⟨a2, us2, rfl, g2⟩ := lenS g1
    obtain rfl := len0 g2
    rfl
  have F31 := fun_mk (st := s_Lrefused) l31 c31 k31
  have b31 := F31.binds (ps := ["_law_thing"]) fun _ _ _ _ _ _ us hl => by
    obtain ⟨a0, us0, rfl, g0⟩ := lenS hl
    obtain rfl := len0 g0
    rfl
  have F32 := fun_mk (st := s_law) l32 c32 k32
  have b32 := F32.binds (ps := ["_law_script"]) fun _ _ _ _ _ _ us hl => by
    obtain ⟨a0, us0, rfl, g0⟩ := lenS hl
    obtain rfl := len0 g0
    rfl
  have T : Txt w K mg ⟨f0, _, f1, _, f2, _, f3, _, f4, _, f5, _, f6, _, f7, _, f8, _, f9, _, f10, _, f11, _, f12, _, f13, _, f14, _, f15, _, f16, _, f17, _, f18, _, f19, _, f20, _, f21, _, f22, _, f23, _, f24, _, f25, _, f26, _, f27, _, f28, _, f29, _, f30, _, f31, _, fa, _, c_Entry, f_Entry, t_Entry, _, u_MOST_LETTERS, u_LAST_DAY, u_LAST_NUMBER, u_FORM_DEPTH, u_RANKS, u_DEEDS, u_SHAPES, u_SHAPES_0, u_SHAPES_1, u_SHAPES_2, u_SHAPES_3, u_SHAPES_4, u_SHAPES_5, u_SHAPES_6, c_NoNumber, c_NoDay, c_NoRank, c_NoWord, c_NoRow, c_NoEntry, c_RightError, c_NoText, c_NoSheet, c_NoPath, c_NoAct⟩ := ⟨⟨F0, PySem.W.mg_of X G a0, b0⟩, ⟨F1, PySem.W.mg_of X G a1, b1⟩, ⟨F2, PySem.W.mg_of X G a2, b2⟩, ⟨F3, PySem.W.mg_of X G a3, b3⟩, ⟨F4, PySem.W.mg_of X G a4, b4⟩, ⟨F5, PySem.W.mg_of X G a5, b5⟩, ⟨F6, PySem.W.mg_of X G a6, b6⟩, ⟨F7, PySem.W.mg_of X G a7, b7⟩, ⟨F8, PySem.W.mg_of X G a8, b8⟩, ⟨F9, PySem.W.mg_of X G a9, b9⟩, ⟨F10, PySem.W.mg_of X G a10, b10⟩, ⟨F11, PySem.W.mg_of X G a11, b11⟩, ⟨F12, PySem.W.mg_of X G a12, b12⟩, ⟨F13, PySem.W.mg_of X G a13, b13⟩, ⟨F14, PySem.W.mg_of X G a14, b14⟩, ⟨F15, PySem.W.mg_of X G a15, b15⟩, ⟨F16, PySem.W.mg_of X G a16, b16⟩, ⟨F17, PySem.W.mg_of X G a17, b17⟩, ⟨F18, PySem.W.mg_of X G a18, b18⟩, ⟨F19, PySem.W.mg_of X G a19, b19⟩, ⟨F20, PySem.W.mg_of X G a20, b20⟩, ⟨F21, PySem.W.mg_of X G a21, b21⟩, ⟨F22, PySem.W.mg_of X G a22, b22⟩, ⟨F23, PySem.W.mg_of X G a23, b23⟩, ⟨F24, PySem.W.mg_of X G a24, b24⟩, ⟨F25, PySem.W.mg_of X G a25, b25⟩, ⟨F26, PySem.W.mg_of X G a26, b26⟩, ⟨F27, PySem.W.mg_of X G a27, b27⟩, ⟨F28, PySem.W.mg_of X G a28, b28⟩, ⟨F29, PySem.W.mg_of X G a29, b29⟩, ⟨F30, PySem.W.mg_of X G a30, b30⟩, ⟨F31, PySem.W.mg_of X G a31, b31⟩, ⟨F32, PySem.W.mg_of X G a32, b32⟩, PySem.W.mg_of X G cg_Entry, ⟨pg_Entry, hd_Entry, po_Entry, sa_Entry⟩, ⟨mk_Entry, in_Entry, fn_Entry, kc_Entry⟩, funD_mk lf_Entry cf_Entry kf_Entry, na_Entry_number, na_Entry_day, na_Entry_rank, na_Entry_word, na_Entry_under, na_Entry_sheet, na_Entry_base, na_Entry_described, mb_Entry_8 (funD_mk lf_Entry cf_Entry kf_Entry) lt_Entry dt_Entry, PySem.W.mg_of X G cg_MOST_LETTERS, cr_MOST_LETTERS, PySem.W.mg_of X G cg_LAST_DAY, cr_LAST_DAY, PySem.W.mg_of X G cg_LAST_NUMBER, cr_LAST_NUMBER, PySem.W.mg_of X G cg_FORM_DEPTH, cr_FORM_DEPTH, PySem.W.mg_of X G cg_RANKS, fun H => sqT_of cl_RANKS cc_RANKS cd_RANKS (by rw [List.size_toArray, ← Paired.length cv_RANKS]; exact le_ble rfl) (by simpa using cv_RANKS), PySem.W.mg_of X G cg_DEEDS, fun H => sqT_of cl_DEEDS cc_DEEDS cd_DEEDS (by rw [List.size_toArray, ← Paired.length cv_DEEDS]; exact le_ble rfl) (by simpa using cv_DEEDS), fun H => sqT_of cl_SHAPES_0 cc_SHAPES_0 cd_SHAPES_0 (by rw [List.size_toArray, ← Paired.length cv_SHAPES_0]; exact le_ble rfl) (by simpa using cv_SHAPES_0), fun H => sqT_of cl_SHAPES_1 cc_SHAPES_1 cd_SHAPES_1 (by rw [List.size_toArray, ← Paired.length cv_SHAPES_1]; exact le_ble rfl) (by simpa using cv_SHAPES_1), fun H => sqT_of cl_SHAPES_2 cc_SHAPES_2 cd_SHAPES_2 (by rw [List.size_toArray, ← Paired.length cv_SHAPES_2]; exact le_ble rfl) (by simpa using cv_SHAPES_2), fun H => sqT_of cl_SHAPES_3 cc_SHAPES_3 cd_SHAPES_3 (by rw [List.size_toArray, ← Paired.length cv_SHAPES_3]; exact le_ble rfl) (by simpa using cv_SHAPES_3), fun H => sqT_of cl_SHAPES_4 cc_SHAPES_4 cd_SHAPES_4 (by rw [List.size_toArray, ← Paired.length cv_SHAPES_4]; exact le_ble rfl) (by simpa using cv_SHAPES_4), fun H => sqT_of cl_SHAPES_5 cc_SHAPES_5 cd_SHAPES_5 (by rw [List.size_toArray, ← Paired.length cv_SHAPES_5]; exact le_ble rfl) (by simpa using cv_SHAPES_5), fun H => sqT_of cl_SHAPES_6 cc_SHAPES_6 cd_SHAPES_6 (by rw [List.size_toArray, ← Paired.length cv_SHAPES_6]; exact le_ble rfl) (by simpa using cv_SHAPES_6), cs_SHAPES, PySem.W.mg_of X G cg_SHAPES, ⟨⟨_, _, cl_SHAPES, cv_SHAPES⟩, show List.Nodup (["act", "lay", "take", "name", "why", "book", "out"] : List Str) by decide +kernel⟩, PySem.W.mg_of X G cg_NoNumber, PySem.W.mg_of X G cg_NoDay, PySem.W.mg_of X G cg_NoRank, PySem.W.mg_of X G cg_NoWord, PySem.W.mg_of X G cg_NoRow, PySem.W.mg_of X G cg_NoEntry, PySem.W.mg_of X G cg_RightError, PySem.W.mg_of X G cg_NoText, PySem.W.mg_of X G cg_NoSheet, PySem.W.mg_of X G cg_NoPath, PySem.W.mg_of X G cg_NoAct, XCls.mk2 xl_NoNumber xn_NoNumber xs_NoNumber xi_NoNumber xa_NoNumber xb_NoNumber xt_NoNumber xj_NoNumber, ⟨qcs_NoNumber, qga_NoNumber, qgt_NoNumber, qca_NoNumber, qgg_NoNumber, qtk_NoNumber, qmo_NoNumber, qsb_NoNumber⟩, i_NoNumber_NoText, i_NoNumber_NoEntry, i_NoNumber_NoSheet, i_NoNumber_NoRow, i_NoNumber_ValueError, i_NoNumber_NoPath, i_NoNumber_NoAct, e_NoNumber_RightError, XCls.mk2 xl_NoDay xn_NoDay xs_NoDay xi_NoDay xa_NoDay xb_NoDay xt_NoDay xj_NoDay, ⟨qcs_NoDay, qga_NoDay, qgt_NoDay, qca_NoDay, qgg_NoDay, qtk_NoDay, qmo_NoDay, qsb_NoDay⟩, i_NoDay_NoText, i_NoDay_NoEntry, i_NoDay_NoSheet, i_NoDay_NoRow, i_NoDay_ValueError, i_NoDay_NoPath, i_NoDay_NoAct, e_NoDay_RightError, XCls.mk2 xl_NoRank xn_NoRank xs_NoRank xi_NoRank xa_NoRank xb_NoRank xt_NoRank xj_NoRank, ⟨qcs_NoRank, qga_NoRank, qgt_NoRank, qca_NoRank, qgg_NoRank, qtk_NoRank, qmo_NoRank, qsb_NoRank⟩, i_NoRank_NoText, i_NoRank_NoEntry, i_NoRank_NoSheet, i_NoRank_NoRow, i_NoRank_ValueError, i_NoRank_NoPath, i_NoRank_NoAct, e_NoRank_RightError, XCls.mk2 xl_NoWord xn_NoWord xs_NoWord xi_NoWord xa_NoWord xb_NoWord xt_NoWord xj_NoWord, ⟨qcs_NoWord, qga_NoWord, qgt_NoWord, qca_NoWord, qgg_NoWord, qtk_NoWord, qmo_NoWord, qsb_NoWord⟩, i_NoWord_NoText, i_NoWord_NoEntry, i_NoWord_NoSheet, i_NoWord_NoRow, i_NoWord_ValueError, i_NoWord_NoPath, i_NoWord_NoAct, e_NoWord_RightError, XCls.mk2 xl_NoRow xn_NoRow xs_NoRow xi_NoRow xa_NoRow xb_NoRow xt_NoRow xj_NoRow, ⟨qcs_NoRow, qga_NoRow, qgt_NoRow, qca_NoRow, qgg_NoRow, qtk_NoRow, qmo_NoRow, qsb_NoRow⟩, i_NoRow_NoText, i_NoRow_NoEntry, i_NoRow_NoSheet, i_NoRow_NoRow, i_NoRow_ValueError, i_NoRow_NoPath, i_NoRow_NoAct, e_NoRow_RightError, XCls.mk2 xl_NoEntry xn_NoEntry xs_NoEntry xi_NoEntry xa_NoEntry xb_NoEntry xt_NoEntry xj_NoEntry, ⟨qcs_NoEntry, qga_NoEntry, qgt_NoEntry, qca_NoEntry, qgg_NoEntry, qtk_NoEntry, qmo_NoEntry, qsb_NoEntry⟩, i_NoEntry_NoText, i_NoEntry_NoEntry, i_NoEntry_NoSheet, i_NoEntry_NoRow, i_NoEntry_ValueError, i_NoEntry_NoPath, i_NoEntry_NoAct, e_NoEntry_RightError, ⟨wc_Entry, wg_Entry, wt_Entry, wm_Entry⟩, ws_Entry, wn_Entry_NoneType, wn_Entry_int, wn_Entry_str, wn_Entry_bool, wn_Entry_list, wn_Entry_tuple, wn_Entry_dict, PySem.W.mg_none_of X G z_len, PySem.W.mg_none_of X G z_isinstance, PySem.W.mg_none_of X G z_str, PySem.W.mg_none_of X G z_bool, PySem.W.mg_none_of X G z_all, PySem.W.mg_none_of X G z_any, PySem.W.mg_none_of X G z_range, PySem.W.mg_none_of X G z_int, PySem.W.mg_none_of X G z_ValueError, PySem.W.mg_none_of X G z_list, PySem.W.mg_none_of X G z_tuple, PySem.W.mg_none_of X G z_enumerate, PySem.W.mg_none_of X G z_zip⟩
  exact ⟨_, fun s v => .of_eq rfl, fun base _ _ => ok_law T⟩
end My
namespace PySem.W.Fast
def tw3251668702294504063:=0
def tw16221563686082601305:=0
def tw8369515498251388009:=0
def tw14630190294040500202:=0
def tw15389442088505999149:=0
def tw12008970898827580519:=0
def tw16833603540413254942:=0
def tw11518918056001312697:=0
def tw2484743929218186751:=0
def tw7283628170717150564:=0
def tw1916732702032485999:=0
def tw6788016609553780641:=0
def tw13390635985960589381:=0
def tw18291520792995275861:=0
def tw2407930222693148217:=0
def tw3257078652779951462:=0
def tw11448639878169781133:=0
def tw17163324313475430494:=0
def tw11966807028787335673:=0
def tw14748329231525556128:=0
def tw10126104055226534395:=0
def tw8342682375178461930:=0
def tw4417507925277491394:=0
def tw7404779992727974441:=0
def tw11565909281373179352:=0
def tw8787382081810434639:=0
def tw8104910764697773850:=0
def tw12148291062520891050:=0
def tw6402861633503256730:=0
def tw6708421225879061514:=0
def tw5431582164882023602:=0
def tw13726143116611548141:=0
def tw13792727437030640713:=0
def tw2014565777833886786:=0
def tw17262189847703680158:=0
def tw2936722570667230758:=0
def tw12088874647878405129:=0
def tw5562385675661969754:=0
def tw4297501130864253961:=0
def tw4095189944081509091:=0
def tw12293839295003330687:=0
def tw9186525770565556043:=0
def tw10352906279019983609:=0
def tw17403128320940660283:=0
def tw200920551969337459:=0
def tw2358144071762069645:=0
def tw602027162356729578:=0
def tw16806458446122860221:=0
def tw6760238474347119822:=0
def tw6853157768833312107:=0
def tw9220343245979008824:=0
def tw617436851182698881:=0
def tw85070039377500458:=0
def tw14194384773544324582:=0
def tw7931892980378909688:=0
def tw4929512075728123325:=0
def tw12097770823047522294:=0
def tw16419606778336085349:=0
def tw4457452490480263298:=0
def tw15788196844995762185:=0
def tw1179432101826745636:=0
def tw7314585272632334200:=0
def tw7318326708371744118:=0
def tw16417654580651655219:=0
def tw253368413875656938:=0
def tw5101415104243301540:=0
def tw1642022336335373296:=0
def tw5361680997753498147:=0
def tw805647853823742224:=0
def tw14219611733756792146:=0
def tw7552256269317114293:=0
def tw13293448428406243249:=0
def tw6560095200779964341:=0
def tw12226330700992798052:=0
def tw10464015320215155983:=0
def tw7619153485215610862:=0
def tw826360698349557292:=0
def tw11007838716067369656:=0
def tw17476254828664859254:=0
def tw13050898454542506753:=0
def tw8771183424908111949:=0
def tw3073976159424063850:=0
def tw3382547304687436894:=0
def tw4732016281867598655:=0
def tw1102033757027006951:=0
def tw12606913057874449387:=0
def tw6247204844821877069:=0
def tw7063029228098227780:=0
def tw2224070572421711339:=0
def tw9173174367547473485:=0
def tw12706862985436193121:=0
def tw15767752038136524557:=0
def tw2105000130846552438:=0
def tw12737997880390900548:=0
def tw10045318214492780380:=0
def tw10961586389040424691:=0
def tw5713214130087880180:=0
def tw5902989066681422474:=0
def tw14129384403990206162:=0
def tw17880130303358829392:=0
def tw5069862485655940843:=0
def tw10782127469331502797:=0
def tw14533742927714306269:=0
def tw13194762041301457140:=0
def tw4778627897090106009:=0
def tw17228912779985826637:=0
def tw7803672713727532371:=0
def tw5918259537205474058:=0
def tw3266820514234426995:=0
def tw10360268083341965413:=0
def tw18175544639693693248:=0
def tw12671045739186284056:=0
def tw2234353489655943857:=0
def tw12964369584497557878:=0
def tw14460321249385401029:=0
def tw16529977720691161783:=0
def tw12263426074208014209:=0
def tw14233104777061897950:=0
def tw13261041906507748844:=0
def tw12563300073183054685:=0
def tw15200297730127069526:=0
def tw5398686069709339214:=0
def tw9310280245720269736:=0
def tw2836186771176243803:=0
def tw18273119338592123653:=0
def tw5642936103968607689:=0
def tw147293812354331401:=0
def tw12814539357449096469:=0
def tw16681738158734124390:=0
def tw3272601825866107926:=0
def tw3963510215018480965:=0
def tw16421141525172441706:=0
def tw16519112805104273828:=0
def tw3740174054501325925:=0
def tw17090115553447927984:=0
def tw516096955160398628:=0
def tw5966355848121819160:=0
def tw15779746713910177906:=0
def tw1981147731467957674:=0
def tw8701546133186181503:=0
def tw8002018347105529283:=0
def tw3262739761416498159:=0
def tw16309745137996103700:=0
def tw2039930127798699212:=0
def tw4897436497643276307:=0
def tw10468578721297308053:=0
def tw12877891405481123748:=0
def tw9981750146122942596:=0
def tw9783981401799739756:=0
def tw16806453118337834758:=0
def tw2720695722676360267:=0
def tw15475330763491176080:=0
def tw15743170198865047133:=0
def tw6306618404924486026:=0
def tw11233247570606651423:=0
def tw14314230248244368232:=0
def tw5610799934957223418:=0
def tw5485401791404765235:=0
def tw8243577831658787662:=0
def tw14811972793368621359:=0
def tw4042526807689973610:=0
def tw9314333103327389870:=0
def tw4146576683938890708:=0
def tw16124700262825192057:=0
def tw17860621381972819973:=0
def tw14566860608840994236:=0
def tw1137069661707774833:=0
def tw9529907757679470457:=0
def tw17463333355425002060:=0
def tw6521282095895444725:=0
def tw8564253087789823635:=0
def tw13713942363697531801:=0
def tw3993952325895093520:=0
def tw6315228584024848594:=0
def tw1026154065241246278:=0
def tw16419138005500912623:=0
def tw8247556148156053483:=0
def tw12859295756685401665:=0
def tw3090959349121918182:=0
def tw12691950157179661137:=0
def tw1808405904621061175:=0
def tw3814560125575715572:=0
def tw3379427569738189729:=0
def tw11908865707981515582:=0
def tw5314907877113703568:=0
def tw14112844022525587422:=0
def tw5888995051333463383:=0
def tw13053564656006048555:=0
def tw11141835486760197851:=0
def tw3950603222065219936:=0
def tw4357851205610327225:=0
def tw9230807667086597582:=0
def tw17417084161736343683:=0
def tw15233644366206115756:=0
def tw16226671059976164445:=0
def tw12813603715919745972:=0
def tw9456924008793262588:=0
def tw12961880972579974172:=0
def tw10538756290426265405:=0
def tw7750153959585496347:=0
def tw12317194437874528420:=0
def tw11619318732460219922:=0
def tw12752077321369605412:=0
def tw9345228500081579020:=0
def tw8761512744510438737:=0
def tw17121718461049015437:=0
def tw13020131417461148496:=0
def tw3195619857698358085:=0
def tw13204769354260054650:=0
def tw17283270808457074102:=0
def tw10075553785858305296:=0
def tw4338705293772535748:=0
def tw6300694560016575258:=0
def tw15139496787741523843:=0
def tw12956891512907053970:=0
def tw8616485768144350536:=0
def tw9979724222860555002:=0
def tw8382847582357216753:=0
def tw5775784857205028085:=0
def tw13101256646732501602:=0
def tw18272622598243365368:=0
def tw744457657846864702:=0
def tw13744153319476370935:=0
def tw17371443031335658514:=0
def tw445614917323610586:=0
def tw3708545744761000172:=0
def tw10720599500925308819:=0
def tw12197313973310062369:=0
def tw15143557199182567701:=0
def tw15229107758612507729:=0
def tw16886209714426493405:=0
def tw15073259332659964356:=0
def tw9461501052654003408:=0
def tw11226052378024550255:=0
def tw2788761548207585371:=0
def tw10797994523017607431:=0
def tw10744465501858668929:=0
def tw14762943409694422516:=0
def tw7090399809680343329:=0
def tw4250560044194364660:=0
def tw5983668557263946628:=0
def tw6807341489316400702:=0
def tw1862765714038984925:=0
def tw8432623297161904982:=0
def tw1663483161119746716:=0
def tw2362153576100899508:=0
def tw1548429971878191831:=0
def tw5060044430170987610:=0
def tw6501585997211810385:=0
def tw7634343165876750627:=0
def tw12191631328127527784:=0
def tw18220925267350161483:=0
def tw11932823495800400252:=0
def tw658693668099244976:=0
def tw18120376429620973884:=0
def tw3342046201121417160:=0
def tw476254505511449567:=0
def tw6914992723067974703:=0
def tw12477672800410984145:=0
def tw4293364074184273113:=0
def tw12569793236562939024:=0
def tw1231983183998609963:=0
def tw15824759349187466820:=0
def tw5011617436928420222:=0
def tw4990842714150560169:=0
def tw4894401332524358991:=0
def tw16269582334282410212:=0
def tw13992020573535962109:=0
def tw9490192835895481940:=0
def tw361943985301634635:=0
def tw15113304516586861381:=0
def tw15769201219382973994:=0
def tw7293249904456748535:=0
def tw2591766968997286288:=0
def tw7583108341232038373:=0
def tw4710573103903791467:=0
def tw6968624532787278415:=0
def tw16256068849778906737:=0
def tw11948870628358753516:=0
def tw12475674130147864990:=0
def tw16495140981062011671:=0
def tw8615228604741281220:=0
def tw5182524135325778684:=0
def tw9598062837251876138:=0
def tw16512579505438789141:=0
def tw9702082632932478045:=0
def tw14126621560736639319:=0
def tw14922697243666794840:=0
def tw9481301691446509703:=0
def tw2423966308413024015:=0
def tw16219381507733799646:=0
def tw14444718326949428356:=0
def tw9131202308415113745:=0
def tw2289466147717285698:=0
def tw7403612001676866743:=0
def tw17139444994872504752:=0
def tw862641129940102013:=0
def tw7679197453403148422:=0
def tw15281472544906631541:=0
def tw3663243819550750918:=0
def tw2643158441290287833:=0
def tw5626251491526422549:=0
def tw1778960807257988295:=0
def tw16635176744353631173:=0
def tw8259787152361927249:=0
def tw3651258699840954615:=0
def tw5461391836395586556:=0
def tw12811293956164440416:=0
def tw8603707191657246484:=0
def tw15859682691463049895:=0
def tw2030835609074735869:=0
def tw3457499464356588570:=0
def tw3644063194358704861:=0
def tw4117421031745073798:=0
def tw6346222848752139645:=0
def tw14937407938179255529:=0
def tw5567425420383826182:=0
def tw321664103271688673:=0
def tw528710199071181405:=0
def tw2036144036144571668:=0
def tw2968163446456507024:=0
def tw4111065996180778440:=0
def tw9081782428923749262:=0
def tw5907997319284206287:=0
def tw9421025761481455943:=0
def tw8222241507311613913:=0
def tw3987438547344250249:=0
def tw4698412401231474713:=0
def tw4807066971853927822:=0
def tw3322461563444611276:=0
def tw13841213339031389257:=0
def tw4569714745889279146:=0
def tw9661239178207185156:=0
def tw5729719181584257042:=0
def tw4783154267845078982:=0
def tw2900092521134454186:=0
def tw8424901491609112435:=0
def tw16347897943451519723:=0
def tw4150473232310877830:=0
def tw16170046042810095977:=0
def tw62412097446668845:=0
def tw3134579309663856980:=0
def tw278704508541055631:=0
def tw6585101254482635286:=0
def tw552466512674089834:=0
def tw2849622356880511979:=0
def tw7000552637779518084:=0
def tw13701126496540413861:=0
def tw13180575603739090176:=0
def tw11786123056466020055:=0
def tw13484974230158370018:=0
def tw5588708563662993259:=0
def tw17161473203687060175:=0
def tw3495443113402715809:=0
def tw7216672206080680662:=0
def tw12412846818541598165:=0
def tw8815724821442231398:=0
def tw4125665892538241237:=0
def tw11115214596205615650:=0
def tw12987208516945494921:=0
def tw6269232556408848301:=0
def tw896764530005949961:=0
def tw1590715689231091236:=0
def tw433924470143989054:=0
def tw4556873790747893733:=0
def tw17866444561479743661:=0
def tw11584123824522764412:=0
def tw7885440082893282856:=0
def tw7949531486717905011:=0
def tw16379006614052344362:=0
def tw9909571996367404051:=0
def tw16459620165209129651:=0
def tw6274067749750524716:=0
def tw11924289262015521538:=0
def tw9251254602366734336:=0
def tw12347805810459830047:=0
def tw1416294729750323507:=0
def tw17355758927394527810:=0
def tw6777898079948877296:=0
def tw1237101242313939993:=0
def tw5011634485179118865:=0
def tw4776568409736112442:=0
def tw16914278508148570637:=0
def tw3735537626350245843:=0
def tw1033171303713603355:=0
def tw3500038240849764187:=0
def tw16552653953402728655:=0
def tw12487037001440753883:=0
def tw13697872295761255061:=0
def tw12982091074592389121:=0
def tw7077391369789936313:=0
def tw14869225787042912111:=0
def tw13182072843416199963:=0
def tw17053131046075294380:=0
def tw14633489941054128896:=0
def tw9818373173778692627:=0
def tw5569899435505738247:=0
def tw7269480509248285616:=0
def tw2610699636712319508:=0
def tw17225467317297751621:=0
def tw9369421490057852589:=0
def tw335487132291188841:=0
def tw2589563091062355023:=0
def tw2443414413374649620:=0
def tw8520054815596088060:=0
def tw18317895538993521060:=0
def tw16980498496608080780:=0
def tw102433336816169896:=0
def tw12700747602983403568:=0
def tw2690355714152405746:=0
def tw8644389753119346304:=0
def tw8968654486794299559:=0
def tw13503564493797953797:=0
def tw15864747605331524247:=0
def tw18064624629202069206:=0
def tw15137787380986178616:=0
def tw12390769494631207675:=0
def tw2933494665866066756:=0
def tw3562438208914501852:=0
def tw6343421634169801013:=0
def tw17350375254389163245:=0
def tw18433947424110128302:=0
def tw1095644481273947558:=0
def tw7881305712977491804:=0
def tw4690370292251883198:=0
def tw14550574102305646224:=0
def tw6498497895558739393:=0
def tw2066820263639823202:=0
def tw205468043242834937:=0
def tw14243949457597152751:=0
def tw3661991384384999561:=0
def tw14750443371990541568:=0
def tw2899097067759184228:=0
def tw6369593178835963647:=0
def tw14706823989663635087:=0
def tw15520542895476218746:=0
def tw8141815767097023508:=0
def tw8866935055578534442:=0
def tw14044031910355993066:=0
def tw11876302605171096553:=0
def tw17526913809607686065:=0
def tw1176944602697612114:=0
def tw10692782678824707560:=0
def tw14455554468005093855:=0
def tw14864919630304097065:=0
def tw11292282401430676255:=0
def tw5702809371983114224:=0
def tw17668965836969981092:=0
def tw1735235790498840334:=0
def tw11640733172110893212:=0
def tw7556825976020114811:=0
def tw11216518216777287549:=0
def tw2382474253215370843:=0
def tw11179145670503854522:=0
def tw12851503720414673212:=0
def tw7152859207003679919:=0
def tw18370912970234286711:=0
def tw11550597202068969834:=0
def tw6464610516119238442:=0
def tw7367049873570528652:=0
def tw3996303982560971793:=0
def tw16066365300527227992:=0
def tw5908957705355579266:=0
def tw10202197181857981452:=0
def tw14527452704093440967:=0
def tw16138295691098506049:=0
def tw4946931761454173295:=0
def tw11548199734510698880:=0
def tw15708241773307047587:=0
def tw16434237640457499578:=0
def tw15156129472249224249:=0
def tw7357126882359078236:=0
def tw74074418891079972:=0
def tw5295570633318282822:=0
def tw2161861618745448946:=0
def tw14771156270646601426:=0
def tw8943264143151574457:=0
def tw14743976233091356579:=0
def tw6048267886630892676:=0
def tw7117350847651547023:=0
end PySem.W.Fast
open PySem PySem.W PyProof.Rows
set_option maxRecDepth 100000 in
set_option maxHeartbeats 0 in
theorem PySem.Challenge.cw_rightname_k91_rows_of_a_desk_holds : PySem.Challenge.rw_rightname_k91_rows_of_a_desk.Holds := by
  w_on; o_law; k_head; (case hw => w_witness2)
  k_fill
  refine L2.walk_ofK (l := PySem.Challenge.rw_rightname_k91_rows_of_a_desk) (n := 63) (k := 11) (x := "_law_script") (CX := L2.CX0) (sp := My.spLaw) rfl (by decide) rfl ⟨rfl, by decide, by decide⟩ (fun w h Y => PySem.W.kIn_of Y) ?F ?S ?C
  case F =>
    intro w mg fa h KX G hmg
    refine' My.all_mk KX G hmg ?pa0 ?pl0 ?pc0 ?pk0 ?pa1 ?pl1 ?pc1 ?pk1 ?pa2 ?pl2 ?pc2 ?pk2 ?pa3 ?pl3 ?pc3 ?pk3 ?pa4 ?pl4 ?pc4 ?pk4 ?pa5 ?pl5 ?pc5 ?pk5 ?pa6 ?pl6 ?pc6 ?pk6 ?pa7 ?pl7 ?pc7 ?pk7 ?pa8 ?pl8 ?pc8 ?pk8 ?pa9 ?pl9 ?pc9 ?pk9 ?pa10 ?pl10 ?pc10 ?pk10 ?pa11 ?pl11 ?pc11 ?pk11 ?pa12 ?pl12 ?pc12 ?pk12 ?pa13 ?pl13 ?pc13 ?pk13 ?pa14 ?pl14 ?pc14 ?pk14 ?pa15 ?pl15 ?pc15 ?pk15 ?pa16 ?pl16 ?pc16 ?pk16 ?pa17 ?pl17 ?pc17 ?pk17 ?pa18 ?pl18 ?pc18 ?pk18 ?pa19 ?pl19 ?pc19 ?pk19 ?pa20 ?pl20 ?pc20 ?pk20 ?pa21 ?pl21 ?pc21 ?pk21 ?pa22 ?pl22 ?pc22 ?pk22 ?pa23 ?pl23 ?pc23 ?pk23 ?pa24 ?pl24 ?pc24 ?pk24 ?pa25 ?pl25 ?pc25 ?pk25 ?pa26 ?pl26 ?pc26 ?pk26 ?pa27 ?pl27 ?pc27 ?pk27 ?pa28 ?pl28 ?pc28 ?pk28 ?pa29 ?pl29 ?pc29 ?pk29 ?pa30 ?pl30 ?pc30 ?pk30 ?pa31 ?pl31 ?pc31 ?pk31 ?pa32 ?pl32 ?pc32 ?pk32 ?pcg_Entry ?ppg_Entry ?phd_Entry ?ppo_Entry ?psa_Entry ?pmk_Entry ?pin_Entry ?pfn_Entry ?pkc_Entry ?pkf_Entry ?plf_Entry ?pcf_Entry ?plt_Entry ?pdt_Entry ?pna_Entry_number ?pna_Entry_day ?pna_Entry_rank ?pna_Entry_word ?pna_Entry_under ?pna_Entry_sheet ?pna_Entry_base ?pna_Entry_described ?pcg_MOST_LETTERS ?pcr_MOST_LETTERS ?pcg_LAST_DAY ?pcr_LAST_DAY ?pcg_LAST_NUMBER ?pcr_LAST_NUMBER ?pcg_FORM_DEPTH ?pcr_FORM_DEPTH ?pcg_RANKS ?pcl_RANKS ?pcc_RANKS ?pcd_RANKS ?pcv_RANKS ?pcg_DEEDS ?pcl_DEEDS ?pcc_DEEDS ?pcd_DEEDS ?pcv_DEEDS ?pcg_SHAPES ?pcl_SHAPES ?pcv_SHAPES ?pcl_SHAPES_0 ?pcc_SHAPES_0 ?pcd_SHAPES_0 ?pcv_SHAPES_0 ?pcl_SHAPES_1 ?pcc_SHAPES_1 ?pcd_SHAPES_1 ?pcv_SHAPES_1 ?pcl_SHAPES_2 ?pcc_SHAPES_2 ?pcd_SHAPES_2 ?pcv_SHAPES_2 ?pcl_SHAPES_3 ?pcc_SHAPES_3 ?pcd_SHAPES_3 ?pcv_SHAPES_3 ?pcl_SHAPES_4 ?pcc_SHAPES_4 ?pcd_SHAPES_4 ?pcv_SHAPES_4 ?pcl_SHAPES_5 ?pcc_SHAPES_5 ?pcd_SHAPES_5 ?pcv_SHAPES_5 ?pcl_SHAPES_6 ?pcc_SHAPES_6 ?pcd_SHAPES_6 ?pcv_SHAPES_6 ?pcs_SHAPES ?pcg_NoNumber ?pcg_NoDay ?pcg_NoRank ?pcg_NoWord ?pcg_NoRow ?pcg_NoEntry ?pcg_RightError ?pcg_NoText ?pcg_NoSheet ?pcg_NoPath ?pcg_NoAct ?pxl_NoNumber ?pxn_NoNumber ?pxs_NoNumber ?pxi_NoNumber ?pxa_NoNumber ?pxb_NoNumber ?pxt_NoNumber ?pxj_NoNumber ?pqcs_NoNumber ?pqga_NoNumber ?pqgt_NoNumber ?pqca_NoNumber ?pqgg_NoNumber ?pqtk_NoNumber ?pqmo_NoNumber ?pqsb_NoNumber ?pi_NoNumber_NoText ?pi_NoNumber_NoEntry ?pi_NoNumber_NoSheet ?pi_NoNumber_NoRow ?pi_NoNumber_ValueError ?pi_NoNumber_NoPath ?pi_NoNumber_NoAct ?pe_NoNumber_RightError ?pxl_NoDay ?pxn_NoDay ?pxs_NoDay ?pxi_NoDay ?pxa_NoDay ?pxb_NoDay ?pxt_NoDay ?pxj_NoDay ?pqcs_NoDay ?pqga_NoDay ?pqgt_NoDay ?pqca_NoDay ?pqgg_NoDay ?pqtk_NoDay ?pqmo_NoDay ?pqsb_NoDay ?pi_NoDay_NoText ?pi_NoDay_NoEntry ?pi_NoDay_NoSheet ?pi_NoDay_NoRow ?pi_NoDay_ValueError ?pi_NoDay_NoPath ?pi_NoDay_NoAct ?pe_NoDay_RightError ?pxl_NoRank ?pxn_NoRank ?pxs_NoRank ?pxi_NoRank ?pxa_NoRank ?pxb_NoRank ?pxt_NoRank ?pxj_NoRank ?pqcs_NoRank ?pqga_NoRank ?pqgt_NoRank ?pqca_NoRank ?pqgg_NoRank ?pqtk_NoRank ?pqmo_NoRank ?pqsb_NoRank ?pi_NoRank_NoText ?pi_NoRank_NoEntry ?pi_NoRank_NoSheet ?pi_NoRank_NoRow ?pi_NoRank_ValueError ?pi_NoRank_NoPath ?pi_NoRank_NoAct ?pe_NoRank_RightError ?pxl_NoWord ?pxn_NoWord ?pxs_NoWord ?pxi_NoWord ?pxa_NoWord ?pxb_NoWord ?pxt_NoWord ?pxj_NoWord ?pqcs_NoWord ?pqga_NoWord ?pqgt_NoWord ?pqca_NoWord ?pqgg_NoWord ?pqtk_NoWord ?pqmo_NoWord ?pqsb_NoWord ?pi_NoWord_NoText ?pi_NoWord_NoEntry ?pi_NoWord_NoSheet ?pi_NoWord_NoRow ?pi_NoWord_ValueError ?pi_NoWord_NoPath ?pi_NoWord_NoAct ?pe_NoWord_RightError ?pxl_NoRow ?pxn_NoRow ?pxs_NoRow ?pxi_NoRow ?pxa_NoRow ?pxb_NoRow ?pxt_NoRow ?pxj_NoRow ?pqcs_NoRow ?pqga_NoRow ?pqgt_NoRow ?pqca_NoRow ?pqgg_NoRow ?pqtk_NoRow ?pqmo_NoRow ?pqsb_NoRow ?pi_NoRow_NoText ?pi_NoRow_NoEntry ?pi_NoRow_NoSheet ?pi_NoRow_NoRow ?pi_NoRow_ValueError ?pi_NoRow_NoPath ?pi_NoRow_NoAct ?pe_NoRow_RightError ?pxl_NoEntry ?pxn_NoEntry ?pxs_NoEntry ?pxi_NoEntry ?pxa_NoEntry ?pxb_NoEntry ?pxt_NoEntry ?pxj_NoEntry ?pqcs_NoEntry ?pqga_NoEntry ?pqgt_NoEntry ?pqca_NoEntry ?pqgg_NoEntry ?pqtk_NoEntry ?pqmo_NoEntry ?pqsb_NoEntry ?pi_NoEntry_NoText ?pi_NoEntry_NoEntry ?pi_NoEntry_NoSheet ?pi_NoEntry_NoRow ?pi_NoEntry_ValueError ?pi_NoEntry_NoPath ?pi_NoEntry_NoAct ?pe_NoEntry_RightError ?pwc_Entry ?pwg_Entry ?pwt_Entry ?pwm_Entry ?pws_Entry ?pwn_Entry_NoneType ?pwn_Entry_int ?pwn_Entry_str ?pwn_Entry_bool ?pwn_Entry_list ?pwn_Entry_tuple ?pwn_Entry_dict ?pz_len ?pz_isinstance ?pz_str ?pz_bool ?pz_all ?pz_any ?pz_range ?pz_int ?pz_ValueError ?pz_list ?pz_tuple ?pz_enumerate ?pz_zip
    (case pa0 => k_is)
    (case pl0 => k_is)
    (case pc0 => k_is)
    (case pk0 => k_is)
    (case pa1 => k_is)
    (case pl1 => k_is)
    (case pc1 => k_is)
    (case pk1 => k_is)
    (case pa2 => k_is)
    (case pl2 => k_is)
    (case pc2 => k_is)
    (case pk2 => k_is)
    (case pa3 => k_is)
    (case pl3 => k_is)
    (case pc3 => k_is)
    (case pk3 => k_is)
    (case pa4 => k_is)
    (case pl4 => k_is)
    (case pc4 => k_is)
    (case pk4 => k_is)
    (case pa5 => k_is)
    (case pl5 => k_is)
    (case pc5 => k_is)
    (case pk5 => k_is)
    (case pa6 => k_is)
    (case pl6 => k_is)
    (case pc6 => k_is)
    (case pk6 => k_is)
    (case pa7 => k_is)
    (case pl7 => k_is)
    (case pc7 => k_is)
    (case pk7 => k_is)
    (case pa8 => k_is)
    (case pl8 => k_is)
    (case pc8 => k_is)
    (case pk8 => k_is)
    (case pa9 => k_is)
    (case pl9 => k_is)
    (case pc9 => k_is)
    (case pk9 => k_is)
    (case pa10 => k_is)
    (case pl10 => k_is)
    (case pc10 => k_is)
    (case pk10 => k_is)
    (case pa11 => k_is)
    (case pl11 => k_is)
    (case pc11 => k_is)
    (case pk11 => k_is)
    (case pa12 => k_is)
    (case pl12 => k_is)
    (case pc12 => k_is)
    (case pk12 => k_is)
    (case pa13 => k_is)
    (case pl13 => k_is)
    (case pc13 => k_is)
    (case pk13 => k_is)
    (case pa14 => k_is)
    (case pl14 => k_is)
    (case pc14 => k_is)
    (case pk14 => k_is)
    (case pa15 => k_is)
    (case pl15 => k_is)
    (case pc15 => k_is)
    (case pk15 => k_is)
    (case pa16 => k_is)
    (case pl16 => k_is)
    (case pc16 => k_is)
    (case pk16 => k_is)
    (case pa17 => k_is)
    (case pl17 => k_is)
    (case pc17 => k_is)
    (case pk17 => k_is)
    (case pa18 => k_is)
    (case pl18 => k_is)
    (case pc18 => k_is)
    (case pk18 => k_is)
    (case pa19 => k_is)
    (case pl19 => k_is)
    (case pc19 => k_is)
    (case pk19 => k_is)
    (case pa20 => k_is)
    (case pl20 => k_is)
    (case pc20 => k_is)
    (case pk20 => k_is)
    (case pa21 => k_is)
    (case pl21 => k_is)
    (case pc21 => k_is)
    (case pk21 => k_is)
    (case pa22 => k_is)
    (case pl22 => k_is)
    (case pc22 => k_is)
    (case pk22 => k_is)
    (case pa23 => k_is)
    (case pl23 => k_is)
    (case pc23 => k_is)
    (case pk23 => k_is)
    (case pa24 => k_is)
    (case pl24 => k_is)
    (case pc24 => k_is)
    (case pk24 => k_is)
    (case pa25 => k_is)
    (case pl25 => k_is)
    (case pc25 => k_is)
    (case pk25 => k_is)
    (case pa26 => k_is)
    (case pl26 => k_is)
    (case pc26 => k_is)
    (case pk26 => k_is)
    (case pa27 => k_is)
    (case pl27 => k_is)
    (case pc27 => k_is)
    (case pk27 => k_is)
    (case pa28 => k_is)
    (case pl28 => k_is)
    (case pc28 => k_is)
    (case pk28 => k_is)
    (case pa29 => k_is)
    (case pl29 => k_is)
    (case pc29 => k_is)
    (case pk29 => k_is)
    (case pa30 => k_is)
    (case pl30 => k_is)
    (case pc30 => k_is)
    (case pk30 => k_is)
    (case pa31 => k_is)
    (case pl31 => k_is)
    (case pc31 => k_is)
    (case pk31 => k_is)
    (case pa32 => k_is)
    (case pl32 => k_is)
    (case pc32 => k_is)
    (case pk32 => k_is)
    (case pcg_Entry => k_is)
    (case ppg_Entry => k_is)
    (case phd_Entry => k_is)
    (case ppo_Entry => k_is)
    (case psa_Entry => k_is)
    (case pmk_Entry => k_is)
    (case pin_Entry => k_is)
    (case pfn_Entry => k_is)
    (case pkc_Entry => k_is)
    (case pkf_Entry => k_is)
    (case plf_Entry => k_is)
    (case pcf_Entry => k_is)
    (case plt_Entry => k_is)
    (case pdt_Entry => exact rfl)
    (case pna_Entry_number => k_is)
    (case pna_Entry_day => k_is)
    (case pna_Entry_rank => k_is)
    (case pna_Entry_word => k_is)
    (case pna_Entry_under => k_is)
    (case pna_Entry_sheet => k_is)
    (case pna_Entry_base => k_is)
    (case pna_Entry_described => k_is)
    (case pcg_MOST_LETTERS => k_is)
    (case pcr_MOST_LETTERS => first | exact L2.rel_int | exact L2.rel_str | exact rfl)
    (case pcg_LAST_DAY => k_is)
    (case pcr_LAST_DAY => first | exact L2.rel_int | exact L2.rel_str | exact rfl)
    (case pcg_LAST_NUMBER => k_is)
    (case pcr_LAST_NUMBER => first | exact L2.rel_int | exact L2.rel_str | exact rfl)
    (case pcg_FORM_DEPTH => k_is)
    (case pcr_FORM_DEPTH => first | exact L2.rel_int | exact L2.rel_str | exact rfl)
    (case pcg_RANKS => k_is)
    (case pcl_RANKS => k_is)
    (case pcc_RANKS => exact rfl)
    (case pcd_RANKS => exact rfl)
    (case pcv_RANKS => exact (.cons ⟨_, rfl⟩ (.cons ⟨_, rfl⟩ (.cons ⟨_, rfl⟩ .nil))))
    (case pcg_DEEDS => k_is)
    (case pcl_DEEDS => k_is)
    (case pcc_DEEDS => exact rfl)
    (case pcd_DEEDS => exact rfl)
    (case pcv_DEEDS => exact (.cons ⟨_, rfl⟩ (.cons ⟨_, rfl⟩ (.cons ⟨_, rfl⟩ .nil))))
    (case pcg_SHAPES => k_is)
    (case pcl_SHAPES => k_is)
    (case pcv_SHAPES => exact (.cons ⟨rfl, ⟨_, rfl⟩, rfl⟩ (.cons ⟨rfl, ⟨_, rfl⟩, rfl⟩ (.cons ⟨rfl, ⟨_, rfl⟩, rfl⟩ (.cons ⟨rfl, ⟨_, rfl⟩, rfl⟩ (.cons ⟨rfl, ⟨_, rfl⟩, rfl⟩ (.cons ⟨rfl, ⟨_, rfl⟩, rfl⟩ (.cons ⟨rfl, ⟨_, rfl⟩, rfl⟩ .nil))))))))
    (case pcl_SHAPES_0 => k_is)
    (case pcc_SHAPES_0 => exact rfl)
    (case pcd_SHAPES_0 => exact rfl)
    (case pcv_SHAPES_0 => exact (.cons ⟨_, rfl⟩ (.cons ⟨_, rfl⟩ (.cons ⟨_, rfl⟩ .nil))))
    (case pcl_SHAPES_1 => k_is)
    (case pcc_SHAPES_1 => exact rfl)
    (case pcd_SHAPES_1 => exact rfl)
    (case pcv_SHAPES_1 => exact (.cons ⟨_, rfl⟩ (.cons ⟨_, rfl⟩ .nil)))
    (case pcl_SHAPES_2 => k_is)
    (case pcc_SHAPES_2 => exact rfl)
    (case pcd_SHAPES_2 => exact rfl)
    (case pcv_SHAPES_2 => exact (.cons ⟨_, rfl⟩ .nil))
    (case pcl_SHAPES_3 => k_is)
    (case pcc_SHAPES_3 => exact rfl)
    (case pcd_SHAPES_3 => exact rfl)
    (case pcv_SHAPES_3 => exact (.cons ⟨_, rfl⟩ (.cons ⟨_, rfl⟩ .nil)))
    (case pcl_SHAPES_4 => k_is)
    (case pcc_SHAPES_4 => exact rfl)
    (case pcd_SHAPES_4 => exact rfl)
    (case pcv_SHAPES_4 => exact (.cons ⟨_, rfl⟩ (.cons ⟨_, rfl⟩ .nil)))
    (case pcl_SHAPES_5 => k_is)
    (case pcc_SHAPES_5 => exact rfl)
    (case pcd_SHAPES_5 => exact rfl)
    (case pcv_SHAPES_5 => exact .nil)
    (case pcl_SHAPES_6 => k_is)
    (case pcc_SHAPES_6 => exact rfl)
    (case pcd_SHAPES_6 => exact rfl)
    (case pcv_SHAPES_6 => exact (.cons ⟨_, rfl⟩ .nil))
    (case pcs_SHAPES => exact rfl)
    (case pcg_NoNumber => k_is)
    (case pcg_NoDay => k_is)
    (case pcg_NoRank => k_is)
    (case pcg_NoWord => k_is)
    (case pcg_NoRow => k_is)
    (case pcg_NoEntry => k_is)
    (case pcg_RightError => k_is)
    (case pcg_NoText => k_is)
    (case pcg_NoSheet => k_is)
    (case pcg_NoPath => k_is)
    (case pcg_NoAct => k_is)
    (case pxl_NoNumber => k_is)
    (case pxn_NoNumber => k_is)
    (case pxs_NoNumber => kernel_rfl)
    (case pxi_NoNumber => kernel_rfl)
    (case pxa_NoNumber => k_is)
    (case pxb_NoNumber => k_is)
    (case pxt_NoNumber => kernel_rfl)
    (case pxj_NoNumber => kernel_rfl)
    (case pqcs_NoNumber => kernel_rfl)
    (case pqga_NoNumber => k_is)
    (case pqgt_NoNumber => k_is)
    (case pqca_NoNumber => k_is)
    (case pqgg_NoNumber => k_is)
    (case pqtk_NoNumber => k_is)
    (case pqmo_NoNumber => k_is)
    (case pqsb_NoNumber => k_is)
    (case pi_NoNumber_NoText => kernel_rfl)
    (case pi_NoNumber_NoEntry => kernel_rfl)
    (case pi_NoNumber_NoSheet => kernel_rfl)
    (case pi_NoNumber_NoRow => kernel_rfl)
    (case pi_NoNumber_ValueError => kernel_rfl)
    (case pi_NoNumber_NoPath => kernel_rfl)
    (case pi_NoNumber_NoAct => kernel_rfl)
    (case pe_NoNumber_RightError => kernel_rfl)
    (case pxl_NoDay => k_is)
    (case pxn_NoDay => k_is)
    (case pxs_NoDay => kernel_rfl)
    (case pxi_NoDay => kernel_rfl)
    (case pxa_NoDay => k_is)
    (case pxb_NoDay => k_is)
    (case pxt_NoDay => kernel_rfl)
    (case pxj_NoDay => kernel_rfl)
    (case pqcs_NoDay => kernel_rfl)
    (case pqga_NoDay => k_is)
    (case pqgt_NoDay => k_is)
    (case pqca_NoDay => k_is)
    (case pqgg_NoDay => k_is)
    (case pqtk_NoDay => k_is)
    (case pqmo_NoDay => k_is)
    (case pqsb_NoDay => k_is)
    (case pi_NoDay_NoText => kernel_rfl)
    (case pi_NoDay_NoEntry => kernel_rfl)
    (case pi_NoDay_NoSheet => kernel_rfl)
    (case pi_NoDay_NoRow => kernel_rfl)
    (case pi_NoDay_ValueError => kernel_rfl)
    (case pi_NoDay_NoPath => kernel_rfl)
    (case pi_NoDay_NoAct => kernel_rfl)
    (case pe_NoDay_RightError => kernel_rfl)
    (case pxl_NoRank => k_is)
    (case pxn_NoRank => k_is)
    (case pxs_NoRank => kernel_rfl)
    (case pxi_NoRank => kernel_rfl)
    (case pxa_NoRank => k_is)
    (case pxb_NoRank => k_is)
    (case pxt_NoRank => kernel_rfl)
    (case pxj_NoRank => kernel_rfl)
    (case pqcs_NoRank => kernel_rfl)
    (case pqga_NoRank => k_is)
    (case pqgt_NoRank => k_is)
    (case pqca_NoRank => k_is)
    (case pqgg_NoRank => k_is)
    (case pqtk_NoRank => k_is)
    (case pqmo_NoRank => k_is)
    (case pqsb_NoRank => k_is)
    (case pi_NoRank_NoText => kernel_rfl)
    (case pi_NoRank_NoEntry => kernel_rfl)
    (case pi_NoRank_NoSheet => kernel_rfl)
    (case pi_NoRank_NoRow => kernel_rfl)
    (case pi_NoRank_ValueError => kernel_rfl)
    (case pi_NoRank_NoPath => kernel_rfl)
    (case pi_NoRank_NoAct => kernel_rfl)
    (case pe_NoRank_RightError => kernel_rfl)
    (case pxl_NoWord => k_is)
    (case pxn_NoWord => k_is)
    (case pxs_NoWord => kernel_rfl)
    (case pxi_NoWord => kernel_rfl)
    (case pxa_NoWord => k_is)
    (case pxb_NoWord => k_is)
    (case pxt_NoWord => kernel_rfl)
    (case pxj_NoWord => kernel_rfl)
    (case pqcs_NoWord => kernel_rfl)
    (case pqga_NoWord => k_is)
    (case pqgt_NoWord => k_is)
    (case pqca_NoWord => k_is)
    (case pqgg_NoWord => k_is)
    (case pqtk_NoWord => k_is)
    (case pqmo_NoWord => k_is)
    (case pqsb_NoWord => k_is)
    (case pi_NoWord_NoText => kernel_rfl)
    (case pi_NoWord_NoEntry => kernel_rfl)
    (case pi_NoWord_NoSheet => kernel_rfl)
    (case pi_NoWord_NoRow => kernel_rfl)
    (case pi_NoWord_ValueError => kernel_rfl)
    (case pi_NoWord_NoPath => kernel_rfl)
    (case pi_NoWord_NoAct => kernel_rfl)
    (case pe_NoWord_RightError => kernel_rfl)
    (case pxl_NoRow => k_is)
    (case pxn_NoRow => k_is)
    (case pxs_NoRow => kernel_rfl)
    (case pxi_NoRow => kernel_rfl)
    (case pxa_NoRow => k_is)
    (case pxb_NoRow => k_is)
    (case pxt_NoRow => kernel_rfl)
    (case pxj_NoRow => kernel_rfl)
    (case pqcs_NoRow => kernel_rfl)
    (case pqga_NoRow => k_is)
    (case pqgt_NoRow => k_is)
    (case pqca_NoRow => k_is)
    (case pqgg_NoRow => k_is)
    (case pqtk_NoRow => k_is)
    (case pqmo_NoRow => k_is)
    (case pqsb_NoRow => k_is)
    (case pi_NoRow_NoText => kernel_rfl)
    (case pi_NoRow_NoEntry => kernel_rfl)
    (case pi_NoRow_NoSheet => kernel_rfl)
    (case pi_NoRow_NoRow => kernel_rfl)
    (case pi_NoRow_ValueError => kernel_rfl)
    (case pi_NoRow_NoPath => kernel_rfl)
    (case pi_NoRow_NoAct => kernel_rfl)
    (case pe_NoRow_RightError => kernel_rfl)
    (case pxl_NoEntry => k_is)
    (case pxn_NoEntry => k_is)
    (case pxs_NoEntry => kernel_rfl)
    (case pxi_NoEntry => kernel_rfl)
    (case pxa_NoEntry => k_is)
    (case pxb_NoEntry => k_is)
    (case pxt_NoEntry => kernel_rfl)
    (case pxj_NoEntry => kernel_rfl)
    (case pqcs_NoEntry => kernel_rfl)
    (case pqga_NoEntry => k_is)
    (case pqgt_NoEntry => k_is)
    (case pqca_NoEntry => k_is)
    (case pqgg_NoEntry => k_is)
    (case pqtk_NoEntry => k_is)
    (case pqmo_NoEntry => k_is)
    (case pqsb_NoEntry => k_is)
    (case pi_NoEntry_NoText => kernel_rfl)
    (case pi_NoEntry_NoEntry => kernel_rfl)
    (case pi_NoEntry_NoSheet => kernel_rfl)
    (case pi_NoEntry_NoRow => kernel_rfl)
    (case pi_NoEntry_ValueError => kernel_rfl)
    (case pi_NoEntry_NoPath => kernel_rfl)
    (case pi_NoEntry_NoAct => kernel_rfl)
    (case pe_NoEntry_RightError => kernel_rfl)
    (case pwc_Entry => k_is)
    (case pwg_Entry => k_is)
    (case pwt_Entry => k_is)
    (case pwm_Entry => k_is)
    (case pws_Entry => kernel_rfl)
    (case pwn_Entry_NoneType => kernel_rfl)
    (case pwn_Entry_int => kernel_rfl)
    (case pwn_Entry_str => kernel_rfl)
    (case pwn_Entry_bool => kernel_rfl)
    (case pwn_Entry_list => kernel_rfl)
    (case pwn_Entry_tuple => kernel_rfl)
    (case pwn_Entry_dict => kernel_rfl)
    (case pz_len => k_is)
    (case pz_isinstance => k_is)
    (case pz_str => k_is)
    (case pz_bool => k_is)
    (case pz_all => k_is)
    (case pz_any => k_is)
    (case pz_range => k_is)
    (case pz_int => k_is)
    (case pz_ValueError => k_is)
    (case pz_list => k_is)
    (case pz_tuple => k_is)
    (case pz_enumerate => k_is)
    (case pz_zip => k_is)
  case S => exact fun K H a ns hl hO hS => ⟨a, ns, rfl, hS, hl, fun _ => rfl⟩
  case C => exact fun _ _ _ _ z => z
#print axioms PySem.Challenge.cw_rightname_k91_rows_of_a_desk_holds
