import PyProof.Rows.All
import Wide.All
import OpenK.AllK
import Wide.FinOn
import Lean
import PyProof.EqAt
import PyProof.EqKinds
import PyProof.TupleCall
import PySem.Challenge.RW_rightname_k47_whole_lays_and_takes
set_option Elab.async false
set_option linter.all false
set_option maxRecDepth 100000
namespace L2
open PySem PySem.Spec PyProof.Rows
abbrev Key := Sum Int Str
def keyIs : Key → Value → Bool
  | .inl k, v => Value.isInt k v
  | .inr x, v => Value.isStrOf x v
def keyH (w : World) : Key → Int
  | .inl k => hashInt k
  | .inr x => hashStr w x
theorem keyIs_shape : ∀ {k : Key} {v : Value}, keyIs k v = true → (∃ i t, k = Sum.inl i ∧ v = Value.int i t) ∨ (∃ x t, k = Sum.inr x ∧ v = Value.str x t)
  | .inl i, v, h => by
    obtain ⟨t, e⟩ := Value.isInt_shape (k := i) (v := v) h
    exact .inl ⟨i, t, rfl, e⟩
  | .inr x, v, h => by
    obtain ⟨t, e⟩ := Value.isStrOf_shape (x := x) (v := v) h
    exact .inr ⟨x, t, rfl, e⟩
theorem keyIs_int (i : Int) (t : Tok) : keyIs (.inl i) (.int i t) = true := by simp [keyIs, Value.isInt]
theorem keyIs_str (x : Str) (t : Tok) : keyIs (.inr x) (.str x t) = true := by simp [keyIs, Value.isStrOf]
theorem key_ll (a b : Int) : decide ((Sum.inl a : Key) = Sum.inl b) = (a == b) := by
  by_cases e : a = b
  · subst e; simp
  · have h : ¬ (Sum.inl a : Key) = Sum.inl b := fun q => e (Sum.inl.inj q)
    rw [decide_eq_false h]
    exact (beq_eq_false_iff_ne.mpr e).symm
theorem key_rr (a b : Str) : decide ((Sum.inr a : Key) = Sum.inr b) = decide (a = b) := by
  by_cases e : a = b
  · subst e; simp
  · have h : ¬ (Sum.inr a : Key) = Sum.inr b := fun q => e (Sum.inr.inj q)
    rw [decide_eq_false h, decide_eq_false e]
theorem key_lr (a : Int) (b : Str) : decide ((Sum.inl a : Key) = Sum.inr b) = false := decide_eq_false (fun q => nomatch q)
theorem key_rl (a : Str) (b : Int) : decide ((Sum.inr a : Key) = Sum.inl b) = false := decide_eq_false (fun q => nomatch q)
def mixKind (prog : Program) (w : World) : PySem.KeyKind prog w Key where
  is := keyIs
  hash := keyH w
  inj := fun v a b ha hb => by
    rcases keyIs_shape ha with ⟨i, t, rfl, rfl⟩ | ⟨x, t, rfl, rfl⟩
    · rcases keyIs_shape hb with ⟨j, u, rfl, e⟩ | ⟨y, u, rfl, e⟩
      · injection e with e1 _; rw [e1]
      · exact nomatch e
    · rcases keyIs_shape hb with ⟨j, u, rfl, e⟩ | ⟨y, u, rfl, e⟩
      · exact nomatch e
      · injection e with e1 _; rw [e1]
  byValue := fun k v h => by
    rcases keyIs_shape h with ⟨i, t, rfl, rfl⟩ | ⟨x, t, rfl, rfl⟩ <;> rfl
  pyHash := fun hv h => by
    rcases keyIs_shape hv with ⟨i, t, rfl, rfl⟩ | ⟨x, t, rfl, rfl⟩
    · exact wpAny_pyHash_int h
    · exact wpAny_pyHash_str h
  eqBool := fun hu hv h => by
    rcases keyIs_shape hu with ⟨i, t, rfl, rfl⟩ | ⟨x, t, rfl, rfl⟩
    · rcases keyIs_shape hv with ⟨j, u, rfl, rfl⟩ | ⟨y, u, rfl, rfl⟩
      · rw [key_ll] at h; exact wpAny_eqBool_int h
      · rw [key_lr] at h; exact SeqAt.EqAt.int_str i t y u _ _ _ _ h
    · rcases keyIs_shape hv with ⟨j, u, rfl, rfl⟩ | ⟨y, u, rfl, rfl⟩
      · rw [key_rl] at h; exact SeqAt.EqAt.str_int x t j u _ _ _ _ h
      · rw [key_rr] at h; exact wpAny_eqBool_str h
  «strs» := fun k x t v h => by
    rcases keyIs_shape h with ⟨i, u, rfl, e⟩ | ⟨y, u, rfl, e⟩
    · exact nomatch e
    · injection e with e1 _
      subst e1
      cases v <;> rfl
theorem mixKind_int (prog : Program) (w : World) (i : Int) (t : Tok) : (mixKind prog w).is (.inl i) (.int i t) = true := keyIs_int i t
theorem mixKind_str (prog : Program) (w : World) (x : Str) (t : Tok) : (mixKind prog w).is (.inr x) (.str x t) = true := keyIs_str x t
end L2
namespace L2
open PySem PySem.Spec PyProof.Rows
inductive V where
  | non | bl (b : Bool) | int (i : Int) | str (x : Str) | byt (b : Array UInt8) | flt (b : UInt64) | ref (a : Addr) | ty (n : String)
  deriving DecidableEq
def RelV : V → Value → Prop
  | .non, u => u = Value.none
  | .bl b, u => u = Value.bool b
  | .int i, u => ∃ t, u = Value.int i t
  | .str x, u => ∃ t, u = Value.str x t
  | .byt b, u => ∃ t, u = Value.bytes b t
  | .flt b, u => ∃ t, u = Value.float b t
  | .ref a, u => u = Value.ref a
  | .ty n, u => u = Value.type n
abbrev Vals : List V → List Value → Prop := Paired RelV
theorem Vals.length {xs : List V} {us : List Value} (r : Vals xs us) : xs.length = us.length := Paired.length r
theorem Vals.get : ∀ {xs : List V} {us : List Value} {i : Nat} {x : V}, Vals xs us → xs[i]? = some x → ∃ u, us[i]? = some u ∧ RelV x u
  | _, _, _, _, .nil, e => by simp at e
  | _, _, 0, _, .cons r _, e => by simp at e; subst e; exact ⟨_, rfl, r⟩
  | _, _, i + 1, x, .cons _ t, e => by
    obtain ⟨u, h1, h2⟩ := Vals.get (i := i) (x := x) t (by simpa using e)
    exact ⟨u, by simpa using h1, h2⟩
theorem Vals.set {x : V} {u : Value} (r : RelV x u) : ∀ {xs : List V} {us : List Value} (i : Nat), Vals xs us → Vals (xs.set i x) (us.set i u)
  | _, _, _, .nil => .nil
  | _, _, 0, .cons _ t => .cons r t
  | _, _, i + 1, .cons q t => .cons q (Vals.set r i t)
theorem Vals.append : ∀ {xs ys : List V} {us ws : List Value}, Vals xs us → Vals ys ws → Vals (xs ++ ys) (us ++ ws)
  | _, _, _, _, .nil, s => s
  | _, _, _, _, .cons r t, s => .cons r (Vals.append t s)
theorem Vals.take : ∀ {xs : List V} {us : List Value} (n : Nat), Vals xs us → Vals (xs.take n) (us.take n)
  | _, _, 0, _ => .nil
  | _, _, _ + 1, .nil => .nil
  | _, _, n + 1, .cons r t => .cons r (Vals.take n t)
theorem Vals.drop : ∀ {xs : List V} {us : List Value} (n : Nat), Vals xs us → Vals (xs.drop n) (us.drop n)
  | _, _, 0, r => r
  | _, _, _ + 1, .nil => .nil
  | _, _, n + 1, .cons _ t => Vals.drop n t
def RelO : Option V → Option Value → Prop
  | some v, some u => RelV v u
  | none, none => True
  | _, _ => False
def KV {κ : Type} : List (κ × V) → List (κ × Value) → Prop := Paired fun (p : κ × V) (q : κ × Value) => p.1 = q.1 ∧ RelV p.2 q.2
def kV : Key → V
  | .inl i => .int i
  | .inr x => .str x
inductive HO where
    | lst (xs : List V)
    | tup (xs : List V)
    | dK (kvs : List (Key × V)) | dT (kvs : List (List Key × V))
    | set (S : Int → Bool) (n : Nat)
    | ins (C dx : Addr) (fs : List (Str × V))
    | own (x : Addr)
    | xd (fs : List (Str × V))
    | met (f x : Addr)
    | rng (lo hi : Int)
    | frz (o : Obj) (u : HO)
    | tbl (ps : Array Value)
    | ext (φ : Heap → Prop)
abbrev Hp := Addr → Option HO
def upd (H : Hp) (a : Addr) (o : HO) : Hp := fun b => if b = a then some o else H b
theorem upd_same {H : Hp} {a : Addr} {o : HO} : upd H a o a = some o := by unfold upd; rw [if_pos rfl]
theorem upd_ne {H : Hp} {a b : Addr} {o : HO} (h : b ≠ a) : upd H a o b = H b := by unfold upd; rw [if_neg h]
theorem upd_upd {H : Hp} {a : Addr} {o u : HO} : upd (upd H a o) a u = upd H a u := by
  funext b; unfold upd; split <;> rfl
theorem ne_of {H : Hp} {a b : Addr} {o u : HO} (h : H a = some o) (h' : H b = some u) (d : o ≠ u) : a ≠ b := by
  intro e; subst e; rw [h] at h'; exact d (Option.some.inj h')
theorem ne_of_none {H : Hp} {a b : Addr} {o : HO} (h : H a = some o) (h' : H b = none) : a ≠ b := by
  intro e; subst e; rw [h] at h'; cases h'
section
variable (P : Program) (w : World)
def ObjOk (H : Hp) (h : Heap) (a : Addr) : HO → Prop
  | .lst xs => xs.length ≤ sizeLine ∧ ∃ (its : List Value) (n : Nat), Vals xs its ∧ h.get? a = some { cls := .type "list", data := .seq its.toArray n }
  | .tup xs => xs.length ≤ sizeLine ∧ ∃ its : List Value, Vals xs its ∧ IsTup h a its.toArray
  | .dK kvs => kvs.length ≤ sizeLine ∧ (a == sysModules) = false ∧ ∃ vs, KV kvs vs ∧ h.DictOf (mixKind P w) a vs
  | .dT kvs => kvs.length ≤ sizeLine ∧ (a == sysModules) = false ∧ ∃ xs : List (List Key × Addr × Value),
      Paired (fun (p : List Key × V) (q : List Key × Addr × Value) => p.1 = q.1 ∧ H q.2.1 = some (.tup (p.1.map kV)) ∧ RelV p.2 q.2.2) kvs xs ∧
      ∃ o es ep, h.get? a = some o ∧ o.ExactDict ∧ o.data = .dict es ep ∧ es.toList = xs.map (entryOfKey (tupleKind (mixKind P w))) ∧ (xs.map (·.1)).Nodup
  | .set S n => h.SetOf (intKind P w) a S n
  | .ins C dx fs => H dx = some (.own a) ∧ fs.length ≤ 1000 ∧ dx ≠ a ∧ h.get? a = some (PySem.W.instObj C dx) ∧
      ∃ mA, h.Ns1 dx mA ∧ (∀ f, RelO (fs.lookup f) (mA f)) ∧ PySem.Within mA (fs.map (·.1))
  | .own _ => ∃ o, h.get? a = some o
  | .xd fs => ∃ mA, h.Ns1 a mA ∧ ∀ f, RelO (fs.lookup f) (mA f)
  | .rng lo hi => ∃ t u v, h.get? a = some { cls := .type "range", data := .fields #[.int lo t, .int hi u, .int 1 v] }
  | .frz o u => h.get? a = some o ∧ ObjOk H h a u
  | .tbl ps => h.get? a = some { cls := .none, data := .fields ps }
  | .met f x => h.get? a = some (PySem.W.methodObj (.ref f) (.ref x))
  | .ext φ => φ h ∧ (∃ o, h.get? a = some o) ∧ ∀ h1 h2 : Heap, φ h1 → (∀ o, h1.get? a = some o → h2.get? a = some o) → φ h2
def HOk (H : Hp) (h : Heap) : Prop := ∀ a o, H a = some o → ObjOk P w H h a o
end
section
variable {P : Program} {w : World} {H H' : Hp} {h h' : Heap} {a : Addr} {o : HO}
theorem ObjOk.lt (x : ObjOk P w H h a o) : a < h.objs.size := by
  cases o with
  | lst xs => obtain ⟨_, _, _, _, e⟩ := x; exact Heap.lt_size e
  | tup xs => obtain ⟨_, _, _, p⟩ := x; exact p.lt
  | dK kvs => obtain ⟨_, _, _, _, o, _, _, e, _⟩ := x; exact Heap.lt_size e
  | dT kvs => obtain ⟨_, _, _, _, o, _, _, e, _⟩ := x; exact Heap.lt_size e
  | set S n => obtain ⟨o, _, _, _, e, _⟩ := x; exact Heap.lt_size e
  | ins C dx fs => obtain ⟨_, _, _, e, _⟩ := x; exact Heap.lt_size e
  | own y => obtain ⟨_, e⟩ := x; exact Heap.lt_size e
  | xd fs => obtain ⟨_, ⟨_, _, _, e, _⟩, _⟩ := x; exact Heap.lt_size e
  | rng lo hi => obtain ⟨_, _, _, e⟩ := x; exact Heap.lt_size e
  | frz ob u => obtain ⟨e, _⟩ := x; exact Heap.lt_size e
  | tbl ps => exact Heap.lt_size (show h.get? a = some _ from x)
  | met f y => exact Heap.lt_size (show h.get? a = some _ from x)
  | ext φ => obtain ⟨_, ⟨_, e⟩, _⟩ := x; exact Heap.lt_size e
theorem Paired.mapP {α β : Type} {F G : α → β → Prop} : ∀ {l₁ : List α} {l₂ : List β}, Paired F l₁ l₂ → (∀ a b, F a b → G a b) → Paired G l₁ l₂
  | _, _, .nil, _ => .nil
  | _, _, .cons r t, f => .cons (f _ _ r) (Paired.mapP t f)
theorem ObjOk.stay (x : ObjOk P w H h a o) (k : ∀ b u, (b = a ∨ H b = some (.own a)) → h.get? b = some u → h'.get? b = some u)
    (ho : ∀ b, H b = some (.own a) → H' b = some (.own a)) (ht : ∀ b xs, H b = some (.tup xs) → H' b = some (.tup xs)) : ObjOk P w H' h' a o := by
  induction o with
  | lst xs => obtain ⟨z, its, n, r, e⟩ := x; exact ⟨z, its, n, r, k _ _ (.inl rfl) e⟩
  | tup xs => obtain ⟨z, its, r, ob, e, c⟩ := x; exact ⟨z, its, r, ob, k _ _ (.inl rfl) e, c⟩
  | dK kvs => obtain ⟨z, y, vs, r, ob, es, ep, e, c⟩ := x; exact ⟨z, y, vs, r, ob, es, ep, k _ _ (.inl rfl) e, c⟩
  | dT kvs =>
    obtain ⟨z, y, xs, r, ob, es, ep, e, c⟩ := x
    exact ⟨z, y, xs, Paired.mapP r fun p q z => ⟨z.1, ht _ _ z.2.1, z.2.2⟩, ob, es, ep, k _ _ (.inl rfl) e, c⟩
  | set S n => obtain ⟨ob, es, ep, t, e, c⟩ := x; exact ⟨ob, es, ep, t, k _ _ (.inl rfl) e, c⟩
  | ins C dx fs =>
    obtain ⟨d, z, ne, e, mA, ⟨od, es, ep, e2, c⟩, r⟩ := x
    exact ⟨ho _ d, z, ne, k _ _ (.inl rfl) e, mA, ⟨od, es, ep, k _ _ (.inr d) e2, c⟩, r⟩
  | own y => obtain ⟨ob, e⟩ := x; exact ⟨ob, k _ _ (.inl rfl) e⟩
  | xd fs => obtain ⟨mA, ⟨od, es, ep, e, c⟩, r⟩ := x; exact ⟨mA, ⟨od, es, ep, k _ _ (.inl rfl) e, c⟩, r⟩
  | rng lo hi => obtain ⟨t, u, v, e⟩ := x; exact ⟨t, u, v, k _ _ (.inl rfl) e⟩
  | frz ob u ih => obtain ⟨e, q⟩ := x; exact ⟨k _ _ (.inl rfl) e, ih q⟩
  | tbl ps =>
    have e : h.get? a = some { cls := .none, data := .fields ps } := x
    show h'.get? a = some { cls := .none, data := .fields ps }
    exact k a _ (.inl rfl) e
  | met f y =>
    have e : h.get? a = some (PySem.W.methodObj (.ref f) (.ref y)) := x
    show h'.get? a = some (PySem.W.methodObj (.ref f) (.ref y))
    exact k a _ (.inl rfl) e
  | ext φ => obtain ⟨p, ⟨o, e⟩, st⟩ := x; exact ⟨st _ _ p fun o q => k _ _ (.inl rfl) q, ⟨o, k _ _ (.inl rfl) e⟩, st⟩
theorem HOk.lt (x : HOk P w H h) (e : H a = some o) : a < h.objs.size := (x a o e).lt
theorem HOk.fresh (x : HOk P w H h) (e : h.objs.size ≤ a) : H a = none := by
  cases q : H a with
  | none => rfl
  | some u => exact absurd (Nat.lt_of_lt_of_le (x.lt q) e) (Nat.lt_irrefl _)
theorem HOk.kept (x : HOk P w H h) (k : ∀ b u, h.get? b = some u → h'.get? b = some u) : HOk P w H h' := fun a o e =>
  (x a o e).stay (fun b u _ q => k b u q) (fun _ q => q) fun _ _ q => q
theorem HOk.laid (x : HOk P w H h) (k : ∀ b u, h.get? b = some u → h'.get? b = some u) (hp : h.objs.size ≤ a) (new : ObjOk P w (upd H a o) h' a o) : HOk P w (upd H a o) h' := fun b u e => by
  have hn := x.fresh hp
  by_cases hb : b = a
  · subst hb; rw [upd_same] at e; cases e; exact new
  · rw [upd_ne hb] at e
    exact (x b u e).stay (fun c v _ q => k c v q) (fun c q => by rw [upd_ne (ne_of_none q hn)]; exact q) fun c xs q => by rw [upd_ne (ne_of_none q hn)]; exact q
end
def Rd (H : Hp) (a : Addr) (u : HO) : Prop := H a = some u ∨ ∃ o, H a = some (.frz o u)
theorem Rd.of {H : Hp} {a : Addr} {u : HO} (h : H a = some u) : Rd H a u := .inl h
theorem Rd.ok {P : Program} {w : World} {H : Hp} {h : Heap} {a : Addr} {u : HO} (r : Rd H a u) (x : HOk P w H h) : ObjOk P w H h a u := by
  rcases r with r | ⟨o, r⟩
  · exact x a u r
  · obtain ⟨_, q⟩ := x a _ r
    exact q
def Mut : Option HO → Prop
  | some (.lst _) => True
  | some (.dK _) => True
  | some (.dT _) => True
  | some (.set _ _) => True
  | some (.ins _ _ _) => True
  | some (.ext _) => True
  | _ => False
section
variable {P : Program} {w : World} {H : Hp} {h h' : Heap} {x e : Addr} {o' : HO}
theorem HOk.write (ok : HOk P w H h) (mu : Mut (H x)) (he : e = x ∨ H e = some (.own x)) (k : ∀ b u, b ≠ e → h.get? b = some u → h'.get? b = some u) (heo : ∃ u, h'.get? e = some u)
    (new : ObjOk P w (upd H x o') h' x o') : HOk P w (upd H x o') h' := fun b u q => by
  have nown : ∀ c y, H c = some (.own y) → c ≠ x := fun c y r z => by subst z; rw [r] at mu; exact mu
  have ntup : ∀ c xs, H c = some (.tup xs) → c ≠ x := fun c xs r z => by subst z; rw [r] at mu; exact mu
  by_cases hb : b = x
  · subst hb; rw [upd_same] at q; cases q; exact new
  · rw [upd_ne hb] at q
    by_cases hbe : b = e
    · have q' : H b = some (.own x) := by
        rcases he with z | z
        · exact absurd (hbe.trans z) hb
        · rw [hbe]; exact z
      rw [q] at q'; cases q'
      obtain ⟨v, hv⟩ := heo
      exact ⟨v, by rw [hbe]; exact hv⟩
    · refine (ok b u q).stay (fun c v hc r => k c v ?_ r) (fun c r => by rw [upd_ne (nown c b r)]; exact r) fun c xs r => by rw [upd_ne (ntup c xs r)]; exact r
      rcases hc with rfl | hc
      · exact hbe
      · rintro rfl
        rcases he with z | z
        · exact nown c b hc z
        · rw [hc] at z; cases z; exact hb rfl
end
structure Un (fs ex : List Addr) (H H' : Hp) (h h' : Heap) : Prop where
  keep : ∀ b o, h.get? b = some o → H b = none → b ∉ fs → b ∉ ex → h'.get? b = some o
  slot : ∀ b o, h.get? b = some o → H b = none → b ∈ fs → b ∉ ex → ∃ sl, h'.get? b = some { o with slots := sl }
  free : ∀ b o, h.get? b = some o → H b = none → b ∉ ex → H' b = none
  there : ∀ b o, h.get? b = some o → b ∉ ex → ∃ o', h'.get? b = some o'
  tups : ∀ b xs, H b = some (.tup xs) → H' b = some (.tup xs)
  frzs : ∀ b o u, H b = some (.frz o u) → H' b = some (.frz o u)
  tbls : ∀ b ps, H b = some (.tbl ps) → ∃ more, H' b = some (.tbl (ps ++ more))
section
variable {fs fs' ex ex' : List Addr} {H H1 H2 : Hp} {h h1 h2 h' : Heap} {a x e : Addr} {o : HO}
theorem Un.any (u : Un fs ex H H1 h h1) {b : Addr} {ob : Obj} (q : h.get? b = some ob) (n : H b = none) (hx : b ∉ ex) : ∃ sl, h1.get? b = some { ob with slots := sl } := by
  by_cases hb : b ∈ fs
  · exact u.slot b ob q n hb hx
  · exact ⟨ob.slots, u.keep b ob q n hb hx⟩
theorem Un.trans (a : Un fs ex H H1 h h1) (b : Un fs ex H1 H2 h1 h2) : Un fs ex H H2 h h2 where
  keep := fun c ob q n hc hx => b.keep c ob (a.keep c ob q n hc hx) (a.free c ob q n hx) hc hx
  slot := fun c ob q n hc hx => by
    obtain ⟨sl, e1⟩ := a.slot c ob q n hc hx
    obtain ⟨sl', e2⟩ := b.slot c _ e1 (a.free c ob q n hx) hc hx
    exact ⟨sl', e2⟩
  free := fun c ob q n hx => by
    obtain ⟨o', e1⟩ := a.there c ob q hx
    exact b.free c o' e1 (a.free c ob q n hx) hx
  there := fun c ob q hx => by
    obtain ⟨o', e1⟩ := a.there c ob q hx
    exact b.there c o' e1 hx
  tups := fun c xs q => b.tups c xs (a.tups c xs q)
  frzs := fun c ob xs q => b.frzs c ob xs (a.frzs c ob xs q)
  tbls := fun c ps q => by
    obtain ⟨m1, e1⟩ := a.tbls c ps q
    obtain ⟨m2, e2⟩ := b.tbls c _ e1
    exact ⟨m1 ++ m2, by rw [e2, Array.append_assoc]⟩
theorem Un.kept (k : ∀ b u, h.get? b = some u → h'.get? b = some u) : Un fs ex H H h h' :=
  ⟨fun b ob q _ _ _ => k b ob q, fun b ob q _ _ _ => ⟨ob.slots, k b ob q⟩, fun _ _ _ n _ => n, fun b ob q _ => ⟨ob, k b ob q⟩, fun _ _ q => q, fun _ _ _ q => q, fun _ ps q => ⟨#[], by rw [q]; simp⟩⟩
theorem Un.refl : Un fs ex H H h h := Un.kept fun _ _ q => q
theorem Un.laid (k : ∀ b u, h.get? b = some u → h'.get? b = some u) (hp : h.objs.size ≤ a) (hn : H a = none) : Un fs ex H (upd H a o) h h' where
  keep := fun b u q _ _ _ => k b u q
  slot := fun b u q _ _ _ => ⟨u.slots, k b u q⟩
  free := fun b u q n _ => by rw [upd_ne (Nat.ne_of_lt (Nat.lt_of_lt_of_le (Heap.lt_size q) hp))]; exact n
  there := fun b u q _ => ⟨u, k b u q⟩
  tups := fun b xs q => by rw [upd_ne (ne_of_none q hn)]; exact q
  frzs := fun b u xs q => by rw [upd_ne (ne_of_none q hn)]; exact q
  tbls := fun b ps q => ⟨#[], by rw [upd_ne (ne_of_none q hn), q]; simp⟩
theorem Un.write (mu : Mut (H x)) (he : e = x ∨ H e = some (.own x)) (k : ∀ b u, b ≠ e → h.get? b = some u → h'.get? b = some u) (heo : ∃ u, h'.get? e = some u) : Un fs ex H (upd H x o) h h' := by
  have hx : ∀ b, H b = none → b ≠ x := fun b n z => by subst z; rw [n] at mu; exact mu
  have hb : ∀ b, H b = none → b ≠ e := fun b n z => by
    subst z
    rcases he with r | r
    · exact hx b n r
    · rw [n] at r; cases r
  have hm : ∀ b u, H b = some u → ¬ Mut (some u) → b ≠ x := fun b u q nm z => by subst z; rw [q] at mu; exact nm mu
  refine ⟨fun b u q n _ _ => k b u (hb b n) q, fun b u q n _ _ => ⟨u.slots, k b u (hb b n) q⟩, fun b u q n _ => by rw [upd_ne (hx b n)]; exact n, fun b u q _ => ?_,
    fun b xs q => by rw [upd_ne (hm b _ q fun z => z)]; exact q, fun b u xs q => by rw [upd_ne (hm b _ q fun z => z)]; exact q, fun b ps q => ⟨#[], by rw [upd_ne (hm b _ q fun z => z), q]; simp⟩⟩
  by_cases hbe : b = e
  · subst hbe; exact heo
  · exact ⟨u, k b u hbe q⟩
theorem Un.mono (u : Un fs ex H H1 h h1) (hs : ∀ b ∈ fs, b ∈ fs') (hx : ∀ b ∈ ex, b ∈ ex') : Un fs' ex' H H1 h h1 :=
  ⟨fun b ob q n hb he => u.keep b ob q n (fun z => hb (hs b z)) fun z => he (hx b z), fun _ _ q n _ he => u.any q n fun z => he (hx _ z), fun b ob q n he => u.free b ob q n fun z => he (hx b z), fun b ob q he => u.there b ob q fun z => he (hx b z), u.tups, u.frzs, u.tbls⟩
end
def trk (h : Heap) (H : Hp) : List Addr := (List.range h.objs.size).filter fun a => (H a).isSome
def hidT (h : Heap) (H : Hp) : Heap := PySem.W.hideAll h (trk h H)
theorem hidT_size (h : Heap) (H : Hp) : (hidT h H).objs.size = h.objs.size := PySem.W.hideAll_size _ _
theorem hidT_get {h : Heap} {H : Hp} {b : Addr} {o : Obj} (e : h.get? b = some o) (n : H b = none) : (hidT h H).get? b = some o :=
  PySem.W.hideAll_get _ e fun hm => by
    have q : (H b).isSome = true := (List.mem_filter.mp hm).2
    rw [n] at q; simp at q
theorem of_hidT {h : Heap} {H : Hp} {b : Addr} {o : Obj} (e : (hidT h H).get? b = some o) : h.get? b = some o ∧ H b = none := by
  have e' : h.get? b = some o := PySem.W.of_hideAll (trk h H) e
  refine ⟨e', ?_⟩
  cases q : H b with
  | none => rfl
  | some x =>
    have hm : b ∈ trk h H := List.mem_filter.mpr ⟨List.mem_range.mpr (Heap.lt_size e'), by simp [q]⟩
    have z : (hidT h H).get? b = none := PySem.W.hideAll_none (trk h H) hm
    rw [z] at e; cases e
def allNews (g h : Heap) (L : Addr) : List (Addr × Obj) := (List.range h.objs.size).filterMap fun a => if a = L ∨ (g.get? a).isSome = true then none else (h.get? a).map fun o => (a, o)
def rest (g h : Heap) (L d : Addr) : List (Addr × Obj) := (allNews g h L).filter fun p => decide (p.1 ≠ d)
end L2
namespace L2
open PySem PySem.Spec PyProof.Rows
structure Mod (K : PySem.W.Frag) (mg : Str → Option Value) (base : Heap) : Prop where
  kin : K.In base
  glob : base.Ns mainGlobals mg
  blt : ∃ mb, base.Ns builtinsNs mb ∧ ∀ x : Str, x ≠ "__name__" → mb x = bootBuiltins x
  nolimit : base.NoLimit
/- the context: a def's body (or a comprehension's block) running. base: fixed through the whole law; s₀, H₀: the entry; outer: the frames whose slots others may change (a def's callers); stack: all frames that run;
   ex: iterators that were made ahead of the entry and are walked here (a comprehension's); fn: the names whose cells were made at the entry (a def: all; a comprehension's block: its own); calm: not within an except suite; pn: pins that every state bears; xe: what is wanted of an exception that leaves the code -/
set_option genInjectivity false in
set_option genSizeOfSpec false in
set_option genSizeOf false in
structure Cx where
  prog : Program
  w : World
  K : PySem.W.Frag
  mg : Str → Option Value
  base : Heap
  A : Around
  N : List Str
  s₀ : Shared
  H₀ : Hp
  env : Env
  outer : List Env
  stack : List Env
  ex : List Addr
  fn : Str → Bool
  calm : Bool
  pn : List (Addr × Obj)
  xe : Value → Shared → Prop
def frs (l : List Env) : List Addr := l.filterMap (·.frame)
abbrev Cx.fs (X : Cx) : List Addr := frs X.outer
def Vis (sc : Scope) (x : Str) : Prop := sc.names.lookup x = some .local ∨ sc.names.lookup x = some .cell ∨ sc.names.lookup x = some .free
def Loc (sc : Scope) (x : Str) : Prop := sc.names.lookup x = some .local ∨ sc.names.lookup x = some .cell
def Look (env : Env) (h : Heap) (m : Str → Option Value) (x : Str) (u : Value) : Prop :=
  (env.kindOf x = some .local ∧ m x = some u) ∨ ((env.kindOf x = some .cell ∨ env.kindOf x = some .free) ∧ ∃ c, env.cells.lookup x = some c ∧ h.IsCell c (some u))
structure Cx.Ok (X : Cx) : Prop where
  mod : Mod X.K X.mg X.base
  kind : X.env.scope.kind = .function
  glob : X.env.globals = mainGlobals
  blt : X.env.builtins = builtinsNs
  above : X.s₀.heap.objs.size ≤ X.env.locals
  inj : ∀ x y c, X.env.cells.lookup x = some c → X.env.cells.lookup y = some c → x = y
  has : ∀ x, (X.env.kindOf x = some .cell ∨ X.env.kindOf x = some .free) → ∃ c, X.env.cells.lookup x = some c
  cab : ∀ x c, X.fn x = true → X.env.cells.lookup x = some c → X.s₀.heap.objs.size ≤ c
  hd : X.calm = true → X.A.handled = none
  frames : X.A.frames = some X.stack
  stk : X.stack = X.outer ∨ (X.stack = X.env :: X.outer ∧ X.env.frame = some X.env.locals)
  exf : ∀ b ∈ X.ex, b ≠ X.env.locals ∧ ∀ x c, X.env.cells.lookup x = some c → c ≠ b
  bs : ∀ b o, X.base.get? b = some o → X.s₀.heap.get? b = some o ∧ X.H₀ b = none
  bsz : X.base.objs.size ≤ X.s₀.heap.objs.size
  noex : ∀ b o, X.base.get? b = some o → b ∉ X.ex
  exfs : ∀ b ∈ X.ex, b ∉ X.fs
  funs : X.s₀.heap.FunFrames X.base X.outer
  frf : ∀ b ∈ X.fs, X.H₀ b = none
structure Inv (X : Cx) (pins : List (Addr × Obj)) (σ : List (Option V)) (H : Hp) (s : Shared) : Prop where
  ok : X.Ok
  os : s.os = X.s₀.os
  bare : AllBare s.gens
  base : Un X.fs X.ex X.H₀ H X.s₀.heap s.heap
  loc : ∃ m, s.heap.Ns X.env.locals m ∧ ∀ (i : Nat) (x : Str) (v : V), X.N[i]? = some x → σ[i]? = some (some v) → Vis X.env.scope x → ∃ u, RelV v u ∧ Look X.env s.heap m x u
  cell : ∀ x c, X.env.cells.lookup x = some c → ∃ v, s.heap.IsCell c v
  free : H X.env.locals = none
  freeC : ∀ x c, X.env.cells.lookup x = some c → H c = none
  pin : ∀ p ∈ X.pn ++ pins, s.heap.get? p.1 = some p.2 ∧ H p.1 = none ∧ p.1 ≠ X.env.locals ∧ p.1 ∉ X.fs ∧ ∀ v, p.2.data ≠ .cell v
  hok : HOk X.prog X.w H s.heap
  len : σ.length = X.N.length
section
variable {X : Cx} {pins : List (Addr × Obj)} {σ : List (Option V)} {H H' : Hp} {s : Shared} {h' : Heap}
theorem Cx.Ok.nofr (ok : X.Ok) {b : Addr} {o : Obj} (e : X.base.get? b = some o) : b ∉ X.fs := fun hb => by
  have := (ok.funs.mem hb).1
  rw [e] at this; cases this
theorem Inv.bs (I : Inv X pins σ H s) : ∀ b o, X.base.get? b = some o → s.heap.get? b = some o ∧ H b = none := fun b o e =>
  ⟨I.base.keep b o (I.ok.bs b o e).1 (I.ok.bs b o e).2 (I.ok.nofr e) (I.ok.noex b o e), I.base.free b o (I.ok.bs b o e).1 (I.ok.bs b o e).2 (I.ok.noex b o e)⟩
theorem Inv.bk (I : Inv X pins σ H s) : ∀ b o, X.base.get? b = some o → s.heap.get? b = some o := fun b o e => (I.bs b o e).1
theorem Inv.mod (I : Inv X pins σ H s) : Mod X.K X.mg X.base := I.ok.mod
theorem Inv.kIn (I : Inv X pins σ H s) : X.K.In s.heap := I.ok.mod.kin.keeps I.bk
theorem Inv.nolimit (I : Inv X pins σ H s) : s.heap.NoLimit := I.ok.mod.nolimit.keeps I.bk
theorem Inv.lt (I : Inv X pins σ H s) : X.env.locals < s.heap.objs.size := let ⟨_, hn, _⟩ := I.loc; hn.lt
theorem Inv.sz (I : Inv X pins σ H s) : X.s₀.heap.objs.size ≤ s.heap.objs.size := Nat.le_trans I.ok.above (Nat.le_of_lt I.lt)
theorem Inv.nofs (I : Inv X pins σ H s) {a : Addr} (h : s.heap.objs.size ≤ a) : a ∉ X.fs := fun hb => by
  obtain ⟨_, o, ho, _⟩ := I.ok.funs.mem hb
  exact absurd (Nat.lt_of_lt_of_le (Heap.lt_size ho) (Nat.le_trans I.sz h)) (Nat.lt_irrefl _)
theorem Inv.cne (I : Inv X pins σ H s) : ∀ x c, X.env.cells.lookup x = some c → c ≠ X.env.locals := fun x c e z => by
  obtain ⟨v, o, ho, hd⟩ := I.cell x c e
  obtain ⟨m, ⟨o', es, ep, ho', hd', _⟩, _⟩ := I.loc
  rw [z, ho'] at ho; cases ho; rw [hd'] at hd; cases hd
theorem Inv.funs (I : Inv X pins σ H s) : s.heap.FunFrames X.base X.outer := by
  have all : ∀ (l : List Env), (∀ b ∈ frs l, b ∈ X.fs) → X.s₀.heap.FunFrames X.base l → s.heap.FunFrames X.base l := by
    intro l
    induction l with
    | nil => intro _ _; trivial
    | cons env r ih =>
      intro hs hl
      obtain ⟨hk, ⟨L, o, hf, hn, ho, hd⟩, hr⟩ := hl
      have hL : L ∈ X.fs := hs L (by unfold frs; rw [List.filterMap_cons, hf]; exact List.mem_cons_self)
      obtain ⟨sl, e⟩ := I.base.slot L o ho (I.ok.frf L hL) hL fun z => I.ok.exfs L z hL
      exact ⟨hk, ⟨L, _, hf, hn, e, hd⟩, ih (fun b hb => hs b (by unfold frs; rw [List.filterMap_cons, hf]; exact List.mem_cons_of_mem _ hb)) hr⟩
  exact all X.outer (fun _ hb => hb) I.ok.funs
theorem Inv.stack (I : Inv X pins σ H s) : s.heap.FunFrames X.base X.stack := by
  rcases I.ok.stk with e | ⟨e, hf⟩
  · rw [e]; exact I.funs
  · rw [e]
    obtain ⟨m, hn, _⟩ := I.loc
    refine .cons (by rw [I.ok.kind]; decide) hf hn ?_ I.funs
    exact Heap.get?_none_of_le (Nat.le_trans I.ok.bsz I.ok.above)
theorem Inv.stkSub (I : Inv X pins σ H s) : ∀ b ∈ frs X.stack, b ∈ X.env.locals :: X.fs := fun b hb => by
  rcases I.ok.stk with e | ⟨e, hf⟩
  · rw [e] at hb; exact List.mem_cons_of_mem _ hb
  · rw [e] at hb
    unfold frs at hb
    rw [List.filterMap_cons, hf] at hb
    exact hb
theorem Inv.stkFree (I : Inv X pins σ H s) : ∀ b ∈ frs X.stack, H b = none := fun b hb => by
  rcases List.mem_cons.mp (I.stkSub b hb) with e | hb
  · rw [e]; exact I.free
  · obtain ⟨_, o, ho, _⟩ := I.ok.funs.mem hb
    exact I.base.free b o ho (I.ok.frf b hb) fun z => I.ok.exfs b z hb
theorem Inv.step {g' : Array GenState} {t' : Nat} {d' : Drawn} {ch : List Addr} (I : Inv X pins σ H s)
    (hch : ∀ b ∈ ch, (b ∈ X.ex ∨ X.s₀.heap.objs.size ≤ b) ∧ b ≠ X.env.locals ∧ (∀ x c, X.env.cells.lookup x = some c → c ≠ b) ∧ ∀ p ∈ X.pn ++ pins, p.1 ≠ b)
    (keep : ∀ b o, b ≠ X.env.locals → b ∉ X.fs → b ∉ ch → s.heap.get? b = some o → H b = none → h'.get? b = some o)
    (slot : ∀ b o, b ≠ X.env.locals → b ∈ X.fs → b ∉ ch → s.heap.get? b = some o → H b = none → ∃ sl, h'.get? b = some { o with slots := sl }) (free : ∀ b o, b ∉ ch → s.heap.get? b = some o → H b = none → H' b = none)
    (there : ∀ b o, b ∉ ch → s.heap.get? b = some o → ∃ o', h'.get? b = some o')
    (tups : ∀ b xs, H b = some (.tup xs) → H' b = some (.tup xs)) (frzs : ∀ b o u, H b = some (.frz o u) → H' b = some (.frz o u)) (tbls : ∀ b ps, H b = some (.tbl ps) → ∃ more, H' b = some (.tbl (ps ++ more)))
    (ns : ∀ m, s.heap.Ns X.env.locals m → h'.Ns X.env.locals m) (hok : HOk X.prog X.w H' h') (hg : AllBare g') :
    Inv X pins σ H' { s with heap := h', gens := g', drawn := d', toks := t' } := by
  have neL : ∀ b o, X.s₀.heap.get? b = some o → b ≠ X.env.locals := fun b o e => Nat.ne_of_lt (Nat.lt_of_lt_of_le (Heap.lt_size e) I.ok.above)
  have neC : ∀ b o, X.s₀.heap.get? b = some o → b ∉ X.ex → b ∉ ch := fun b o e hx hb => by
    rcases (hch b hb).1 with z | z
    · exact hx z
    · exact absurd (Nat.lt_of_lt_of_le (Heap.lt_size e) z) (Nat.lt_irrefl _)
  have cellK : ∀ x c, X.env.cells.lookup x = some c → ∀ v, s.heap.IsCell c v → h'.IsCell c v := fun x c e v ⟨o, ho, hd⟩ => by
    have nch : c ∉ ch := fun z => (hch c z).2.2.1 x c e rfl
    by_cases hc : c ∈ X.fs
    · obtain ⟨sl, q⟩ := slot c o (I.cne x c e) hc nch ho (I.freeC x c e)
      exact ⟨_, q, hd⟩
    · exact ⟨o, keep c o (I.cne x c e) hc nch ho (I.freeC x c e), hd⟩
  refine ⟨I.ok, I.os, hg, ⟨fun b o e n hb hx => ?_, fun b o e n hb hx => ?_, fun b o e n hx => ?_, fun b o e hx => ?_, fun b xs e => tups b xs (I.base.tups b xs e), fun b o xs e => frzs b o xs (I.base.frzs b o xs e), fun b ps e => ?_⟩, ?_, fun x c e => ?_, ?_, fun x c e => ?_, fun p hp => ?_, hok, I.len⟩
  · exact keep b o (neL b o e) hb (neC b o e hx) (I.base.keep b o e n hb hx) (I.base.free b o e n hx)
  · obtain ⟨sl, e1⟩ := I.base.slot b o e n hb hx
    obtain ⟨sl', e2⟩ := slot b _ (neL b o e) hb (neC b o e hx) e1 (I.base.free b o e n hx)
    exact ⟨sl', e2⟩
  · obtain ⟨o', e1⟩ := I.base.there b o e hx
    exact free b o' (neC b o e hx) e1 (I.base.free b o e n hx)
  · obtain ⟨o', e1⟩ := I.base.there b o e hx
    exact there b o' (neC b o e hx) e1
  · obtain ⟨m1, e1⟩ := I.base.tbls b ps e
    obtain ⟨m2, e2⟩ := tbls b _ e1
    exact ⟨m1 ++ m2, by rw [e2, Array.append_assoc]⟩
  · obtain ⟨m, hn, hl⟩ := I.loc
    refine ⟨m, ns m hn, fun i x v e1 e2 e3 => ?_⟩
    obtain ⟨u, r, l⟩ := hl i x v e1 e2 e3
    refine ⟨u, r, ?_⟩
    rcases l with l | ⟨k, c, e, z⟩
    · exact .inl l
    · exact .inr ⟨k, c, e, cellK x c e _ z⟩
  · obtain ⟨v, z⟩ := I.cell x c e
    exact ⟨v, cellK x c e v z⟩
  · obtain ⟨m, ⟨o, _, _, ho, _⟩, _⟩ := I.loc
    exact free _ o (fun z => (hch _ z).2.1 rfl) ho I.free
  · obtain ⟨v, o, ho, hd⟩ := I.cell x c e
    exact free c o (fun z => (hch c z).2.2.1 x c e rfl) ho (I.freeC x c e)
  · obtain ⟨e, n, ne, nf, d⟩ := I.pin p hp
    have nch : p.1 ∉ ch := fun z => (hch p.1 z).2.2.2 p hp rfl
    exact ⟨keep p.1 p.2 ne nf nch e n, free p.1 p.2 nch e n, ne, nf, d⟩
theorem Inv.un {t' : Nat} (I : Inv X pins σ H s) (u : Un X.fs [] H H' s.heap h') (hok : HOk X.prog X.w H' h') : Inv X pins σ H' { s with heap := h', toks := t' } := by
  obtain ⟨m, ⟨o, es, ep, ho, r⟩, _⟩ := id I.loc
  obtain ⟨sl, hL⟩ := u.any ho I.free (by simp)
  exact I.step (g' := s.gens) (d' := s.drawn) (ch := []) (fun _ z => nomatch z) (fun b o _ hb _ e n => u.keep b o e n hb (by simp)) (fun b o _ hb _ e n => u.slot b o e n hb (by simp)) (fun b o _ e n => u.free b o e n (by simp)) (fun b o _ e => u.there b o e (by simp)) u.tups u.frzs u.tbls (fun m' hm => by
    obtain ⟨o', es', ep', ho', r'⟩ := hm
    rw [ho] at ho'; cases ho'
    exact ⟨_, es', ep', hL, r'⟩) hok I.bare
theorem Inv.call {g' : Array GenState} {t' : Nat} {d' : Drawn} {ch : List Addr} (I : Inv X pins σ H s) (u : Un (frs X.stack) ch H H' s.heap h') (hok : HOk X.prog X.w H' h') (hg : AllBare g')
    (hch : ∀ b ∈ ch, (b ∈ X.ex ∨ X.s₀.heap.objs.size ≤ b) ∧ b ≠ X.env.locals ∧ (∀ x c, X.env.cells.lookup x = some c → c ≠ b) ∧ ∀ p ∈ X.pn ++ pins, p.1 ≠ b) :
    Inv X pins σ H' { s with heap := h', gens := g', drawn := d', toks := t' } := by
  obtain ⟨m, ⟨o, es, ep, ho, r⟩, _⟩ := id I.loc
  obtain ⟨sl, hL⟩ := u.any ho I.free fun z => (hch _ z).2.1 rfl
  exact I.step (ch := ch) hch (fun b o hL hb hc e n => u.keep b o e n (fun z => (List.mem_cons.mp (I.stkSub b z)).elim hL hb) hc) (fun b o _ _ hc e n => u.any e n hc) (fun b o hc e n => u.free b o e n hc) (fun b o hc e => u.there b o e hc) u.tups u.frzs u.tbls (fun m' hm => by
    obtain ⟨o', es', ep', ho', r'⟩ := hm
    rw [ho] at ho'; cases ho'
    exact ⟨_, es', ep', hL, r'⟩) hok hg
theorem Inv.turned {t' : Nat} {it : Addr} (I : Inv X pins σ H s) (k : ∀ b o, b ≠ it → s.heap.get? b = some o → h'.get? b = some o) (hn : H it = none) (hL : it ≠ X.env.locals)
    (h1 : it ∈ X.ex ∨ X.s₀.heap.objs.size ≤ it) (h2 : ∀ x c, X.env.cells.lookup x = some c → c ≠ it) (h3 : ∀ p ∈ X.pn ++ pins, p.1 ≠ it) : Inv X pins σ H { s with heap := h', toks := t' } := by
  have nit : ∀ b u, H b = some u → b ≠ it := fun b u e z => by rw [z, hn] at e; cases e
  refine I.step (g' := s.gens) (d' := s.drawn) (ch := [it]) (fun b hb => ?_) (fun b o _ _ hc e _ => k b o (fun z => hc (by simp [z])) e) (fun b o _ _ hc e _ => ⟨o.slots, k b o (fun z => hc (by simp [z])) e⟩) (fun _ _ _ _ n => n)
    (fun b o hc e => ⟨o, k b o (fun z => hc (by simp [z])) e⟩) (fun _ _ e => e) (fun _ _ _ e => e) (fun b ps e => ⟨#[], by rw [e]; simp⟩) (fun m hm => ?_) (fun b u e => ?_) I.bare
  · have e : b = it := by simpa using hb
    subst e
    exact ⟨h1, hL, h2, h3⟩
  · obtain ⟨o, es, ep, ho, r⟩ := hm
    exact ⟨o, es, ep, k _ o (Ne.symm hL) ho, r⟩
  · refine (I.hok b u e).stay (fun c v hc q => k c v ?_ q) (fun _ q => q) fun _ _ q => q
    rcases hc with z | z
    · rw [z]; exact nit b u e
    · exact nit c _ z
theorem Inv.tok (I : Inv X pins σ H s) (t : Nat) : Inv X pins σ H { s with toks := t } := I.un (h' := s.heap) (t' := t) Un.refl I.hok
theorem Inv.kept {t' : Nat} (I : Inv X pins σ H s) (k : ∀ b u, s.heap.get? b = some u → h'.get? b = some u) : Inv X pins σ H { s with heap := h', toks := t' } := I.un (Un.kept k) (I.hok.kept k)
theorem Inv.laid {a : Addr} {o : HO} {t' : Nat} (I : Inv X pins σ H s) (k : ∀ b u, s.heap.get? b = some u → h'.get? b = some u) (hp : s.heap.objs.size ≤ a) (new : ObjOk X.prog X.w (upd H a o) h' a o) :
    Inv X pins σ (upd H a o) { s with heap := h', toks := t' } := I.un (Un.laid k hp (I.hok.fresh hp)) (I.hok.laid k hp new)
theorem Inv.write {x e : Addr} {o : HO} {t' : Nat} (I : Inv X pins σ H s) (mu : Mut (H x)) (he : e = x ∨ H e = some (.own x)) (k : ∀ b u, b ≠ e → s.heap.get? b = some u → h'.get? b = some u) (heo : ∃ u, h'.get? e = some u)
    (new : ObjOk X.prog X.w (upd H x o) h' x o) : Inv X pins σ (upd H x o) { s with heap := h', toks := t' } := I.un (Un.write mu he k heo) (I.hok.write mu he k heo new)
theorem Inv.pins_of {pins' : List (Addr × Obj)} (I : Inv X pins σ H s) (h : ∀ p ∈ pins', s.heap.get? p.1 = some p.2 ∧ H p.1 = none ∧ p.1 ≠ X.env.locals ∧ p.1 ∉ X.fs ∧ ∀ v, p.2.data ≠ .cell v) : Inv X pins' σ H s :=
  ⟨I.ok, I.os, I.bare, I.base, I.loc, I.cell, I.free, I.freeC, fun p hp => (List.mem_append.mp hp).elim (fun z => I.pin p (List.mem_append_left _ z)) (h p), I.hok, I.len⟩
theorem nodup_ix {N : List Str} (hN : N.Nodup) {i j : Nat} {x : Str} (a : N[i]? = some x) (b : N[j]? = some x) : i = j := by
  obtain ⟨h1, e1⟩ := List.getElem?_eq_some_iff.mp a
  obtain ⟨h2, e2⟩ := List.getElem?_eq_some_iff.mp b
  exact (List.getElem_inj hN).mp (e1.trans e2.symm)
theorem store_ok2 {M : Model} {A : Around} {E : Value → Shared → Prop} {i : Nat} {x : Str} {v : V} {u : Value} {Q : Unit → Shared → Prop} (I : Inv X pins σ H s) (hN : X.N.Nodup) (hi : X.N[i]? = some x) (hx : Loc X.env.scope x) (r : RelV v u)
    (h : ∀ s', Inv X pins (σ.set i (some v)) H s' → (∃ a, Heap.SameBut a s.heap s'.heap ∧ (a = X.env.locals ∨ X.env.cells.lookup x = some a)) → Q () s') (hf : X.fn x = true ∨ X.env.scope.names.lookup x = some .local := by first | exact .inl rfl | exact .inr rfl | assumption) : wpAny M A (storeName X.env x u) Q E s := by
  obtain ⟨m, hn, hl⟩ := id I.loc
  have hcls : (X.env.scope.kind == .class || (X.env.scope.kind == .module && X.env.locals != X.env.globals)) = false := by rw [I.ok.kind]; rfl
  have hiσ : i < σ.length := by rw [I.len]; exact (List.getElem?_eq_some_iff.mp hi).1
  have cne := I.cne
  have tracked : ∀ {a : Addr} {h' : Heap}, (∃ o, s.heap.get? a = some o ∧ H a = none) → Heap.SameBut a s.heap h' → HOk X.prog X.w H h' := fun {a h'} ha hs b ob e => by
    obtain ⟨_, _, hfree⟩ := ha
    refine (I.hok b ob e).stay (fun c w' hc q => (hs.2 c ?_).trans q) (fun _ q => q) fun _ _ q => q
    rintro rfl
    rcases hc with rfl | hc
    · rw [hfree] at e; cases e
    · rw [hfree] at hc; cases hc
  rcases hx with hk | hk
  · refine wpAny_storeName_local hk hn (fun h' hn' hs => ?_) hcls
    obtain ⟨oL, _, _, hoL, _⟩ := id hn
    refine h _ ⟨I.ok, I.os, I.bare, ⟨fun b o e n hb hx => ?_, fun b o e n hb hx => ?_, I.base.free, fun b o e hx => ?_, I.base.tups, I.base.frzs, I.base.tbls⟩, ⟨_, hn', fun j y v' e1 e2 e3 => ?_⟩, fun y c e => ?_, I.free, I.freeC, fun p hp => ?_, tracked ⟨oL, hoL, I.free⟩ hs, by simpa using I.len⟩ ⟨_, hs, .inl rfl⟩
    · exact (hs.2 b (Nat.ne_of_lt (Nat.lt_of_lt_of_le (Heap.lt_size e) I.ok.above))).trans (I.base.keep b o e n hb hx)
    · obtain ⟨sl, e1⟩ := I.base.slot b o e n hb hx
      exact ⟨sl, (hs.2 b (Nat.ne_of_lt (Nat.lt_of_lt_of_le (Heap.lt_size e) I.ok.above))).trans e1⟩
    · obtain ⟨o', e1⟩ := I.base.there b o e hx
      exact ⟨o', (hs.2 b (Nat.ne_of_lt (Nat.lt_of_lt_of_le (Heap.lt_size e) I.ok.above))).trans e1⟩
    · by_cases hj : j = i
      · subst hj
        rw [hi] at e1; cases e1
        rw [List.getElem?_set_self hiσ] at e2
        cases e2
        exact ⟨u, r, .inl ⟨hk, by simp⟩⟩
      · rw [List.getElem?_set_ne (Ne.symm hj)] at e2
        obtain ⟨u', r', q⟩ := hl j y v' e1 e2 e3
        refine ⟨u', r', ?_⟩
        rcases q with ⟨k, e⟩ | ⟨k, c, e, z⟩
        · refine .inl ⟨k, ?_⟩
          have : y ≠ x := fun e => hj (nodup_ix hN e1 (e ▸ hi))
          simp [this, e]
        · exact .inr ⟨k, c, e, z.sameBut hs (cne y c e)⟩
    · obtain ⟨w', z⟩ := I.cell y c e
      exact ⟨w', z.sameBut hs (cne y c e)⟩
    · obtain ⟨e, n, ne, nf, d⟩ := I.pin p hp
      exact ⟨(hs.2 p.1 ne).trans e, n, ne, nf, d⟩
  · have hfn : X.fn x = true := by
      rcases hf with z | z
      · exact z
      · rw [z] at hk; cases hk
    obtain ⟨c, hc⟩ := I.ok.has x (.inl hk)
    obtain ⟨w', z⟩ := I.cell x c hc
    refine wpAny_storeName_cell I.ok.kind hk hc z (fun h' hc' hs => ?_)
    obtain ⟨oc, hoc, hocd⟩ := id z
    refine h { s with heap := h' } ⟨I.ok, I.os, I.bare, ⟨fun b o e n hb hx => ?_, fun b o e n hb hx => ?_, I.base.free, fun b o e hx => ?_, I.base.tups, I.base.frzs, I.base.tbls⟩, ⟨m, hn.sameBut hs (Ne.symm (cne x c hc)), fun j y v' e1 e2 e3 => ?_⟩, fun y c' e => ?_, I.free, I.freeC, fun p hp => ?_, tracked ⟨oc, hoc, I.freeC x c hc⟩ hs, by simpa using I.len⟩ ⟨c, hs, .inr hc⟩
    · exact (hs.2 b (Nat.ne_of_lt (Nat.lt_of_lt_of_le (Heap.lt_size e) (I.ok.cab x c hfn hc)))).trans (I.base.keep b o e n hb hx)
    · obtain ⟨sl, e1⟩ := I.base.slot b o e n hb hx
      exact ⟨sl, (hs.2 b (Nat.ne_of_lt (Nat.lt_of_lt_of_le (Heap.lt_size e) (I.ok.cab x c hfn hc)))).trans e1⟩
    · obtain ⟨o', e1⟩ := I.base.there b o e hx
      exact ⟨o', (hs.2 b (Nat.ne_of_lt (Nat.lt_of_lt_of_le (Heap.lt_size e) (I.ok.cab x c hfn hc)))).trans e1⟩
    · by_cases hj : j = i
      · subst hj
        rw [hi] at e1; cases e1
        rw [List.getElem?_set_self hiσ] at e2
        cases e2
        exact ⟨u, r, .inr ⟨.inl hk, c, hc, hc'⟩⟩
      · rw [List.getElem?_set_ne (Ne.symm hj)] at e2
        obtain ⟨u', r', q⟩ := hl j y v' e1 e2 e3
        refine ⟨u', r', ?_⟩
        rcases q with q | ⟨k, c', e, z'⟩
        · exact .inl q
        · refine .inr ⟨k, c', e, z'.sameBut hs ?_⟩
          rintro rfl
          exact hj (nodup_ix hN e1 (I.ok.inj _ _ _ e hc ▸ hi))
    · by_cases hcc : c' = c
      · subst hcc; exact ⟨_, hc'⟩
      · obtain ⟨w2, z2⟩ := I.cell y c' e
        exact ⟨w2, z2.sameBut hs hcc⟩
    · obtain ⟨e, n, ne, nf, d⟩ := I.pin p hp
      refine ⟨(hs.2 p.1 ?_).trans e, n, ne, nf, d⟩
      intro q
      rw [q, hoc] at e
      have q' : oc = p.2 := Option.some.inj e
      exact d w' (by rw [← q']; exact hocd)
theorem store_ok {M : Model} {A : Around} {E : Value → Shared → Prop} {i : Nat} {x : Str} {v : V} {u : Value} {Q : Unit → Shared → Prop} (I : Inv X pins σ H s) (hN : X.N.Nodup) (hi : X.N[i]? = some x) (hx : Loc X.env.scope x) (r : RelV v u)
    (h : ∀ s', Inv X pins (σ.set i (some v)) H s' → Q () s') (hf : X.fn x = true ∨ X.env.scope.names.lookup x = some .local := by first | exact .inl rfl | exact .inr rfl | assumption) : wpAny M A (storeName X.env x u) Q E s :=
  store_ok2 I hN hi hx r (fun s' I' _ => h s' I') hf
theorem Inv.call' {s' : Shared} {ch : List Addr} (I : Inv X pins σ H s) (ho : s'.os = s.os) (u : Un (frs X.stack) ch H H' s.heap s'.heap) (hok : HOk X.prog X.w H' s'.heap) (hg : AllBare s'.gens)
    (hch : ∀ b ∈ ch, (b ∈ X.ex ∨ X.s₀.heap.objs.size ≤ b) ∧ b ≠ X.env.locals ∧ (∀ x c, X.env.cells.lookup x = some c → c ≠ b) ∧ ∀ p ∈ X.pn ++ pins, p.1 ≠ b) : Inv X pins σ H' s' := by
  obtain ⟨h', g', d', t', o'⟩ := s'
  have e : o' = s.os := ho
  subst e
  exact I.call (g' := g') (t' := t') (d' := d') u hok hg hch
end
abbrev XK := Value → Option Addr → Hp → Prop
abbrev St := List (Option V)
abbrev VK := V → Hp → Prop
abbrev TE := St → Hp → VK → Prop
abbrev TT := St → Hp → (Bool → Hp → Prop) → Prop
abbrev TA := St → Hp → (List V → Hp → Prop) → Prop
/- what is wanted behind a statement -/
set_option genInjectivity false in
set_option genSizeOfSpec false in
set_option genSizeOf false in
structure Ends where
  nx : St → Hp → Prop
  rt : VK
  bk : St → Hp → Prop := fun _ _ => False
  ct : St → Hp → Prop := fun _ _ => False
abbrev TS := Ends → St → Hp → Prop
def EP (X : Cx) (pins : List (Addr × Obj)) (σ : St) (Q : VK) (u : Value) (s' : Shared) : Prop := ∃ v H', Inv X pins σ H' s' ∧ RelV v u ∧ Q v H'
def TP (X : Cx) (pins : List (Addr × Obj)) (σ : St) (Q : Bool → Hp → Prop) (b : Bool) (s' : Shared) : Prop := ∃ H', Inv X pins σ H' s' ∧ Q b H'
def AP (X : Cx) (pins : List (Addr × Obj)) (σ : St) (Q : List V → Hp → Prop) (us : List Value) (s' : Shared) : Prop := ∃ vs H', Inv X pins σ H' s' ∧ Vals vs us ∧ Q vs H'
def SP (X : Cx) (pins : List (Addr × Obj)) (D : Ends) (f : Flow) (s' : Shared) : Prop :=
  match f with
  | .next => ∃ σ' H', Inv X pins σ' H' s' ∧ D.nx σ' H'
  | .brk => ∃ σ' H', Inv X pins σ' H' s' ∧ D.bk σ' H'
  | .cont => ∃ σ' H', Inv X pins σ' H' s' ∧ D.ct σ' H'
  | .ret u => ∃ v σ' H', Inv X pins σ' H' s' ∧ RelV v u ∧ D.rt v H'
@[irreducible] def PE (X : Cx) (e : Expr) (t : TE) : Prop :=
  ∀ (pins : List (Addr × Obj)) (s : Shared) (σ : St) (H : Hp) (Q : VK), Inv X pins σ H s → t σ H Q → wpAny (model X.prog X.w) X.A (eval e X.env) (EP X pins σ Q) X.xe s
@[irreducible] def PT (X : Cx) (e : Expr) (t : TT) : Prop :=
  ∀ (pins : List (Addr × Obj)) (s : Shared) (σ : St) (H : Hp) (Q : Bool → Hp → Prop), Inv X pins σ H s → t σ H Q → wpAny (model X.prog X.w) X.A (isTrue e X.env (eval e X.env)) (TP X pins σ Q) X.xe s
@[irreducible] def PW (X : Cx) (e : Expr) (t : TT) : Prop :=
  ∀ (whole : Sem Value) (pins : List (Addr × Obj)) (s : Shared) (σ : St) (H : Hp) (Q : Bool → Hp → Prop), Inv X pins σ H s → t σ H Q → wpAny (model X.prog X.w) X.A (isTrue e X.env whole) (TP X pins σ Q) X.xe s
theorem PW.pt {X : Cx} {e : Expr} {t : TT} (h : PW X e t) : PT X e t := by
  first
  | exact (h _)
  | (unfold PT at *; unfold PW at *; exact (h _))
@[irreducible] def PA (X : Cx) (es : List Expr) (t : TA) : Prop :=
  ∀ (pos : Pos) (pins : List (Addr × Obj)) (s : Shared) (σ : St) (H : Hp) (Q : List V → Hp → Prop), Inv X pins σ H s → t σ H Q → wpAny (model X.prog X.w) X.A (spliced (backTo pos (starEach es X.env))) (AP X pins σ Q) X.xe s
@[irreducible] def PS (X : Cx) (st : Stmt) (t : TS) : Prop :=
  ∀ (pins : List (Addr × Obj)) (s : Shared) (σ : St) (H : Hp) (D : Ends), Inv X pins σ H s → t D σ H → wpAny (model X.prog X.w) X.A (exec st X.env) (SP X pins D) X.xe s
@[irreducible] def PSs (X : Cx) (st : List Stmt) (t : TS) : Prop :=
  ∀ (pins : List (Addr × Obj)) (s : Shared) (σ : St) (H : Hp) (D : Ends), Inv X pins σ H s → t D σ H → wpAny (model X.prog X.w) X.A (execs st X.env) (SP X pins D) X.xe s
theorem thn {α : Type} {t : Sem α} {Q Q' : α → Shared → Prop} {M : Model} {A : Around} {E : Value → Shared → Prop} {s : Shared} (h : wpAny M A t Q E s) (hQ : ∀ a s, Q a s → Q' a s) : wpAny M A t Q' E s := wpAny_mono h hQ fun _ _ x => x
end L2
namespace L2
open PySem PySem.Spec PyProof.Rows
section
variable {X : Cx}
def tVar (i : Nat) : TE := fun σ H Q => ∃ v, σ[i]? = some (some v) ∧ Q v H
def tC (v : V) : TE := fun _ H Q => Q v H
theorem pe_var {i : Nat} {x : Str} {pos : Pos} (hN : X.N[i]? = some x) (hv : Vis X.env.scope x) (hd : (x == ("__debug__" : Str)) = false := by decide) (hcd : (x == ("__classdict__" : Str)) = false := by decide) : PE X (.Name x pos) (tVar i) := by
  unfold PE at *
  exact by
    intro pins s σ H Q I h
    obtain ⟨v, e, h⟩ := h
    obtain ⟨m, hn, hl⟩ := I.loc
    obtain ⟨u, r, l⟩ := hl i x v hN e hv
    have fin : EP X pins σ Q u s := ⟨v, H, I, r, h⟩
    rcases l with ⟨hk, hm⟩ | ⟨hk, c, hc, hcell⟩
    · exact wpAny_Name (wpAny_loadName_local I.ok.kind hk hn hm fin) hd
    · rcases hk with hk | hk
      · exact wpAny_Name (wpAny_loadName_cell I.ok.kind hk hc hcell fin) hd
      · exact wpAny_Name (wpAny_loadName_free I.ok.kind hk hc hcell fin hcd) hd
theorem pe_int {i j pos} : PE X (.Constant (.int i) j pos) (tC (.int i)) := by
  first
  | exact (fun _ _ _ H _ I h => wpAny_Constant_int ⟨.int i, H, I.tok _, ⟨_, rfl⟩, h⟩)
  | (unfold PE at *; exact (fun _ _ _ H _ I h => wpAny_Constant_int ⟨.int i, H, I.tok _, ⟨_, rfl⟩, h⟩))
theorem pe_bl {b j pos} : PE X (.Constant (.bool b) j pos) (tC (.bl b)) := by
  first
  | exact (fun _ _ _ H _ I h => Constant_bool ⟨.bl b, H, I, rfl, h⟩)
  | (unfold PE at *; exact (fun _ _ _ H _ I h => Constant_bool ⟨.bl b, H, I, rfl, h⟩))
theorem pe_non {j pos} : PE X (.Constant .none j pos) (tC .non) := by
  first
  | exact (fun _ _ _ H _ I h => Constant_none ⟨.non, H, I, rfl, h⟩)
  | (unfold PE at *; exact (fun _ _ _ H _ I h => Constant_none ⟨.non, H, I, rfl, h⟩))
theorem pe_str {x j pos} : PE X (.Constant (.str x) j pos) (tC (.str x)) := by
  first
  | exact (fun _ _ _ H _ I h => Calls.Constant_str ⟨.str x, H, I.tok _, ⟨_, rfl⟩, h⟩)
  | (unfold PE at *; exact (fun _ _ _ H _ I h => Calls.Constant_str ⟨.str x, H, I.tok _, ⟨_, rfl⟩, h⟩))
def Gl (X : Cx) (x : Str) : Prop := X.env.kindOf x = some .globalImplicit
theorem ld_glob {E : Value → Shared → Prop} {pins : List (Addr × Obj)} {s : Shared} {σ : St} {H : Hp} {x : Str} {u : Value} {pos : Pos} {Q : Value → Shared → Prop} (I : Inv X pins σ H s) (hg : Gl X x) (hm : X.mg x = some u) (h : Q u s)
    (hd : (x == ("__debug__" : Str)) = false := by decide) : wpAny (model X.prog X.w) X.A (eval (.Name x pos) X.env) Q E s :=
  Calls.Name_function_global I.ok.kind hg (Calls.loadGlobal_global (by rw [I.ok.glob]; exact I.mod.glob.keeps I.bk) hm h) hd
theorem ld_blt {E : Value → Shared → Prop} {pins : List (Addr × Obj)} {s : Shared} {σ : St} {H : Hp} {x : Str} {u : Value} {pos : Pos} {Q : Value → Shared → Prop} (I : Inv X pins σ H s) (hg : Gl X x) (hm : X.mg x = none) (hv : bootBuiltins x = some u) (h : Q u s)
    (hn : x ≠ "__name__" := by decide) (hd : (x == ("__debug__" : Str)) = false := by decide) : wpAny (model X.prog X.w) X.A (eval (.Name x pos) X.env) Q E s := by
  obtain ⟨mb, h1, h2⟩ := I.mod.blt
  exact Calls.Name_function_global I.ok.kind hg (Calls.loadGlobal_builtin (by rw [I.ok.glob]; exact I.mod.glob.keeps I.bk) hm (by rw [I.ok.blt]; exact h1.keeps I.bk) ((h2 x hn).trans hv) h) hd
theorem pe_glob {x : Str} {v : V} {u : Value} {pos : Pos} (hg : Gl X x) (hm : X.mg x = some u) (r : RelV v u) (hd : (x == ("__debug__" : Str)) = false := by decide) : PE X (.Name x pos) (tC v) := by
  first
  | exact (fun _ _ _ H _ I h => ld_glob I hg hm ⟨v, H, I, r, h⟩ hd)
  | (unfold PE at *; exact (fun _ _ _ H _ I h => ld_glob I hg hm ⟨v, H, I, r, h⟩ hd))
theorem pe_bltn {x : Str} {v : V} {u : Value} {pos : Pos} (hg : Gl X x) (hm : X.mg x = none) (hv : bootBuiltins x = some u) (r : RelV v u) (hn : x ≠ "__name__" := by decide) (hd : (x == ("__debug__" : Str)) = false := by decide) : PE X (.Name x pos) (tC v) := by
  first
  | exact (fun _ _ _ H _ I h => ld_blt I hg hm hv ⟨v, H, I, r, h⟩ hn hd)
  | (unfold PE at *; exact (fun _ _ _ H _ I h => ld_blt I hg hm hv ⟨v, H, I, r, h⟩ hn hd))
variable {a b : Expr} {ta tb : TE} {pos : Pos}
@[irreducible] def PC (X : Cx) (op : CmpOp) (a b : Expr) (t : TE) : Prop :=
  ∀ (pins : List (Addr × Obj)) (s : Shared) (σ : St) (H : Hp) (Q : VK), Inv X pins σ H s → t σ H Q →
    wpAny (model X.prog X.w) X.A (eval a X.env) (fun v s₁ => wpAny (model X.prog X.w) X.A (eval b X.env) (fun u s₂ => wpAny (model X.prog X.w) X.A (compareOp op v u) (EP X pins σ Q) X.xe s₂) X.xe s₁) X.xe s
theorem nobehind (b : Expr) {op : CmpOp} (h : op ≠ .In) (h2 : op ≠ .NotIn) : behindInMarks op b = false := by
  have e1 : (op == CmpOp.In) = false := by cases op <;> first | rfl | exact absurd rfl h
  have e2 : (op == CmpOp.NotIn) = false := by cases op <;> first | rfl | exact absurd rfl h2
  cases b <;> simp [behindInMarks, e1, e2]
def tIsN (ta : TE) : TE := fun σ H Q => ta σ H fun x H1 => Q (.bl (decide (x = .non))) H1
def tNotN (ta : TE) : TE := fun σ H Q => ta σ H fun x H1 => Q (.bl (!decide (x = .non))) H1
theorem RelV.none_iff {x : V} {v : Value} (r : RelV x v) : (v == Value.none) = decide (x = .non) := by
  cases x with
  | non => cases r; rfl
  | bl _ => cases r; rfl
  | int _ => obtain ⟨t, rfl⟩ := r; rfl
  | str _ => obtain ⟨t, rfl⟩ := r; rfl
  | byt _ => obtain ⟨t, rfl⟩ := r; rfl
  | flt _ => obtain ⟨t, rfl⟩ := r; rfl
  | ref _ => cases r; rfl
  | ty _ => cases r; rfl
theorem pc_isN {j pos'} (ha : PE X a ta) : PC X .Is a (.Constant .none j pos') (tIsN ta) := by
  unfold PE at *; unfold PC at *
  exact by
    intro pins s σ H Q I h
    refine thn (ha pins s σ H _ I h) fun v s1 ⟨x, H1, I1, r1, q1⟩ => ?_
    exact Constant_none (is_none_gen ⟨.bl _, H1, I1, by rw [r1.none_iff]; rfl, q1⟩)
theorem pc_notN {j pos'} (ha : PE X a ta) : PC X .IsNot a (.Constant .none j pos') (tNotN ta) := by
  unfold PE at *; unfold PC at *
  exact by
    intro pins s σ H Q I h
    refine thn (ha pins s σ H _ I h) fun v s1 ⟨x, H1, I1, r1, q1⟩ => ?_
    exact Constant_none (isnot_none_gen ⟨.bl _, H1, I1, by rw [r1.none_iff]; rfl, q1⟩)
def tB (t : TE) : TT := fun σ H Q => t σ H fun x H1 => ∃ c, x = .bl c ∧ Q c H1
theorem pt_cmp {op : CmpOp} {t : TE} (h : PC X op a b t) (h1 : behindInMarks op b = false := by first | exact nobehind _ (by decide) (by decide) | rfl) : PT X (.Compare a [op] [b] pos) (tB t) := by
  unfold PT at *; unfold PC at *
  exact by
    intro pins s σ H Q I hw
    refine wpAny_isTrue_Compare1 (thn (h pins s σ H _ I hw) fun v s1 h1 => thn h1 fun u s2 h2 => thn h2 fun c s3 ⟨x, H1, I1, r1, q1⟩ => ?_) h1
    obtain ⟨d, rfl, q⟩ := q1
    cases r1
    exact wpAny_truthy_bool ⟨H1, I1, q⟩
theorem pt_val {e : Expr} {t : TE} (h : PE X e t) (he : ∀ whole, isTrue e X.env whole = (do let v ← whole; standAt e.pos; holding [v] (truthy v)) := by intro _; rfl) : PT X e (tB t) := by
  unfold PE at *; unfold PT at *
  exact by
    intro pins s σ H Q I hw
    refine isTrue_plain (thn (h pins s σ H _ I hw) fun v s1 ⟨x, H1, I1, r1, q1⟩ => ?_) (he _)
    obtain ⟨d, rfl, q⟩ := q1
    cases r1
    exact wpAny_truthy_bool ⟨H1, I1, q⟩
variable {tA tB' : TT} {rest : List Expr}
def tAnd (t u : TT) : TT := fun σ H Q => t σ H fun c H1 => if c = true then u σ H1 Q else Q false H1
def tOr (t u : TT) : TT := fun σ H Q => t σ H fun c H1 => if c = true then Q true H1 else u σ H1 Q
def tNot (t : TT) : TT := fun σ H Q => t σ H fun c H1 => Q (!c) H1
theorem pw_and1 (ha : PT X a tA) : PW X (.BoolOp .And [a] pos) tA := by
  unfold PT at *; unfold PW at *
  exact by
    intro wh pins s σ H Q I h
    refine isTrue_and (thn (ha pins s σ H Q I h) fun c s1 e => ?_)
    cases c with
    | true => exact isTrue_and_nil e
    | false => exact e
theorem pw_or1 (ha : PT X a tA) : PW X (.BoolOp .Or [a] pos) tA := by
  unfold PT at *; unfold PW at *
  exact by
    intro wh pins s σ H Q I h
    refine isTrue_or (thn (ha pins s σ H Q I h) fun c s1 e => ?_)
    cases c with
    | false => exact isTrue_or_nil e
    | true => exact e
theorem pw_and (ha : PT X a tA) (hb : PW X (.BoolOp .And (b :: rest) pos) tB') : PW X (.BoolOp .And (a :: b :: rest) pos) (tAnd tA tB') := by
  unfold PT at *; unfold PW at *
  exact by
    intro wh pins s σ H Q I h
    refine isTrue_and (thn (ha pins s σ H _ I h) fun c s1 ⟨H1, I1, q1⟩ => ?_)
    cases c with
    | true => exact hb wh pins s1 σ H1 Q I1 q1
    | false => exact ⟨H1, I1, q1⟩
theorem pw_or (ha : PT X a tA) (hb : PW X (.BoolOp .Or (b :: rest) pos) tB') : PW X (.BoolOp .Or (a :: b :: rest) pos) (tOr tA tB') := by
  unfold PT at *; unfold PW at *
  exact by
    intro wh pins s σ H Q I h
    refine isTrue_or (thn (ha pins s σ H _ I h) fun c s1 ⟨H1, I1, q1⟩ => ?_)
    cases c with
    | true => exact ⟨H1, I1, q1⟩
    | false => exact hb wh pins s1 σ H1 Q I1 q1
theorem pt_not (ha : PT X a tA) : PT X (.UnaryOp .Not a pos) (tNot tA) := by
  unfold PT at *
  exact by
    intro pins s σ H Q I h
    exact isTrue_not (ha pins s σ H (fun c H1 => Q (!c) H1) I h)
def tAndV (ta tb : TE) : TE := fun σ H Q => ta σ H fun x H1 => ∃ c, x = .bl c ∧ if c = true then tb σ H1 Q else Q (.bl false) H1
def tNotV (ta : TE) : TE := fun σ H Q => ta σ H fun x H1 => ∃ c, x = .bl c ∧ Q (.bl (!c)) H1
theorem pe_one {op} {t : TE} (h : PE X a t) : PE X (.BoolOp op [a] pos) t := by
  first
  | exact (fun pins s σ H Q I hw => BoolOp_one (h pins s σ H Q I hw))
  | (unfold PE at *; exact (fun pins s σ H Q I hw => BoolOp_one (h pins s σ H Q I hw)))
theorem pe_and (ha : PE X a ta) (hb : PE X (.BoolOp .And (b :: rest) pos) tb) : PE X (.BoolOp .And (a :: b :: rest) pos) (tAndV ta tb) := by
  unfold PE at *
  exact by
    intro pins s σ H Q I h
    refine BoolOp_and (thn (ha pins s σ H _ I h) fun v s1 ⟨x, H1, I1, r1, q1⟩ => ?_)
    obtain ⟨c, rfl, q1⟩ := q1
    cases r1
    refine wpAny_truthy_bool ?_
    cases c with
    | true => exact hb pins s1 σ H1 Q I1 q1
    | false => exact ⟨.bl false, H1, I1, rfl, q1⟩
theorem pe_not (ha : PE X a ta) : PE X (.UnaryOp .Not a pos) (tNotV ta) := by
  unfold PE at *
  exact by
    intro pins s σ H Q I h
    refine UnaryOp_ (thn (ha pins s σ H _ I h) fun v s1 ⟨x, H1, I1, r1, q1⟩ => ?_)
    obtain ⟨c, rfl, q1⟩ := q1
    cases r1
    exact not_of (wpAny_truthy_bool ⟨.bl (!c), H1, I1, rfl, q1⟩)
end
end L2
namespace L2
open PySem PySem.Spec PyProof.Rows
def SqL (K : PySem.W.Frag) (H : Hp) (a : Addr) (xs : List V) : Prop :=
  Rd H a (.lst xs) ∨
    ∃ (o : Obj) (its : Array Value) (n : Nat), K.lookup a = some o ∧ o.cls = .type "list" ∧ o.dict = none ∧ o.data = .seq its n ∧ its.size ≤ sizeLine ∧ Vals xs its.toList
def SqT (K : PySem.W.Frag) (H : Hp) (a : Addr) (xs : List V) : Prop :=
  Rd H a (.tup xs) ∨
    ∃ (o : Obj) (its : Array Value) (n : Nat), K.lookup a = some o ∧ o.cls = .type "tuple" ∧ o.data = .seq its n ∧ its.size ≤ sizeLine ∧ Vals xs its.toList
def absV : Value → Option V
  | .none => some .non
  | .bool b => some (.bl b)
  | .int i _ => some (.int i)
  | .str x _ => some (.str x)
  | .bytes b _ => some (.byt b)
  | .float b _ => some (.flt b)
  | .ref a => some (.ref a)
  | .type n => some (.ty n)
  | _ => none
theorem RelV.abs {x : V} {u : Value} (r : RelV x u) : absV u = some x := by
  cases x with
  | non => cases r; rfl
  | bl _ => cases r; rfl
  | int _ => obtain ⟨t, rfl⟩ := r; rfl
  | str _ => obtain ⟨t, rfl⟩ := r; rfl
  | byt _ => obtain ⟨t, rfl⟩ := r; rfl
  | flt _ => obtain ⟨t, rfl⟩ := r; rfl
  | ref _ => cases r; rfl
  | ty _ => cases r; rfl
theorem RelV.inj {x y : V} {u : Value} (r : RelV x u) (q : RelV y u) : x = y := Option.some.inj (r.abs.symm.trans q.abs)
theorem Vals.inj : ∀ {xs ys : List V} {us : List Value}, Vals xs us → Vals ys us → xs = ys
  | _, _, _, .nil, .nil => rfl
  | _, _, _, .cons r t, .cons r' t' => by rw [r.inj r', Vals.inj t t']
section
variable {X : Cx} {pins : List (Addr × Obj)} {σ : St} {H : Hp} {s : Shared} {a : Addr} {xs ys : List V}
theorem SqL.of {K : PySem.W.Frag} (h : H a = some (.lst xs)) : SqL K H a xs := .inl (.inl h)
theorem SqT.of {K : PySem.W.Frag} (h : H a = some (.tup xs)) : SqT K H a xs := .inl (.inl h)
theorem Inv.list (I : Inv X pins σ H s) (h : SqL X.K H a xs) : ∃ its : List Value, Vals xs its ∧ PlainL s.heap a its.toArray ∧ xs.length ≤ sizeLine := by
  rcases h with h | ⟨o, its, n, hk, hc, hd, hs, hz, r⟩
  · obtain ⟨z, its, n, r, e⟩ := h.ok I.hok
    exact ⟨its, r, ⟨_, n, e, rfl, rfl, rfl⟩, z⟩
  · refine ⟨its.toList, r, ⟨o, n, I.kIn a o hk, hc, hd, by simpa using hs⟩, ?_⟩
    have e := r.length
    simp only [Array.length_toList] at e
    omega
theorem Inv.tuple (I : Inv X pins σ H s) (h : SqT X.K H a xs) : ∃ its : List Value, Vals xs its ∧ IsTup s.heap a its.toArray ∧ xs.length ≤ sizeLine := by
  rcases h with h | ⟨o, its, n, hk, hc, hs, hz, r⟩
  · obtain ⟨z, its, r, p⟩ := h.ok I.hok
    exact ⟨its, r, p, z⟩
  · refine ⟨its.toList, r, ⟨o, I.kIn a o hk, hc, n, by simpa using hs⟩, ?_⟩
    have e := r.length
    simp only [Array.length_toList] at e
    omega
theorem Inv.list_inj (I : Inv X pins σ H s) (h : SqL X.K H a xs) (h' : SqL X.K H a ys) : xs = ys := by
  obtain ⟨its, r, ⟨o, n, e, _, _, d⟩, _⟩ := I.list h
  obtain ⟨its', r', ⟨o', n', e', _, _, d'⟩, _⟩ := I.list h'
  rw [e] at e'; cases e'
  rw [d] at d'
  injection d' with d1 _
  have : its = its' := by simpa using congrArg Array.toList d1
  subst this
  exact r.inj r'
theorem Inv.tuple_inj (I : Inv X pins σ H s) (h : SqT X.K H a xs) (h' : SqT X.K H a ys) : xs = ys := by
  obtain ⟨its, r, ⟨o, e, _, n, d⟩, _⟩ := I.tuple h
  obtain ⟨its', r', ⟨o', e', _, n', d'⟩, _⟩ := I.tuple h'
  rw [e] at e'; cases e'
  rw [d] at d'
  injection d' with d1 _
  have : its = its' := by simpa using congrArg Array.toList d1
  subst this
  exact r.inj r'
end
abbrev Cx.wish (X : Cx) (E : Value → Shared → Prop) : Cx := { X with xe := E }
abbrev Cx.nox (X : Cx) : Cx := X.wish fun _ _ => False
theorem Cx.Ok.wish {X : Cx} (ok : X.Ok) (E : Value → Shared → Prop) : (X.wish E).Ok :=
  ⟨ok.mod, ok.kind, ok.glob, ok.blt, ok.above, ok.inj, ok.has, ok.cab, ok.hd, ok.frames, ok.stk, ok.exf, ok.bs, ok.bsz, ok.noex, ok.exfs, ok.funs, ok.frf⟩
theorem Cx.Ok.unwish {X : Cx} {E : Value → Shared → Prop} (ok : (X.wish E).Ok) : X.Ok :=
  ⟨ok.mod, ok.kind, ok.glob, ok.blt, ok.above, ok.inj, ok.has, ok.cab, ok.hd, ok.frames, ok.stk, ok.exf, ok.bs, ok.bsz, ok.noex, ok.exfs, ok.funs, ok.frf⟩
section
variable {X : Cx} {pins : List (Addr × Obj)} {σ : St} {H : Hp} {s : Shared} {E : Value → Shared → Prop}
theorem Inv.wish (I : Inv X pins σ H s) (E : Value → Shared → Prop) : Inv (X.wish E) pins σ H s := ⟨I.ok.wish E, I.os, I.bare, I.base, I.loc, I.cell, I.free, I.freeC, I.pin, I.hok, I.len⟩
theorem Inv.unwish (I : Inv (X.wish E) pins σ H s) : Inv X pins σ H s := ⟨I.ok.unwish, I.os, I.bare, I.base, I.loc, I.cell, I.free, I.freeC, I.pin, I.hok, I.len⟩
theorem SP.unwish {D : Ends} {f : Flow} {s' : Shared} (h : SP (X.wish E) pins D f s') : SP X pins D f s' := by
  cases f with
  | next => obtain ⟨σ', H', I, q⟩ := h; exact ⟨σ', H', I.unwish, q⟩
  | brk => obtain ⟨σ', H', I, q⟩ := h; exact ⟨σ', H', I.unwish, q⟩
  | cont => obtain ⟨σ', H', I, q⟩ := h; exact ⟨σ', H', I.unwish, q⟩
  | ret u => obtain ⟨v, σ', H', I, r, q⟩ := h; exact ⟨v, σ', H', I.unwish, r, q⟩
theorem PE.nox {e : Expr} {t : TE} (h : PE X.nox e t) : PE X e t := by
  unfold PE at *
  exact (fun pins s σ H Q I hw =>
    wpAny_mono (h pins s σ H Q (I.wish _) hw) (fun _ _ ⟨v, H', I', r, q⟩ => ⟨v, H', I'.unwish, r, q⟩) fun _ _ z => False.elim z)
theorem PT.nox {e : Expr} {t : TT} (h : PT X.nox e t) : PT X e t := by
  unfold PT at *
  exact (fun pins s σ H Q I hw =>
    wpAny_mono (h pins s σ H Q (I.wish _) hw) (fun _ _ ⟨H', I', q⟩ => ⟨H', I'.unwish, q⟩) fun _ _ z => False.elim z)
theorem PSs.nox {st : List Stmt} {t : TS} (h : PSs X.nox st t) : PSs X st t := by
  unfold PSs at *
  exact (fun pins s σ H D I hw =>
    wpAny_mono (h pins s σ H D (I.wish _) hw) (fun _ _ q => q.unwish) fun _ _ z => False.elim z)
end
section
variable {X : Cx} {st : Stmt} {rest : List Stmt} {t u : TS} {e : Expr} {te : TE} {pos : Pos}
def tNext : TS := fun D σ H => D.nx σ H
def tSeq (t u : TS) : TS := fun D σ H => t { D with nx := u D } σ H
theorem pss_nil : PSs X [] tNext := by
  first
  | exact (fun _ _ σ H _ I h => wpAny_execs_nil ⟨σ, H, I, h⟩)
  | (unfold PSs at *; exact (fun _ _ σ H _ I h => wpAny_execs_nil ⟨σ, H, I, h⟩))
theorem pss_cons (h1 : PS X st t) (h2 : PSs X rest u) : PSs X (st :: rest) (tSeq t u) := by
  unfold PS at *; unfold PSs at *
  exact by
    intro pins s σ H D I h
    refine wpAny_execs_cons (thn (h1 pins s σ H { D with nx := u D } I h) fun f s1 q => ?_)
    cases f with
    | next =>
      obtain ⟨σ', H', I', q⟩ := q
      exact h2 pins s1 σ' H' D I' q
    | ret v => exact q
    | brk => exact q
    | cont => exact q
theorem pss_one (h1 : PS X st t) : PSs X [st] t := by
  unfold PS at *; unfold PSs at *
  exact by
    intro pins s σ H D I h
    refine wpAny_execs_cons (thn (h1 pins s σ H D I h) fun f s1 q => ?_)
    cases f with
    | next => exact wpAny_execs_nil q
    | ret v => exact q
    | brk => exact q
    | cont => exact q
theorem Inv.quiet {pins : List (Addr × Obj)} {σ : St} {H : Hp} {s : Shared} (I : Inv X pins σ H s) : interactive X.env = false := by simp [interactive, I.ok.kind]
def tDrop (te : TE) : TS := fun D σ H => te σ H fun _ H1 => D.nx σ H1
theorem ps_expr (he : PE X e te) (hs : swapsWith e none pos.line X.env = pure false := by rfl) : PS X (.Expr e pos) (tDrop te) := by
  unfold PE at *; unfold PS at *
  exact by
    intro pins s σ H D I h
    exact wpAny_Expr_any (thn (he pins s σ H _ I h) fun v s1 ⟨x, H1, I1, r1, q1⟩ => ⟨σ, H1, I1, q1⟩) I.quiet hs
def tRet (te : TE) : TS := fun D σ H => te σ H D.rt
theorem ps_ret (he : PE X e te) : PS X (.Return (some e) pos) (tRet te) := by
  unfold PE at *; unfold PS at *
  exact by
    intro pins s σ H D I h
    exact wpAny_Return_some (thn (he pins s σ H _ I h) fun v s1 ⟨x, H1, I1, r1, q1⟩ => ⟨x, σ, H1, I1, r1, q1⟩)
def tIfS (c : TT) (t u : TS) : TS := fun D σ H => c σ H fun b H1 => if b = true then t D σ H1 else u D σ H1
theorem ps_if {c : Expr} {a b : List Stmt} {tc : TT} (hc : PT X c tc) (ha : PSs X a t) (hb : PSs X b u) : PS X (.If c a b pos) (tIfS tc t u) := by
  unfold PT at *; unfold PS at *; unfold PSs at *
  exact by
    intro pins s σ H D I h
    refine wpAny_If (thn (hc pins s σ H _ I h) fun d s1 ⟨H1, I1, q1⟩ => ?_)
    cases d with
    | true => exact ha pins s1 σ H1 D I1 q1
    | false => exact hb pins s1 σ H1 D I1 q1
def tNever : TS := fun _ _ _ => False
theorem ps_never : PS X st tNever := by
  first
  | exact (fun _ _ _ _ _ _ h => h.elim)
  | (unfold PS at *; exact (fun _ _ _ _ _ _ h => h.elim))
end
abbrev TG := V → St → Hp → (St → Hp → Prop) → Prop
abbrev TGs := List V → St → Hp → (St → Hp → Prop) → Prop
@[irreducible] def PG (X : Cx) (target : Expr) (t : TG) : Prop :=
  ∀ (pins : List (Addr × Obj)) (s : Shared) (σ : St) (H : Hp) (v : V) (u : Value) (Q : St → Hp → Prop), Inv X pins σ H s → RelV v u → t v σ H Q →
    wpAny (model X.prog X.w) X.A (assign target X.env u) (fun _ s' => ∃ σ' H', Inv X pins σ' H' s' ∧ Q σ' H') X.xe s
@[irreducible] def PGs (X : Cx) (ts : List Expr) (t : TGs) : Prop :=
  ∀ (pins : List (Addr × Obj)) (s : Shared) (σ : St) (H : Hp) (vs : List V) (us : List Value) (Q : St → Hp → Prop), Inv X pins σ H s → Vals vs us → t vs σ H Q →
    wpAny (model X.prog X.w) X.A (assignInOrder ((assignEach ts X.env).map (·.2)) us) (fun _ s' => ∃ σ' H', Inv X pins σ' H' s' ∧ Q σ' H') X.xe s
abbrev TSet := V → V → V → Hp → (Hp → Prop) → Prop
@[irreducible] def PSet (X : Cx) (t : TSet) : Prop :=
  ∀ (pins : List (Addr × Obj)) (s : Shared) (σ : St) (H : Hp) (o i v : V) (ov iv u : Value) (Q : Hp → Prop), Inv X pins σ H s → RelV o ov → RelV i iv → RelV v u → t o i v H Q →
    wpAny (model X.prog X.w) X.A (setItem ov iv u) (fun _ s' => ∃ H', Inv X pins σ H' s' ∧ Q H') X.xe s
section
variable {X : Cx} {pos : Pos}
def gName (i : Nat) : TG := fun v σ H Q => Q (σ.set i (some v)) H
theorem pg_name {i : Nat} {x : Str} (hN : X.N.Nodup) (hi : X.N[i]? = some x) (hx : Loc X.env.scope x) (hf : X.fn x = true ∨ X.env.scope.names.lookup x = some .local := by first | exact .inl rfl | exact .inr rfl | assumption) : PG X (.Name x pos) (gName i) := by
  unfold PG at *
  exact by
    intro pins s σ H v u Q I r h
    exact wpAny_assign_Name (store_ok I hN hi hx r (fun s' I' => ⟨_, H, I', h⟩) hf)
def gNil : TGs := fun vs σ H Q => vs = [] ∧ Q σ H
def gCons (t : TG) (u : TGs) : TGs := fun vs σ H Q => ∃ v r, vs = v :: r ∧ t v σ H fun σ' H' => u r σ' H' Q
theorem pgs_nil : PGs X [] gNil := by
  unfold PGs at *
  exact by
    intro pins s σ H vs us Q I r h
    obtain ⟨e, h⟩ := h
    subst e
    cases r
    exact assignInOrder_nil ⟨σ, H, I, h⟩
theorem pgs_cons {e : Expr} {es : List Expr} {t : TG} {u : TGs} (h1 : PG X e t) (h2 : PGs X es u)
    (hs : (assignEach (e :: es) X.env).map (·.2) = assign e X.env :: (assignEach es X.env).map (·.2) := by rfl) : PGs X (e :: es) (gCons t u) := by
  unfold PG at *; unfold PGs at *
  exact by
    intro pins s σ H vs us Q I r h
    obtain ⟨v, vr, e1, h⟩ := h
    subst e1
    cases r with
    | cons r rr =>
      rw [hs]
      refine assignInOrder_cons (thn (h1 pins s σ H _ _ _ I r h) fun _ s1 ⟨σ1, H1, I1, q1⟩ => ?_)
      exact h2 pins s1 σ1 H1 _ _ Q I1 rr q1
def gTup (K : PySem.W.Frag) (n : Nat) (t : TGs) : TG := fun v σ H Q => ∃ a xs, v = .ref a ∧ SqT K H a xs ∧ xs.length = n ∧ t xs σ H Q
theorem pg_tup {es : List Expr} {k : Nat} {t : TGs} {n : Nat} (hc : X.calm = true) (h : PGs X es t)
    (hn : (assignEach es X.env).length = n := by rfl) (hst : (assignEach es X.env).findIdx? (·.1) = none := by rfl) : PG X (.Tuple es k pos) (gTup X.K n t) := by
  unfold PG at *; unfold PGs at *
  exact by
    intro pins s σ H v u Q I r hw
    obtain ⟨a, xs, e1, hq, hl, hw⟩ := hw
    subst e1
    cases r
    obtain ⟨its, rv, ht, hz⟩ := I.tuple hq
    refine assign_Tuple_tuple (I.ok.hd hc) ht (by simp [hn, ← hl, rv.length]) hst fun h' hx => ?_
    have I1 : Inv X pins σ H { s with heap := h' } := I.kept (t' := s.toks) fun b o e => hx b o (Nat.ne_of_lt (Heap.lt_size e)) e
    exact h pins _ σ H xs _ Q I1 (by simpa using rv) hw
def gSub (to ti : TE) (t : TSet) : TG := fun v σ H Q => to σ H fun o H1 => ti σ H1 fun i H2 => t o i v H2 fun H3 => Q σ H3
theorem pg_sub {o i : Expr} {to ti : TE} {t : TSet} (ho : PE X o to) (hi : PE X i ti) (hs : PSet X t)
    (ha : ∀ v, assign (.Subscript o i pos) X.env v = (do
      let ov ← holding [v] (eval o X.env)
      let iv ← holding [v, ov] (eval i X.env)
      standAt pos
      holding [v, ov, iv] (setItem ov iv v)
      release [v, ov, iv] []) := by intro _; rfl) : PG X (.Subscript o i pos) (gSub to ti t) := by
  unfold PE at *; unfold PG at *; unfold PSet at *
  exact by
    intro pins s σ H v u Q I r h
    rw [ha]
    refine wpAny_bind (wpAny_holding (thn (ho pins s σ H _ I h) fun ov s1 ⟨x, H1, I1, r1, q1⟩ => ?_))
    refine wpAny_bind (wpAny_holding (thn (hi pins s1 σ H1 _ I1 q1) fun iv s2 ⟨y, H2, I2, r2, q2⟩ => ?_))
    refine wpAny_bind (wpAny_standAt (wpAny_bind (wpAny_holding (thn (hs pins s2 σ H2 x y v ov iv u _ I2 r1 r2 r q2) fun _ s3 ⟨H3, I3, q3⟩ => ?_))))
    exact wpAny_release ⟨σ, H3, I3, q3⟩
def tAsg (te : TE) (g : TG) : TS := fun D σ H => te σ H fun x H1 => g x σ H1 D.nx
theorem ps_asg {tg e : Expr} {te : TE} {g : TG} (he : PE X e te) (hg : PG X tg g) (hs : swapsWithSole [tg] e pos.line X.env = pure false := by rfl) (hw : swappedStores [tg] e X.env = pure none := by rfl)
    (h1 : (assignEach [tg] X.env).map (·.2) = [assign tg X.env] := by rfl) : PS X (.Assign [tg] e pos) (tAsg te g) := by
  unfold PE at *; unfold PS at *; unfold PG at *
  exact by
    intro pins s σ H D I h
    refine wpAny_Assign_stores (thn (he pins s σ H _ I h) fun v s1 ⟨x, H1, I1, r1, q1⟩ => ?_) hs hw
    rw [h1]
    exact thn (hg pins s1 σ H1 x v _ I1 r1 q1) fun _ s2 q => q
theorem ps_set {i : Nat} {x : Str} {e : Expr} {te : TE} {pos' : Pos} (hN : X.N.Nodup) (hi : X.N[i]? = some x) (hx : Loc X.env.scope x) (he : PE X e te) (hs : swapsWith e (some (.Name x pos')) pos.line X.env = pure false := by rfl) (hf : X.fn x = true ∨ X.env.scope.names.lookup x = some .local := by first | exact .inl rfl | exact .inr rfl | assumption) :
    PS X (.Assign [.Name x pos'] e pos) (tAsg te (gName i)) := by
  unfold PE at *; unfold PS at *
  exact by
    intro pins s σ H D I h
    refine wpAny_Assign_Name (thn (he pins s σ H _ I h) fun v s1 ⟨y, H1, I1, r1, q1⟩ => ?_) hs
    exact store_ok I1 hN hi hx r1 (fun s2 I2 => ⟨_, H1, I2, q1⟩) hf
end
section
variable {X : Cx} {pos : Pos}
end
/- at turn i: it yields x (the heap may grow), or it stops -/
set_option genInjectivity false in
set_option genSizeOfSpec false in
set_option genSizeOf false in
structure It where
  go : Nat → Hp → Prop
  yld : Nat → Hp → V → Hp → Prop
  stop : Nat → Hp → Prop
def FpOk (X : Cx) (pins : List (Addr × Obj)) (H : Hp) (b : Addr) : Prop :=
  H b = none ∧ b ≠ X.env.locals ∧ b ∉ X.fs ∧ (b ∈ X.ex ∨ X.s₀.heap.objs.size ≤ b) ∧ (∀ x c, X.env.cells.lookup x = some c → c ≠ b) ∧ ∀ p ∈ X.pn ++ pins, p.1 ≠ b
theorem Inv.fpOk {X : Cx} {pins : List (Addr × Obj)} {σ : St} {H H' : Hp} {s : Shared} {b : Addr} (I : Inv X pins σ H s) (hb : s.heap.objs.size ≤ b) (hn : H' b = none) : FpOk X pins H' b := by
  refine ⟨hn, Nat.ne_of_gt (Nat.lt_of_lt_of_le I.lt hb), I.nofs hb, .inr (Nat.le_trans I.sz hb), fun x c e z => ?_, fun p hp z => ?_⟩
  · obtain ⟨v, q⟩ := I.cell x c e
    exact absurd (Nat.lt_of_lt_of_le q.lt (by rw [z]; exact hb)) (Nat.lt_irrefl _)
  · exact absurd (Nat.lt_of_lt_of_le (Heap.lt_size (I.pin p hp).1) (by rw [z]; exact hb)) (Nat.lt_irrefl _)
structure Turn (P : Program) (w : World) (K : PySem.W.Frag) (tg : Expr) (J : It) (fp : List Addr) (it : Addr) (tn : Nat → Heap → Prop) : Prop where
  mem : it ∈ fp
  obj : ∀ i h, tn i h → ∀ b ∈ fp, ∃ o, h.get? b = some o ∧ ∀ v, o.data ≠ .cell v
  keep : ∀ i h h', tn i h → (∀ b ∈ fp, ∀ o, h.get? b = some o → h'.get? b = some o) → tn i h'
  item : ∀ (X : Cx), X.prog = P → X.w = w → X.K = K → X.calm = true → ∀ (i : Nat) (pins : List (Addr × Obj)) (s : Shared) (σ : St) (H : Hp) (E : Value → Shared → Prop), Inv X pins σ H s → (∀ b ∈ fp, FpOk X pins H b) → tn i s.heap → J.go i H →
    wpAny (model P w) X.A (pyNext (.ref it)) (fun r s1 => ∃ u, r = some u ∧
      wpAny (model P w) X.A (letOwnedTupleGo tg (.ref it) u) (fun _ s2 => ∃ x H', Inv X pins σ H' s2 ∧ RelV x u ∧ J.yld i H x H' ∧ tn (i + 1) s2.heap ∧ ∀ b ∈ fp, H' b = none) E s1) E s
  done : ∀ (X : Cx), X.prog = P → X.w = w → X.K = K → X.calm = true → ∀ (i : Nat) (pins : List (Addr × Obj)) (s : Shared) (σ : St) (H : Hp) (E : Value → Shared → Prop), Inv X pins σ H s → (∀ b ∈ fp, FpOk X pins H b) → tn i s.heap → J.stop i H →
    wpAny (model P w) X.A (pyNext (.ref it)) (fun r s1 => r = none ∧ Inv X pins σ H s1) E s
  self : ∀ (A : Around) (i : Nat) (s : Shared) (Q : Value → Shared → Prop) (E : Value → Shared → Prop), tn i s.heap → Q (.ref it) s → wpAny (model P w) A (pyIter (.ref it)) Q E s
abbrev TI := St → Hp → (It → Hp → Prop) → Prop
def PIE (X : Cx) (pins : List (Addr × Obj)) (σ : St) (tg : Expr) (R : It → Hp → Prop) (itv : Value) (s2 : Shared) : Prop :=
  ∃ (it : Addr) (fp : List Addr) (tn : Nat → Heap → Prop) (J : It) (H' : Hp), itv = .ref it ∧ Inv X pins σ H' s2 ∧ Turn X.prog X.w X.K tg J fp it tn ∧ tn 0 s2.heap ∧ (∀ b ∈ fp, FpOk X pins H' b) ∧ R J H'
@[irreducible] def PI (X : Cx) (tg iter : Expr) (wi : TI) : Prop :=
  ∀ (pins : List (Addr × Obj)) (s : Shared) (σ : St) (H : Hp) (R : It → Hp → Prop), Inv X pins σ H s → wi σ H R →
    wpAny (model X.prog X.w) X.A (eval iter X.env) (fun v s1 => wpAny (model X.prog X.w) X.A (pyIter v) (PIE X pins σ tg R) X.xe s1) X.xe s
theorem go_of {M : Model} {A : Around} {E : Value → Shared → Prop} {s : Shared} {tg : Expr} {it : Addr} {u : Value} {o : Obj} {n : String} {vs : Array Value} {Q : Unit → Shared → Prop} (ho : s.heap.get? it = some o) (hc : o.cls = .type n) (hd : o.data = .fields vs)
    (hn : ["enumerate", "zip", "dict_itemiterator", "dict_reverseitemiterator", "odict_iterator", "itertools.zip_longest", "itertools.pairwise"].contains n = false) (hQ : Q () s) : wpAny M A (letOwnedTupleGo tg (.ref it) u) Q E s := by
  unfold letOwnedTupleGo
  cases tg <;> first
    | exact wpAny_pure hQ
    | (cases u <;> first
        | exact wpAny_pure hQ
        | (refine wpAny_bind (wpAny_load ho ?_)
           rw [hc, hd]
           show wpAny M A (if (["enumerate", "zip", "dict_itemiterator", "dict_reverseitemiterator", "odict_iterator", "itertools.zip_longest", "itertools.pairwise"].contains n && vs[0]? == some (rawInt _)) = true then _ else _) Q E s
           rw [if_neg (by intro h; rw [hn, Bool.false_and] at h; cases h)]
           exact wpAny_pure hQ))
def Itl (K : PySem.W.Frag) (a : Addr) : It :=
  ⟨fun i H => ∃ xs x, SqL K H a xs ∧ xs[i]? = some x, fun i H x H' => H' = H ∧ ∀ xs, SqL K H a xs → xs[i]? = some x, fun i H => ∃ xs, SqL K H a xs ∧ xs.length ≤ i⟩
def Itt (K : PySem.W.Frag) (a : Addr) : It :=
  ⟨fun i H => ∃ xs x, SqT K H a xs ∧ xs[i]? = some x, fun i H x H' => H' = H ∧ ∀ xs, SqT K H a xs → xs[i]? = some x, fun i H => ∃ xs, SqT K H a xs ∧ xs.length ≤ i⟩
def Itr (lo : Int) (n : Nat) : It := ⟨fun i _ => i < n, fun i H x H' => H' = H ∧ x = .int (lo + i), fun i _ => n ≤ i⟩
theorem turn_list {P : Program} {w : World} {K : PySem.W.Frag} {tg : Expr} (a it : Addr) : Turn P w K tg (Itl K a) [it] it (fun i h => h.IsListIter it a i) where
  mem := by simp
  obj := fun i h st b hb => by
    have e : b = it := by simpa using hb
    subst e
    obtain ⟨o, e, c, d⟩ := st
    exact ⟨o, e, fun v z => by rw [d] at z; cases z⟩
  keep := fun i h h' st k => st.at fun o e => k it (by simp) o e
  item := by
    intro X hP hw hK hc i pins s σ H E I hf st hg
    subst hP hw hK
    obtain ⟨xs, x, hq, hx⟩ := hg
    obtain ⟨its, rv, p, hz⟩ := I.list hq
    obtain ⟨u, hu, ru⟩ := rv.get hx
    obtain ⟨f0, f1, f2, f3, f4, f5⟩ := hf it (by simp)
    refine wpAny_pyNext_list_item st p.isList (x := u) (by simpa using hu) fun h' st' sb => ?_
    have I1 : Inv X pins σ H { s with heap := h' } := I.turned (t' := s.toks) (fun b o hb e => (sb.2 b hb).trans e) f0 f1 f3 f4 f5
    obtain ⟨o, e, c, d⟩ := id st'
    exact ⟨u, rfl, go_of (s := { s with heap := h' }) e c d (by decide) ⟨x, H, I1, ru, ⟨rfl, fun ys hy => by rw [I.list_inj hy hq]; exact hx⟩, st', fun b hb => (hf b hb).1⟩⟩
  done := by
    intro X hP hw hK hc i pins s σ H E I hf st hg
    subst hP hw hK
    obtain ⟨xs, hq, hx⟩ := hg
    obtain ⟨its, rv, p, hz⟩ := I.list hq
    obtain ⟨f0, f1, f2, f3, f4, f5⟩ := hf it (by simp)
    have hl := rv.length
    exact wpAny_pyNext_list_end (I.ok.hd hc) st p.isList (by simp; omega) fun h' eb => ⟨rfl, I.turned (t' := s.toks) (fun b o hb e => eb b o hb e) f0 f1 f3 f4 f5⟩
  self := fun _ _ _ _ _ st h => wpAny_pyIter_listiter st h
theorem turn_tuple {P : Program} {w : World} {K : PySem.W.Frag} {tg : Expr} (a it : Addr) : Turn P w K tg (Itt K a) [it] it (fun i h => h.IsTupleIter it a i) where
  mem := by simp
  obj := fun i h st b hb => by
    have e : b = it := by simpa using hb
    subst e
    obtain ⟨o, e, c, d⟩ := st
    exact ⟨o, e, fun v z => by rw [d] at z; cases z⟩
  keep := fun i h h' st k => st.at fun o e => k it (by simp) o e
  item := by
    intro X hP hw hK hc i pins s σ H E I hf st hg
    subst hP hw hK
    obtain ⟨xs, x, hq, hx⟩ := hg
    obtain ⟨its, rv, p, hz⟩ := I.tuple hq
    obtain ⟨u, hu, ru⟩ := rv.get hx
    obtain ⟨f0, f1, f2, f3, f4, f5⟩ := hf it (by simp)
    refine wpAny_pyNext_tuple_item st (show s.heap.IsTuple a its.toArray from p) (x := u) (by simpa using hu) fun h' st' sb => ?_
    have I1 : Inv X pins σ H { s with heap := h' } := I.turned (t' := s.toks) (fun b o hb e => (sb.2 b hb).trans e) f0 f1 f3 f4 f5
    obtain ⟨o, e, c, d⟩ := id st'
    exact ⟨u, rfl, go_of (s := { s with heap := h' }) e c d (by decide) ⟨x, H, I1, ru, ⟨rfl, fun ys hy => by rw [I.tuple_inj hy hq]; exact hx⟩, st', fun b hb => (hf b hb).1⟩⟩
  done := by
    intro X hP hw hK hc i pins s σ H E I hf st hg
    subst hP hw hK
    obtain ⟨xs, hq, hx⟩ := hg
    obtain ⟨its, rv, p, hz⟩ := I.tuple hq
    obtain ⟨f0, f1, f2, f3, f4, f5⟩ := hf it (by simp)
    have hl := rv.length
    exact wpAny_pyNext_tuple_end (I.ok.hd hc) st (show s.heap.IsTuple a its.toArray from p) (by simp; omega) fun h' eb => ⟨rfl, I.turned (t' := s.toks) (fun b o hb e => eb b o hb e) f0 f1 f3 f4 f5⟩
  self := fun _ _ _ _ _ st h => wpAny_pyIter_tupleiter st h
theorem turn_range {P : Program} {w : World} {K : PySem.W.Frag} {tg : Expr} (it : Addr) (lo : Int) (n : Nat) : Turn P w K tg (Itr lo n) [it] it (fun i h => IsRangeIter h it (lo + (i : Nat) * 1) ((n : Int) - (i : Nat)) 1) where
  mem := by simp
  obj := fun i h st b hb => by
    have e : b = it := by simpa using hb
    subst e
    exact ⟨_, st, fun v z => by
      have z' : Data.fields _ = Data.cell v := z
      cases z'⟩
  keep := fun i h h' st k => k it (by simp) _ st
  item := by
    intro X hP hw hK hc i pins s σ H E I hf st hg
    subst hP hw hK
    obtain ⟨f0, f1, f2, f3, f4, f5⟩ := hf it (by simp)
    have W := Walks.range (prog := X.prog) (w := X.w) (I.ok.hd hc) it lo 1 n
    refine W.item i s _ _ hg st fun v h' tk hv st' kk => ?_
    obtain ⟨t, rfl⟩ := hv
    have I1 : Inv X pins σ H { s with heap := h', toks := tk } := I.turned (fun b o hb e => kk b o (by simpa using hb) e) f0 f1 f3 f4 f5
    refine ⟨_, rfl, go_of (s := { s with heap := h', toks := tk }) (n := "range_iterator") st' rfl rfl (by decide) ⟨.int (lo + i), H, I1, ⟨t, ?_⟩, ⟨rfl, rfl⟩, st', fun b hb => (hf b hb).1⟩⟩
    rw [Int.mul_one]
  done := by
    intro X hP hw hK hc i pins s σ H E I hf st hg
    subst hP hw hK
    obtain ⟨f0, f1, f2, f3, f4, f5⟩ := hf it (by simp)
    exact wpAny_pyNext_range_end (I.ok.hd hc) st (by have : n ≤ i := hg; omega) fun h' eb => ⟨rfl, I.turned (t' := s.toks) (fun b o hb e => eb b o hb e) f0 f1 f3 f4 f5⟩
  self := fun _ _ _ _ _ st h => wpAny_pyIter_rangeiter st h
end L2
namespace L2
open PySem PySem.Spec PyProof.Rows
section
variable {X : Cx} {tg : Expr}
def iList (K : PySem.W.Frag) (tl : TE) : TI := fun σ H R => tl σ H fun x H1 => ∃ a, x = .ref a ∧ (∃ xs, SqL K H1 a xs) ∧ R (Itl K a) H1
def iTup (K : PySem.W.Frag) (tl : TE) : TI := fun σ H R => tl σ H fun x H1 => ∃ a, x = .ref a ∧ (∃ xs, SqT K H1 a xs) ∧ R (Itt K a) H1
theorem pi_list {l : Expr} {tl : TE} (hl : PE X l tl) : PI X tg l (iList X.K tl) := by
  unfold PE at *; unfold PI at *
  exact by
    intro pins s σ H R I h
    refine thn (hl pins s σ H _ I h) fun v s1 ⟨x, H1, I1, r1, q1⟩ => ?_
    obtain ⟨a, e, ⟨xs, hq⟩, q⟩ := q1
    subst e
    cases r1
    obtain ⟨its, rv, p, hz⟩ := I1.list hq
    refine wpAny_pyIter_list p.isList ?_
    refine ⟨s1.heap.objs.size, [s1.heap.objs.size], _, _, H1, rfl, I1.kept (t' := s1.toks) fun b o e => Heap.get?_push_of_some _ e, turn_list a _, ⟨_, Heap.get?_push_size _ rfl, rfl, rfl⟩, fun b hb => ?_, q⟩
    have e : b = s1.heap.objs.size := by simpa using hb
    subst e
    exact I1.fpOk (Nat.le_refl _) (I1.hok.fresh (Nat.le_refl _))
theorem pi_tup {l : Expr} {tl : TE} (hl : PE X l tl) : PI X tg l (iTup X.K tl) := by
  unfold PE at *; unfold PI at *
  exact by
    intro pins s σ H R I h
    refine thn (hl pins s σ H _ I h) fun v s1 ⟨x, H1, I1, r1, q1⟩ => ?_
    obtain ⟨a, e, ⟨xs, hq⟩, q⟩ := q1
    subst e
    cases r1
    obtain ⟨its, rv, p, hz⟩ := I1.tuple hq
    refine wpAny_pyIter_tuple (show s1.heap.IsTuple a its.toArray from p) ?_
    refine ⟨s1.heap.objs.size, [s1.heap.objs.size], _, _, H1, rfl, I1.kept (t' := s1.toks) fun b o e => Heap.get?_push_of_some _ e, turn_tuple a _, ⟨_, Heap.get?_push_size _ rfl, rfl, rfl⟩, fun b hb => ?_, q⟩
    have e : b = s1.heap.objs.size := by simpa using hb
    subst e
    exact I1.fpOk (Nat.le_refl _) (I1.hok.fresh (Nat.le_refl _))
theorem range_it {pins : List (Addr × Obj)} {σ : St} {H : Hp} {s : Shared} {R : It → Hp → Prop} {E : Value → Shared → Prop} {lo hi : Int} {t u v : Tok} {tk : Nat} (I : Inv X pins σ H s) (h1 : -(2 ^ 62) ≤ lo) (h2 : lo < 2 ^ 62) (h3 : -(2 ^ 62) ≤ hi) (h4 : hi < 2 ^ 62)
    (q : R (Itr lo (hi - lo).toNat) H) : wpAny (model X.prog X.w) X.A (pyIter (.ref s.heap.objs.size)) (PIE X pins σ tg R) E { s with heap := s.heap.push { cls := .type "range", data := .fields #[.int lo t, .int hi u, .int 1 v] }, toks := tk } := by
  refine wpAny_pyIter_range (IsRange.new ..) (small_one h1 h2 h3 h4) ?_
  have I1 : Inv X pins σ H { s with heap := s.heap.push { cls := .type "range", data := .fields #[.int lo t, .int hi u, .int 1 v] }, toks := tk } := I.kept fun b o e => Heap.get?_push_of_some _ e
  refine ⟨(s.heap.push { cls := .type "range", data := .fields #[.int lo t, .int hi u, .int 1 v] }).objs.size, [(s.heap.push { cls := .type "range", data := .fields #[.int lo t, .int hi u, .int 1 v] }).objs.size], _, _, H, rfl,
    I1.kept (t' := tk) fun b o e => Heap.get?_push_of_some _ e, turn_range _ lo (hi - lo).toNat, ?_, fun b hb => ?_, q⟩
  · have e1 : lo + ((0 : Nat) : Int) * 1 = lo := by simp
    have e2 : (((hi - lo).toNat : Nat) : Int) - ((0 : Nat) : Int) = Builtin.Range.rangeSize lo hi 1 := by rw [rangeSize_one]; split <;> omega
    show IsRangeIter _ _ (lo + ((0 : Nat) : Int) * 1) ((((hi - lo).toNat : Nat) : Int) - ((0 : Nat) : Int)) 1
    rw [e1, e2]
    exact Heap.get?_push_size _ rfl
  · have e : b = (s.heap.push { cls := .type "range", data := .fields #[.int lo t, .int hi u, .int 1 v] }).objs.size := by simpa using hb
    subst e
    exact I1.fpOk (Nat.le_refl _) (I1.hok.fresh (Nat.le_refl _))
def iRng1 (ta : TA) : TI := fun σ H R => ta σ H fun vs H1 => ∃ j : Int, vs = [.int j] ∧ -(2 ^ 62) ≤ j ∧ j < 2 ^ 62 ∧ R (Itr 0 j.toNat) H1
def iRng2 (ta : TA) : TI := fun σ H R => ta σ H fun vs H1 => ∃ i j : Int, vs = [.int i, .int j] ∧ (-(2 ^ 62) ≤ i ∧ i < 2 ^ 62 ∧ -(2 ^ 62) ≤ j ∧ j < 2 ^ 62) ∧ R (Itr i (j - i).toNat) H1
theorem pi_range1 {a : Expr} {ta : TA} {p pos : Pos} (hg : Gl X "range") (hm : X.mg "range" = none) (ha : PA X [a] ta) (hs : starEach [a] X.env = [(false, eval a X.env)] := by rfl) : PI X tg (.Call (.Name "range" p) [a] [] pos) (iRng1 ta) := by
  unfold PA at *; unfold PI at *
  exact by
    intro pins s σ H R I h
    refine Call_ (ld_blt I hg hm boot_range (PyProof.Rows.callWith_type1 (thn (ha pos pins s σ H _ I h) fun us s1 ⟨vs, H1, I1, r1, q1⟩ => ?_) hs rfl))
    obtain ⟨j, e, q1, q2, q⟩ := q1
    subst e
    cases r1 with
    | cons r rr =>
      cases rr
      obtain ⟨t, rfl⟩ := r
      exact call_range_1 (range_it I1 (by omega) (by omega) q1 q2 (by simpa using q))
theorem pi_range2 {a b : Expr} {ta : TA} {p pos : Pos} (hg : Gl X "range") (hm : X.mg "range" = none) (ha : PA X [a, b] ta) (hs : starEach [a, b] X.env = [(false, eval a X.env), (false, eval b X.env)] := by rfl) (hs2 : starEach [b] X.env = [(false, eval b X.env)] := by rfl) :
    PI X tg (.Call (.Name "range" p) [a, b] [] pos) (iRng2 ta) := by
  unfold PA at *; unfold PI at *
  exact by
    intro pins s σ H R I h
    refine Call_ (ld_blt I hg hm boot_range (PyProof.Rows.callWith_type1 (thn (ha pos pins s σ H _ I h) fun us s1 ⟨vs, H1, I1, r1, q1⟩ => ?_) (by rw [hs, hs2]) (by rw [hs2]; rfl)))
    obtain ⟨i, j, e, ⟨q1, q2, q3, q4⟩, q⟩ := q1
    subst e
    cases r1 with
    | cons r rr =>
      cases rr with
      | cons r' rr =>
        cases rr
        obtain ⟨t, rfl⟩ := r
        obtain ⟨t', rfl⟩ := r'
        exact call_range_2 (range_it I1 q1 q2 q3 q4 q)
def tFor (wi : TI) (g : TG) (tb : TS) : TS := fun D σ H => wi σ H fun J H1 => ∃ W : Nat → Nat → St → Hp → Prop, (∃ m, W 0 m σ H1) ∧ ∀ i m σ H, W i m σ H →
  (J.stop i H ∧ D.nx σ H) ∨ (J.go i H ∧ ∃ N : St → Hp → Prop, (∀ σ' H', N σ' H' → ∃ m', m' < m ∧ W (i + 1) m' σ' H') ∧ ∀ x H', J.yld i H x H' → g x σ H' fun σ2 H2 => tb { D with nx := N, ct := N, bk := D.nx } σ2 H2)
def pinsAt (fp : List Addr) (h : Heap) : List (Addr × Obj) := fp.filterMap fun b => (h.get? b).map fun o => (b, o)
theorem mem_pinsAt {fp : List Addr} {h : Heap} {b : Addr} {o : Obj} (hb : b ∈ fp) (e : h.get? b = some o) : (b, o) ∈ pinsAt fp h := List.mem_filterMap.mpr ⟨b, hb, by rw [e]; rfl⟩
theorem of_pinsAt {fp : List Addr} {h : Heap} {p : Addr × Obj} (hp : p ∈ pinsAt fp h) : p.1 ∈ fp ∧ h.get? p.1 = some p.2 := by
  obtain ⟨b, hb, e⟩ := List.mem_filterMap.mp hp
  cases q : h.get? b with
  | none => rw [q] at e; cases e
  | some o =>
    rw [q] at e
    have e' : (b, o) = p := Option.some.inj e
    subst e'
    exact ⟨hb, q⟩
theorem Inv.pinned {pins : List (Addr × Obj)} {σ : St} {H : Hp} {s : Shared} {fp : List Addr} (I : Inv X pins σ H s) (hf : ∀ b ∈ fp, FpOk X pins H b) (ho : ∀ b ∈ fp, ∃ o, s.heap.get? b = some o ∧ ∀ v, o.data ≠ .cell v) : Inv X (pins ++ pinsAt fp s.heap) σ H s :=
  I.pins_of fun p hp => (List.mem_append.mp hp).elim (fun z => I.pin p (List.mem_append_right _ z)) fun z => by
    obtain ⟨hb, e⟩ := of_pinsAt z
    obtain ⟨f0, f1, f2, _⟩ := hf p.1 hb
    obtain ⟨o, e', d⟩ := ho p.1 hb
    rw [e] at e'; cases e'
    exact ⟨e, f0, f1, f2, d⟩
theorem Inv.unpinned {pins pl : List (Addr × Obj)} {σ : St} {H : Hp} {s : Shared} (I : Inv X (pins ++ pl) σ H s) : Inv X pins σ H s := I.pins_of fun p hp => I.pin p (List.mem_append_right _ (List.mem_append_left _ hp))
theorem ps_for {iter : Expr} {body : List Stmt} {wi : TI} {g : TG} {tb : TS} {pos : Pos} (hp : PassesOwn (model X.prog X.w) X.A X.env X.xe) (hc : X.calm = true) (hi : PI X tg iter wi) (hg : PG X tg g) (hb : PSs X body tb)
    (hs : ∀ x, foldedSetIterable iter X.env x = pure x := by intro _; rfl) : PS X (.For tg iter body [] pos) (tFor wi g tb) := by
  unfold PS at *; unfold PSs at *; unfold PG at *; unfold PI at *
  exact by
    intro pins s σ H D I h
    refine wpAny_For (thn (hi pins s σ H _ I h) fun v s1 h1 => thn h1 fun itv s2 h2 => ?_) hs
    obtain ⟨it, fp, tn, J, H2, e, I2, T, st2, f2, W, ⟨m0, w0⟩, turn⟩ := h2
    subst e
    -- what stays true of the iterator's objects through the loop
    have stat : ∀ {H' : Hp}, (∀ b ∈ fp, H' b = none) → ∀ b ∈ fp, FpOk X pins H' b := fun hn b hb => ⟨hn b hb, (f2 b hb).2⟩
    refine codeAny_forLoop_any (fun n s' => ∃ i σ' H', Inv X pins σ' H' s' ∧ tn i s'.heap ∧ (∀ b ∈ fp, H' b = none) ∧ W i n σ' H') ?_ m0 ⟨0, σ, H2, I2, st2, fun b hb => (f2 b hb).1, w0⟩
    rintro n s3 ⟨i, σ3, H3, I3, st3, fr3, w3⟩
    rcases turn i n σ3 H3 w3 with ⟨stop, qn⟩ | ⟨go, N, hN, step⟩
    · refine wpAny_passesOwn hp (thn (T.done X rfl rfl rfl hc i pins s3 σ3 H3 X.xe I3 (stat fr3) st3 stop) fun r s4 ⟨hr, I4⟩ => ?_)
      subst hr
      exact wpAny_execs_nil ⟨σ3, H3, I4, qn⟩
    · refine wpAny_passesOwn hp (thn (T.item X rfl rfl rfl hc i pins s3 σ3 H3 X.xe I3 (stat fr3) st3 go) fun r s4 ⟨u, hr, h4⟩ => ?_)
      subst hr
      refine wpAny_passesOwn hp (thn h4 fun _ s5 ⟨x, H5, I5, r5, y5, st5, fr5⟩ => ?_)
      have I5' := I5.pinned (stat fr5) (T.obj _ _ st5)
      refine wpAny_passesOwn hp (thn (hg _ s5 σ3 H5 x u _ I5' r5 (step x H5 y5)) fun _ s6 ⟨σ6, H6, I6, q6⟩ => ?_)
      refine wpAny_passesOwn hp (thn (hb _ s6 σ6 H6 _ I6 q6) fun f s7 q7 => ?_)
      have again : ∀ {σ7 : St} {H7 : Hp}, Inv X (pins ++ pinsAt fp s5.heap) σ7 H7 s7 → N σ7 H7 → ∃ m, m < n ∧ ∃ i σ' H', Inv X pins σ' H' s7 ∧ tn i s7.heap ∧ (∀ b ∈ fp, H' b = none) ∧ W i m σ' H' := fun {σ7 H7} I7 n7 => by
        obtain ⟨m', hm, w7⟩ := hN σ7 H7 n7
        refine ⟨m', hm, i + 1, σ7, H7, I7.unpinned, T.keep _ _ _ st5 fun b hb o e => (I7.pin (b, o) (List.mem_append_right _ (List.mem_append_right _ (mem_pinsAt hb e)))).1, fun b hb => ?_, w7⟩
        obtain ⟨o, e, d⟩ := T.obj _ _ st5 b hb
        exact (I7.pin (b, o) (List.mem_append_right _ (List.mem_append_right _ (mem_pinsAt hb e)))).2.1
      cases f with
      | next => obtain ⟨σ7, H7, I7, n7⟩ := q7; exact again I7 n7
      | cont => obtain ⟨σ7, H7, I7, n7⟩ := q7; exact again I7 n7
      | brk => obtain ⟨σ7, H7, I7, q7⟩ := q7; exact ⟨σ7, H7, I7.unpinned, q7⟩
      | ret v => obtain ⟨x7, σ7, H7, I7, r7, q7⟩ := q7; exact ⟨x7, σ7, H7, I7.unpinned, r7, q7⟩
end
theorem for_list {K : PySem.W.Frag} {a : Addr} {xs : List V} {g : TG} {tb : TS} {D : Ends} {σ : St} {H : Hp} (Pv : Nat → St → Hp → Prop) (h0 : Pv 0 σ H) (hl : ∀ i σ H, i ≤ xs.length → Pv i σ H → SqL K H a xs)
    (hs : ∀ i x σ H, xs[i]? = some x → Pv i σ H → g x σ H fun σ2 H2 => tb { D with nx := Pv (i + 1), ct := Pv (i + 1), bk := D.nx } σ2 H2) (hd : ∀ σ H, Pv xs.length σ H → D.nx σ H) :
    ∃ W : Nat → Nat → St → Hp → Prop, (∃ m, W 0 m σ H) ∧ ∀ i m σ H, W i m σ H →
      ((Itl K a).stop i H ∧ D.nx σ H) ∨ ((Itl K a).go i H ∧ ∃ N : St → Hp → Prop, (∀ σ' H', N σ' H' → ∃ m', m' < m ∧ W (i + 1) m' σ' H') ∧ ∀ x H', (Itl K a).yld i H x H' → g x σ H' fun σ2 H2 => tb { D with nx := N, ct := N, bk := D.nx } σ2 H2) := by
  refine ⟨fun i m σ H => m = xs.length - i ∧ i ≤ xs.length ∧ Pv i σ H, ⟨xs.length, by simp, Nat.zero_le _, h0⟩, ?_⟩
  rintro i m σ H ⟨rfl, hi, p⟩
  have q := hl i σ H hi p
  by_cases hlt : i < xs.length
  · refine .inr ⟨⟨xs, xs[i], q, by simp [hlt]⟩, Pv (i + 1), fun σ' H' p' => ⟨xs.length - (i + 1), by omega, rfl, hlt, p'⟩, fun x H' y => ?_⟩
    obtain ⟨e, y⟩ := y
    subst e
    exact hs i x σ _ (y xs q) p
  · have e : i = xs.length := by omega
    subst e
    exact .inl ⟨⟨xs, q, Nat.le_refl _⟩, hd σ H p⟩
theorem for_tup {K : PySem.W.Frag} {a : Addr} {xs : List V} {g : TG} {tb : TS} {D : Ends} {σ : St} {H : Hp} (Pv : Nat → St → Hp → Prop) (h0 : Pv 0 σ H) (hl : ∀ i σ H, i ≤ xs.length → Pv i σ H → SqT K H a xs)
    (hs : ∀ i x σ H, xs[i]? = some x → Pv i σ H → g x σ H fun σ2 H2 => tb { D with nx := Pv (i + 1), ct := Pv (i + 1), bk := D.nx } σ2 H2) (hd : ∀ σ H, Pv xs.length σ H → D.nx σ H) :
    ∃ W : Nat → Nat → St → Hp → Prop, (∃ m, W 0 m σ H) ∧ ∀ i m σ H, W i m σ H →
      ((Itt K a).stop i H ∧ D.nx σ H) ∨ ((Itt K a).go i H ∧ ∃ N : St → Hp → Prop, (∀ σ' H', N σ' H' → ∃ m', m' < m ∧ W (i + 1) m' σ' H') ∧ ∀ x H', (Itt K a).yld i H x H' → g x σ H' fun σ2 H2 => tb { D with nx := N, ct := N, bk := D.nx } σ2 H2) := by
  refine ⟨fun i m σ H => m = xs.length - i ∧ i ≤ xs.length ∧ Pv i σ H, ⟨xs.length, by simp, Nat.zero_le _, h0⟩, ?_⟩
  rintro i m σ H ⟨rfl, hi, p⟩
  have q := hl i σ H hi p
  by_cases hlt : i < xs.length
  · refine .inr ⟨⟨xs, xs[i], q, by simp [hlt]⟩, Pv (i + 1), fun σ' H' p' => ⟨xs.length - (i + 1), by omega, rfl, hlt, p'⟩, fun x H' y => ?_⟩
    obtain ⟨e, y⟩ := y
    subst e
    exact hs i x σ _ (y xs q) p
  · have e : i = xs.length := by omega
    subst e
    exact .inl ⟨⟨xs, q, Nat.le_refl _⟩, hd σ H p⟩
theorem for_range {lo : Int} {n : Nat} {g : TG} {tb : TS} {D : Ends} {σ : St} {H : Hp} (Pv : Nat → St → Hp → Prop) (h0 : Pv 0 σ H)
    (hs : ∀ i σ H, i < n → Pv i σ H → g (.int (lo + i)) σ H fun σ2 H2 => tb { D with nx := Pv (i + 1), ct := Pv (i + 1), bk := D.nx } σ2 H2) (hd : ∀ σ H, Pv n σ H → D.nx σ H) :
    ∃ W : Nat → Nat → St → Hp → Prop, (∃ m, W 0 m σ H) ∧ ∀ i m σ H, W i m σ H →
      ((Itr lo n).stop i H ∧ D.nx σ H) ∨ ((Itr lo n).go i H ∧ ∃ N : St → Hp → Prop, (∀ σ' H', N σ' H' → ∃ m', m' < m ∧ W (i + 1) m' σ' H') ∧ ∀ x H', (Itr lo n).yld i H x H' → g x σ H' fun σ2 H2 => tb { D with nx := N, ct := N, bk := D.nx } σ2 H2) := by
  refine ⟨fun i m σ H => m = n - i ∧ i ≤ n ∧ Pv i σ H, ⟨n, by simp, Nat.zero_le _, h0⟩, ?_⟩
  rintro i m σ H ⟨rfl, hi, p⟩
  by_cases hlt : i < n
  · refine .inr ⟨hlt, Pv (i + 1), fun σ' H' p' => ⟨n - (i + 1), by omega, rfl, hlt, p'⟩, fun x H' y => ?_⟩
    obtain ⟨e, y⟩ := y
    subst e y
    exact hs i σ _ hlt p
  · have e : i = n := by omega
    subst e
    exact .inl ⟨Nat.le_refl _, hd σ H p⟩
end L2
namespace L2
open PySem PySem.Spec PyProof.Rows
abbrev R2 := V → V → Hp → VK → Prop
@[irreducible] def OpR (X : Cx) (f : Value → Value → Sem Value) (r : R2) : Prop :=
  ∀ (pins : List (Addr × Obj)) (s : Shared) (σ : St) (H : Hp) (x y : V) (v u : Value) (Q : VK), Inv X pins σ H s → RelV x v → RelV y u → r x y H Q →
    wpAny (model X.prog X.w) X.A (f v u) (EP X pins σ Q) X.xe s
@[irreducible] def UnR (X : Cx) (f : Value → Sem Value) (r : V → Hp → VK → Prop) : Prop :=
  ∀ (pins : List (Addr × Obj)) (s : Shared) (σ : St) (H : Hp) (x : V) (v : Value) (Q : VK), Inv X pins σ H s → RelV x v → r x H Q →
    wpAny (model X.prog X.w) X.A (f v) (EP X pins σ Q) X.xe s
@[irreducible] def CallR (X : Cx) (f : Value) (r : List V → Hp → VK → Prop) : Prop :=
  ∀ (pins : List (Addr × Obj)) (s : Shared) (σ : St) (H : Hp) (xs : List V) (us : List Value) (Q : VK), Inv X pins σ H s → Vals xs us → r xs H Q →
    wpAny (model X.prog X.w) X.A (call f us) (EP X pins σ Q) X.xe s
@[irreducible] def TruR (X : Cx) (r : V → Hp → (Bool → Hp → Prop) → Prop) : Prop :=
  ∀ (pins : List (Addr × Obj)) (s : Shared) (σ : St) (H : Hp) (x : V) (v : Value) (Q : Bool → Hp → Prop), Inv X pins σ H s → RelV x v → r x H Q →
    wpAny (model X.prog X.w) X.A (truthy v) (TP X pins σ Q) X.xe s
def tOp (r : R2) (ta tb : TE) : TE := fun σ H Q => ta σ H fun x H1 => tb σ H1 fun y H2 => r x y H2 Q
def tUn (r : V → Hp → VK → Prop) (ta : TE) : TE := fun σ H Q => ta σ H fun x H1 => r x H1 Q
def rI (C : Int → Int → Prop) (g : Int → Int → V) : R2 := fun x y H Q => ∃ i j, x = .int i ∧ y = .int j ∧ C i j ∧ Q (g i j) H
def rI0 (g : Int → Int → V) : R2 := fun x y H Q => ∃ i j, x = .int i ∧ y = .int j ∧ Q (g i j) H
def rU (g : Int → V) : V → Hp → VK → Prop := fun x H Q => ∃ i, x = .int i ∧ Q (g i) H
section
variable {X : Cx} {a b c : Expr} {ta tb tc : TE} {pos : Pos}
theorem binT (ha : PE X a ta) (hb : PE X b tb) {pins : List (Addr × Obj)} {s : Shared} {σ : St} {H : Hp} {R : V → V → Hp → Prop} (I : Inv X pins σ H s)
    (h : ta σ H fun x H1 => tb σ H1 fun y H2 => R x y H2) {Q : Value → Shared → Prop} {f : Value → Value → Sem Value}
    (hf : ∀ v u s2 x y H2, Inv X pins σ H2 s2 → RelV x v → RelV y u → R x y H2 → wpAny (model X.prog X.w) X.A (f v u) Q X.xe s2) :
    wpAny (model X.prog X.w) X.A (eval a X.env) (fun v s₁ => wpAny (model X.prog X.w) X.A (eval b X.env) (fun u s₂ => wpAny (model X.prog X.w) X.A (f v u) Q X.xe s₂) X.xe s₁) X.xe s := by
  unfold PE at *
  exact by
    refine thn (ha pins s σ H _ I h) fun v s1 ⟨x, H1, I1, r1, q1⟩ => ?_
    refine thn (hb pins s1 σ H1 _ I1 q1) fun u s2 ⟨y, H2, I2, r2, q2⟩ => ?_
    exact hf v u s2 x y H2 I2 r1 r2 q2
theorem pe_op {op : Operator} {r : R2} (ho : OpR X (binaryOp op) r) (ha : PE X a ta) (hb : PE X b tb) : PE X (.BinOp a op b pos) (tOp r ta tb) := by
  unfold PE; unfold OpR at ho
  exact by
    intro pins s σ H Q I h
    exact wpAny_BinOp (binT ha hb I h fun v u s2 x y H2 I2 rx ry q => ho pins s2 σ H2 x y v u Q I2 rx ry q)
theorem pe_un {op : UnaryOp} {r : V → Hp → VK → Prop} (ho : UnR X (unaryOp op) r) (ha : PE X a ta) : PE X (.UnaryOp op a pos) (tUn r ta) := by
  unfold PE at *; unfold UnR at *
  exact by
    intro pins s σ H Q I h
    exact UnaryOp_ (thn (ha pins s σ H _ I h) fun v s1 ⟨x, H1, I1, r1, q1⟩ => ho pins s1 σ H1 x v Q I1 r1 q1)
theorem opI {f : Value → Value → Sem Value} {C : Int → Int → Prop} {g : Int → Int → Int}
    (rule : ∀ (i j : Int) (t u : Tok) (s : Shared) (Q : Value → Shared → Prop) (E : Value → Shared → Prop), C i j → Q (.int (g i j) s.toks) { s with toks := s.toks + 1 } → wpAny (model X.prog X.w) X.A (f (.int i t) (.int j u)) Q E s) :
    OpR X f (rI C fun i j => .int (g i j)) := by
  unfold OpR at *
  exact by
    intro pins s σ H x y v u Q I rx ry h
    obtain ⟨i, j, rfl, rfl, hc, q⟩ := h
    obtain ⟨t, rfl⟩ := rx
    obtain ⟨t', rfl⟩ := ry
    exact rule i j t t' s _ _ hc ⟨.int (g i j), H, I.tok _, ⟨_, rfl⟩, q⟩
theorem opI0 {f : Value → Value → Sem Value} {g : Int → Int → Int}
    (rule : ∀ (i j : Int) (t u : Tok) (s : Shared) (Q : Value → Shared → Prop) (E : Value → Shared → Prop), Q (.int (g i j) s.toks) { s with toks := s.toks + 1 } → wpAny (model X.prog X.w) X.A (f (.int i t) (.int j u)) Q E s) :
    OpR X f (rI0 fun i j => .int (g i j)) := by
  unfold OpR at *
  exact by
    intro pins s σ H x y v u Q I rx ry h
    obtain ⟨i, j, rfl, rfl, q⟩ := h
    obtain ⟨t, rfl⟩ := rx
    obtain ⟨t', rfl⟩ := ry
    exact rule i j t t' s _ _ ⟨.int (g i j), H, I.tok _, ⟨_, rfl⟩, q⟩
theorem opB0 {f : Value → Value → Sem Value} {g : Int → Int → Bool}
    (rule : ∀ (i j : Int) (t u : Tok) (s : Shared) (Q : Value → Shared → Prop) (E : Value → Shared → Prop), Q (.bool (g i j)) s → wpAny (model X.prog X.w) X.A (f (.int i t) (.int j u)) Q E s) :
    OpR X f (rI0 fun i j => .bl (g i j)) := by
  unfold OpR at *
  exact by
    intro pins s σ H x y v u Q I rx ry h
    obtain ⟨i, j, rfl, rfl, q⟩ := h
    obtain ⟨t, rfl⟩ := rx
    obtain ⟨t', rfl⟩ := ry
    exact rule i j t t' s _ _ ⟨.bl (g i j), H, I, rfl, q⟩
def CDiv (i j : Int) : Prop := 0 < j ∧ j < 1073741824
def CPow (i j : Int) : Prop := 0 ≤ j ∧ j ≤ 1000000 ∧ i.natAbs < 2 ^ 64
def CMul (i j : Int) : Prop := (-(2 ^ 64) < i ∧ i < 2 ^ 64) ∨ (-(2 ^ 64) < j ∧ j < 2 ^ 64)
theorem CMul.ok {i j : Int} (h : CMul i j) : IntMulOk i j := by
  rcases h with ⟨h1, h2⟩ | ⟨h1, h2⟩
  · exact .of_left (intBits_le_64 h1 h2)
  · exact .of_right (intBits_le_64 h1 h2)
theorem op_add : OpR X (binaryOp .Add) (rI0 fun i j => .int (i + j)) := by
  first
  | exact (opI0 fun _ _ _ _ _ _ _ q => add_int q)
  | (unfold OpR at *; exact (opI0 fun _ _ _ _ _ _ _ q => add_int q))
theorem op_mul : OpR X (binaryOp .Mult) (rI CMul fun i j => .int (i * j)) := by
  first
  | exact (opI fun _ _ _ _ _ _ _ hc q => mul_int q hc.ok)
  | (unfold OpR at *; exact (opI fun _ _ _ _ _ _ _ hc q => mul_int q hc.ok))
theorem op_fdiv : OpR X (binaryOp .FloorDiv) (rI CDiv fun i j => .int (i / j)) := opI fun i j _ _ _ _ _ hc q => by
  have h1 : (0 : Int) < j := hc.1
  have h2 : j < 1073741824 := hc.2
  exact floordiv_int (by omega) (by rw [Int.fdiv_eq_ediv_of_nonneg i (by omega)]; exact q) (.inl (PyProof.noPylong_small (by omega)))
theorem op_mod : OpR X (binaryOp .Mod) (rI (fun _ j => 0 < j) fun i j => .int (i % j)) := opI fun i j _ _ _ _ _ hc q => by
  have h1 : (0 : Int) < j := hc
  exact mod_int' (by omega) (by rw [Int.fmod_eq_emod_of_nonneg i (by omega)]; exact q)
theorem unI {f : Value → Sem Value} {g : Int → Int}
    (rule : ∀ (i : Int) (t : Tok) (s : Shared) (Q : Value → Shared → Prop) (E : Value → Shared → Prop), Q (.int (g i) s.toks) { s with toks := s.toks + 1 } → wpAny (model X.prog X.w) X.A (f (.int i t)) Q E s) :
    UnR X f (rU fun i => .int (g i)) := by
  unfold UnR at *
  exact by
    intro pins s σ H x v Q I rx h
    obtain ⟨i, rfl, q⟩ := h
    obtain ⟨t, rfl⟩ := rx
    exact rule i t s _ _ ⟨.int (g i), H, I.tok _, ⟨_, rfl⟩, q⟩
theorem un_neg : UnR X (unaryOp .USub) (rU fun i => .int (-i)) := by
  first
  | exact (unI fun _ _ _ _ _ q => neg_int q)
  | (unfold UnR at *; exact (unI fun _ _ _ _ _ q => neg_int q))
end
def scal : V → V → Bool
  | .non, .non => true | .non, .int _ => true | .int _, .non => true | .non, .bl _ => true | .bl _, .non => true | .non, .str _ => true | .str _, .non => true
  | .int _, .int _ => true | .bl _, .bl _ => true | .str _, .str _ => true | .byt _, .byt _ => true
  | .int _, .str _ => true | .str _, .int _ => true | .bl _, .str _ => true | .str _, .bl _ => true
  | _, _ => false
def rEq : R2 := fun x y H Q => scal x y = true ∧ Q (.bl (decide (x = y))) H
def rNe : R2 := fun x y H Q => scal x y = true ∧ Q (.bl (!decide (x = y))) H
theorem dec_int {i j : Int} : decide (V.int i = V.int j) = (i == j) := by
  rw [Bool.eq_iff_iff]
  simp
theorem dec_bl {i j : Bool} : decide (V.bl i = V.bl j) = (i == j) := by
  rw [Bool.eq_iff_iff]
  simp
theorem dec_str {i j : Str} : decide (V.str i = V.str j) = (i == j) := by
  rw [Bool.eq_iff_iff]
  simp
theorem dec_byt {i j : Array UInt8} : decide (V.byt i = V.byt j) = (i.toList == j.toList) := by
  rw [Bool.eq_iff_iff]
  cases i
  cases j
  simp
section
variable {X : Cx} {a b c : Expr} {ta tb tc : TE} {pos : Pos}
theorem fin_bl {pins : List (Addr × Obj)} {σ : St} {H : Hp} {s : Shared} {Q : VK} {k k' : Bool} (I : Inv X pins σ H s) (q : Q (.bl k) H) (e : k = k') : EP X pins σ Q (.bool k') s := by
  subst e
  exact ⟨.bl k, H, I, rfl, q⟩
theorem op_eq : OpR X (compareOp .Eq) rEq := by
  unfold OpR at *
  exact by
    intro pins s σ H x y v u Q I rx ry h
    obtain ⟨hs, q⟩ := h
    cases x with
    | non =>
      cases rx
      cases y with
      | non => cases ry; exact PySem.EqNone.eq_none_none (fin_bl I q (by simp))
      | bl j => cases ry; exact PySem.EqNone.eq_none_bool (fin_bl I q (by simp))
      | int j => obtain ⟨t', rfl⟩ := ry; exact PySem.EqNone.eq_none_int (fin_bl I q (by simp))
      | str j => obtain ⟨t', rfl⟩ := ry; exact PySem.EqNone.eq_none_str (fin_bl I q (by simp))
      | _ => exact absurd (show false = true from hs) Bool.false_ne_true
    | bl i =>
      cases rx
      cases y with
      | non => cases ry; exact PySem.EqNone.eq_bool_none (fin_bl I q (by simp))
      | bl j => cases ry; exact eq_bool (fin_bl I q dec_bl)
      | str j => obtain ⟨t', rfl⟩ := ry; exact PySem.EqMixed.eq_bool_str (fin_bl I q (by simp))
      | _ => exact absurd (show false = true from hs) Bool.false_ne_true
    | int i =>
      obtain ⟨t, rfl⟩ := rx
      cases y with
      | non => cases ry; exact PySem.EqNone.eq_int_none (fin_bl I q (by simp))
      | int j => obtain ⟨t', rfl⟩ := ry; exact eq_int (fin_bl I q dec_int)
      | str j => obtain ⟨t', rfl⟩ := ry; exact PySem.EqMixed.eq_int_str (fin_bl I q (by simp))
      | _ => exact absurd (show false = true from hs) Bool.false_ne_true
    | str i =>
      obtain ⟨t, rfl⟩ := rx
      cases y with
      | non => cases ry; exact PySem.EqNone.eq_str_none (fin_bl I q (by simp))
      | bl j => cases ry; exact PySem.EqMixed.eq_str_bool (fin_bl I q (by simp))
      | int j => obtain ⟨t', rfl⟩ := ry; exact PySem.EqMixed.eq_str_int (fin_bl I q (by simp))
      | str j => obtain ⟨t', rfl⟩ := ry; exact eq_str (fin_bl I q dec_str)
      | _ => exact absurd (show false = true from hs) Bool.false_ne_true
    | byt i =>
      obtain ⟨t, rfl⟩ := rx
      cases y with
      | byt j => obtain ⟨t', rfl⟩ := ry; exact PySem.W.eq_bytes (fin_bl I q dec_byt)
      | _ => exact absurd (show false = true from hs) Bool.false_ne_true
    | _ => cases y <;> exact absurd (show false = true from hs) Bool.false_ne_true
theorem op_ne : OpR X (compareOp .NotEq) rNe := by
  unfold OpR at *
  exact by
    intro pins s σ H x y v u Q I rx ry h
    obtain ⟨hs, q⟩ := h
    cases x with
    | non =>
      cases rx
      cases y with
      | non => cases ry; exact PySem.EqNone.ne_none_none (fin_bl I q (by simp))
      | bl j => cases ry; exact PySem.EqNone.ne_none_bool (fin_bl I q (by simp))
      | int j => obtain ⟨t', rfl⟩ := ry; exact PySem.EqNone.ne_none_int (fin_bl I q (by simp))
      | str j => obtain ⟨t', rfl⟩ := ry; exact PySem.EqNone.ne_none_str (fin_bl I q (by simp))
      | _ => exact absurd (show false = true from hs) Bool.false_ne_true
    | bl i =>
      cases rx
      cases y with
      | non => cases ry; exact PySem.EqNone.ne_bool_none (fin_bl I q (by simp))
      | bl j => cases ry; exact ne_bool (fin_bl I q (congrArg not dec_bl))
      | str j => obtain ⟨t', rfl⟩ := ry; exact PySem.EqMixed.ne_bool_str (fin_bl I q (by simp))
      | _ => exact absurd (show false = true from hs) Bool.false_ne_true
    | int i =>
      obtain ⟨t, rfl⟩ := rx
      cases y with
      | non => cases ry; exact PySem.EqNone.ne_int_none (fin_bl I q (by simp))
      | int j => obtain ⟨t', rfl⟩ := ry; exact ne_int (fin_bl I q (congrArg not dec_int))
      | str j => obtain ⟨t', rfl⟩ := ry; exact PySem.EqMixed.ne_int_str (fin_bl I q (by simp))
      | _ => exact absurd (show false = true from hs) Bool.false_ne_true
    | str i =>
      obtain ⟨t, rfl⟩ := rx
      cases y with
      | non => cases ry; exact PySem.EqNone.ne_str_none (fin_bl I q (by simp))
      | bl j => cases ry; exact PySem.EqMixed.ne_str_bool (fin_bl I q (by simp))
      | int j => obtain ⟨t', rfl⟩ := ry; exact PySem.EqMixed.ne_str_int (fin_bl I q (by simp))
      | str j => obtain ⟨t', rfl⟩ := ry; exact ne_str (fin_bl I q (congrArg not dec_str))
      | _ => exact absurd (show false = true from hs) Bool.false_ne_true
    | byt i =>
      obtain ⟨t, rfl⟩ := rx
      cases y with
      | byt j => obtain ⟨t', rfl⟩ := ry; exact PySem.W.ne_bytes (fin_bl I q (congrArg not dec_byt))
      | _ => exact absurd (show false = true from hs) Bool.false_ne_true
    | _ => cases y <;> exact absurd (show false = true from hs) Bool.false_ne_true
theorem op_lt : OpR X (compareOp .Lt) (rI0 fun i j => .bl (decide (i < j))) := by
  first
  | exact (opB0 fun _ _ _ _ _ _ _ q => lt_int q)
  | (unfold OpR at *; exact (opB0 fun _ _ _ _ _ _ _ q => lt_int q))
theorem op_le : OpR X (compareOp .LtE) (rI0 fun i j => .bl (decide (i ≤ j))) := by
  first
  | exact (opB0 fun _ _ _ _ _ _ _ q => le_int q)
  | (unfold OpR at *; exact (opB0 fun _ _ _ _ _ _ _ q => le_int q))
theorem op_ge : OpR X (compareOp .GtE) (rI0 fun i j => .bl (decide (j ≤ i))) := by
  first
  | exact (opB0 fun _ _ _ _ _ _ _ q => ge_int q)
  | (unfold OpR at *; exact (opB0 fun _ _ _ _ _ _ _ q => ge_int q))
theorem OpR.or {f : Value → Value → Sem Value} {r r' : R2} (h : OpR X f r) (h' : OpR X f r') : OpR X f (fun x y H Q => r x y H Q ∨ r' x y H Q) := by
  unfold OpR at *
  exact by
    intro pins s σ H x y v u Q I rx ry q
    rcases q with q | q
    · exact h pins s σ H x y v u Q I rx ry q
    · exact h' pins s σ H x y v u Q I rx ry q
theorem nomark (b : Expr) {op : CmpOp} (h : op ≠ .In := by decide) (h2 : op ≠ .NotIn := by decide) : behindInMarks op b = false := by
  have e1 : (op == CmpOp.In) = false := by cases op <;> first | rfl | exact absurd rfl h
  have e2 : (op == CmpOp.NotIn) = false := by cases op <;> first | rfl | exact absurd rfl h2
  cases b <;> simp [behindInMarks, e1, e2]
theorem pe_cmpR {op : CmpOp} {r : R2} (ho : OpR X (compareOp op) r) (ha : PE X a ta) (hb : PE X b tb) (hm : behindInMarks op b = false) : PE X (.Compare a [op] [b] pos) (tOp r ta tb) := by
  unfold PE; unfold OpR at ho
  exact by
    intro pins s σ H Q I h
    exact wpAny_Compare1 (binT ha hb I h fun v u s2 x y H2 I2 rx ry q => ho pins s2 σ H2 x y v u Q I2 rx ry q) hm
def tTest (t : TE) : TT := fun σ H Q => t σ H fun x H' => ∃ k, x = .bl k ∧ Q k H'
theorem pt_cmpR {op : CmpOp} {r : R2} (ho : OpR X (compareOp op) r) (ha : PE X a ta) (hb : PE X b tb) (hm : behindInMarks op b = false) : PT X (.Compare a [op] [b] pos) (tTest (tOp r ta tb)) := by
  unfold PE at *; unfold PT at *; unfold OpR at *
  exact by
    intro pins s σ H Q I h
    refine wpAny_isTrue_Compare1 (thn (ha pins s σ H _ I h) fun v s1 ⟨x, H1, I1, r1, q1⟩ => thn (hb pins s1 σ H1 _ I1 q1) fun u s2 ⟨y, H2, I2, r2, q2⟩ =>
      thn (ho pins s2 σ H2 x y v u _ I2 r1 r2 q2) fun c s3 ⟨z, H3, I3, r3, k, e, q3⟩ => ?_) hm
    subst e
    cases r3
    exact wpAny_truthy_bool ⟨H3, I3, q3⟩
def tChain (r r' : R2) (ta tb tc : TE) : TE := fun σ H Q => ta σ H fun x H1 => tb σ H1 fun y H2 => r x y H2 fun z H3 => ∃ k, z = .bl k ∧
  (if k = true then tc σ H3 fun w' H4 => r' y w' H4 Q else Q (.bl false) H3)
theorem pe_chain {op op' : CmpOp} {r r' : R2} (ho : OpR X (compareOp op) r) (ho' : OpR X (compareOp op') r') (ha : PE X a ta) (hb : PE X b tb) (hc : PE X c tc)
    (hm : lastMarks [op, op'] [b, c] = false := by with_unfolding_all rfl) : PE X (.Compare a [op, op'] [b, c] pos) (tChain r r' ta tb tc) := by
  unfold PE at *; unfold OpR at *
  exact by
    intro pins s σ H Q I h
    refine Compare_chain (thn (ha pins s σ H _ I h) fun v s1 ⟨x, H1, I1, r1, q1⟩ => chain_link (thn (hb pins s1 σ H1 _ I1 q1) fun u s2 ⟨y, H2, I2, r2, q2⟩ =>
      thn (ho pins s2 σ H2 x y v u _ I2 r1 r2 q2) fun d s3 ⟨z, H3, I3, r3, k, e, q3⟩ => ?_)) hm
    subst e
    cases r3
    refine wpAny_truthy_bool ?_
    cases k with
    | false => exact ite_ff ⟨.bl false, H3, I3, rfl, q3⟩
    | true => exact ite_tt (chain_last (thn (hc pins s3 σ H3 _ I3 q3) fun w' s4 ⟨z', H4, I4, r4, q4⟩ => ho' pins s4 σ H4 y z' u w' Q I4 r2 r4 q4))
theorem pt_chain {op op' : CmpOp} {r r' : R2} (ho : OpR X (compareOp op) r) (ho' : OpR X (compareOp op') r') (ha : PE X a ta) (hb : PE X b tb) (hc : PE X c tc)
    (hm : lastMarks [op, op'] [b, c] = false := by with_unfolding_all rfl) : PT X (.Compare a [op, op'] [b, c] pos) (tTest (tChain r r' ta tb tc)) := by
  unfold PE at *; unfold PT at *; unfold OpR at *
  exact by
    intro pins s σ H Q I h
    refine isTrue_chain (thn (ha pins s σ H _ I h) fun v s1 ⟨x, H1, I1, r1, q1⟩ => test_link (thn (hb pins s1 σ H1 _ I1 q1) fun u s2 ⟨y, H2, I2, r2, q2⟩ =>
      thn (ho pins s2 σ H2 x y v u _ I2 r1 r2 q2) fun d s3 ⟨z, H3, I3, r3, k, e, q3⟩ => ?_)) hm
    subst e
    cases r3
    refine wpAny_truthy_bool ?_
    cases k with
    | false =>
      obtain ⟨k', e', q'⟩ := q3
      cases e'
      exact ite_ff ⟨H3, I3, q'⟩
    | true =>
      refine ite_tt (test_last (thn (hc pins s3 σ H3 _ I3 q3) fun w' s4 ⟨z', H4, I4, r4, q4⟩ => thn (ho' pins s4 σ H4 y z' u w' _ I4 r2 r4 q4) fun d' s5 ⟨z2, H5, I5, r5, k2, e2, q5⟩ => ?_))
      subst e2
      cases r5
      exact wpAny_truthy_bool ⟨H5, I5, q5⟩
def TruV (K : PySem.W.Frag) (x : V) (H : Hp) (k : Bool) : Prop :=
  match x with
  | .non => k = false
  | .bl b => k = b
  | .int i => k = (i != 0)
  | .str y => y.length ≤ sizeLine ∧ k = ((y.length : Int) != 0)
  | .byt y => y.size ≤ sizeLine ∧ k = ((y.size : Int) != 0)
  | .ref p => (∃ xs, SqL K H p xs ∧ k = !xs.isEmpty) ∨ (∃ xs, SqT K H p xs ∧ k = !xs.isEmpty) ∨ ∃ kvs, H p = some (.dK kvs) ∧ k = !kvs.isEmpty
  | _ => False
theorem isEmpty_kv {κ : Type} {kvs : List (κ × V)} {vs : List (κ × Value)} (r : KV kvs vs) : (!vs.isEmpty) = !kvs.isEmpty := by
  cases r <;> rfl
theorem isEmpty_of {xs : List V} {its : List Value} (r : Vals xs its) : (!its.toArray.isEmpty) = !xs.isEmpty := by
  cases r <;> simp
theorem line63 : (sizeLine : Nat) < 2 ^ 63 := by rw [sizeLine_eq]; decide
theorem tru_ok : TruR X (fun x H Q => ∃ k, TruV X.K x H k ∧ Q k H) := by
  unfold TruR at *
  exact by
    intro pins s σ H x v Q I rx h
    obtain ⟨k, e, q⟩ := h
    have hl := line63
    have hs : sizeLine = 16777216 := sizeLine_eq
    cases x with
    | non =>
      cases rx
      have e' : k = false := e
      subst e'
      exact truthy_none ⟨H, I, q⟩
    | bl b =>
      cases rx
      have e' : k = b := e
      subst e'
      exact wpAny_truthy_bool ⟨H, I, q⟩
    | int i =>
      obtain ⟨t, rfl⟩ := rx
      have e' : k = (i != 0) := e
      subst e'
      exact PySem.P.truthy_int ⟨H, I, q⟩
    | str y =>
      obtain ⟨t, rfl⟩ := rx
      obtain ⟨hy, e'⟩ : y.length ≤ sizeLine ∧ k = ((y.length : Int) != 0) := e
      subst e'
      exact PySem.P.truthy_str (by omega) ⟨H, I.tok _, q⟩
    | byt y =>
      obtain ⟨t, rfl⟩ := rx
      obtain ⟨hy, e'⟩ : y.size ≤ sizeLine ∧ k = ((y.size : Int) != 0) := e
      subst e'
      exact PySem.W.truthy_bytes (by omega) ⟨H, I.tok _, q⟩
    | ref p =>
      cases rx
      have e' : (∃ xs, SqL X.K H p xs ∧ k = !xs.isEmpty) ∨ (∃ xs, SqT X.K H p xs ∧ k = !xs.isEmpty) ∨ ∃ kvs, H p = some (.dK kvs) ∧ k = !kvs.isEmpty := e
      rcases e' with ⟨xs, hx, e'⟩ | ⟨xs, hx, e'⟩ | ⟨kvs, hx, e'⟩
      · subst e'
        obtain ⟨its, r, pl, hz⟩ := I.list hx
        have hlen := r.length
        exact wpAny_truthy_list pl.isList (by simp only [List.size_toArray]; omega) ⟨H, I.tok _, by rw [isEmpty_of r]; exact q⟩
      · subst e'
        obtain ⟨its, r, pl, hz⟩ := I.tuple hx
        have hlen := r.length
        exact truthy_tuple pl (by simp only [List.size_toArray]; omega) ⟨H, I.tok _, by rw [isEmpty_of r]; exact q⟩
      · subst e'
        obtain ⟨hz, hS, vs, r, m⟩ : kvs.length ≤ sizeLine ∧ (p == sysModules) = false ∧ ∃ vs, KV kvs vs ∧ s.heap.DictOf (mixKind X.prog X.w) p vs := I.hok p _ hx
        have hlen : kvs.length = vs.length := Paired.length r
        exact wpAny_truthy_dict hS m (by omega) ⟨H, I.tok _, by rw [isEmpty_kv r]; exact q⟩
    | _ => exact (show False from e).elim
theorem pt_truth (ha : PE X a ta) (he : ∀ whole, isTrue a X.env whole = (do let v ← whole; standAt a.pos; holding [v] (truthy v))) :
    PT X a (fun σ H Q => ta σ H fun x H' => ∃ k, TruV X.K x H' k ∧ Q k H') := by
  unfold PE at *; unfold PT at *; have tru_ok := tru_ok (X := X); unfold TruR at tru_ok
  exact by
    intro pins s σ H Q I h
    exact isTrue_plain (thn (ha pins s σ H _ I h) fun v s1 ⟨x, H1, I1, r1, q1⟩ => tru_ok pins s1 σ H1 x v Q I1 r1 q1) (he _)
theorem vals1 {x : V} {us : List Value} (r : Vals [x] us) : ∃ u, us = [u] ∧ RelV x u := by
  cases r with
  | cons r1 r2 => cases r2; exact ⟨_, rfl, r1⟩
theorem vals2 {x y : V} {us : List Value} (r : Vals [x, y] us) : ∃ u w', us = [u, w'] ∧ RelV x u ∧ RelV y w' := by
  cases r with
  | cons r1 r2 =>
    cases r2 with
    | cons r3 r4 => cases r4; exact ⟨_, _, rfl, r1, r3⟩
theorem call_min2 (hc : X.calm = true) : CallR X (.builtin "min") (fun xs H Q => ∃ i j, xs = [.int i, .int j] ∧ Q (.int (if j < i then j else i)) H) := by
  unfold CallR at *
  exact by
    intro pins s σ H xs us Q I r h
    obtain ⟨i, j, rfl, q⟩ := h
    obtain ⟨u, w', rfl, ⟨t, rfl⟩, ⟨t', rfl⟩⟩ := vals2 r
    refine min_two_ints (I.ok.hd hc) fun h' tk k => ⟨_, H, I.kept k, ?_, q⟩
    by_cases hj : j < i
    · rw [if_pos hj, if_pos hj]; exact ⟨_, rfl⟩
    · rw [if_neg hj, if_neg hj]; exact ⟨_, rfl⟩
end
end L2
namespace L2
open PySem PySem.Spec PyProof.Rows
structure ObjM (h : Heap) (x dx C : Addr) (mA : Str → Option Value) : Prop where
  obj : h.get? x = some (PySem.W.instObj C dx)
  ns : h.Ns1 dx mA
  ne : dx ≠ x
theorem lookIn_ns {h : Heap} {dx : Addr} {mA : Str → Option Value} (n : h.Ns1 dx mA) : ∃ od, h.get? dx = some od ∧ ∀ name, PySem.W.lookIn name od = some (mA name) := by
  obtain ⟨o, es, ep, ho, hd, hk, _, hm⟩ := n
  refine ⟨o, ho, fun name => ?_⟩
  have e := hm name
  unfold nsFind findBy at e
  rw [← Array.find?_toList] at e
  unfold PySem.W.lookIn
  rw [hd]
  dsimp only
  split
  · rename_i y q
    rw [q] at e
    exact congrArg some e
  · rename_i q
    rw [q] at e
    have a : es.toList.any (·.refKey) = false := by
      rw [List.any_eq_false]
      intro y hy
      obtain ⟨z, t, hkey⟩ := hk y (Array.mem_toList_iff.mp hy)
      simp [DictEntry.refKey, hkey]
    have a' : ¬ es.toList.any (·.refKey) = true := by rw [a]; exact Bool.false_ne_true
    rw [if_neg a']
    exact congrArg some e
theorem ObjM.look {h : Heap} {x dx C : Addr} {mA : Str → Option Value} (I : ObjM h x dx C mA) : ∃ od, PySem.W.InstAt h x (PySem.W.instObj C dx) C (some od) ∧ ∀ name, PySem.W.lookIn name od = some (mA name) :=
  let ⟨od, ho, hl⟩ := lookIn_ns I.ns
  ⟨od, ⟨I.obj, rfl, rfl, ho⟩, hl⟩
section
variable {prog : Program} {w : World} {A : Around} {E : Value → Shared → Prop} {s : Shared} {K : PySem.W.Frag} {x dx C f : Addr} {mA : Str → Option Value} {name : Str} {v : Value}
end
theorem RelO.some_of {v : V} {o : Option Value} (r : RelO (some v) o) : ∃ u, o = some u ∧ RelV v u := by
  cases o with
  | none => exact (show False from r).elim
  | some u => exact ⟨u, rfl, r⟩
section
variable {P : Program} {w : World} {H H' : Hp} {h h' : Heap} {a C dx : Addr} {fs fs' : List (Str × V)}
theorem ins_get (hok : HOk P w H h) (e : H a = some (.ins C dx fs)) : ∃ mA, ObjM h a dx C mA ∧ (∀ f, RelO (fs.lookup f) (mA f)) ∧ PySem.Within mA (fs.map (·.1)) ∧ fs.length ≤ 1000 ∧ H dx = some (.own a) := by
  obtain ⟨d, z, ne, ob, mA, n, r, q⟩ := (show ObjOk P w H h a (.ins C dx fs) from hok a _ e)
  exact ⟨mA, ⟨ob, n, ne⟩, r, q, z, d⟩
end
structure Cls (K : PySem.W.Frag) (C : Addr) : Prop where
  pg : PySem.W.plainGet K C Str.empty = true
  hd : PySem.W.hasDictIn K C = true
  po : PySem.W.plainOver K C = true
  sa : PySem.W.findIn K (.ref C) "__setattr__" = some (some (.builtin "object.__setattr__"))
theorem Cls.get {K : PySem.W.Frag} {C : Addr} (c : Cls K C) (f : Str) : PySem.W.plainGet K C f = true := c.pg
section
variable {X : Cx} {pins : List (Addr × Obj)} {σ : St} {H : Hp} {s : Shared} {a C dx : Addr} {fs : List (Str × V)} {f : Str} {v : V} {A : Around} {E : Value → Shared → Prop}
end
section
variable {X : Cx} {o e value : Expr} {f : Str} {pos pos' tpos : Pos} {ta tv : TE}
end
section
variable {X : Cx} {pins : List (Addr × Obj)} {σ : St} {H : Hp} {s : Shared} {A : Around} {E : Value → Shared → Prop} {Q : Value → Shared → Prop} {c : Value} {b : Bool}
inductive TyOf (K : PySem.W.Frag) (H : Hp) : V → Value → Prop where
  | non : TyOf K H .non (.type "NoneType")
  | bl (x : Bool) : TyOf K H (.bl x) (.type "bool")
  | int (i : Int) : TyOf K H (.int i) (.type "int")
  | str (x : Str) : TyOf K H (.str x) (.type "str")
  | flt (x : UInt64) : TyOf K H (.flt x) (.type "float")
  | lst {a : Addr} {xs : List V} (e : H a = some (.lst xs)) : TyOf K H (.ref a) (.type "list")
  | frz {a : Addr} {o : Obj} {xs : List V} (e : H a = some (.frz o (.lst xs))) : TyOf K H (.ref a) (.type "list")
  | tup {a : Addr} {xs : List V} (e : H a = some (.tup xs)) : TyOf K H (.ref a) (.type "tuple")
  | dK {a : Addr} {kvs : List (Key × V)} (e : H a = some (.dK kvs)) : TyOf K H (.ref a) (.type "dict")
  | dT {a : Addr} {kvs : List (List Key × V)} (e : H a = some (.dT kvs)) : TyOf K H (.ref a) (.type "dict")
  | ins {a C dx : Addr} {fs : List (Str × V)} (e : H a = some (.ins C dx fs)) (cl : Cls K C) (ha : PySem.W.findIn K (.ref C) "__class__" = some (some (.builtin "object.__class__")))
      (hn : PySem.W.specialIn K (.builtin "object.__class__") "__get__" = some (some (.builtin "getset_descriptor.__get__"))) (htk : PySem.W.takesIn K (.builtin "object.__class__") = some true)
      (hm : PySem.W.mroIn K C (.type "object") = some true) : TyOf K H (.ref a) (.ref C)
theorem isinst_ok {x : V} {u t : Value} (I : Inv X pins σ H s) (rx : RelV x u) (ty : TyOf X.K H x t) (e : PySem.W.kitOne X.K t c = some b) (h : ∀ tk, Q (.bool b) { s with toks := tk }) :
    wpAny (model X.prog X.w) A (call (.builtin "isinstance") [u, c]) Q E s := by
  cases ty with
  | non => cases (show u = Value.none from rx); exact PySem.W.kia_one PySem.W.kitx_none I.kIn True.intro e (fun z => nomatch z) h
  | bl y => cases (show u = Value.bool y from rx); exact PySem.W.kia_one PySem.W.kitx_bool I.kIn True.intro e (fun z => nomatch z) h
  | int i => obtain ⟨t, q⟩ := (show ∃ t, u = Value.int i t from rx); cases q; exact PySem.W.kia_one PySem.W.kitx_int I.kIn True.intro e (fun z => nomatch z) h
  | str y => obtain ⟨t, q⟩ := (show ∃ t, u = Value.str y t from rx); cases q; exact PySem.W.kia_one PySem.W.kitx_str I.kIn True.intro e (fun z => nomatch z) h
  | flt y => obtain ⟨t, q⟩ := (show ∃ t, u = Value.float y t from rx); cases q; exact PySem.W.kia_one PySem.W.kitx_float I.kIn True.intro e (fun z => nomatch z) h
  | @lst a xs ea =>
    cases (show u = Value.ref a from rx)
    obtain ⟨_, _, n, _, h1⟩ := (show ObjOk X.prog X.w H s.heap a (.lst xs) from I.hok a _ ea)
    exact PySem.W.kia_one PySem.W.kitx_list I.kIn ⟨_, h1, rfl⟩ e (fun z => nomatch z) h
  | @frz a ob xs ea =>
    cases (show u = Value.ref a from rx)
    obtain ⟨_, _, _, n, _, h1⟩ := (show ObjOk X.prog X.w H s.heap a (.frz ob (.lst xs)) from I.hok a _ ea)
    exact PySem.W.kia_one PySem.W.kitx_list I.kIn ⟨_, h1, rfl⟩ e (fun z => nomatch z) h
  | @tup a xs ea =>
    cases (show u = Value.ref a from rx)
    obtain ⟨_, _, _, p⟩ := (show ObjOk X.prog X.w H s.heap a (.tup xs) from I.hok a _ ea)
    obtain ⟨o, h1, h2, _⟩ := p
    exact PySem.W.kia_one PySem.W.kitx_tuple I.kIn ⟨o, h1, h2⟩ e (fun z => nomatch z) h
  | @dK a kvs ea =>
    cases (show u = Value.ref a from rx)
    obtain ⟨_, _, vs, _, p⟩ := (show ObjOk X.prog X.w H s.heap a (.dK kvs) from I.hok a _ ea)
    obtain ⟨o, es, ep, h1, h2, _⟩ := p
    exact PySem.W.kia_one PySem.W.kitx_dict I.kIn ⟨o, h1, h2.1⟩ e (fun z => nomatch z) h
  | @dT a kvs ea =>
    cases (show u = Value.ref a from rx)
    obtain ⟨_, _, xs, _, o, es, ep, h1, h2, _⟩ := (show ObjOk X.prog X.w H s.heap a (.dT kvs) from I.hok a _ ea)
    exact PySem.W.kia_one PySem.W.kitx_dict I.kIn ⟨o, h1, h2.1⟩ e (fun z => nomatch z) h
  | @ins a C dx fs ea cl ha hn htk hm =>
    cases (show u = Value.ref a from rx)
    obtain ⟨mA, O, _⟩ := ins_get I.hok ea
    obtain ⟨od, J, _⟩ := O.look
    exact PySem.W.kia_one (PySem.W.kitx_own (cl.get _) cl.hd ha hn htk hm) I.kIn J e (fun z => nomatch z) h
end
end L2
namespace L2
open PySem PySem.Spec PyProof.Rows
structure Room (k : Nat) (A : Around) : Prop where
  hd : A.handled = none
  dp : A.depth + 3 * k + 5 < recursionLimit
  un : A.units + 16 * k + 200 < cLine
theorem Room.mono {j k : Nat} {A : Around} (r : Room k A) (h : j ≤ k) : Room j A := ⟨r.hd, by have := r.dp; omega, by have := r.un; omega⟩
theorem Room.deeper {k : Nat} {A : Around} (r : Room (k + 1) A) (env : Env) : Room k (A.deeper env) :=
  ⟨r.hd, by have := r.dp; show A.depth + 1 + 3 * k + 5 < _; omega, by have := r.un; show A.units + 3 + 16 * k + 200 < _; omega⟩
theorem Room.in1 {k : Nat} {A : Around} (r : Room (k + 1) A) : Room k A.in1 :=
  ⟨r.hd, by have := r.dp; show A.depth + 3 * k + 5 < _; omega, by have := r.un; show A.units + 1 + 16 * k + 200 < _; omega⟩
theorem Room.depth {k : Nat} {A : Around} (r : Room k A) : A.depth < recursionLimit := by have := r.dp; omega
theorem Room.units {k : Nat} {A : Around} (r : Room k A) : A.units + 64 < cLine := by have := r.un; omega
def tNil : TA := fun _ H Q => Q [] H
def tCons (ta : TE) (tr : TA) : TA := fun σ H Q => ta σ H fun x H1 => tr σ H1 fun xs H2 => Q (x :: xs) H2
section
variable {X : Cx} {e : Expr} {es : List Expr} {te : TE} {t : TA} {pos : Pos}
theorem pa_nil : PA X [] tNil := by
  first
  | exact (fun _ _ _ _ H Q I h => Calls.spliced_nil ⟨[], H, I, .nil, h⟩)
  | (unfold PA at *; exact (fun _ _ _ _ H Q I h => Calls.spliced_nil ⟨[], H, I, .nil, h⟩))
theorem pa_cons (ha : PE X e te) (hr : PA X es t) (hs : starEach (e :: es) X.env = (false, eval e X.env) :: starEach es X.env := by rfl) : PA X (e :: es) (tCons te t) := by
  unfold PE at *; unfold PA at *
  exact by
    intro pos pins s σ H Q I h
    rw [hs]
    show wpAny _ _ (spliced ((false, eval e X.env) :: backTo pos (starEach es X.env))) _ _ s
    refine Calls.spliced_cons (thn (ha pins s σ H _ I h) fun u s1 ⟨x, H1, I1, r1, q1⟩ => ?_)
    exact thn (hr pos pins s1 σ H1 _ I1 q1) fun us s2 ⟨xs, H2, I2, r2, q2⟩ => ⟨x :: xs, H2, I2, .cons r1 r2, q2⟩
def tTup (t : TA) : TE := fun σ H Q => t σ H fun xs H1 => xs.length ≤ sizeLine ∧ ∀ p, H1 p = none → Q (.ref p) (upd H1 p (.tup xs))
def tLst (t : TA) : TE := fun σ H Q => t σ H fun xs H1 => xs.length ≤ sizeLine ∧ ∀ p, H1 p = none → Q (.ref p) (upd H1 p (.lst xs))
theorem pe_tup {x1} (h : PA X es t) : PE X (.Tuple es x1 pos) (tTup t) := by
  unfold PE at *; unfold PA at *
  exact by
    intro pins s σ H Q I hq
    refine wpAny_Tuple_spliced (thn (h pos pins s σ H _ I hq) fun us s1 ⟨xs, H1, I1, r, z, q⟩ => ⟨by rw [← r.length]; exact z, ?_⟩)
    have hf : H1 s1.heap.objs.size = none := I1.hok.fresh (Nat.le_refl _)
    refine ⟨.ref s1.heap.objs.size, upd H1 s1.heap.objs.size (.tup xs), I1.laid (t' := s1.toks) (fun b u e => Heap.get?_push_of_some _ e) (Nat.le_refl _) ?_, rfl, q _ hf⟩
    exact ⟨z, us, r, ⟨_, Heap.get?_push_size _ rfl, rfl, _, rfl⟩⟩
theorem pe_lst (h : PA X es t) : PE X (.List es pos) (tLst t) := by
  unfold PE at *; unfold PA at *
  exact by
    intro pins s σ H Q I hq
    refine wpAny_List_spliced (thn (h pos pins s σ H _ I hq) fun us s1 ⟨xs, H1, I1, r, z, q⟩ => ⟨by rw [← r.length]; exact z, ?_⟩)
    have hf : H1 s1.heap.objs.size = none := I1.hok.fresh (Nat.le_refl _)
    refine ⟨.ref s1.heap.objs.size, upd H1 s1.heap.objs.size (.lst xs), I1.laid (t' := s1.toks) (fun b u e => Heap.get?_push_of_some _ e) (Nat.le_refl _) ?_, rfl, q _ hf⟩
    exact ⟨z, us, 0, r, Heap.get?_push_size _ rfl⟩
end
abbrev Sp := List V → Hp → VK → XK → Prop
abbrev CXT := List Env → Hp → Shared → XK → Value → Shared → Prop
structure Env0 (P : Program) (w : World) (K : PySem.W.Frag) (mg : Str → Option Value) (base : Heap) (A : Around) (outer : List Env) (s : Shared) (H : Hp) : Prop where
  frames : A.frames = some outer
  mod : Mod K mg base
  bs : ∀ b o, base.get? b = some o → s.heap.get? b = some o ∧ H b = none
  bsz : base.objs.size ≤ s.heap.objs.size
  funs : s.heap.FunFrames base outer
  frf : ∀ b ∈ frs outer, H b = none
  hok : HOk P w H s.heap
  bare : AllBare s.gens
def CE (outer : List Env) (P : Program) (w : World) (H : Hp) (s : Shared) (Q : VK) (u : Value) (s' : Shared) : Prop :=
  ∃ v H', s'.os = s.os ∧ AllBare s'.gens ∧ Un (frs outer) [] H H' s.heap s'.heap ∧ HOk P w H' s'.heap ∧ RelV v u ∧ Q v H'
def CR (CX : CXT) (outer : List Env) (P : Program) (w : World) (H : Hp) (s : Shared) (Q : VK) (E : XK) (r : Result) (s' : Shared) : Prop :=
  match r with
  | .ok (.ret u) => CE outer P w H s Q u s'
  | .ok _ => False
  | .error e => CX outer H s E e s'
structure FnOk (P : Program) (w : World) (K : PySem.W.Frag) (mg : Str → Option Value) (base : Heap) (CX : CXT) (k : Nat) (f : Addr) (fd : FuncData) (ps : List Str) (sp : Sp) : Prop where
  len : ∀ vs H Q E, sp vs H Q E → vs.length = ps.length
  run : ∀ (A : Around) (outer : List Env) (s : Shared) (H : Hp) (args : Args) (us : List Value) (vs : List V) (Q : VK) (E : XK), Room k A → Env0 P w K mg base A outer s H → BindsTo s fd args (ps.zip us) → Vals vs us → sp vs H Q E →
    codeAny (model P w) A (.call (.ref f) args) (CR CX outer P w H s Q E) s
theorem FnOk.mono {P : Program} {w : World} {K : PySem.W.Frag} {mg : Str → Option Value} {base : Heap} {CX : CXT} {j k : Nat} {f : Addr} {fd : FuncData} {ps : List Str} {sp : Sp} (F : FnOk P w K mg base CX j f fd ps sp) (h : j ≤ k) :
    FnOk P w K mg base CX k f fd ps sp := ⟨F.len, fun A outer s H args us vs Q E hr => F.run A outer s H args us vs Q E (hr.mono h)⟩
theorem FnOk.imp {P : Program} {w : World} {K : PySem.W.Frag} {mg : Str → Option Value} {base : Heap} {CX : CXT} {k : Nat} {f : Addr} {fd : FuncData} {ps : List Str} {sp sp' : Sp} (F : FnOk P w K mg base CX k f fd ps sp)
    (h : ∀ vs H Q E, sp' vs H Q E → sp vs H Q E) : FnOk P w K mg base CX k f fd ps sp' :=
  ⟨fun vs H Q E q => F.len vs H Q E (h _ _ _ _ q), fun A outer s H args us vs Q E hr he hb hv hs => F.run A outer s H args us vs Q E hr he hb hv (h _ _ _ _ hs)⟩
theorem Env0.in1 {P : Program} {w : World} {K : PySem.W.Frag} {mg : Str → Option Value} {base : Heap} {A : Around} {outer : List Env} {s : Shared} {H : Hp} (e : Env0 P w K mg base A outer s H) :
    Env0 P w K mg base A.in1 outer s H := ⟨e.frames, e.mod, e.bs, e.bsz, e.funs, e.frf, e.hok, e.bare⟩
section
variable {X : Cx} {pins : List (Addr × Obj)} {σ : St} {H : Hp} {s s' : Shared}
theorem Inv.env0 (I : Inv X pins σ H s) : Env0 X.prog X.w X.K X.mg X.base X.A X.stack s H :=
  ⟨I.ok.frames, I.ok.mod, I.bs, Nat.le_trans I.ok.bsz I.sz, I.stack, I.stkFree, I.hok, I.bare⟩
theorem Inv.after {Q : VK} {u : Value} (I : Inv X pins σ H s) (h : CE X.stack X.prog X.w H s Q u s') : EP X pins σ Q u s' := by
  obtain ⟨v, H', os, bare, un, hok, r, q⟩ := h
  obtain ⟨hh, g, d, t, os'⟩ := s'
  obtain rfl : os' = s.os := os
  exact ⟨v, H', I.call (h' := hh) (g' := g) (d' := d) (t' := t) (ch := []) un hok bare (fun b z => absurd z (by simp)), r, q⟩
end
def tCall (sp : Sp) (dvs : List V) (E : XK) (t : TA) : TE := fun σ H Q => t σ H fun vs H1 => sp (vs ++ dvs) H1 Q E
def Binds (K : PySem.W.Frag) (fd : FuncData) (ps : List Str) (ds : List Value) : Prop :=
  ∀ (s : Shared) (us : List Value), K.In s.heap → (us ++ ds).length = ps.length → BindsTo s fd ⟨us, []⟩ (ps.zip (us ++ ds))
theorem Binds.all {K : PySem.W.Frag} {fd : FuncData} {ps : List Str} (h : ∀ us : List Value, us.length = ps.length → bindArgs fd ⟨us, []⟩ = pure (ps.zip us)) : Binds K fd ps [] := fun s us _ hl => by
  rw [List.append_nil] at hl ⊢
  exact .of_eq (h us hl)
def Passes (CX : CXT) (X : Cx) (E : XK) : Prop := ∀ (pins : List (Addr × Obj)) (σ : St) (H : Hp) (s : Shared) (e : Value) (s' : Shared), Inv X pins σ H s → CX X.stack H s E e s' → X.xe e s'
section
variable {X : Cx} {CX : CXT} {k : Nat} {f C : Addr} {fd : FuncData} {ps : List Str} {sp : Sp} {dvs : List V} {ds : List Value} {E : XK} {x m : Str} {p pos apos : Pos} {e o : Expr} {es : List Expr} {ta : TE} {t : TA}
theorem run_fn {pins : List (Addr × Obj)} {σ : St} {H : Hp} {s : Shared} {Q : VK} {us : List Value} {vs : List V} (F : FnOk X.prog X.w X.K X.mg X.base CX k f fd ps sp) (hr : Room k X.A) (hb : Binds X.K fd ps ds) (hd : Vals dvs ds) (hx : Passes CX X E)
    (I : Inv X pins σ H s) (r : Vals vs us) (h : sp (vs ++ dvs) H Q E) : wpAny (model X.prog X.w) X.A (call (.ref f) us) (EP X pins σ Q) X.xe s := by
  have r2 : Vals (vs ++ dvs) (us ++ ds) := r.append hd
  have hl : (us ++ ds).length = ps.length := by rw [← r2.length]; exact F.len _ _ _ _ h
  refine wpAny_call (codeAny_mono (F.run X.A X.stack s H ⟨us, []⟩ (us ++ ds) (vs ++ dvs) Q E hr I.env0 (hb s us I.kIn hl) r2 h) fun r s' hq => ?_)
  cases r with
  | error e => exact hx pins σ H s e s' I hq
  | ok fl =>
    cases fl with
    | ret u => exact I.after hq
    | next => exact False.elim hq
    | brk => exact False.elim hq
    | cont => exact False.elim hq
theorem pe_call (F : FnOk X.prog X.w X.K X.mg X.base CX k f fd ps sp) (hr : Room k X.A) (hg : Gl X x) (hm : X.mg x = some (.ref f)) (hk : PySem.W.keepIn X.K (.ref f) = true) (hb : Binds X.K fd ps ds) (hd : Vals dvs ds) (hx : Passes CX X E)
    (ha : PA X (e :: es) t) (hdb : (x == ("__debug__" : Str)) = false := by decide) (he : starEach (e :: es) X.env = (false, eval e X.env) :: starEach es X.env := by rfl) (hpl : (backTo pos (starEach es X.env)).any (·.1) = false := by rfl) :
    PE X (.Call (.Name x p) (e :: es) [] pos) (tCall sp dvs E t) := by
  unfold PE at *; unfold PA at *
  exact by
    intro pins s σ H Q I h
    refine wpAny_Call_Name_kw (ld_glob I hg hm ?_ hdb)
    refine PySem.W.callWith_K (h₀ := X.base) I.ok.mod.kin hk (thn (ha pos pins s σ H _ I h) fun us s1 ⟨vs, H1, I1, r, q⟩ => ⟨I1.kIn, ?_⟩) he hpl
    exact run_fn F hr hb hd hx I1 r q
end
section
variable {X : Cx} {CX : CXT} {k : Nat} {f C : Addr} {fd : FuncData} {ps ks : List Str} {sp : Sp} {E : XK} {x m : Str} {p pos apos kpos : Pos} {e o : Expr} {es : List Expr} {kws : List Keyword} {te ta : TE} {t tk : TA} {nm : Option Str}
variable {g : List Value → List Value → List Value} {gV : List V → List V → List V}
end
structure FnScope (N P : List Str) (sc : Scope) : Prop where
  kind : sc.kind = .function
  co : sc.isCoroutine = false
  gen : sc.isGenerator = false
  nd : N.Nodup
  pre : N.take P.length = P
  par : ∀ x ∈ P, sc.names.lookup x = some .local ∨ sc.names.lookup x = some .cell
  nofree : ∀ y ∈ sc.names, y.2 ≠ .free
theorem bindL_out {kindOf : Str → Option NameKind} {x : Str} : ∀ {binds : List (Str × Value)} {m : Str → Option Value}, (∀ v, (x, v) ∉ binds) → bindL kindOf binds m x = m x
  | [], _, _ => rfl
  | (n, v) :: r, m, h => by
    unfold bindL
    rw [bindL_out fun w hw => h w (List.mem_cons_of_mem _ hw)]
    split
    · have : x ≠ n := by rintro rfl; exact h v List.mem_cons_self
      simp [this]
    · rfl
theorem bindC_out {kindOf : Str → Option NameKind} {x : Str} : ∀ {binds : List (Str × Value)} {m : Str → Option Value}, (∀ v, (x, v) ∉ binds) → bindC kindOf binds m x = m x
  | [], _, _ => rfl
  | (n, v) :: r, m, h => by
    unfold bindC
    rw [bindC_out fun w hw => h w (List.mem_cons_of_mem _ hw)]
    split
    · rfl
    · have : x ≠ n := by rintro rfl; exact h v List.mem_cons_self
      simp [this]
theorem bindL_get {kindOf : Str → Option NameKind} {x : Str} {v : Value} : ∀ {P : List Str} {vs : List Value} {i : Nat} {m : Str → Option Value}, P.Nodup → P[i]? = some x → vs[i]? = some v → kindOf x = some .local →
    bindL kindOf (P.zip vs) m x = some v
  | [], _, _, _, _, h, _, _ => by simp at h
  | _ :: _, [], _, _, _, _, h, _ => by simp at h
  | p :: P, w :: vs, 0, m, nd, h1, h2, hk => by
    simp at h1 h2; subst h1; subst h2
    show bindL kindOf ((p, w) :: P.zip vs) m p = _
    unfold bindL
    rw [bindL_out fun v hv => (List.nodup_cons.mp nd).1 (List.of_mem_zip hv).1, if_pos hk]
    simp
  | p :: P, w :: vs, i + 1, m, nd, h1, h2, hk => by
    show bindL kindOf ((p, w) :: P.zip vs) m x = _
    unfold bindL
    exact bindL_get (i := i) (List.nodup_cons.mp nd).2 (by simpa using h1) (by simpa using h2) hk
theorem bindC_get {kindOf : Str → Option NameKind} {x : Str} {v : Value} : ∀ {P : List Str} {vs : List Value} {i : Nat} {m : Str → Option Value}, P.Nodup → P[i]? = some x → vs[i]? = some v → kindOf x ≠ some .local →
    bindC kindOf (P.zip vs) m x = some v
  | [], _, _, _, _, h, _, _ => by simp at h
  | _ :: _, [], _, _, _, _, h, _ => by simp at h
  | p :: P, w :: vs, 0, m, nd, h1, h2, hk => by
    simp at h1 h2; subst h1; subst h2
    show bindC kindOf ((p, w) :: P.zip vs) m p = _
    unfold bindC
    rw [bindC_out fun v hv => (List.nodup_cons.mp nd).1 (List.of_mem_zip hv).1, if_neg hk]
    simp
  | p :: P, w :: vs, i + 1, m, nd, h1, h2, hk => by
    show bindC kindOf ((p, w) :: P.zip vs) m x = _
    unfold bindC
    exact bindC_get (i := i) (List.nodup_cons.mp nd).2 (by simpa using h1) (by simpa using h2) hk
def start (N : List Str) (vs : List V) : St := vs.map some ++ List.replicate (N.length - vs.length) none
def cxOf (CX : CXT) (P : Program) (w : World) (K : PySem.W.Frag) (mg : Str → Option Value) (base : Heap) (N : List Str) (qual : Str) (scope : Scope) (f : Addr) (cd : Value) (A : Around) (outer : List Env) (s : Shared) (H : Hp) (E : XK) : Cx where
  prog := P
  w := w
  K := K
  mg := mg
  base := base
  A := A.deeper (envOfC qual scope s.heap.objs.size f cd)
  N := N
  s₀ := s
  H₀ := H
  env := envOfC qual scope s.heap.objs.size f cd
  outer := outer
  stack := envOfC qual scope s.heap.objs.size f cd :: outer
  ex := []
  calm := true
  fn := fun _ => true
  pn := []
  xe := fun e s' => wpAny (model P w) (A.deeper (envOfC qual scope s.heap.objs.size f cd)) (leaving (envOfC qual scope s.heap.objs.size f cd) e) (fun _ s'' => CX outer H s E e s'') (fun e' s'' => CX outer H s E e' s'') s'
theorem cell_has {sc : Scope} {n : Nat} {x : Str} (h : sc.names.lookup x = some .cell) : ∃ c, (cellsFrom n sc.names []).lookup x = some c := by
  have q := PySem.W.cellsFrom_some sc.names n [] (.inl h)
  exact Option.isSome_iff_exists.mp q
theorem inv_start {CX : CXT} {P : Program} {w : World} {K : PySem.W.Frag} {mg : Str → Option Value} {base : Heap} {N ps : List Str} {qual : Str} {scope : Scope} {f : Addr} {cd : Value} {A : Around} {outer : List Env} {s s1 : Shared} {H : Hp} {E : XK} {us : List Value} {vs : List V}
    (S : FnScope N ps scope) (hd : A.handled = none) (e0 : Env0 P w K mg base A outer s H) (hl : vs.length = ps.length) (r : Vals vs us)
    (x : InCallC s s.heap.objs.size (bindL (envOfC qual scope s.heap.objs.size f cd).kindOf (ps.zip us) fun _ => none) (cellsFrom (s.heap.objs.size + 1) scope.names []) (bindC (envOfC qual scope s.heap.objs.size f cd).kindOf (ps.zip us) fun _ => none) s1) :
    Inv (cxOf CX P w K mg base N qual scope f cd A outer s H E) [] (start N vs) H s1 := by
  have hpl : ps.length ≤ N.length := by have := congrArg List.length S.pre; rw [List.length_take] at this; omega
  obtain ⟨h1, tk, rfl, hk⟩ := x.done
  have noA : ∀ b : Addr, b ∉ (cxOf CX P w K mg base N qual scope f cd A outer s H E).ex := fun b z => absurd (show b ∈ ([] : List Addr) from z) (by simp)
  refine ⟨⟨e0.mod, S.kind, rfl, rfl, Nat.le_refl _, fun y z c h1 h2 => ?_, fun y hy => ?_, fun y c _ h => ?_, fun _ => hd, Around.frames_deeper e0.frames, .inr ⟨rfl, rfl⟩, fun b z => absurd z (noA b), e0.bs, e0.bsz, fun b _ _ => noA b, fun b z => absurd z (noA b), e0.funs, e0.frf⟩,
    rfl, e0.bare, Un.kept hk, ⟨_, x.toInCall.ns, fun i y v h1 h2 h3 => ?_⟩, fun y c h => ⟨_, x.cell y c h⟩, e0.hok.fresh (Nat.le_refl _), fun y c h => ?_, fun p hp => absurd (show p ∈ ([] : List (Addr × Obj)) from hp) (by simp), e0.hok.kept hk, ?_⟩
  · exact name_of_addr x.apart (PySem.mem_of_lookup h1) (PySem.mem_of_lookup h2)
  · have hy : scope.names.lookup y = some .cell ∨ scope.names.lookup y = some .free := hy
    rcases hy with hy | hy
    · exact cell_has hy
    · exact absurd rfl (S.nofree _ (PySem.mem_of_lookup hy))
  · exact Nat.le_of_lt (x.above y c (PySem.mem_of_lookup h))
  · have hi : i < vs.length := by
      unfold start at h2
      by_cases hi : i < vs.length
      · exact hi
      · rw [List.getElem?_append_right (by simpa using hi)] at h2
        rw [List.getElem?_replicate] at h2
        split at h2 <;> cases h2
    have ha : vs[i]? = some v := by
      unfold start at h2
      rw [List.getElem?_append_left (by simpa using hi), List.getElem?_map] at h2
      cases e : vs[i]? with
      | none => rw [e] at h2; cases h2
      | some a => rw [e] at h2; cases h2; rfl
    obtain ⟨u, hu, rv⟩ := r.get ha
    have hp : ps[i]? = some y := by
      rw [← S.pre, List.getElem?_take_of_lt (by omega)]; exact h1
    have ndP : ps.Nodup := by rw [← S.pre]; exact S.nd.sublist (List.take_sublist _ _)
    refine ⟨u, rv, ?_⟩
    rcases S.par y (List.mem_of_getElem? hp) with k | k
    · exact .inl ⟨k, bindL_get ndP hp hu k⟩
    · obtain ⟨c, e⟩ := cell_has (n := s.heap.objs.size + 1) k
      refine .inr ⟨.inl k, c, e, ?_⟩
      have q := x.cell y c e
      rw [bindC_get ndP hp hu (by show scope.names.lookup y ≠ _; rw [k]; decide)] at q
      exact q
  · exact e0.hok.fresh (Nat.le_of_lt (x.above y c (PySem.mem_of_lookup h)))
  · unfold start
    show _ = N.length
    rw [List.length_append, List.length_map, List.length_replicate]
    omega
theorem fn_of {CX : CXT} {P : Program} {w : World} {K : PySem.W.Frag} {mg : Str → Option Value} {base : Heap} {k : Nat} {f : Addr} {name qual : Str} {params : Arguments} {body : List Stmt} {scope : Scope} {dV kV doc pm cdv ct oc : Value} {an od : Option Addr}
    {osl : Array (Option Value)} {N ps : List Str} {sp : Sp} (lk : K.lookup f = some ⟨oc, od, .func (PySem.W.fnOf name qual params body scope dV kV doc pm an cdv ct), osl⟩) (hcd : PySem.W.codeIn K cdv qual = true) (S : FnScope N ps scope)
    (len : ∀ vs H Q E, sp vs H Q E → vs.length = ps.length)
    (hbody : ∀ (A : Around) (outer : List Env) (s : Shared) (H : Hp) (vs : List V) (Q : VK) (E : XK), Room k (A.deeper (envOfC qual scope s.heap.objs.size f cdv)) → sp vs H Q E →
      ∃ t, PSs (cxOf CX P w K mg base N qual scope f cdv A outer s H E) body t ∧ t { nx := fun _ H' => Q .non H', rt := Q } (start N vs) H) :
    FnOk P w K mg base CX (k + 1) f (PySem.W.fnOf name qual params body scope dV kV doc pm an cdv ct) ps sp := by
  unfold PSs at *
  exact by
    refine ⟨len, fun A outer s H args us vs Q E hr e0 hb r hsp => ?_⟩
    have hl := len _ _ _ _ hsp
    have KX : K.In s.heap := e0.mod.kin.keeps fun b o e => (e0.bs b o e).1
    have lim : s.heap.NoLimit := e0.mod.nolimit.keeps fun b o e => (e0.bs b o e).1
    have hkind : ∀ y ∈ ps.zip us, scope.names.lookup y.1 = some .local ∨ (scope.names.lookup y.1 = some .cell ∧ ((cellsFrom (s.heap.objs.size + 1) scope.names []).lookup y.1).isSome = true) := fun ⟨n, v⟩ hy => by
      rcases S.par n (List.of_mem_zip hy).1 with q | q
      · exact .inl q
      · exact .inr ⟨q, PySem.W.cellsFrom_some _ _ _ (.inl q)⟩
    refine codeAny_call_function hr.depth (KX _ _ lk) rfl S.co S.gen rfl (PySem.W.codeRec_of KX hcd) (hb _ _ _ _ ?_)
    refine wpAny_newFunctionEnv_cells S.kind hkind fun env he s1 x => ?_
    subst he
    refine ⟨lim.keeps x.toInCall.keep, codeAny_func ?_⟩
    obtain ⟨t, ht, hq⟩ := hbody A outer s H vs Q E (hr.deeper _) hsp
    have I : Inv (cxOf CX P w K mg base N qual scope f cdv A outer s H E) [] (start N vs) H s1 := inv_start S hr.hd e0 hl r x
    refine wpAny_mono (ht [] s1 (start N vs) H _ I hq) (fun fl s' hs => ?_) fun e s' hs => hs
    have fin : ∀ {σ' : St} {H' : Hp} {v : V} {u : Value}, Inv (cxOf CX P w K mg base N qual scope f cdv A outer s H E) [] σ' H' s' → RelV v u → Q v H' → CE outer P w H s Q u s' :=
      fun {σ' H' v u} J rv q => ⟨v, H', J.os, J.bare, J.base, J.hok, rv, q⟩
    cases fl with
    | ret u =>
      obtain ⟨v, σ', H', J, rv, q⟩ := hs
      exact fin J rv q
    | next =>
      obtain ⟨σ', H', J, q⟩ := hs
      exact fin (v := V.non) (u := Value.none) J rfl q
    | brk =>
      obtain ⟨_, _, _, q⟩ := hs
      exact False.elim q
    | cont =>
      obtain ⟨_, _, _, q⟩ := hs
      exact False.elim q
end L2
namespace L2
open PySem PySem.Spec PyProof.Rows
section
variable {X : Cx} {x : Str} {p pos : Pos} {e : Expr} {es : List Expr} {t : TA} {id T : String} {r : List V → Hp → VK → Prop}
def tCB (r : List V → Hp → VK → Prop) (t : TA) : TE := fun σ H Q => t σ H fun vs H1 => r vs H1 Q
theorem pe_callB (hc : CallR X (.builtin id) r) (hg : Gl X x) (hm : X.mg x = none) (hv : bootBuiltins x = some (.builtin id)) (ha : PA X (e :: es) t) (hn : x ≠ "__name__" := by decide) (hdb : (x == ("__debug__" : Str)) = false := by decide)
    (he : starEach (e :: es) X.env = (false, eval e X.env) :: starEach es X.env := by rfl) (hpl : (backTo pos (starEach es X.env)).any (·.1) = false := by rfl) : PE X (.Call (.Name x p) (e :: es) [] pos) (tCB r t) := by
  unfold PE at *; unfold PA at *; unfold CallR at *
  exact by
    intro pins s σ H Q I h
    refine wpAny_Call_Name_kw (ld_blt I hg hm hv ?_ hn hdb)
    exact PyProof.Rows.callWith_builtin1 (thn (ha pos pins s σ H _ I h) fun us s1 ⟨vs, H1, I1, r1, q1⟩ => hc pins s1 σ H1 vs us Q I1 r1 q1) he hpl
theorem pe_callTy (hc : CallR X (.type T) r) (hg : Gl X x) (hm : X.mg x = none) (hv : bootBuiltins x = some (.type T)) (ha : PA X (e :: es) t) (hn : x ≠ "__name__" := by decide) (hdb : (x == ("__debug__" : Str)) = false := by decide)
    (he : starEach (e :: es) X.env = (false, eval e X.env) :: starEach es X.env := by rfl) (hpl : (backTo pos (starEach es X.env)).any (·.1) = false := by rfl) : PE X (.Call (.Name x p) (e :: es) [] pos) (tCB r t) := by
  unfold PE at *; unfold PA at *; unfold CallR at *
  exact by
    intro pins s σ H Q I h
    refine wpAny_Call_Name_kw (ld_blt I hg hm hv ?_ hn hdb)
    exact PyProof.Rows.callWith_type1 (thn (ha pos pins s σ H _ I h) fun us s1 ⟨vs, H1, I1, r1, q1⟩ => hc pins s1 σ H1 vs us Q I1 r1 q1) he hpl
end
end L2
namespace HT
open PySem PyProof.Rows
section
open PySem.SeqAt
open PySem.AutoSeq1 (wpAny_loadPart')
open PySem.MeetsSeq PySem.MeetsSeq2 PySem.MeetsSeq3
end
section
variable {prog : Program} {w : World} {A : Around} {E : Value → Shared → Prop} {s : Shared}
theorem cat_tup {t b : Addr} {vs ws : List Value} {Q : Value → Shared → Prop} (ht : IsTup s.heap t vs.toArray) (hb : IsTup s.heap b ws.toArray) (hv : vs ≠ [])
    (h1 : ws = [] → Q (.ref t) s) (h2 : ws ≠ [] → Q (.ref s.heap.objs.size) { s with heap := s.heap.push { cls := .type "tuple", data := .seq (vs ++ ws).toArray } })
    (hsz : vs.length + ws.length ≤ sizeLine) : wpAny (model prog w) A (binaryOp .Add (.ref t) (.ref b)) Q E s := by
  obtain ⟨⟨cls, dd, data, sl⟩, ho, hc, n, hd⟩ := id ht
  obtain ⟨⟨cls2, dd2, data2, sl2⟩, ho2, hc2, n2, hd2⟩ := id hb
  simp only at hc hd hc2 hd2
  subst hc hd hc2 hd2
  have e : vs.toArray ++ ws.toArray = (vs ++ ws).toArray := by simp
  by_cases hw : ws = []
  · exact concat_meets ⟨_, ho, rfl⟩ ⟨_, ho2, rfl⟩ noFill_tuple_add seq_tuple_add PySem.F.slot_tuple_add PySem.F.entry_tuple_add (PySem.F.args_tuple_add_2 _ _)
      (tuple_addW1 t b vs.toArray ws.toArray n n2 dd dd2 sl sl2 (by simpa using hv) (by simp [hw])) ⟨ho, ho2, h1 hw⟩
  · refine concat_meets ⟨_, ho, rfl⟩ ⟨_, ho2, rfl⟩ noFill_tuple_add seq_tuple_add PySem.F.slot_tuple_add PySem.F.entry_tuple_add (PySem.F.args_tuple_add_2 _ _)
      (tuple_addW2 t b vs.toArray ws.toArray n n2 dd dd2 sl sl2 (by simpa using hv) (by simpa using hw) (by rw [List.size_toArray, List.size_toArray]; exact hsz)) ⟨ho, ho2, ?_⟩
    rw [e]
    exact h2 hw
def sIx (n d : Nat) : Option Int → Nat
  | none => d
  | some v => if v < 0 then (v + (n : Int)).toNat else min v.toNat n
theorem sIx_none (n d : Nat) : sIx n d none = d := rfl
theorem sIx_nat (n d k : Nat) : sIx n d (some (k : Int)) = min k n := by
  show (if (k : Int) < 0 then ((k : Int) + (n : Int)).toNat else min (k : Int).toNat n) = min k n
  rw [if_neg (by omega), Int.toNat_natCast]
theorem sIx_le (n d : Nat) (hd : d ≤ n) (o : Option Int) : sIx n d o ≤ n := by
  cases o with
  | none => exact hd
  | some v =>
    show (if v < 0 then (v + (n : Int)).toNat else min v.toNat n) ≤ n
    by_cases hv : v < 0
    · rw [if_pos hv]; omega
    · rw [if_neg hv]; exact Nat.min_le_right _ _
theorem clip_eq (v : Int) (n d : Nat) : (if v < 0 then max (v + (n : Int)) 0 else min v (n : Int)) = ((sIx n d (some v) : Nat) : Int) := by
  show (if v < 0 then max (v + (n : Int)) 0 else min v (n : Int)) = (((if v < 0 then (v + (n : Int)).toNat else min v.toNat n) : Nat) : Int)
  by_cases hv : v < 0
  · simp only [if_pos hv]; omega
  · simp only [if_neg hv]; omega
theorem adjust_gen (lo hi : Option Int) (n : Nat) : Builtin.Slice.sliceAdjust lo hi 1 (n : Int) = (((sIx n 0 lo : Nat) : Int), ((sIx n n hi : Nat) : Int)) := by
  have h1 : ¬ ((1 : Int) < 0) := by omega
  unfold Builtin.Slice.sliceAdjust
  simp only [h1, if_false]
  refine Prod.ext ?_ ?_
  · cases lo with
    | none => rfl
    | some v => exact clip_eq v n 0
  · cases hi with
    | none => rfl
    | some v => exact clip_eq v n n
theorem places_gen (i j : Nat) : Builtin.Slice.slicePlaces (i : Int) (j : Int) 1 = j - i := by
  unfold Builtin.Slice.slicePlaces
  have h1 : (1 : Int) > 0 := by omega
  simp only [h1, if_true, Int.ediv_one]
  split <;> omega
theorem slicePart_ {v : Value} {o : Option Int} {Q : Option Int → Shared → Prop} (p : IsPart v o) (h : Q o s) : wpAny (model prog w) A (Builtin.Slice.slicePartIndex v) Q E s := by
  cases p with
  | none => exact slicePart_none h
  | int i t => exact slicePart_int h
theorem sliceApplied_gen {sl : Addr} {vl vu : Value} {lo hi : Option Int} {n : Nat} {Q : Int × Int × Nat → Shared → Prop} (hs : s.heap.IsSliceOf sl vl vu .none) (pl : IsPart vl lo) (pu : IsPart vu hi)
    (h : Q (((sIx n 0 lo : Nat) : Int), 1, sIx n n hi - sIx n 0 lo) s) : wpAny (model prog w) A (Builtin.Slice.sliceApplied (.ref sl) (pure (n : Int))) Q E s := by
  obtain ⟨os, hos, hcs, hds⟩ := id hs
  unfold Builtin.Slice.sliceApplied Builtin.Slice.sliceFields
  refine wpAny_bind (wpAny_bind (wpAny_field hos hds (x := vl) rfl (wpAny_bind (wpAny_field hos hds (x := vu) rfl (wpAny_bind (wpAny_field hos hds (x := .none) rfl (wpAny_pure ?_)))))))
  refine wpAny_bind (slicePart_none ?_)
  show wpAny _ _ (if ((1 : Int) == 0) = true then _ else _) _ _ s
  rw [if_neg (by decide)]
  refine wpAny_bind (slicePart_ pl (wpAny_bind (slicePart_ pu (wpAny_bind (wpAny_pure ?_)))))
  show wpAny _ _ (match Builtin.Slice.sliceAdjust lo hi 1 (n : Int) with | (lo, hi) => pure (lo, (1 : Int), Builtin.Slice.slicePlaces lo hi 1)) _ _ s
  rw [adjust_gen lo hi n]
  show wpAny _ _ (pure (((sIx n 0 lo : Nat) : Int), (1 : Int), Builtin.Slice.slicePlaces ((sIx n 0 lo : Nat) : Int) ((sIx n n hi : Nat) : Int) 1)) _ _ s
  rw [places_gen]
  exact wpAny_pure h
theorem pick_gen (xs : Array Value) (i k : Nat) : ((List.range k).filterMap fun (m : Nat) => xs[((i : Int) + (m : Int) * 1).toNat]?).toArray = ((xs.toList.drop i).take k).toArray := by
  have e : (fun (m : Nat) => xs[((i : Int) + (m : Int) * 1).toNat]?) = fun m => xs[i + m]? := by
    funext m
    have : ((i : Int) + (m : Int) * 1).toNat = i + m := by omega
    rw [this]
  rw [e]
  have := pick_run xs i k
  rw [List.filterMap_map] at this
  have e2 : ((fun x => xs[x]?) ∘ fun x => i + x) = fun m => xs[i + m]? := rfl
  rw [e2] at this
  rw [this]
theorem getItem_tuple_cut {t sl : Addr} {items : Array Value} {vl vu : Value} {lo hi : Option Int} {Q : Value → Shared → Prop} (ht : IsTup s.heap t items) (hs : s.heap.IsSliceOf sl vl vu .none) (pl : IsPart vl lo) (pu : IsPart vu hi)
    (hw : ¬ (sIx items.size 0 lo = 0 ∧ sIx items.size items.size hi = items.size))
    (h : Q (.ref s.heap.objs.size) { s with heap := s.heap.push { cls := .type "tuple", data := .seq ((items.toList.drop (sIx items.size 0 lo)).take (sIx items.size items.size hi - sIx items.size 0 lo)).toArray } })
    (hsz : items.size ≤ sizeLine) : wpAny (model prog w) A (getItem (.ref t) (.ref sl)) Q E s := by
  have htake : sizeOk (.seq ((items.toList.drop (sIx items.size 0 lo)).take (sIx items.size items.size hi - sIx items.size 0 lo)).toArray) := by
    show ((items.toList.drop (sIx items.size 0 lo)).take (sIx items.size items.size hi - sIx items.size 0 lo)).toArray.size ≤ sizeLine
    rw [List.size_toArray, List.length_take, List.length_drop, Array.length_toList]
    omega
  have hj : sIx items.size items.size hi ≤ items.size := sIx_le _ _ (Nat.le_refl _) hi
  obtain ⟨os, hos, hcs, hds⟩ := id hs
  have hTs : s.TypeIs (.ref sl) "slice" := ⟨os, hos, hcs⟩
  unfold getItem
  try with_reducible refine wpAny_holding ?_
  first | refine wpAny_bind (wpAny_pure ?_) | skip
  refine wpAny_bind (wpAny_sequenceKey ht.typeIs (by decide) ?_)
  refine wpAny_bind (wpAny_callSpecial?_slot (name := Str.ofString "__getitem__") ht.typeIs PyProof.Rows.slot_tuple_getitem
    (wpAny_call_entry PyProof.Rows.slot_tuple_getitem ht.typeIs entry_tuple_getitem ?_ (args_tuple_getitem _ _)))
  show wpAny _ _ (Builtin.Tuple.tupleItemsOf (.ref t) >>= _) _ _ s
  refine wpAny_bind (tupleItemsOf_ ht ?_)
  refine wpAny_bind (wpAny_typeOf hTs ?_)
  rw [if_pos (by decide)]
  refine wpAny_bind (sliceApplied_gen hs pl pu ?_)
  have hno : ¬ ((((sIx items.size 0 lo : Nat) : Int) == 0 && (1 : Int) == 1 && (sIx items.size items.size hi - sIx items.size 0 lo) == items.size) = true) := by
    intro q
    rw [Bool.and_eq_true, Bool.and_eq_true] at q
    have q1 : ((sIx items.size 0 lo : Nat) : Int) = 0 := eq_of_beq q.1.1
    have q2 : sIx items.size items.size hi - sIx items.size 0 lo = items.size := eq_of_beq q.2
    exact hw ⟨by omega, by omega⟩
  show wpAny _ _ (if (((sIx items.size 0 lo : Nat) : Int) == 0 && (1 : Int) == 1 && (sIx items.size items.size hi - sIx items.size 0 lo) == items.size) = true then _ else _) _ _ s
  rw [if_neg hno, pick_gen]
  first
    | exact wpAny_bind (m := Builtin.Tuple.tupleExact _) (wpAny_newObj_type (wpAny_pure ⟨_, rfl, wpAny_pure h⟩) htake)
    | exact wpAny_bind (m := Builtin.Tuple.tupleExact _) (wpAny_newObj_type (wpAny_bind (wpAny_pure (wpAny_pure ⟨_, rfl, wpAny_pure h⟩))) htake)
    | exact wpAny_bind (wpAny_bind (m := Builtin.Tuple.tupleExact _) (wpAny_newObj_type (wpAny_pure (wpAny_pure ⟨_, rfl, wpAny_pure h⟩)) htake))
    | exact wpAny_bind (wpAny_bind (m := Builtin.Tuple.tupleExact _) (wpAny_newObj_type (wpAny_pure ⟨_, rfl, wpAny_pure h⟩) htake))
end
end HT
namespace L2
open PySem PySem.Spec PyProof.Rows
abbrev TO := St → Hp → (Option Int → Hp → Prop) → Prop
@[irreducible] def PO (X : Cx) (e : Option Expr) (t : TO) : Prop :=
  ∀ (pins : List (Addr × Obj)) (s : Shared) (σ : St) (H : Hp) (Q : Option Int → Hp → Prop), Inv X pins σ H s → t σ H Q →
    wpAny (model X.prog X.w) X.A (evalPart e X.env) (fun u s' => ∃ o H', Inv X pins σ H' s' ∧ IsPart u o ∧ Q o H') X.xe s
def tNoPart : TO := fun _ H Q => Q none H
def tPart (t : TE) : TO := fun σ H Q => t σ H fun x H1 => ∃ i, x = .int i ∧ Q (some i) H1
section
variable {X : Cx} {e : Expr} {te : TE} {lo hi : Option Expr} {tl th : TO} {pos p2 : Pos}
theorem po_none : PO X none tNoPart := by
  unfold PO at *
  exact by
    intro pins s σ H Q I h
    rw [evalPart_none]
    exact wpAny_pure ⟨none, H, I, .none, h⟩
theorem po_some (h : PE X e te) : PO X (some e) (tPart te) := by
  unfold PE at *; unfold PO at *
  exact by
    intro pins s σ H Q I hw
    rw [evalPart_some]
    refine thn (h pins s σ H _ I hw) fun u s1 ⟨x, H1, I1, r1, q1⟩ => ?_
    obtain ⟨i, rfl, q⟩ := q1
    obtain ⟨t, rfl⟩ := r1
    exact ⟨some i, H1, I1, .int i t, q⟩
@[irreducible] def SlR (X : Cx) (r : V → Option Int → Option Int → Hp → VK → Prop) : Prop :=
  ∀ (pins : List (Addr × Obj)) (s : Shared) (σ : St) (H : Hp) (x : V) (v vl vu : Value) (lo hi : Option Int) (sl : Addr) (Q : VK), Inv X pins σ H s → RelV x v → s.heap.IsSliceOf sl vl vu .none → IsPart vl lo → IsPart vu hi → r x lo hi H Q →
    ∃ T id, typeLookup (.type T) "__getitem__" = pure (some (.builtin id)) ∧ s.TypeIs v T ∧ wpAny (model X.prog X.w) X.A (getItem v (.ref sl)) (EP X pins σ Q) X.xe s
theorem SlR.or {r r' : V → Option Int → Option Int → Hp → VK → Prop} (h : SlR X r) (h' : SlR X r') : SlR X (fun x lo hi H Q => r x lo hi H Q ∨ r' x lo hi H Q) := by
  unfold SlR at *
  exact by
    intro pins s σ H x v vl vu lo hi sl Q I rx hs pl pu q
    rcases q with q | q
    · exact h pins s σ H x v vl vu lo hi sl Q I rx hs pl pu q
    · exact h' pins s σ H x v vl vu lo hi sl Q I rx hs pl pu q
def tSl (r : V → Option Int → Option Int → Hp → VK → Prop) (te : TE) (tl th : TO) : TE := fun σ H Q => te σ H fun x H1 => tl σ H1 fun l H2 => th σ H2 fun u H3 => r x l u H3 Q
theorem pe_slice {r : V → Option Int → Option Int → Hp → VK → Prop} (hr : SlR X r) (he : PE X e te) (hl : PO X lo tl) (hu : PO X hi th) : PE X (.Subscript e (.Slice lo hi none p2) pos) (tSl r te tl th) := by
  unfold PE at *; unfold PO at *; unfold SlR at *
  exact by
    intro pins s σ H Q I h
    refine Subscript_ (thn (he pins s σ H _ I h) fun v s1 ⟨x, H1, I1, r1, q1⟩ => ?_)
    refine wpAny_Slice (thn (hl pins s1 σ H1 _ I1 q1) fun vl s2 ⟨l, H2, I2, pl, q2⟩ => thn (hu pins s2 σ H2 _ I2 q2) fun vu s3 ⟨u, H3, I3, pu, q3⟩ => ?_)
    rw [evalPart_none]
    refine wpAny_pure ?_
    have I4 : Inv X pins σ H3 { s3 with heap := s3.heap.push { cls := .type "slice", data := .fields #[vl, vu, .none] } } := I3.kept (t' := s3.toks) fun b ob q => Heap.get?_push_of_some _ q
    obtain ⟨T, id, hT, ht, hg⟩ := hr pins { s3 with heap := s3.heap.push { cls := .type "slice", data := .fields #[vl, vu, .none] } } σ H3 x v vl vu l u s3.heap.objs.size Q I4 r1 (Heap.IsSliceOf.new ..) pl pu q3
    show wpAny (model X.prog X.w) X.A (subscriptTail e (.Slice lo hi none p2) v (.ref s3.heap.objs.size)) (EP X pins σ Q) X.xe { s3 with heap := s3.heap.push { cls := .type "slice", data := .fields #[vl, vu, .none] } }
    exact tail_any (ops := [.ref s3.heap.objs.size, v]) ht hT hg (by with_unfolding_all rfl)
def cutV (xs : List V) (lo hi : Option Int) : List V := (xs.drop (HT.sIx xs.length 0 lo)).take (HT.sIx xs.length xs.length hi - HT.sIx xs.length 0 lo)
theorem cutV_length (xs : List V) (lo hi : Option Int) : (cutV xs lo hi).length ≤ xs.length := by
  unfold cutV
  rw [List.length_take, List.length_drop]
  omega
def rSlT (K : PySem.W.Frag) : V → Option Int → Option Int → Hp → VK → Prop := fun x lo hi H Q => ∃ a xs, x = .ref a ∧ SqT K H a xs ∧
  ¬ (HT.sIx xs.length 0 lo = 0 ∧ HT.sIx xs.length xs.length hi = xs.length) ∧ ∀ p, H p = none → Q (.ref p) (upd H p (.tup (cutV xs lo hi)))
theorem sl_tup : SlR X (rSlT X.K) := by
  unfold SlR at *
  exact by
    intro pins s σ H x v vl vu lo hi sl Q I rx hs pl pu h
    obtain ⟨a, xs, rfl, hx, hw, q⟩ := h
    cases rx
    obtain ⟨its, r, ht, hz⟩ := I.tuple hx
    have hlen : its.toArray.size = xs.length := by rw [List.size_toArray]; exact r.length.symm
    refine ⟨"tuple", _, PyProof.Rows.slot_tuple_getitem.lookup, ht.typeIs, ?_⟩
    refine HT.getItem_tuple_cut ht hs pl pu (by rw [hlen]; exact hw) ?_ (by rw [hlen]; exact hz)
    rw [hlen]
    refine ⟨.ref s.heap.objs.size, _, I.laid (t' := s.toks) (o := .tup (cutV xs lo hi)) (fun b ob q => Heap.get?_push_of_some _ q) (Nat.le_refl _) ?_, rfl, q _ (I.hok.fresh (Nat.le_refl _))⟩
    exact ⟨Nat.le_trans (cutV_length xs lo hi) hz, _, (r.drop (HT.sIx xs.length 0 lo)).take (HT.sIx xs.length xs.length hi - HT.sIx xs.length 0 lo), IsTup.new _ _⟩
def rCatT (K : PySem.W.Frag) : R2 := fun x y H Q => ∃ a b xs ys, x = .ref a ∧ y = .ref b ∧ SqT K H a xs ∧ SqT K H b ys ∧ xs ≠ [] ∧ xs.length + ys.length ≤ sizeLine ∧
  (ys = [] → Q (.ref a) H) ∧ (ys ≠ [] → ∀ p, H p = none → Q (.ref p) (upd H p (.tup (xs ++ ys))))
theorem Vals.nil_iff {xs : List V} {us : List Value} (r : Vals xs us) : us = [] ↔ xs = [] := by
  cases r with
  | nil => simp
  | cons _ _ => simp
theorem op_catT : OpR X (binaryOp .Add) (rCatT X.K) := by
  unfold OpR at *
  exact by
    intro pins s σ H x y v u Q I rx ry h
    obtain ⟨a, b, xs, ys, rfl, rfl, ha, hb, hx, hz, q1, q2⟩ := h
    cases rx
    cases ry
    obtain ⟨its, r1, p1, _⟩ := I.tuple ha
    obtain ⟨its2, r2, p2, _⟩ := I.tuple hb
    refine HT.cat_tup p1 p2 (fun z => hx (r1.nil_iff.mp z)) (fun z => ⟨.ref a, H, I, rfl, q1 (r2.nil_iff.mp z)⟩) (fun z => ?_) (by rw [← r1.length, ← r2.length]; exact hz)
    refine ⟨.ref s.heap.objs.size, _, I.laid (t' := s.toks) (o := .tup (xs ++ ys)) (fun b ob q => Heap.get?_push_of_some _ q) (Nat.le_refl _) ?_, rfl, q2 (fun w => z (r2.nil_iff.mpr w)) _ (I.hok.fresh (Nat.le_refl _))⟩
    exact ⟨by rw [List.length_append]; exact hz, _, r1.append r2, IsTup.new _ _⟩
end
end L2
namespace L2
open PySem PySem.Spec PyProof.Rows
def ixN (n : Nat) (i : Int) : Option Nat := if 0 ≤ i then (if i < n then some i.toNat else none) else if -(n : Int) ≤ i then some (i + n).toNat else none
def atI {α : Type} (xs : List α) (i : Int) : Option α := (ixN xs.length i).bind fun j => xs[j]?
theorem ixN_seq {n : Nat} {i : Int} {j : Nat} (h : ixN n i = some j) : seqIndex? i n = some j ∧ j < n ∧ -(n : Int) ≤ i ∧ i < n := by
  unfold ixN at h
  by_cases h0 : 0 ≤ i
  · rw [if_pos h0] at h
    by_cases h1 : i < n
    · rw [if_pos h1] at h
      have e : i.toNat = j := Option.some.inj h
      exact ⟨by rw [seqIndex_of h0 h1, e], by omega, by omega, h1⟩
    · rw [if_neg h1] at h; cases h
  · rw [if_neg h0] at h
    by_cases h1 : -(n : Int) ≤ i
    · rw [if_pos h1] at h
      have e : (i + n).toNat = j := Option.some.inj h
      exact ⟨by rw [seqIndex_neg (by omega) h1, e], by omega, h1, by omega⟩
    · rw [if_neg h1] at h; cases h
theorem atI_get {α : Type} {xs : List α} {i : Int} {v : α} (h : atI xs i = some v) : ∃ j, seqIndex? i xs.length = some j ∧ xs[j]? = some v ∧ j < xs.length ∧ -(xs.length : Int) ≤ i ∧ i < xs.length := by
  unfold atI at h
  cases e : ixN xs.length i with
  | none => rw [e] at h; cases h
  | some j =>
    rw [e] at h
    obtain ⟨h1, h2, h3, h4⟩ := ixN_seq e
    exact ⟨j, h1, h, h2, h3, h4⟩
theorem atI_nat {α : Type} {xs : List α} {j : Nat} {v : α} (h : xs[j]? = some v) : atI xs (j : Int) = some v := by
  have hj : j < xs.length := (List.getElem?_eq_some_iff.mp h).1
  have e : ixN xs.length (j : Int) = some j := by
    unfold ixN
    rw [if_pos (by omega), if_pos (by omega)]; simp
  unfold atI; rw [e]; exact h
theorem atI_last {α : Type} (xs : List α) (v : α) : atI (xs ++ [v]) (-1) = some v := by
  have hl : (xs ++ [v]).length = xs.length + 1 := by simp
  have e : ixN (xs ++ [v]).length (-1) = some xs.length := by
    unfold ixN
    rw [hl, if_neg (by decide), if_pos (by omega)]
    congr 1
    omega
  unfold atI
  rw [e]
  show (xs ++ [v])[xs.length]? = some v
  simp
def PlainIx (b : Expr) : Prop := ∀ o i, subscripted b false o i = operate [o, i] (getItem o i)
@[irreducible] def IxR (X : Cx) (r : R2) : Prop :=
  ∀ (value slice : Expr) (pins : List (Addr × Obj)) (s : Shared) (σ : St) (H : Hp) (x y : V) (v u : Value) (Q : VK), Inv X pins σ H s → RelV x v → RelV y u → r x y H Q →
    subscripted slice false v u = operate [v, u] (getItem v u) → wpAny (model X.prog X.w) X.A (subscriptTail value slice v u) (EP X pins σ Q) X.xe s
@[irreducible] def MtR (X : Cx) (id : String) (r : V → List V → Hp → VK → Prop) : Prop :=
  ∀ (pins : List (Addr × Obj)) (s : Shared) (σ : St) (H : Hp) (x : V) (xs : List V) (v : Value) (us : List Value) (Q : VK), Inv X pins σ H s → RelV x v → Vals xs us → r x xs H Q →
    wpAny (model X.prog X.w) X.A (call (.builtin id) (v :: us)) (EP X pins σ Q) X.xe s
section
variable {X : Cx} {a b : Expr} {ta tb : TE} {pos : Pos}
theorem IxR.or {r r' : R2} (h : IxR X r) (h' : IxR X r') : IxR X (fun x y H Q => r x y H Q ∨ r' x y H Q) := by
  unfold IxR at *
  exact by
    intro value slice pins s σ H x y v u Q I rx ry q hs
    rcases q with q | q
    · exact h value slice pins s σ H x y v u Q I rx ry q hs
    · exact h' value slice pins s σ H x y v u Q I rx ry q hs
theorem MtR.or {id : String} {r r' : V → List V → Hp → VK → Prop} (h : MtR X id r) (h' : MtR X id r') : MtR X id (fun x xs H Q => r x xs H Q ∨ r' x xs H Q) := by
  unfold MtR at *
  exact by
    intro pins s σ H x xs v us Q I rx rs q
    rcases q with q | q
    · exact h pins s σ H x xs v us Q I rx rs q
    · exact h' pins s σ H x xs v us Q I rx rs q
theorem pe_ix {r : R2} (hr : IxR X r) (ha : PE X a ta) (hb : PE X b tb) (hs : PlainIx b) : PE X (.Subscript a b pos) (tOp r ta tb) := by
  unfold PE; unfold IxR at hr
  exact by
    intro pins s σ H Q I h
    exact Subscript_ (binT ha hb I h fun v u s2 x y H2 I2 rx ry q => hr a b pins s2 σ H2 x y v u Q I2 rx ry q (hs _ _))
def rIxL (K : PySem.W.Frag) : R2 := fun x y H Q => ∃ p xs i v, x = .ref p ∧ y = .int i ∧ SqL K H p xs ∧ atI xs i = some v ∧ Q v H
def rIxT (K : PySem.W.Frag) : R2 := fun x y H Q => ∃ p xs i v, x = .ref p ∧ y = .int i ∧ SqT K H p xs ∧ atI xs i = some v ∧ Q v H
theorem ix_list : IxR X (rIxL X.K) := by
  unfold IxR at *
  exact by
    intro value slice pins s σ H x y v u Q I rx ry h hs
    obtain ⟨p, xs, i, z, rfl, rfl, hq, he, q⟩ := h
    cases rx
    obtain ⟨t, rfl⟩ := ry
    obtain ⟨its, r, pl, hz⟩ := I.list hq
    obtain ⟨j, h1, h2, h3, h4, h5⟩ := atI_get he
    obtain ⟨w, ew, rw'⟩ := r.get h2
    have hl := r.length
    have hn := line63
    have fin : EP X pins σ Q w s := ⟨z, H, I, rw', q⟩
    by_cases h0 : 0 ≤ i
    · have hj : i.toNat = j := by
        rw [seqIndex_of h0 h5] at h1
        exact Option.some.inj h1
      exact item_listR pl.isList h0 (by omega) (by rw [hj]; simpa using ew) fin hs
    · have hj : (i + (its.toArray.size : Int)).toNat = j := by
        rw [seqIndex_neg (by omega) h4] at h1
        rw [List.size_toArray, ← hl]
        exact Option.some.inj h1
      exact subscriptTail_builtinR (x := w) pl.isList.typeIs slot_list_getitem.lookup
        (wpAny_getItem_list_neg (Q := fun r s' => r = w ∧ EP X pins σ Q r s') pl.isList (by omega) (by rw [List.size_toArray] <;> omega) (by omega) (by rw [hj]; simpa using ew) ⟨rfl, fin⟩) hs
theorem ix_tup : IxR X (rIxT X.K) := by
  unfold IxR at *
  exact by
    intro value slice pins s σ H x y v u Q I rx ry h hs
    obtain ⟨p, xs, i, z, rfl, rfl, hq, he, q⟩ := h
    cases rx
    obtain ⟨t, rfl⟩ := ry
    obtain ⟨its, r, pl, hz⟩ := I.tuple hq
    obtain ⟨j, h1, h2, h3, h4, h5⟩ := atI_get he
    obtain ⟨w, ew, rw'⟩ := r.get h2
    have hl := r.length
    have hn := line63
    have fin : EP X pins σ Q w s := ⟨z, H, I, rw', q⟩
    exact subscriptTail_builtinR (x := w) pl.typeIs slot_tuple_getitem.lookup
      (getItem_tuple (j := j) (Q := fun r s' => r = w ∧ EP X pins σ Q r s') pl (by omega) (by omega) (by rw [List.size_toArray, ← hl]; exact h1) (by simpa using ew) ⟨rfl, fin⟩) hs
theorem mapSeq_set (its : List Value) (n j : Nat) (u : Value) : Obj.mapSeq (·.setIfInBounds j u) { cls := .type "list", data := .seq its.toArray n } = { cls := .type "list", data := .seq (its.set j u).toArray n } := by
  simp [Obj.mapSeq]
theorem Inv.lst {pins : List (Addr × Obj)} {σ : St} {H : Hp} {s : Shared} {p : Addr} {xs : List V} (I : Inv X pins σ H s) (h : H p = some (.lst xs)) :
    ∃ (its : List Value) (n : Nat), Vals xs its ∧ s.heap.get? p = some { cls := .type "list", data := .seq its.toArray n } ∧ xs.length ≤ sizeLine := by
  obtain ⟨z, its, n, r, e⟩ := I.hok p _ h
  exact ⟨its, n, r, e, z⟩
theorem Inv.lstUpd {pins : List (Addr × Obj)} {σ : St} {H : Hp} {s : Shared} {p : Addr} {xs ys : List V} {its its' : List Value} {n n' : Nat} {f : Obj → Obj} (I : Inv X pins σ H s) (h : H p = some (.lst xs))
    (ho : s.heap.get? p = some { cls := .type "list", data := .seq its.toArray n }) (hf : f { cls := .type "list", data := .seq its.toArray n } = { cls := .type "list", data := .seq its'.toArray n' }) (r : Vals ys its') (hz : ys.length ≤ sizeLine) (t : Nat) :
    Inv X pins σ (upd H p (.lst ys)) { s with heap := s.heap.update p f, toks := t } := by
  have e : (s.heap.update p f).get? p = some { cls := .type "list", data := .seq its'.toArray n' } := by
    rw [Heap.get?_update_self f ho (by rw [hf] <;> rfl), hf]
  refine I.write (x := p) (e := p) (by rw [h]; trivial) (.inl rfl) (fun b u hb q => (Heap.get?_update_other _ _ (Ne.symm hb)).trans q) ⟨_, e⟩ ?_
  exact ⟨hz, its', n', r, e⟩
def rSetL : V → V → V → Hp → (Hp → Prop) → Prop := fun o i v H Q => ∃ p xs k j, o = .ref p ∧ i = .int k ∧ H p = some (.lst xs) ∧ ixN xs.length k = some j ∧ Q (upd H p (.lst (xs.set j v)))
theorem set_list : PSet X rSetL := by
  unfold PSet at *
  exact by
    intro pins s σ H o i v ov iv u Q I ro ri rv h
    obtain ⟨p, xs, k, j, rfl, rfl, hp, hj, q⟩ := h
    cases ro
    obtain ⟨t, rfl⟩ := ri
    obtain ⟨its, n, r, ho, hz⟩ := I.lst hp
    obtain ⟨h1, h2, h3, h4⟩ := ixN_seq hj
    have hl := r.length
    have hn := line63
    have I' : Inv X pins σ (upd H p (.lst (xs.set j v))) { s with heap := s.heap.update p (Obj.mapSeq (·.setIfInBounds j u)) } :=
      I.lstUpd hp ho (mapSeq_set its n j u) (r.set rv j) (by rw [List.length_set]; exact hz) s.toks
    by_cases h0 : 0 ≤ k
    · have hk : k.toNat = j := by
        rw [seqIndex_of h0 h4] at h1
        exact Option.some.inj h1
      exact PySem.W.ki_setAt ho h0 (by omega) (by rw [List.size_toArray, ← hl]; exact h4) (by rw [hk]; exact ⟨_, I', q⟩)
    · have hk : (k + (its.toArray.size : Int)).toNat = j := by
        rw [seqIndex_neg (by omega) h3] at h1
        rw [List.size_toArray, ← hl]
        exact Option.some.inj h1
      exact PySem.W.ki_setBack ho (by omega) (by rw [List.size_toArray, ← hl]; exact h3) (by omega) (by rw [hk]; exact ⟨_, I', q⟩)
def flatV : V → Bool
  | .non => true
  | .bl _ => true
  | .int _ => true
  | .str _ => true
  | _ => false
def eqV : V → V → Bool
  | .non, .non => true
  | .bl a, .bl b => a == b
  | .bl a, .int b => (if a then 1 else 0) == b
  | .int a, .bl b => a == (if b then 1 else 0)
  | .int a, .int b => a == b
  | .str a, .str b => a == b
  | _, _ => false
theorem eqAt_V {A : Around} {s : Shared} {y x : V} {u v : Value} (ry : RelV y u) (rx : RelV x v) (fy : flatV y = true) (fx : flatV x = true) : SeqAt.EqAt A s u v (eqV y x) := by
  cases y with
  | non =>
    cases ry
    cases x with
    | non => cases rx; exact SeqAt.EqAt.same _
    | bl b => cases rx; exact SeqAt.EqAt.none_bool b
    | int b => obtain ⟨t, rfl⟩ := rx; exact SeqAt.EqAt.none_int b t
    | str b => obtain ⟨t, rfl⟩ := rx; exact SeqAt.EqAt.none_str b t
    | _ => exact absurd (show false = true from fx) Bool.false_ne_true
  | bl a =>
    cases ry
    cases x with
    | non => cases rx; exact SeqAt.EqAt.bool_none a
    | bl b => cases rx; exact SeqAt.EqAt.bool_bool a b
    | int b => obtain ⟨t, rfl⟩ := rx; exact SeqAt.EqAt.bool_int a b t
    | str b => obtain ⟨t, rfl⟩ := rx; exact SeqAt.EqAt.bool_str a b t
    | _ => exact absurd (show false = true from fx) Bool.false_ne_true
  | int a =>
    obtain ⟨t', rfl⟩ := ry
    cases x with
    | non => cases rx; exact SeqAt.EqAt.int_none a t'
    | bl b => cases rx; exact SeqAt.EqAt.int_bool a t' b
    | int b => obtain ⟨t, rfl⟩ := rx; exact SeqAt.EqAt.int_int a t' b t
    | str b => obtain ⟨t, rfl⟩ := rx; exact SeqAt.EqAt.int_str a t' b t
    | _ => exact absurd (show false = true from fx) Bool.false_ne_true
  | str a =>
    obtain ⟨t', rfl⟩ := ry
    cases x with
    | non => cases rx; exact SeqAt.EqAt.str_none a t'
    | bl b => cases rx; exact SeqAt.EqAt.str_bool a t' b
    | int b => obtain ⟨t, rfl⟩ := rx; exact SeqAt.EqAt.str_int a t' b t
    | str b => obtain ⟨t, rfl⟩ := rx; exact SeqAt.EqAt.str_str a t' b t
    | _ => exact absurd (show false = true from fx) Bool.false_ne_true
  | _ => exact absurd (show false = true from fy) Bool.false_ne_true
def eqU (x : V) (u : Value) : Bool := match u with
  | .none => eqV .non x
  | .bool b => eqV (.bl b) x
  | .int i _ => eqV (.int i) x
  | .str z _ => eqV (.str z) x
  | _ => false
theorem eqU_of {x y : V} {u : Value} (r : RelV y u) (f : flatV y = true) : eqU x u = eqV y x := by
  cases y with
  | non => cases r; rfl
  | bl b => cases r; rfl
  | int i => obtain ⟨t, rfl⟩ := r; rfl
  | str z => obtain ⟨t, rfl⟩ := r; rfl
  | _ => exact absurd (show false = true from f) Bool.false_ne_true
theorem any_eqU {x : V} : ∀ {xs : List V} {us : List Value}, Vals xs us → xs.all flatV = true → us.any (eqU x) = xs.any fun y => eqV y x
  | _, _, .nil, _ => rfl
  | y :: xs, u :: us, .cons r t, f => by
    rw [List.all_cons, Bool.and_eq_true] at f
    rw [List.any_cons, List.any_cons, eqU_of r f.1, any_eqU t f.2]
theorem mem_eqAt {A : Around} {s : Shared} {x : V} {v : Value} (rx : RelV x v) (fx : flatV x = true) : ∀ {xs : List V} {us : List Value}, Vals xs us → xs.all flatV = true → ∀ u ∈ us, SeqAt.EqAt A s u v (eqU x u)
  | _, _, .nil, _ => fun u hu => by cases hu
  | y :: xs, u :: us, .cons r t, f => fun u' hu => by
    rw [List.all_cons, Bool.and_eq_true] at f
    rcases List.mem_cons.mp hu with rfl | hu
    · rw [eqU_of r f.1]; exact eqAt_V r rx f.1 fx
    · exact mem_eqAt rx fx t f.2 u' hu
def inV (x : V) (xs : List V) : Bool := xs.any fun y => eqV y x
def rIn (K : PySem.W.Frag) (neg : Bool) : R2 := fun x y H Q => ∃ p xs, y = .ref p ∧ (SqL K H p xs ∨ SqT K H p xs) ∧ flatV x = true ∧ xs.all flatV = true ∧ Q (.bl (if neg then !inV x xs else inV x xs)) H
theorem op_in_seq : OpR X (compareOp .In) (rIn X.K false) := by
  unfold OpR at *
  exact by
    intro pins s σ H x y v u Q I rx ry h
    obtain ⟨p, xs, rfl, hq, fx, fs, q⟩ := h
    cases ry
    rcases hq with hq | hq
    · obtain ⟨its, r, pl, hz⟩ := I.list hq
      refine SeqAt.in_listAt (eqU x) pl.isList (fun w hw => mem_eqAt rx fx r fs w (by simpa using hw)) ⟨.bl _, H, I, rfl, ?_⟩
      rw [show its.toArray.any (eqU x) = its.any (eqU x) by simp, any_eqU r fs]
      exact q
    · obtain ⟨its, r, pl, hz⟩ := I.tuple hq
      refine SeqAt.in_tupleAt (eqU x) pl (fun w hw => mem_eqAt rx fx r fs w (by simpa using hw)) ⟨.bl _, H, I, rfl, ?_⟩
      rw [show its.toArray.any (eqU x) = its.any (eqU x) by simp, any_eqU r fs]
      exact q
theorem call_len_seq : CallR X (.builtin "len") (fun xs H Q => ∃ p ys, xs = [.ref p] ∧ (SqL X.K H p ys ∨ SqT X.K H p ys) ∧ Q (.int ys.length) H) := by
  unfold CallR at *
  exact by
    intro pins s σ H xs us Q I r h
    obtain ⟨p, ys, rfl, hq, q⟩ := h
    obtain ⟨u, rfl, rx⟩ := vals1 r
    cases rx
    have hn := line63
    rcases hq with hq | hq
    · obtain ⟨its, r', pl, hz⟩ := I.list hq
      have hlen := r'.length
      exact Calls.call_len_list pl.isList (by simp only [List.size_toArray] <;> omega) ⟨.int ys.length, H, I.tok _, ⟨s.toks + 1, by rw [List.size_toArray, hlen]⟩, q⟩
    · obtain ⟨its, r', pl, hz⟩ := I.tuple hq
      have hlen := r'.length
      exact len_tuple pl (by simp only [List.size_toArray] <;> omega) ⟨.int ys.length, H, I.tok _, ⟨s.toks + 1, by rw [List.size_toArray, hlen]⟩, q⟩
theorem CallR.or {f : Value} {r r' : List V → Hp → VK → Prop} (h : CallR X f r) (h' : CallR X f r') : CallR X f (fun xs H Q => r xs H Q ∨ r' xs H Q) := by
  unfold CallR at *
  exact by
    intro pins s σ H xs us Q I rs q
    rcases q with q | q
    · exact h pins s σ H xs us Q I rs q
    · exact h' pins s σ H xs us Q I rs q
theorem call_list_of : CallR X (.type "list") (fun xs H Q => ∃ p ys, xs = [.ref p] ∧ (SqL X.K H p ys ∨ SqT X.K H p ys) ∧ ∀ l, H l = none → Q (.ref l) (upd H l (.lst ys))) := by
  unfold CallR at *
  exact by
    intro pins s σ H xs us Q I r h
    obtain ⟨p, ys, rfl, hq, q⟩ := h
    obtain ⟨u, rfl, rx⟩ := vals1 r
    cases rx
    have fin : ∀ (its : List Value), Vals ys its → ys.length ≤ sizeLine → ∀ (h' : Heap) (c' : Nat), (∀ b o', s.heap.get? b = some o' → h'.get? b = some o') →
        h'.get? s.heap.objs.size = some { cls := .type "list", dict := none, data := .seq its.toArray c', slots := #[] } → EP X pins σ Q (.ref s.heap.objs.size) { s with heap := h' } := fun its r' hz h' c' kp e =>
      ⟨.ref s.heap.objs.size, _, I.laid (t' := s.toks) kp (Nat.le_refl _) (show ObjOk X.prog X.w _ h' _ (.lst ys) from ⟨hz, its, c', r', e⟩), rfl, q _ (I.hok.fresh (Nat.le_refl _))⟩
    rcases hq with hq | hq
    · obtain ⟨its, r', pl, hz⟩ := I.list hq
      have hlen := r'.length
      obtain ⟨o, ho, hc, n, hd⟩ := pl.isList
      exact call_list_seq p (.inl rfl) ho hc hd (fun h' c' kp e => fin its r' hz h' c' kp e) (by simp only [List.size_toArray] <;> omega)
    · obtain ⟨its, r', pl, hz⟩ := I.tuple hq
      have hlen := r'.length
      obtain ⟨o, ho, hc, n, hd⟩ := pl
      exact call_list_seq p (.inr rfl) ho hc hd (fun h' c' kp e => fin its r' hz h' c' kp e) (by simp only [List.size_toArray] <;> omega)
def tyV (K : PySem.W.Frag) (T : String) (x : V) (H : Hp) : Prop := match x with
  | .str _ => T = "str"
  | .int _ => T = "int"
  | .ref p => (T = "list" ∧ ∃ xs, SqL K H p xs) ∨ (T = "tuple" ∧ ∃ o, K.lookup p = some o ∧ o.cls = .type "tuple" ∧ o.dict = none) ∨
      (T = "dict" ∧ ((∃ kvs, H p = some (.dK kvs)) ∨ ∃ kvs, H p = some (.dT kvs))) ∨ (T = "set" ∧ ∃ S n, H p = some (.set S n))
  | _ => False
theorem tyV_is {pins : List (Addr × Obj)} {σ : St} {H : Hp} {s : Shared} {T : String} {x : V} {v : Value} (I : Inv X pins σ H s) (r : RelV x v) (ty : tyV X.K T x H) :
    s.TypeIs v T ∧ ∀ a, v = .ref a → ∃ ob, s.heap.get? a = some ob ∧ ob.dict = none := by
  cases x with
  | str z =>
    obtain ⟨t, rfl⟩ := r
    cases (show T = "str" from ty)
    exact ⟨typeIs_str s z t, fun _ e => nomatch e⟩
  | int i =>
    obtain ⟨t, rfl⟩ := r
    cases (show T = "int" from ty)
    exact ⟨typeIs_int s i t, fun _ e => nomatch e⟩
  | ref p =>
    cases r
    rcases ty with ⟨rfl, xs, hq⟩ | ⟨rfl, o, hk, hc, hd⟩ | ⟨rfl, hk⟩ | ⟨rfl, S, n, hk⟩
    · obtain ⟨its, _, pl, _⟩ := I.list hq
      refine ⟨pl.isList.typeIs, fun a e => ?_⟩
      cases e
      obtain ⟨o, n, e, c, hd, _⟩ := pl
      exact ⟨o, e, hd⟩
    · refine ⟨⟨o, I.kIn p o hk, hc⟩, fun a e => ?_⟩
      cases e
      exact ⟨o, I.kIn _ o hk, hd⟩
    · have z : ∃ o, s.heap.get? p = some o ∧ o.ExactDict := by
        rcases hk with ⟨kvs, hk⟩ | ⟨kvs, hk⟩
        · obtain ⟨_, _, _, _, o, _, _, e, ex, _⟩ := I.hok p _ hk
          exact ⟨o, e, ex⟩
        · obtain ⟨_, _, _, _, o, _, _, e, ex, _⟩ := I.hok p _ hk
          exact ⟨o, e, ex⟩
      obtain ⟨o, e, ex⟩ := z
      refine ⟨⟨o, e, ex.1⟩, fun a e2 => ?_⟩
      cases e2
      exact ⟨o, e, ex.2.1⟩
    · obtain ⟨o, _, _, _, e, ex, _⟩ := I.hok p _ hk
      refine ⟨⟨o, e, ex.1⟩, fun a e2 => ?_⟩
      cases e2
      exact ⟨o, e, ex.2.1⟩
  | _ => exact False.elim ty
def tBM (K : PySem.W.Frag) (T : String) (r : V → List V → Hp → VK → Prop) (to : TE) (t : TA) : TE := fun σ H Q => to σ H fun x H1 => tyV K T x H1 ∧ t σ H1 fun xs H2 => r x xs H2 Q
variable {o e : Expr} {es : List Expr} {to : TE} {t : TA} {name : Str} {apos cpos : Pos} {T id : String} {r : V → List V → Hp → VK → Prop}
theorem pe_bm (pa : PlainAttrs T) (slot : Slot T name id) (hty : typeOf (.builtin id) = pure (.type "method_descriptor")) (hm : MtR X id r) (ho : PE X o to) (ha : PA X (e :: es) t)
    (hbase : attributeBase o name X.env (eval o X.env) = eval o X.env := by rfl)
    (hfew : ((backTo cpos (starEach (e :: es) X.env)).all (fun x => !x.1) && (backToKw cpos (keywordEach [] X.env)).all (fun x => x.1.isSome)
      && decide ((e :: es).length + ([] : List Keyword).length + (if ([] : List Keyword).isEmpty then 0 else 1) < 30)) = true := by rfl)
    (hline : (apos.endLine == cpos.line) = true := by rfl) (hs : starEach (e :: es) X.env = (false, eval e X.env) :: starEach es X.env := by rfl) (hplain : (backTo cpos (starEach es X.env)).any (·.1) = false := by rfl) :
    PE X (.Call (.Attribute o name apos) (e :: es) [] cpos) (tBM X.K T r to t) := by
  unfold PE at *; unfold PA at *; unfold MtR at *
  exact by
    intro pins s σ H Q I h
    refine wpAny_Call_method_late hbase hfew hline rfl (thn (ho pins s σ H _ I h) fun v s1 ⟨x, H1, I1, r1, ty, q1⟩ => ?_)
    obtain ⟨h1, h2⟩ := tyV_is I1 r1 ty
    refine ⟨T, id, pa, slot, hty, h1, h2, ?_⟩
    have hA := ha cpos pins s1 σ H1 _ I1 q1
    rw [hs] at hA ⊢
    refine Calls.callWith_builtin (by show (false || (backTo cpos (starEach es X.env)).any (·.1)) = false; rw [hplain] <;> rfl) (Calls.evalArgs_plain ?_)
    exact thn hA fun us s2 ⟨vs, H2, I2, r2, q2⟩ => hm pins s2 σ H2 x vs v us Q I2 r1 r2 q2
/- xs.append(e), list.index on a module's tuple .. are MtR facts of 06m -/
end
end L2
namespace L2
open PySem PySem.Spec PyProof.Rows
@[irreducible] def MtM (X : Cx) (id : String) (r : V → List V → Hp → VK → Prop) : Prop :=
  ∀ (pins : List (Addr × Obj)) (s : Shared) (σ : St) (H : Hp) (x : V) (xs : List V) (v : Value) (us : List Value) (Q : VK), Inv X pins σ H s → RelV x v → Vals xs us → r x xs H Q →
    wpAny (model X.prog X.w) X.A (call (.builtin id) (v :: us)) (EP X pins σ Q) X.xe s
theorem Vals.one : ∀ {x : V} {us : List Value}, Vals [x] us → ∃ u, us = [u] ∧ RelV x u
  | _, _, .cons r .nil => ⟨_, rfl, r⟩
theorem Vals.two : ∀ {x y : V} {us : List Value}, Vals [x, y] us → ∃ u v, us = [u, v] ∧ RelV x u ∧ RelV y v
  | _, _, _, .cons r (.cons q .nil) => ⟨_, _, rfl, r, q⟩
theorem Vals.dropLast {xs : List V} {us : List Value} (h : Vals xs us) : Vals xs.dropLast us.dropLast := by
  induction h with
  | nil => exact .nil
  | cons r t ih =>
    cases t with
    | nil => exact .nil
    | cons q t' => exact .cons r ih
theorem Vals.reverse {xs : List V} {us : List Value} (h : Vals xs us) : Vals xs.reverse us.reverse := by
  induction h with
  | nil => exact .nil
  | cons r t ih => rw [List.reverse_cons, List.reverse_cons]; exact Vals.append ih (.cons r .nil)
section
variable {X : Cx} {pins : List (Addr × Obj)} {σ : St} {H : Hp} {s : Shared} {l b : Addr} {xs ys zs : List V}
theorem Inv.lset {its its' : List Value} {n : Nat} {f : Array Value → Array Value} {t' : Nat} (I : Inv X pins σ H s) (hH : H l = some (.lst xs))
    (e : s.heap.get? l = some { cls := .type "list", data := .seq its.toArray n }) (hf : f its.toArray = its'.toArray) (hv : Vals ys its') (hz : ys.length ≤ sizeLine) :
    Inv X pins σ (upd H l (.lst ys)) { s with heap := s.heap.update l (Obj.mapSeq f), toks := t' } := by
  have q := PySem.IsL.update e f
  rw [hf] at q
  refine I.write (x := l) (e := l) (by rw [hH]; exact trivial) (.inl rfl) (fun b' u hb hu => (Heap.get?_update_other s.heap (Obj.mapSeq f) (Ne.symm hb)).trans hu) ⟨_, q⟩ ?_
  exact ⟨hz, its', _, hv, q⟩
theorem Inv.lnew {its : List Value} {t' : Nat} (I : Inv X pins σ H s) (hv : Vals ys its) (hz : ys.length ≤ sizeLine) :
    Inv X pins σ (upd H s.heap.objs.size (.lst ys)) { s with heap := s.heap.push { cls := .type "list", data := .seq its.toArray }, toks := t' } :=
  I.laid (fun _ _ q => Heap.get?_push_of_some _ q) (Nat.le_refl _) ⟨hz, its, 0, hv, Heap.get?_push_size _ rfl⟩
theorem Inv.fresh (I : Inv X pins σ H s) : H s.heap.objs.size = none := I.hok.fresh (Nat.le_refl _)
theorem Inv.lstM (I : Inv X pins σ H s) (hH : H l = some (.lst xs)) : xs.length ≤ sizeLine ∧ ∃ (its : List Value) (n : Nat), Vals xs its ∧ xs.length = its.length ∧ s.heap.get? l = some { cls := .type "list", data := .seq its.toArray n } := by
  obtain ⟨z, its, n, r, e⟩ := I.hok l _ hH
  exact ⟨z, its, n, r, r.length, e⟩
theorem notLongL {n : Nat} (h : n ≤ sizeLine) : Builtin.List.listTooLong n = false := by
  unfold Builtin.List.listTooLong
  exact decide_eq_false (by omega)
end
section
variable {X : Cx}
def rAppend : V → List V → Hp → VK → Prop := fun x vs H Q => ∃ l xs y, x = .ref l ∧ vs = [y] ∧ H l = some (.lst xs) ∧ xs.length < sizeLine ∧ Q .non (upd H l (.lst (xs ++ [y])))
theorem mt_append : MtM X "list.append" rAppend := by
  unfold MtM at *
  exact by
    intro pins s σ H x vs v us Q I rx rv h
    obtain ⟨l, xs, y, rfl, rfl, hH, hz, q⟩ := h
    cases rx
    obtain ⟨u, rfl, ru⟩ := rv.one
    obtain ⟨z, its, n, r, hl, e⟩ := I.lstM hH
    refine call_meets F.slot_list_append ⟨_, e, rfl⟩ F.entry_list_append (F.args_list_append_2 _ _) (PySem.list_append l its.toArray n u (by rw [List.size_toArray]; omega)) ⟨e, ?_⟩
    refine ⟨.non, _, I.lset (its' := its ++ [u]) hH e (by simp) (r.append (.cons ru .nil)) ?_, rfl, q⟩
    rw [List.length_append, List.length_singleton]
    omega
def rExtend : V → List V → Hp → VK → Prop := fun x vs H Q => ∃ l b xs zs, x = .ref l ∧ vs = [.ref b] ∧ H l = some (.lst xs) ∧ H b = some (.lst zs) ∧ xs.length + zs.length ≤ sizeLine ∧ Q .non (upd H l (.lst (xs ++ zs)))
theorem mt_extend : MtM X "list.extend" rExtend := by
  unfold MtM at *
  exact by
    intro pins s σ H x vs v us Q I rx rv h
    obtain ⟨l, b, xs, zs, rfl, rfl, hH, hB, hz, q⟩ := h
    cases rx
    obtain ⟨u, rfl, ru⟩ := rv.one
    cases ru
    obtain ⟨z, its, n, r, hl, e⟩ := I.lstM hH
    obtain ⟨z2, its2, n2, r2, hl2, e2⟩ := I.lstM hB
    have hsz : its.toArray.size + its2.toArray.size ≤ sizeLine := by rw [List.size_toArray, List.size_toArray]; omega
    have hlong : ¬ (!its.toArray.isEmpty && Builtin.List.listTooLong (its.toArray.size + its2.toArray.size)) = true := by
      rw [notLongL hsz, Bool.and_false]
      exact Bool.false_ne_true
    refine call_meets F.slot_list_extend ⟨_, e, rfl⟩ F.entry_list_extend (F.args_list_extend_2 _ _)
      (AutoSeq1.list_extend_list_list_0 l its.toArray n b its2.toArray n2 hlong (by rw [List.size_toArray]; omega) (by omega)) ⟨e, e2, ?_⟩
    refine ⟨.non, _, I.lset (its' := its ++ its2) hH e (by simp) (r.append r2) ?_, rfl, q⟩
    rw [List.length_append]
    omega
def rCat : R2 := fun x y H Q => ∃ l b xs zs, x = .ref l ∧ y = .ref b ∧ H l = some (.lst xs) ∧ H b = some (.lst zs) ∧ xs.length + zs.length ≤ sizeLine ∧ ∀ p, H p = none → Q (.ref p) (upd H p (.lst (xs ++ zs)))
theorem op_cat : OpR X (binaryOp .Add) rCat := by
  unfold OpR at *
  exact by
    intro pins s σ H x y v u Q I rx ry h
    obtain ⟨l, b, xs, zs, rfl, rfl, hH, hB, hz, q⟩ := h
    cases rx
    cases ry
    obtain ⟨z, its, n, r, hl, e⟩ := I.lstM hH
    obtain ⟨z2, its2, n2, r2, hl2, e2⟩ := I.lstM hB
    refine PySem.P.add_list e e2 ?_ (by rw [List.size_toArray, List.size_toArray]; omega)
    have ea : its.toArray ++ its2.toArray = (its ++ its2).toArray := by simp
    rw [ea]
    exact ⟨.ref _, _, I.lnew (t' := s.toks) (r.append r2) (by rw [List.length_append]; omega), rfl, q _ I.fresh⟩
end
section
variable {prog : Program} {w : World} {A : Around} {E : Value → Shared → Prop} {s : Shared}
set_option maxRecDepth 100000 in
end
section
variable {X : Cx}
end
end L2
namespace L2
open PySem PySem.Spec PyProof.Rows
section
variable {κ : Type} [DecidableEq κ]
def valV (kvs : List (κ × V)) (k : κ) : Option V := (kvs.find? fun kv => decide (kv.1 = k)).map (·.2)
def putK (kvs : List (κ × V)) (k : κ) (v : V) : List (κ × V) :=
  if (kvs.any fun kv => decide (kv.1 = k)) = true then kvs.map (fun kv => if kv.1 = k then (kv.1, v) else kv) else kvs ++ [(k, v)]
def dropK (kvs : List (κ × V)) (k : κ) : List (κ × V) := kvs.filter fun kv => decide (kv.1 ≠ k)
theorem valV_nil {k : κ} : valV ([] : List (κ × V)) k = none := rfl
theorem valV_pos {p : κ × V} {r : List (κ × V)} {k : κ} (e : p.1 = k) : valV (p :: r) k = some p.2 := by simp [valV, List.find?_cons, e]
theorem valV_neg {p : κ × V} {r : List (κ × V)} {k : κ} (e : ¬ p.1 = k) : valV (p :: r) k = valV r k := by simp [valV, List.find?_cons, e]
theorem valV_any (k : κ) : ∀ kvs : List (κ × V), (kvs.any fun kv => decide (kv.1 = k)) = (valV kvs k).isSome
  | [] => rfl
  | p :: r => by
    rw [List.any_cons]
    by_cases e : p.1 = k
    · simp only [valV_pos e, decide_eq_true e, Bool.true_or, Option.isSome_some]
    · rw [valV_neg e, decide_eq_false e, Bool.false_or]; exact valV_any k r
theorem valV_map (k j : κ) (y : V) : ∀ kvs : List (κ × V), valV (kvs.map fun kv => if kv.1 = k then (kv.1, y) else kv) j = (valV kvs j).map fun x => if j = k then y else x
  | [] => rfl
  | p :: r => by
    have ih := valV_map k j y r
    rw [List.map_cons]
    by_cases h : p.1 = k
    · rw [if_pos h]
      by_cases e : p.1 = j
      · rw [valV_pos (p := (p.1, y)) e, valV_pos e, Option.map_some, if_pos (e.symm.trans h)]
      · rw [valV_neg (p := (p.1, y)) e, valV_neg e, ih]
    · rw [if_neg h]
      by_cases e : p.1 = j
      · rw [valV_pos (p := p) e, valV_pos e, Option.map_some, if_neg (fun z => h (e.trans z))]
      · rw [valV_neg (p := p) e, valV_neg e, ih]
theorem valV_snoc (k j : κ) (y : V) : ∀ kvs : List (κ × V), valV kvs k = none → valV (kvs ++ [(k, y)]) j = if j = k then some y else valV kvs j
  | [], _ => by
    by_cases e : k = j
    · rw [if_pos e.symm]; exact valV_pos (p := (k, y)) e
    · rw [if_neg (fun z => e z.symm)]; exact valV_neg (p := (k, y)) e
  | p :: r, hn => by
    rw [List.cons_append]
    have hk : ¬ p.1 = k := fun z => by rw [valV_pos z] at hn; cases hn
    rw [valV_neg hk] at hn
    have ih := valV_snoc k j y r hn
    by_cases e : p.1 = j
    · rw [valV_pos e, valV_pos e, if_neg (fun z => hk (e.trans z))]
    · rw [valV_neg e, valV_neg e, ih]
theorem valV_put (kvs : List (κ × V)) (k j : κ) (y : V) : valV (putK kvs k y) j = if j = k then some y else valV kvs j := by
  unfold putK
  by_cases a : (kvs.any fun kv => decide (kv.1 = k)) = true
  · rw [if_pos a, valV_map]
    rw [valV_any] at a
    by_cases e : j = k
    · obtain ⟨x, hx⟩ := Option.isSome_iff_exists.mp a
      rw [if_pos e, e, hx, Option.map_some, if_pos rfl]
    · rw [if_neg e]
      cases valV kvs j with
      | none => rfl
      | some x => rw [Option.map_some, if_neg e]
  · rw [if_neg a]
    refine valV_snoc k j y kvs ?_
    rw [valV_any] at a
    cases q : valV kvs k with
    | none => rfl
    | some x => rw [q] at a; exact (a rfl).elim
theorem length_putK (kvs : List (κ × V)) (k : κ) (v : V) : (putK kvs k v).length ≤ kvs.length + 1 := by
  unfold putK
  split
  · rw [List.length_map]; omega
  · rw [List.length_append, List.length_cons, List.length_nil]; omega
theorem putK_new {kvs : List (κ × V)} {k : κ} (v : V) (h : valV kvs k = none) : putK kvs k v = kvs ++ [(k, v)] := by
  unfold putK
  rw [valV_any, h]
  exact if_neg (by decide)
theorem RelO.isSome_eq {o : Option V} {u : Option Value} (r : RelO o u) : o.isSome = u.isSome := by
  cases o with
  | none => cases u with
    | none => rfl
    | some _ => exact (show False from r).elim
  | some _ => cases u with
    | none => exact (show False from r).elim
    | some _ => rfl
theorem RelO.getD {o : Option V} {u : Option Value} {d : V} {d' : Value} (r : RelO o u) (rd : RelV d d') : RelV (o.getD d) (u.getD d') := by
  cases o with
  | none => cases u with
    | none => exact rd
    | some _ => exact (show False from r).elim
  | some _ => cases u with
    | none => exact (show False from r).elim
    | some _ => exact r
theorem KV.val {kvs : List (κ × V)} {vs : List (κ × Value)} (r : KV kvs vs) (k : κ) : RelO (valV kvs k) (valueAt vs k) := by
  unfold KV at r
  induction r with
  | nil => exact True.intro
  | @cons p q ps qs h t ih =>
    obtain ⟨h1, h2⟩ := h
    by_cases e : p.1 = k
    · have e' : q.1 = k := h1.symm.trans e
      have b : valueAt (q :: qs) k = some q.2 := by simp [valueAt, List.find?_cons, e']
      rw [valV_pos e, b]; exact h2
    · have e' : ¬ q.1 = k := fun z => e (h1.trans z)
      have b : valueAt (q :: qs) k = valueAt qs k := by simp [valueAt, List.find?_cons, e']
      rw [valV_neg e, b]; exact ih
theorem KV.any {kvs : List (κ × V)} {vs : List (κ × Value)} (r : KV kvs vs) (k : κ) : (kvs.any fun kv => decide (kv.1 = k)) = vs.any fun kv => decide (kv.1 = k) := by
  unfold KV at r
  induction r with
  | nil => rfl
  | cons h t ih => rw [List.any_cons, List.any_cons, ih, h.1]
theorem KV.repl {kvs : List (κ × V)} {vs : List (κ × Value)} (r : KV kvs vs) (k : κ) {y : V} {u : Value} (ry : RelV y u) :
    KV (kvs.map fun kv => if kv.1 = k then (kv.1, y) else kv) (vs.map fun kv => if kv.1 = k then (kv.1, u) else kv) := by
  unfold KV at r ⊢
  induction r with
  | nil => exact .nil
  | @cons p q ps qs h t ih =>
    rw [List.map_cons, List.map_cons]
    refine .cons ?_ ih
    obtain ⟨h1, h2⟩ := h
    by_cases e : p.1 = k
    · rw [if_pos e, if_pos (h1.symm.trans e)]; exact ⟨h1, ry⟩
    · rw [if_neg e, if_neg (fun z => e (h1.trans z))]; exact ⟨h1, h2⟩
theorem KV.put {kvs : List (κ × V)} {vs : List (κ × Value)} (r : KV kvs vs) (k : κ) {y : V} {u : Value} (ry : RelV y u) : KV (putK kvs k y) (stored vs k u) := by
  unfold putK stored
  rw [r.any k]
  by_cases e : (vs.any fun kv => decide (kv.1 = k)) = true
  · rw [if_pos e, if_pos e]; exact r.repl k ry
  · rw [if_neg e, if_neg e]; exact Paired.snoc r ⟨rfl, ry⟩
theorem KV.drop {kvs : List (κ × V)} {vs : List (κ × Value)} (r : KV kvs vs) (k : κ) : KV (dropK kvs k) (without vs k) := by
  unfold KV at r ⊢
  unfold dropK without
  induction r with
  | nil => exact .nil
  | @cons p q ps qs h t ih =>
    obtain ⟨h1, h2⟩ := h
    rw [List.filter_cons, List.filter_cons]
    by_cases e : p.1 = k
    · have a : ¬ decide (p.1 ≠ k) = true := by simp [e]
      have b : ¬ decide (q.1 ≠ k) = true := by simp [h1.symm.trans e]
      rw [if_neg a, if_neg b]; exact ih
    · have e' : ¬ q.1 = k := fun z => e (h1.trans z)
      have a : decide (p.1 ≠ k) = true := by simp [e]
      have b : decide (q.1 ≠ k) = true := by simp [e']
      rw [if_pos a, if_pos b]; exact .cons ⟨h1, h2⟩ ih
theorem KV.keys {kvs : List (κ × V)} {vs : List (κ × Value)} (r : KV kvs vs) : kvs.map (·.1) = vs.map (·.1) := by
  unfold KV at r
  induction r with
  | nil => rfl
  | cons h t ih => rw [List.map_cons, List.map_cons, ih, h.1]
theorem KV.length {kvs : List (κ × V)} {vs : List (κ × Value)} (r : KV kvs vs) : kvs.length = vs.length := Paired.length r
end
theorem kV_is {P : Program} {w : World} {k : Key} {u : Value} (r : RelV (kV k) u) : (mixKind P w).is k u = true := by
  cases k with
  | inl i => obtain ⟨t, e⟩ := (show ∃ t, u = Value.int i t from r); subst e; exact mixKind_int P w i t
  | inr x => obtain ⟨t, e⟩ := (show ∃ t, u = Value.str x t from r); subst e; exact mixKind_str P w x t
theorem items_are {P : Program} {w : World} : ∀ {ks : List Key} {us : List Value}, Vals (ks.map kV) us → ItemsAre (mixKind P w) ks us
  | [], _, r => by rw [List.map_nil] at r; cases r; exact .nil
  | k :: ks, _, r => by
    rw [List.map_cons] at r
    cases r with
    | cons h t => exact .cons (kV_is h) (items_are t)
abbrev KT (H : Hp) : List (List Key × V) → List (List Key × Addr × Value) → Prop := Paired fun p q => p.1 = q.1 ∧ H q.2.1 = some (.tup (p.1.map kV)) ∧ RelV p.2 q.2.2
theorem KT.val {H : Hp} {kvs : List (List Key × V)} {xs : List (List Key × Addr × Value)} (r : KT H kvs xs) (k : List Key) : RelO (valV kvs k) ((atKey xs k).map (·.2)) := by
  induction r with
  | nil => exact True.intro
  | @cons p q ps qs h t ih =>
    obtain ⟨h1, _, h2⟩ := h
    by_cases e : p.1 = k
    · have e' : q.1 = k := h1.symm.trans e
      have b : atKey (q :: qs) k = some q.2 := by simp [atKey, List.find?_cons, e']
      rw [valV_pos e, b]; exact h2
    · have e' : ¬ q.1 = k := fun z => e (h1.trans z)
      have b : atKey (q :: qs) k = atKey qs k := by simp [atKey, List.find?_cons, e']
      rw [valV_neg e, b]; exact ih
theorem KT.repl {H : Hp} {kvs : List (List Key × V)} {xs : List (List Key × Addr × Value)} (r : KT H kvs xs) (k : List Key) {y : V} {u : Value} (ry : RelV y u) :
    KT H (kvs.map fun kv => if kv.1 = k then (kv.1, y) else kv) (xs.map (putAt k u)) := by
  induction r with
  | nil => exact .nil
  | @cons p q ps qs h t ih =>
    rw [List.map_cons, List.map_cons]
    refine .cons ?_ ih
    obtain ⟨h1, h2, h3⟩ := h
    unfold putAt
    by_cases e : p.1 = k
    · rw [if_pos e, if_pos (h1.symm.trans e)]; exact ⟨h1, h2, ry⟩
    · rw [if_neg e, if_neg (fun z => e (h1.trans z))]; exact ⟨h1, h2, h3⟩
theorem KT.put {H : Hp} {kvs : List (List Key × V)} {xs : List (List Key × Addr × Value)} (r : KT H kvs xs) (k : List Key) {b : Addr} {y : V} {u : Value} (hb : H b = some (.tup (k.map kV))) (ry : RelV y u) :
    KT H (putK kvs k y) (storedH xs k b u) := by
  have e : (kvs.any fun kv => decide (kv.1 = k)) = (atKey xs k).isSome := by
    rw [valV_any, (r.val k).isSome_eq, Option.isSome_map]
  unfold putK storedH
  rw [e]
  by_cases q : (atKey xs k).isSome = true
  · rw [if_pos q, if_pos q]; exact r.repl k ry
  · rw [if_neg q, if_neg q]; exact Paired.snoc r ⟨rfl, hb, ry⟩
theorem KT.keeps {H H' : Hp} {kvs : List (List Key × V)} {xs : List (List Key × Addr × Value)} (r : KT H kvs xs) (ht : ∀ b ys, H b = some (.tup ys) → H' b = some (.tup ys)) : KT H' kvs xs :=
  Paired.mapP r fun _ _ z => ⟨z.1, ht _ _ z.2.1, z.2.2⟩
section
variable {P : Program} {w : World} {H : Hp} {h : Heap} {a : Addr}
theorem rd_of {u : HO} (ok : HOk P w H h) (e : Rd H a u) : ObjOk P w H h a u := e.ok ok
theorem dk_rd {kvs : List (Key × V)} (ok : HOk P w H h) (e : Rd H a (.dK kvs)) : kvs.length ≤ sizeLine ∧ (a == sysModules) = false ∧ ∃ vs, KV kvs vs ∧ h.DictOf (mixKind P w) a vs :=
  show ObjOk P w H h a (.dK kvs) from rd_of ok e
theorem dk_of {kvs : List (Key × V)} (ok : HOk P w H h) (e : H a = some (.dK kvs)) : kvs.length ≤ sizeLine ∧ (a == sysModules) = false ∧ ∃ vs, KV kvs vs ∧ h.DictOf (mixKind P w) a vs := dk_rd ok (.inl e)
theorem key_of {ks : List Key} (ok : HOk P w H h) (e : H a = some (.tup (ks.map kV))) : (tupleKind (mixKind P w)).is h ks a := by
  obtain ⟨_, its, r, o, h1, h2, n, h3⟩ := (show ObjOk P w H h a (.tup (ks.map kV)) from ok a _ e)
  exact ⟨o, its.toArray, n, h1, h2, h3, by simpa using items_are r⟩
theorem dt_rd {kvs : List (List Key × V)} (ok : HOk P w H h) (e : Rd H a (.dT kvs)) : kvs.length ≤ sizeLine ∧ (a == sysModules) = false ∧
    ∃ xs, KT H kvs xs ∧ h.DictOfH (tupleKind (mixKind P w)) a xs := by
  obtain ⟨z, y, xs, r, o, es, ep, h1, h2, h3, h4, h5⟩ := (show ObjOk P w H h a (.dT kvs) from rd_of ok e)
  refine ⟨z, y, xs, r, o, es, ep, h1, h2, h3, h4, fun x hx => ?_, h5⟩
  have all : ∀ {l : List (List Key × V)} {m : List (List Key × Addr × Value)}, KT H l m → ∀ x ∈ m, (tupleKind (mixKind P w)).is h x.1 x.2.1 := by
    intro l m q
    induction q with
    | nil => intro x hx; exact nomatch hx
    | @cons p q ps qs hq t ih =>
      intro x hx
      rcases List.mem_cons.mp hx with e | hx
      · subst e
        exact key_of ok (by rw [← hq.1]; exact hq.2.1)
      · exact ih x hx
  exact all r x hx
theorem dt_of {kvs : List (List Key × V)} (ok : HOk P w H h) (e : H a = some (.dT kvs)) : kvs.length ≤ sizeLine ∧ (a == sysModules) = false ∧
    ∃ xs, KT H kvs xs ∧ h.DictOfH (tupleKind (mixKind P w)) a xs := dt_rd ok (.inl e)
end
def DGet (H : Hp) (a : Addr) (y : V) (r : Option V) : Prop :=
  (∃ kvs k, Rd H a (.dK kvs) ∧ y = kV k ∧ r = valV kvs k) ∨ ∃ kvs k b, Rd H a (.dT kvs) ∧ y = .ref b ∧ H b = some (.tup (k.map kV)) ∧ r = valV kvs k
def DPut (H : Hp) (a : Addr) (y v : V) (H' : Hp) : Prop :=
  (∃ kvs k, H a = some (.dK kvs) ∧ y = kV k ∧ kvs.length < sizeLine ∧ H' = upd H a (.dK (putK kvs k v))) ∨
  ∃ kvs k b, H a = some (.dT kvs) ∧ y = .ref b ∧ H b = some (.tup (k.map kV)) ∧ kvs.length < sizeLine ∧ H' = upd H a (.dT (putK kvs k v))
theorem DGet.k {H : Hp} {a : Addr} {kvs : List (Key × V)} {k : Key} (e : H a = some (.dK kvs)) : DGet H a (kV k) (valV kvs k) := .inl ⟨kvs, k, .inl e, rfl, rfl⟩
theorem DPut.k {H : Hp} {a : Addr} {kvs : List (Key × V)} {k : Key} {v : V} (e : H a = some (.dK kvs)) (hl : kvs.length < sizeLine) : DPut H a (kV k) v (upd H a (.dK (putK kvs k v))) := .inl ⟨kvs, k, e, rfl, hl, rfl⟩
section
variable {X : Cx} {pins : List (Addr × Obj)} {σ : St} {H : Hp} {s : Shared} {a : Addr} {y v : V} {u r : Value} {o : Option V} {A : Around} {E : Value → Shared → Prop}
theorem Inv.big (I : Inv X pins σ H s) : sysModules < s.heap.objs.size := by
  have h : mainGlobals < s.heap.objs.size := (I.mod.glob.keeps I.bk).lt
  exact Nat.lt_trans (by decide) h
theorem d_getItem {Q : Value → Shared → Prop} (hu : A.units + 1 < cLine) (I : Inv X pins σ H s) (g : DGet H a y (some v)) (ry : RelV y u) (h : ∀ w' s', Inv X pins σ H s' → RelV v w' → Q w' s') :
    wpAny (model X.prog X.w) A (getItem (.ref a) u) Q E s := by
  rcases g with ⟨kvs, k, e, ey, l⟩ | ⟨kvs, k, b, e, ey, eb, l⟩
  · subst ey
    obtain ⟨z, hd, vs, rel, dd⟩ := dk_rd I.hok e
    obtain ⟨w', hw, rw'⟩ := RelO.some_of (v := v) (o := valueAt vs k) (by rw [l]; exact rel.val k)
    exact wpAny_getItem_of (kV_is ry) dd.mapOf hw (h w' _ (I.tok _) rw')
  · subst ey
    cases (show u = Value.ref b from ry)
    obtain ⟨z, hd, xs, rel, dd⟩ := dt_rd I.hok e
    obtain ⟨w', hw, rw'⟩ := RelO.some_of (v := v) (o := (atKey xs k).map (·.2)) (by rw [l]; exact rel.val k)
    obtain ⟨p, hp, hp2⟩ := Option.map_eq_some_iff.mp hw
    refine wpAny_getItem_heap (tupleKind_room_in1 hu) (key_of I.hok eb) dd hp ?_
    rw [hp2]
    exact h w' _ (I.tok _) rw'
theorem d_in {Q : Value → Shared → Prop} (hu : A.units + 1 < cLine) (I : Inv X pins σ H s) (g : DGet H a y o) (ry : RelV y u) (h : ∀ s', Inv X pins σ H s' → Q (.bool o.isSome) s') :
    wpAny (model X.prog X.w) A (compareOp .In u (.ref a)) Q E s := by
  rcases g with ⟨kvs, k, e, ey, l⟩ | ⟨kvs, k, b, e, ey, eb, l⟩
  · subst ey
    obtain ⟨z, hd, vs, rel, dd⟩ := dk_rd I.hok e
    refine wpAny_in_of (kV_is ry) hd dd.mapOf ?_
    rw [← (rel.val k).isSome_eq, ← l]
    exact h _ (I.tok _)
  · subst ey
    cases (show u = Value.ref b from ry)
    obtain ⟨z, hd, xs, rel, dd⟩ := dt_rd I.hok e
    refine wpAny_in_heap (tupleKind_room_in1 hu) (key_of I.hok eb) hd dd ?_
    have q := (rel.val k).isSome_eq
    rw [Option.isSome_map] at q
    rw [← q, ← l]
    exact h _ (I.tok _)
theorem d_write {h' : Heap} {t' : Nat} {ob : HO} (I : Inv X pins σ H s) (mu : Mut (H a)) (hs : Heap.SameBut a s.heap h') (he : ∃ q, h'.get? a = some q) (new : ObjOk X.prog X.w (upd H a ob) h' a ob) :
    Inv X pins σ (upd H a ob) { s with heap := h', toks := t' } :=
  I.write (x := a) (e := a) mu (.inl rfl) (fun b q hb z => (hs.2 b hb).trans z) he new
theorem dk_new {P : Program} {w : World} {H' : Hp} {h' : Heap} {kvs : List (Key × V)} {vs : List (Key × Value)} (z : kvs.length ≤ sizeLine) (hd : (a == sysModules) = false) (rel : KV kvs vs) (dd : h'.DictOf (mixKind P w) a vs) :
    ObjOk P w H' h' a (.dK kvs) := ⟨z, hd, vs, rel, dd⟩
theorem d_setItem {H' : Hp} {Q : Unit → Shared → Prop} (hu : A.units + 1 < cLine) (I : Inv X pins σ H s) (g : DPut H a y v H') (ry : RelV y u) (rv : RelV v r) (h : ∀ s', Inv X pins σ H' s' → Q () s') :
    wpAny (model X.prog X.w) A (setItem (.ref a) u r) Q E s := by
  rcases g with ⟨kvs, k, e, ey, l, eH⟩ | ⟨kvs, k, b, e, ey, eb, l, eH⟩
  · subst ey eH
    obtain ⟨z, hd, vs, rel, dd⟩ := dk_of I.hok e
    have hz : vs.length ≤ sizeLine := by rw [← rel.length]; exact z
    have hl : (putK kvs k v).length ≤ sizeLine := by have := length_putK kvs k v; omega
    refine wpAny_setItem_pairs (hsz := hz) (kV_is ry) dd fun h' dd' hs => h _ ?_
    have he : ∃ q, h'.get? a = some q := let ⟨q, _, _, hq, _⟩ := dd'; ⟨q, hq⟩
    exact d_write I (by rw [e]; exact True.intro) hs he (dk_new hl hd (rel.put k rv) dd')
  · subst ey eH
    cases (show u = Value.ref b from ry)
    obtain ⟨z, hd, xs, rel, dd⟩ := dt_of I.hok e
    have hz : xs.length ≤ sizeLine := by rw [← Paired.length rel]; exact z
    have hl : (putK kvs k v).length ≤ sizeLine := by have := length_putK kvs k v; omega
    refine wpAny_setItem_heap (hsz := hz) (tupleKind_room_in1 hu) (key_of I.hok eb) dd fun h' dd' hs => h _ ?_
    obtain ⟨q, es, ep, hq, h2, h3, h4, _, h5⟩ := dd'
    refine d_write I (by rw [e]; exact True.intro) hs ⟨q, hq⟩ ⟨hl, hd, _, (rel.put k eb rv).keeps fun c ys ec => ?_, q, es, ep, hq, h2, h3, h4, h5⟩
    rw [upd_ne (ne_of ec e (fun z => nomatch z))]
    exact ec
end
section
variable {X : Cx} {pins : List (Addr × Obj)} {σ : St} {H : Hp} {s : Shared} {a : Addr} {kvs : List (Key × V)} {k : Key} {u : Value} {A : Around} {E : Value → Shared → Prop}
end
def NoSl (i : Expr) : Prop := ∀ ov iv, subscripted i false ov iv = operate [ov, iv] (getItem ov iv)
theorem subD_of {prog : Program} {w : World} {A : Around} {E : Value → Shared → Prop} {s : Shared} {env : Env} {value slice : Expr} {pos : Pos} {T id : String} {Q : Value → Shared → Prop}
    (hl : typeLookup (.type T) "__getitem__" = pure (some (.builtin id))) (hs : NoSl slice)
    (h : wpAny (model prog w) A (eval value env) (fun o s₁ => wpAny (model prog w) A (eval slice env) (fun i s₂ => s₂.TypeIs o T ∧ wpAny (model prog w) A (getItem o i) Q E s₂) E s₁) E s) :
    wpAny (model prog w) A (eval (.Subscript value slice pos) env) Q E s := by
  refine Subscript_ (wpAny_mono h (fun o s₁ h₁ => wpAny_mono h₁ (fun i s₂ h₂ => ?_) fun _ _ x => x) fun _ _ x => x)
  obtain ⟨hT, h₂⟩ := h₂
  unfold subscriptTail
  refine wpAny_bind ?_
  rw [getitemInPython_of_ne hT.not_modules]
  refine wpAny_bind (wpAny_specialOf hT hl ?_)
  have fin : wpAny (model prog w) A (subscripted slice false o i) (fun r s₃ => wpAny (model prog w) A (letTemporaryGo value o r >>= fun _ => pure r) Q E s₃) E s₂ := by
    rw [hs o i]
    exact wpAny_operating (wpAny_mono h₂ (fun r s₃ h₃ => wpAny_bind (wpAny_letTemporaryGo (wpAny_pure h₃))) fun _ _ x => x)
  first
    | exact wpAny_pure (wpAny_bind fin)
    | exact wpAny_bind (wpAny_pure (wpAny_bind fin))
    | exact wpAny_bind fin
theorem dict_typeIs {X : Cx} {pins : List (Addr × Obj)} {σ : St} {H : Hp} {s : Shared} {a : Addr} {y : V} {o : Option V} (I : Inv X pins σ H s) (g : DGet H a y o) : s.TypeIs (.ref a) "dict" := by
  rcases g with ⟨kvs, k, e, _, _⟩ | ⟨kvs, k, b, e, _, _, _⟩
  · obtain ⟨_, _, vs, _, dd⟩ := dk_rd I.hok e
    exact dd.typeIs
  · obtain ⟨_, _, xs, _, dd⟩ := dt_rd I.hok e
    exact dd.typeIs
def tDGet (td ty : TE) : TE := fun σ H Q => td σ H fun x H1 => ty σ H1 fun y H2 => ∃ a v, x = .ref a ∧ DGet H2 a y (some v) ∧ Q v H2
def tDIn (ty td : TE) : TE := fun σ H Q => ty σ H fun y H1 => td σ H1 fun x H2 => ∃ a o, x = .ref a ∧ DGet H2 a y o ∧ Q (.bl o.isSome) H2
def sDPut (td ty tv : TE) : TS := fun D σ H => tv σ H fun v H1 => td σ H1 fun x H2 => ty σ H2 fun y H3 => ∃ a H4, x = .ref a ∧ DPut H3 a y v H4 ∧ D.nx σ H4
section
variable {X : Cx} {o i e value : Expr} {pos pos' tpos : Pos} {td ty tv : TE}
theorem pe_dget (hu : X.A.units + 1 < cLine) (ho : PE X o td) (hi : PE X i ty) (hs : NoSl i) : PE X (.Subscript o i pos) (tDGet td ty) := by
  unfold PE at *
  exact by
    intro pins s σ H Q I h
    refine subD_of PySem.F.slot_dict_getitem.lookup hs (thn (ho pins s σ H _ I h) fun u s1 ⟨x, H1, I1, rx, q1⟩ => thn (hi pins s1 σ H1 _ I1 q1) fun iv s2 ⟨y, H2, I2, ry, a, v, ex, g, q2⟩ => ?_)
    subst ex
    obtain rfl : u = Value.ref a := rx
    exact ⟨dict_typeIs I2 g, d_getItem hu I2 g ry fun w' s3 I3 rw' => ⟨v, H2, I3, rw', q2⟩⟩
theorem pc_din (hu : X.A.units + 1 < cLine) (hi : PE X i ty) (ho : PE X o td) : PC X .In i o (tDIn ty td) := by
  unfold PE at *; unfold PC at *
  exact by
    intro pins s σ H Q I h
    refine thn (hi pins s σ H _ I h) fun iv s1 ⟨y, H1, I1, ry, q1⟩ => thn (ho pins s1 σ H1 _ I1 q1) fun u s2 ⟨x, H2, I2, rx, a, ov, ex, g, q2⟩ => ?_
    subst ex
    obtain rfl : u = Value.ref a := rx
    exact d_in hu I2 g ry fun s3 I3 => ⟨.bl ov.isSome, H2, I3, rfl, q2⟩
theorem ps_dput (hu : X.A.units + 1 < cLine) (ho : PE X o td) (hi : PE X i ty) (hv : PE X value tv) (hs : swapsWith value (some (.Subscript o i pos')) pos.line X.env = pure false) :
    PS X (.Assign [.Subscript o i pos'] value pos) (sDPut td ty tv) := by
  unfold PE at *; unfold PS at *
  exact by
    intro pins s σ H D I h
    refine wpAny_Assign_Subscript (thn (hv pins s σ H _ I h) fun r s1 ⟨v, H1, I1, rv, q1⟩ => thn (ho pins s1 σ H1 _ I1 q1) fun u s2 ⟨x, H2, I2, rx, q2⟩ => thn (hi pins s2 σ H2 _ I2 q2) fun iv s3 ⟨y, H3, I3, ry, a, H4, ex, g, q3⟩ => ?_) hs
    subst ex
    obtain rfl : u = Value.ref a := rx
    exact d_setItem hu I3 g ry rv fun s4 I4 => ⟨σ, H4, I4, q3⟩
end
theorem dk_empty {P : Program} {w : World} {H : Hp} (h : Heap) (hb : sysModules < h.objs.size) : ObjOk P w H (h.push { cls := .type "dict", data := .dict #[] }) h.objs.size (.dK []) :=
  ⟨Nat.zero_le _, beq_eq_false_iff_ne.mpr (Ne.symm (Nat.ne_of_lt hb)), [], .nil, Heap.DictOf.new h⟩
def tDNewK : TE := fun _ H Q => ∀ p, H p = none → Q (.ref p) (upd H p (.dK []))
section
variable {X : Cx} {pos : Pos}
theorem pe_dnewK : PE X (.Dict [] [] pos) tDNewK := by
  unfold PE at *
  exact (fun pins s σ H Q I h =>
    wpAny_Dict_empty ⟨.ref s.heap.objs.size, _, I.laid (a := s.heap.objs.size) (o := .dK []) (t' := s.toks) (fun _ _ q => Heap.get?_push_of_some _ q) (Nat.le_refl _) (dk_empty s.heap I.big), rfl, h _ (I.hok.fresh (Nat.le_refl _))⟩)
end
section
variable {X : Cx} {pins : List (Addr × Obj)} {σ : St} {H : Hp} {s : Shared} {a : Addr} {y d : V} {u r : Value} {o : Option V} {A : Around} {E : Value → Shared → Prop}
end
section
variable {X : Cx} {o e f : Expr} {apos cpos : Pos} {td ty tx : TE}
end
section
variable {X : Cx} {pins : List (Addr × Obj)} {σ : St} {H : Hp} {s : Shared} {a : Addr} {kvs : List (Key × V)} {A : Around} {E : Value → Shared → Prop}
end
section
variable {X : Cx} {pins : List (Addr × Obj)} {σ : St} {H : Hp} {s : Shared} {a : Addr} {y : V} {u : Value} {A : Around} {E : Value → Shared → Prop}
end
end L2
namespace Att
open PySem PySem.W PySem.Calls PyProof.Rows
theorem ints_of_wellAll {P : Params} {h : Heap} : ∀ (ns : List Int) (vs : List Value), WellAll P h vs (ns.map WData.int) → IntsAre vs ns := by
  intro ns
  induction ns with
  | nil =>
    intro vs w
    rw [List.map_nil] at w
    cases w
    exact .nil
  | cons n ns ih =>
    intro vs w
    rw [List.map_cons] at w
    cases w with
    | cons a b =>
      cases a
      exact .cons _ _ (ih _ b)
theorem script_of {l : OpenLaw} {n : Nat} (hn : l.most = some n) {P : Params} {h : Heap} {args : List WData} {vals : List Value}
    (hpre : l.row.toRowW.claim.pre args = true) (hwl : WellAll P h vals args) :
    ∃ a vs ns, vals = [Value.ref a] ∧ args = [WData.list (ns.map WData.int)] ∧ h.get? a = some { cls := .type "list", data := .seq vs.toArray } ∧ IntsAre vs ns ∧ ns.length ≤ n := by
  have hsh : WShape.hasAll [] args [.list .int] = true := (pre_splitW hpre).1
  have hc : l.pre.holds [] { args := args } = true := (pre_splitW hpre).2
  obtain ⟨d, r, rfl, h1, h2⟩ := hasAllW_cons hsh
  obtain rfl := hasAllW_nil h2
  obtain ⟨xs, rfl, h3⟩ := hasW_list h1
  obtain ⟨ns, rfl⟩ := items_int h3
  have hlen : ns.length ≤ n := by
    unfold OpenLaw.pre at hc
    have h4 : (WTm.not (.lt (.lit (.int (n : Int))) (.len (.arg 0)))).holds [] { args := [.list (ns.map .int)] } = true := by
      have h4 := (holds_andW hc).1
      rw [hn] at h4
      exact h4
    have h5 := condW_of h4 (w_not (w_lt w_lit (w_len_list (w_arg rfl))))
    rw [List.length_map] at h5
    refine Nat.le_of_not_lt fun q => ?_
    have q' : (n : Int) < ((ns.length : Nat) : Int) := by omega
    first
      | (rw [decide_eq_true q'] at h5; exact absurd h5 (by decide))
      | (simp at h5; omega)
  cases hwl with
  | cons w1 w2 =>
    cases w2
    cases w1 with
    | list ho hall => exact ⟨_, _, ns, rfl, rfl, ho, ints_of_wellAll ns _ hall, hlen⟩
theorem post_true (l : OpenLaw) (args : List WData) : l.row.toRowW.claim.post args (.bool true) args = true :=
  postW_of (r := l.row.toRowW) (X := (true == true))
    (show WShape.has [] (.bool true) .bool = true by first | rfl | decide | simp [WShape.has, WShape.arms, WShape.armsAll])
    (show (WTm.eq .res (.lit (.bool true))).value [] { args := args, res := some (.bool true), after := args } = some (.bool (true == true)) from w_eq_bool (w_res rfl) w_lit) rfl
theorem attach_call {l : OpenLaw} {n : Nat} {q : Program} {loose : List Str} {XP : (Str → Option Value) → Heap → Prop} {YP : World → Heap → Prop} {d : DefRec}
    (hn : l.most = some n) (hdf : d.params.defaults = [])
    (call : ∀ (w : World) (s₀ s₁ : Shared) (mg mb : Str → Option Value) (fa : Addr) (o : Obj) (pm cd doc : Value) (a : Addr) (vs : List Value) (ns : List Int),
      Ground q loose [] XP w s₀ mg mb s₁.heap → YP w s₁.heap →
      s₁.heap.get? fa = some o → o.data = .func (docDef d.name d.params d.body d.scope pm cd doc) → s₁.heap.CodeRec cd d.name → mg d.name = some (.ref fa) →
      s₁.heap.get? a = some { cls := .type "list", data := .seq vs.toArray } → IntsAre vs ns → ns.length ≤ n → s₁.gens = #[] →
      codeAny (model l.prog w) callerA (.call (.ref fa) ⟨[.ref a], []⟩) (fun r s' => r = .ok (.ret (.bool true)) ∧ OldK s₁.heap s'.heap ∧ s'.os = s₁.os ∧ AllBare s'.gens) s₁) :
    WalkO q loose XP YP l.row.toRowW d [] (fun f vs => PySem.call f vs) := by
  intro w s₀ s₁ mg mb G Y fa o pm cd doc dV kV ho hd hcd hD hmg hg args vals as hpre hlay hrd hwl hlo
  obtain rfl : dV = .none := Dflts.none hD hdf
  obtain rfl : kV = .none := Dflts.noKw hD
  obtain ⟨a, vs, ns, rfl, rfl, hobj, hints, hlen⟩ := script_of hn hpre hwl
  refine enter_call (codeAny_mono (call w s₀ s₁ mg mb fa o pm cd doc a vs ns G Y ho (fd_plain hd) hcd hmg hobj hints hlen hg) fun r s' hq => ?_)
  obtain ⟨rfl, h2, h3, h4⟩ := hq
  exact ⟨.inl ⟨.bool true, .bool true, [], rfl, fun _ => rfl, .bool true, post_true l _, fun _ => ⟨List.Pairwise.nil, fun _ hm => (nomatch hm)⟩⟩, h2, h3, h4⟩
section
variable {prog : Program} {w : World} {A : Around} {E : Value → Shared → Prop} {s : Shared} {K : Frag}
def ledger (h : Heap) (L d : Addr) : List (Addr × Obj) := (List.range h.objs.size).filterMap fun a => if a = L ∨ a = d then none else (h.get? a).map fun o => (a, o)
end
end Att
namespace L2
open PySem PySem.Spec PyProof.Rows
theorem vals_ints : ∀ {vs : List Value} {ns : List Int}, IntsAre vs ns → Vals (ns.map V.int) vs
  | _, _, .nil => .nil
  | _, _, .cons n t h => .cons ⟨t, rfl⟩ (vals_ints h)
def Only (H : Hp) : Prop := ∀ b, H b = none ∨ ∃ o xs, H b = some (.frz o (.lst xs))
theorem law_call {P : Program} {w : World} {K : PySem.W.Frag} {mg mb : Str → Option Value} {CX : CXT} {k : Nat} {fa a : Addr} {fd : FuncData} {x : Str} {sp : Sp} {s₁ : Shared} {vs : List Value} {ns : List Int}
    (KX : K.In s₁.heap) (hns : s₁.heap.Ns mainGlobals mg) (hb : s₁.heap.Ns builtinsNs mb) (hbb : ∀ x : Str, x ≠ "__name__" → mb x = bootBuiltins x) (hlim : s₁.heap.NoLimit) (hg : s₁.gens = #[])
    (ha : s₁.heap.get? a = some { cls := .type "list", data := .seq vs.toArray }) (hi : IntsAre vs ns) (hl : ns.length ≤ sizeLine) (hr : Room k callerA)
    (F : ∀ base : Heap, K.In base → base.Ns mainGlobals mg → FnOk P w K mg base CX k fa fd [x] sp) (hbind : ∀ (s : Shared) (u : Value), BindsTo s fd ⟨[u], []⟩ [(x, u)])
    (hsp : ∀ H : Hp, Only H → SqL K H a (ns.map V.int) → sp [.ref a] H (fun v _ => v = .bl true) fun _ _ _ => False)
    (hCX : ∀ H e s', CX [] H s₁ (fun _ _ _ => False) e s' → False) :
    codeAny (model P w) callerA (.call (.ref fa) ⟨[.ref a], []⟩) (fun r s' => r = .ok (.ret (.bool true)) ∧ OldK s₁.heap s'.heap ∧ s'.os = s₁.os ∧ AllBare s'.gens) s₁ := by
  have rv := vals_ints hi
  have lenV := hi.length
  -- from an abstract heap in which nothing but the script may be tracked
  have core : ∀ H : Hp, Only H → SqL K H a (ns.map V.int) → HOk P w H s₁.heap → (∀ b, H b ≠ none → b = a) → (H a ≠ none → K.lookup a = none) →
      codeAny (model P w) callerA (.call (.ref fa) ⟨[.ref a], []⟩) (fun r s' => r = .ok (.ret (.bool true)) ∧ OldK s₁.heap s'.heap ∧ s'.os = s₁.os ∧ AllBare s'.gens) s₁ := by
    intro H hO hS hok hA hK
    have base_of : ∀ {b : Addr} {o : Obj}, s₁.heap.get? b = some o → H b = none → (hidT s₁.heap H).get? b = some o := fun e n => hidT_get e n
    have noA : ∀ {b : Addr} {o : Obj} {es : Array DictEntry} {ep : Nat}, s₁.heap.get? b = some o → o.data = .dict es ep → H b = none := fun {b o es ep} e d => by
      cases q : H b with
      | none => rfl
      | some u =>
        have e' : b = a := hA b (by rw [q]; simp)
        subst e'
        rw [ha] at e; cases e
        have d' : Data.seq vs.toArray _ = Data.dict es ep := d
        cases d'
    have nsK : ∀ {b : Addr} {m : Str → Option Value}, s₁.heap.Ns b m → (hidT s₁.heap H).Ns b m := fun {b m} ⟨o, es, ep, e, d, r⟩ => ⟨o, es, ep, base_of e (noA e d), d, r⟩
    have hKb : K.In (hidT s₁.heap H) := fun b o e => base_of (KX b o e) (by
      cases q : H b with
      | none => rfl
      | some u =>
        have e' : b = a := hA b (by rw [q]; simp)
        subst e'
        rw [hK (by rw [q]; simp)] at e; cases e)
    have hM : Mod K mg (hidT s₁.heap H) := ⟨hKb, nsK hns, ⟨mb, nsK hb, hbb⟩, let ⟨mc, h1, h2⟩ := hlim; ⟨mc, nsK h1, h2⟩⟩
    have e0 : Env0 P w K mg (hidT s₁.heap H) callerA [] s₁ H := ⟨rfl, hM, fun b o e => of_hidT e, Nat.le_of_eq (hidT_size _ _), trivial, fun b hb => absurd (show b ∈ ([] : List Addr) from hb) (by simp), hok, .of_eq hg⟩
    refine codeAny_mono ((F _ hKb (nsK hns)).run callerA [] s₁ H ⟨[.ref a], []⟩ [.ref a] [.ref a] _ _ hr e0 (hbind s₁ (.ref a)) (.cons rfl .nil) (hsp H hO hS)) fun r s' h => ?_
    cases r with
    | error e => exact (hCX H e s' h).elim
    | ok fl =>
      cases fl with
      | next => exact False.elim h
      | brk => exact False.elim h
      | cont => exact False.elim h
      | ret u =>
        obtain ⟨v, H', os, bare, un, hok', r', q⟩ := h
        have q' : v = .bl true := q
        subst q'
        obtain rfl : u = Value.bool true := r'
        refine ⟨rfl, OldK.of_keep fun b o e => ?_, os, bare⟩
        cases q : H b with
        | none => exact un.keep b o e q (by intro z; exact absurd (show b ∈ ([] : List Addr) from z) (by simp)) (by simp)
        | some u =>
          rcases hO b with z | ⟨ob, xs, z⟩
          · rw [q] at z; cases z
          · have z2 := un.frzs b ob _ z
            obtain ⟨e1, _⟩ := hok b _ z
            obtain ⟨e2, _⟩ := hok' b _ z2
            rw [e] at e1; cases e1
            exact e2
  cases hk : K.lookup a with
  | some o =>
    -- the script is one of the module's own objects
    have e := KX a o hk
    rw [ha] at e
    cases e
    refine core (fun _ => none) (fun _ => .inl rfl) (.inr ⟨_, vs.toArray, _, hk, rfl, rfl, rfl, by rw [List.size_toArray, lenV]; exact hl, by simpa using rv⟩) (fun b u z => by have z' : (none : Option HO) = some u := z; cases z') (fun b z => absurd rfl z) fun z => absurd rfl z
  | none =>
    refine core (fun b => if b = a then some (.frz { cls := .type "list", data := .seq vs.toArray } (.lst (ns.map V.int))) else none) (fun b => ?_) (.inl (.inr ⟨{ cls := .type "list", data := .seq vs.toArray }, if_pos rfl⟩)) (fun b u z => ?_) (fun b z => ?_) fun _ => hk
    · by_cases hb : b = a
      · exact .inr ⟨_, _, if_pos hb⟩
      · exact .inl (if_neg hb)
    · by_cases hb : b = a
      · have z' := (if_pos hb).symm.trans z
        cases z'
        subst hb
        exact ⟨ha, by rw [List.length_map]; exact hl, vs, _, rv, ha⟩
      · have z' := (if_neg hb).symm.trans z
        cases z'
    · by_cases hb : b = a
      · exact hb
      · exact absurd (if_neg hb) z
end L2
namespace L2
open PySem PySem.Spec PyProof.Rows
theorem walk_of {l : PySem.W.OpenLaw} {n k : Nat} {q : Program} {loose : List Str} {XP : (Str → Option Value) → Heap → Prop} {YP : World → Heap → Prop} {d : DefRec} {K : Params → PySem.W.Frag} {CX : World → CXT} {sp : World → Sp} {x : Str}
    (hn : l.most = some n) (hn2 : n ≤ sizeLine) (hdf : d.params.defaults = []) (hr : Room k callerA)
    (hY : ∀ (w : World) (h : Heap), YP w h → (K w.params).In h)
    (F : ∀ (w : World) (mg : Str → Option Value) (fa : Addr) (h : Heap), (K w.params).In h → h.Ns mainGlobals mg → mg d.name = some (.ref fa) →
      ∃ fd : FuncData, (∀ (s : Shared) (u : Value), BindsTo s fd ⟨[u], []⟩ [(x, u)]) ∧
        ∀ base : Heap, (K w.params).In base → base.Ns mainGlobals mg → FnOk l.prog w (K w.params) mg base (CX w) k fa fd [x] (sp w))
    (hsp : ∀ (w : World) (H : Hp) (a : Addr) (ns : List Int), ns.length ≤ n → Only H → SqL (K w.params) H a (ns.map V.int) → sp w [.ref a] H (fun v _ => v = .bl true) fun _ _ _ => False)
    (hCX : ∀ (w : World) (H : Hp) (s : Shared) (e : Value) (s' : Shared), CX w [] H s (fun _ _ _ => False) e s' → False) :
    PySem.W.WalkO q loose XP YP l.row.toRowW d [] (fun f vs => PySem.call f vs) := by
  refine Att.attach_call hn hdf fun w s₀ s₁ mg mb fa o pm cd doc a vs ns G Y ho hd hcd hmg hobj hints hlen hg => ?_
  have KX := hY w _ Y
  obtain ⟨fd, hb, hF⟩ := F w mg fa _ KX G.T.g hmg
  exact law_call KX G.T.g G.T.b G.T.builtins G.T.nolimit hg hobj hints (Nat.le_trans hlen hn2) hr hF hb (fun H hO hS => hsp w H a ns hlen hO hS) fun H e s' => hCX w H s₁ e s'
theorem walk_ofK {l : PySem.W.OpenLaw} {n k : Nat} {q : Program} {loose : List Str} {XP : (Str → Option Value) → Heap → Prop} {YP : World → Heap → Prop} {d : DefRec} {K : Params → PySem.W.Frag} {CX : CXT} {sp : PySem.W.Frag → Sp} {x : Str}
    (hn : l.most = some n) (hn2 : n ≤ sizeLine) (hdf : d.params.defaults = []) (hr : Room k callerA)
    (hY : ∀ (w : World) (h : Heap), YP w h → (K w.params).In h)
    (F : ∀ (w : World) (mg : Str → Option Value) (fa : Addr) (h : Heap), (K w.params).In h → h.Ns mainGlobals mg → mg d.name = some (.ref fa) →
      ∃ fd : FuncData, (∀ (s : Shared) (u : Value), BindsTo s fd ⟨[u], []⟩ [(x, u)]) ∧
        ∀ base : Heap, (K w.params).In base → base.Ns mainGlobals mg → FnOk l.prog w (K w.params) mg base CX k fa fd [x] (sp (K w.params)))
    (hsp : ∀ (K : PySem.W.Frag) (H : Hp) (a : Addr) (ns : List Int), ns.length ≤ n → Only H → SqL K H a (ns.map V.int) → sp K [.ref a] H (fun v _ => v = .bl true) fun _ _ _ => False)
    (hCX : ∀ (H : Hp) (s : Shared) (e : Value) (s' : Shared), CX [] H s (fun _ _ _ => False) e s' → False) :
    PySem.W.WalkO q loose XP YP l.row.toRowW d [] (fun f vs => PySem.call f vs) :=
  walk_of (K := K) (CX := fun _ => CX) (sp := fun w => sp (K w.params)) hn hn2 hdf hr hY F (fun w H a ns h1 h2 h3 => hsp (K w.params) H a ns h1 h2 h3) fun _ H s e s' => hCX H s e s'
end L2
/- THE LAST THEOREM (shape; LID, My.* are yours):
   My.Adr: a structure of the addresses that your layer names (classes, functions); My.Txt K t: a structure (Prop) of the equations over K;
   My.txt_mk : {K} {implicit addresses ..} (e1 : nsIn K mainGlobals "law" = some (some (.ref f))) (e2 : K.lookup f = some ⟨oc, od, .func (fnOf "law" "law" params body scope dV kV doc pm an cdv ct), sl⟩) (e3 : codeIn K cdv "law" = true) .. : ∃ t, My.Txt K t
set_option maxRecDepth 100000 in
set_option maxHeartbeats 0 in
(the tactic k_is has no namespace: write k_is) -/
namespace L2
open PySem PySem.Spec PyProof.Rows
def defArgs (s : Stmt) : Arguments := match s with
  | .FunctionDef _ a _ _ _ _ _ _ _ _ => a
  | _ => { posonlyargs := [], args := [], vararg := none, kwonlyargs := [], kw_defaults := [], kwarg := none, defaults := [] }
def defBody (s : Stmt) : List Stmt := match s with
  | .FunctionDef _ _ b _ _ _ _ _ _ _ => b
  | _ => []
def defScope (s : Stmt) : Scope := match s with
  | .FunctionDef _ _ _ _ _ _ sc _ _ _ => sc
  | _ => { kind := .function, names := [], isGenerator := false, isCoroutine := false }
abbrev CX0 : CXT := fun _ _ _ _ _ _ => False
abbrev E0 : XK := fun _ _ _ => False
theorem pass0 {X : Cx} : Passes CX0 X E0 := fun _ _ _ _ _ _ _ h => h.elim
structure Fun (K : PySem.W.Frag) (x qual : Str) (st : Stmt) (f : Addr) (fd : FuncData) : Prop where
  ex : ∃ (oc : Value) (od : Option Addr) (kV doc pm : Value) (an : Option Addr) (cdv ct : Value) (osl : Array (Option Value)),
    fd = PySem.W.fnOf x qual (defArgs st) (defBody st) (defScope st) .none kV doc pm an cdv ct ∧ K.lookup f = some ⟨oc, od, .func fd, osl⟩ ∧ PySem.W.codeIn K cdv qual = true
  kp : PySem.W.keepIn K (.ref f) = true
section
variable {P : Program} {w : World} {K : PySem.W.Frag} {mg : Str → Option Value} {base : Heap}
theorem Fun.ok {x qual : Str} {st : Stmt} {f : Addr} {fd : FuncData} {N ps : List Str} {k : Nat} {sp : Sp} (F : Fun K x qual st f fd) (S : FnScope N ps (defScope st)) (len : ∀ vs H Q E, sp vs H Q E → vs.length = ps.length)
    (hbody : ∀ (cdv : Value) (A : Around) (outer : List Env) (s : Shared) (H : Hp) (vs : List V) (Q : VK) (E : XK), Room k (A.deeper (envOfC qual (defScope st) s.heap.objs.size f cdv)) → sp vs H Q E →
      ∃ t, PSs (cxOf CX0 P w K mg base N qual (defScope st) f cdv A outer s H E).nox (defBody st) t ∧ t { nx := fun _ H' => Q .non H', rt := Q } (start N vs) H) : FnOk P w K mg base CX0 (k + 1) f fd ps sp := by
  obtain ⟨oc, od, kV, doc, pm, an, cdv, ct, osl, rfl, lk, hcd⟩ := F.ex
  refine fn_of lk hcd S len fun A outer s H vs Q E hr hsp => ?_
  obtain ⟨t, h, q⟩ := hbody cdv A outer s H vs Q E hr hsp
  exact ⟨t, h.nox, q⟩
theorem Fun.binds {x qual : Str} {st : Stmt} {f : Addr} {fd : FuncData} {ps : List Str} (F : Fun K x qual st f fd)
    (h : ∀ (kV doc pm : Value) (an : Option Addr) (cdv ct : Value) (us : List Value), us.length = ps.length → bindArgs (PySem.W.fnOf x qual (defArgs st) (defBody st) (defScope st) .none kV doc pm an cdv ct) ⟨us, []⟩ = pure (ps.zip us)) : Binds K fd ps [] := by
  obtain ⟨oc, od, kV, doc, pm, an, cdv, ct, osl, rfl, lk, hcd⟩ := F.ex
  exact .all (h kV doc pm an cdv ct)
theorem fun_mk {x qual : Str} {st : Stmt} {f : Addr} {oc : Value} {od an : Option Addr} {osl : Array (Option Value)} {kV doc pm cdv ct : Value} (l : K.lookup f = some ⟨oc, od, .func (PySem.W.fnOf x qual (defArgs st) (defBody st) (defScope st) .none kV doc pm an cdv ct), osl⟩)
    (c : PySem.W.codeIn K cdv qual = true) (k : PySem.W.keepIn K (.ref f) = true) : Fun K x qual st f (PySem.W.fnOf x qual (defArgs st) (defBody st) (defScope st) .none kV doc pm an cdv ct) := ⟨⟨oc, od, kV, doc, pm, an, cdv, ct, osl, rfl, l, c⟩, k⟩
end
theorem hu_of {A : Around} {k : Nat} (hr : Room k A) : A.units + 1 < cLine := Nat.lt_of_le_of_lt (Nat.add_le_add_left (by decide : 1 ≤ 64) _) hr.units
section
variable {X : Cx}
theorem pv (i : Nat) {x : Str} {pos : Pos} (hN : X.N[i]? = some x := by rfl) (hv : Vis X.env.scope x := by first | exact Or.inl rfl | exact Or.inr (Or.inl rfl) | exact Or.inr (Or.inr rfl)) (hd : (x == ("__debug__" : Str)) = false := by decide)
    (hcd : (x == ("__classdict__" : Str)) = false := by decide) : PE X (.Name x pos) (tVar i) := by
  first
  | exact (pe_var hN hv hd hcd)
  | (unfold PE at *; exact (pe_var hN hv hd hcd))
end
theorem iteF {A B : Prop} (h : B) : if false = true then A else B := by
  rw [if_neg Bool.false_ne_true]
  exact h
theorem iteT {A B : Prop} (h : A) : if true = true then A else B := by
  rw [if_pos rfl]
  exact h
theorem ite2 {c A B : Prop} [Decidable c] (h1 : c → A) (h2 : ¬ c → B) : if c then A else B := by
  by_cases h : c
  · rw [if_pos h]
    exact h1 h
  · rw [if_neg h]
    exact h2 h
def Same (H H' : Hp) : Prop := ∀ b o, H b = some o → H' b = some o
theorem Same.refl (H : Hp) : Same H H := fun _ _ h => h
theorem Same.trans {H H1 H2 : Hp} (a : Same H H1) (b : Same H1 H2) : Same H H2 := fun c o h => b c o (a c o h)
theorem Same.free {H H' : Hp} (e : Same H H') {l : Addr} (h : H' l = Option.none) : H l = Option.none := by
  cases q : H l with
  | none => rfl
  | some o =>
    rw [e l o q] at h
    cases h
theorem Same.seq {K : PySem.W.Frag} {H H' : Hp} {a : Addr} {xs : List V} (e : Same H H') (h : SqL K H a xs) : SqL K H' a xs := by
  rcases h with (h | ⟨o, h⟩) | h
  · exact .inl (.inl (e _ _ h))
  · exact .inl (.inr ⟨o, e _ _ h⟩)
  · exact .inr h
section
variable {κ : Type} [DecidableEq κ]
theorem valV_in {kvs : List (κ × V)} {k : κ} {v : V} (h : valV kvs k = some v) : k ∈ kvs.map (·.1) := by
  have q : (kvs.any fun kv => decide (kv.1 = k)) = true := by
    rw [valV_any, h]
    all_goals rfl
  obtain ⟨p, hp, e⟩ := List.any_eq_true.mp q
  exact List.mem_map.mpr ⟨p, hp, of_decide_eq_true e⟩
end
end L2
set_option maxHeartbeats 4000000
namespace L2
open PySem PySem.Spec PyProof.Rows
section
variable {X : Cx} {a b c : Expr} {ta tb tc : TE} {pos : Pos}
inductive ClsV : V → Value → Prop where
  | ty (n : String) : ClsV (.ty n) (.type n)
  | own (C : Addr) : ClsV (.ref C) (.ref C)
def rIsi (K : PySem.W.Frag) : List V → Hp → VK → Prop := fun xs H Q => ∃ x c cv t b, xs = [x, c] ∧ ClsV c cv ∧ TyOf K H x t ∧ PySem.W.kitOne K t cv = some b ∧ Q (.bl b) H
theorem call_isi : CallR X (.builtin "isinstance") (rIsi X.K) := by
  unfold CallR at *
  exact by
    intro pins s σ H xs us Q I rv h
    obtain ⟨x, c, cv, t, b, rfl, hc, ty, e, q⟩ := h
    obtain ⟨u, cu, rfl, ru, rc⟩ := rv.two
    have ec : cu = cv := by cases hc <;> exact rc
    subst ec
    exact isinst_ok I ru ty e fun tk => ⟨.bl b, H, I.tok tk, rfl, q⟩
end
end L2
namespace L2
open PySem PySem.Spec PyProof.Rows
/- what a block's context hangs on: the closure's cells, the state and abstract heap ahead of the block, the iterator's records -/
set_option genInjectivity false in
set_option genSizeOfSpec false in
set_option genSizeOf false in
structure Bk where
  cl : List (Str × Addr)
  s2 : Shared
  H2 : Hp
  fp : List Addr
def cxComp (X : Cx) (scope : Scope) (N' : List Str) (B : Bk) : Cx :=
  { X with N := N', s₀ := B.s2, H₀ := B.H2, env := compEnvC scope B.cl B.s2.heap.objs.size X.env, outer := X.stack, stack := X.stack, ex := B.fp, fn := fun _ => false, pn := [], xe := fun _ _ => False }
def capS (js : List (Option Nat)) (σ : St) : St := js.map fun o => o.bind fun j => (σ[j]?).join
structure Cap (X : Cx) (scope : Scope) (N' : List Str) (js : List (Option Nat)) : Prop where
  len : js.length = N'.length
  ok : ∀ (i j : Nat) (x : Str), js[i]? = some (some j) → N'[i]? = some x → X.N[j]? = some x ∧ scope.names.lookup x = some .free ∧ (X.env.kindOf x = some .cell ∨ X.env.kindOf x = some .free)
theorem closure_go {env : Env} : ∀ (names : List (Str × NameKind)) (cs : List (Str × Addr)), (∀ x ∈ names, x.2 = .free → ∃ c, env.cells.lookup x.1 = some c) → (∀ x c, cs.lookup x = some c → env.cells.lookup x = some c) →
    ∃ cl, (forIn names cs (fun (x : Str × NameKind) (r : List (Str × Addr)) => match x with
      | (name, kind) => if (kind == NameKind.free) = true then (do let y ← cellOf env name; pure (ForInStep.yield ((name, y) :: r))) else pure (ForInStep.yield r)) : Sem (List (Str × Addr))) = pure cl ∧
      (∀ x c, cl.lookup x = some c → env.cells.lookup x = some c) ∧ (∀ x c, cs.lookup x = some c → ∃ c', cl.lookup x = some c') ∧ ∀ x, (x, NameKind.free) ∈ names → ∃ c, cl.lookup x = some c := by
  intro names
  induction names with
  | nil => intro cs _ h2; exact ⟨cs, rfl, h2, fun x c e => ⟨c, e⟩, fun x hx => absurd hx (by simp)⟩
  | cons y r ih =>
    intro cs h1 h2
    obtain ⟨n, k⟩ := y
    have h1r : ∀ x ∈ r, x.2 = .free → ∃ c, env.cells.lookup x.1 = some c := fun x hx => h1 x (List.mem_cons_of_mem _ hx)
    by_cases hk : k = .free
    · subst hk
      obtain ⟨c, hc⟩ := h1 (n, .free) List.mem_cons_self rfl
      have h2' : ∀ x d, List.lookup x ((n, c) :: cs) = some d → env.cells.lookup x = some d := fun x d e => by
        by_cases hx : x = n
        · subst hx
          simp only [List.lookup_cons, beq_self_eq_true] at e
          rw [hc]; exact e
        · have hb : (x == n) = false := by simpa using hx
          simp only [List.lookup_cons, hb] at e
          exact h2 x d e
      obtain ⟨cl, e1, e2, e3, e4⟩ := ih ((n, c) :: cs) h1r h2'
      refine ⟨cl, ?_, e2, fun x d e => ?_, fun x hx => ?_⟩
      · rw [List.forIn_cons]
        have q : cellOf env n = pure c := by unfold cellOf; rw [hc]
        show ((if (NameKind.free == NameKind.free) = true then (do let y ← cellOf env n; pure (ForInStep.yield ((n, y) :: cs))) else pure (ForInStep.yield cs)) >>= _) = _
        rw [if_pos (by decide), q]
        exact e1
      · by_cases hx : x = n
        · exact e3 x c (by subst hx; simp [List.lookup_cons])
        · exact e3 x d (by have hb : (x == n) = false := by simpa using hx
                           simp only [List.lookup_cons, hb]; exact e)
      · rcases List.mem_cons.mp hx with z | z
        · injection z with z1 _
          exact e3 x c (by subst z1; simp [List.lookup_cons])
        · exact e4 x z
    · obtain ⟨cl, e1, e2, e3, e4⟩ := ih cs h1r h2
      refine ⟨cl, ?_, e2, e3, fun x hx => ?_⟩
      · rw [List.forIn_cons]
        have hb : (k == NameKind.free) = false := by simpa using hk
        show ((if (k == NameKind.free) = true then _ else pure (ForInStep.yield cs)) >>= _) = _
        rw [if_neg (by rw [hb]; decide)]
        exact e1
      · rcases List.mem_cons.mp hx with z | z
        · injection z with _ z2
          exact absurd z2.symm hk
        · exact e4 x z
theorem closure_of {scope : Scope} {env : Env} (h : ∀ x ∈ scope.names, x.2 = .free → ∃ c, env.cells.lookup x.1 = some c) :
    ∃ cl, closureFor scope env = pure cl ∧ (∀ x c, cl.lookup x = some c → env.cells.lookup x = some c) ∧ ∀ x, (x, NameKind.free) ∈ scope.names → ∃ c, cl.lookup x = some c := by
  obtain ⟨cl, e1, e2, _, e4⟩ := closure_go (env := env) scope.names [] h (fun x c e => by simp at e)
  refine ⟨cl, ?_, e2, e4⟩
  have q : closureFor scope env = (forIn scope.names [] (fun (x : Str × NameKind) (r : List (Str × Addr)) => match x with
      | (name, kind) => if (kind == NameKind.free) = true then (do let y ← cellOf env name; pure (ForInStep.yield ((name, y) :: r))) else pure (ForInStep.yield r)) : Sem (List (Str × Addr))) >>= fun r => pure r := rfl
  rw [q, e1]
  rfl
theorem relabel_free {env : Env} : ∀ {names : List (Str × NameKind)} {x : Str}, names.lookup x = some .free →
    (names.map fun (n, k) => if (k == NameKind.free && env.scope.kind == .function && env.kindOf n == some .cell) then (n, NameKind.cell) else (n, k)).lookup x = some .cell ∨
    (names.map fun (n, k) => if (k == NameKind.free && env.scope.kind == .function && env.kindOf n == some .cell) then (n, NameKind.cell) else (n, k)).lookup x = some .free
  | [], _, h => by simp at h
  | (n, k) :: r, x, h => by
    have ih := @relabel_free env r x
    simp only [List.map_cons]
    cases hx : x == n with
    | true =>
      simp only [List.lookup_cons, hx] at h
      cases h
      by_cases hc : (NameKind.free == NameKind.free && env.scope.kind == .function && env.kindOf n == some .cell) = true
      · rw [if_pos hc]; left; simp only [List.lookup_cons, hx]
      · rw [if_neg hc]; right; simp only [List.lookup_cons, hx]
    | false =>
      simp only [List.lookup_cons, hx] at h
      by_cases hc : (k == NameKind.free && env.scope.kind == .function && env.kindOf n == some .cell) = true
      · rw [if_pos hc]; simp only [List.lookup_cons, hx]; exact ih h
      · rw [if_neg hc]; simp only [List.lookup_cons, hx]; exact ih h
theorem relabel_inv {env : Env} : ∀ {names : List (Str × NameKind)} {x : Str},
    ((names.map fun (n, k) => if (k == NameKind.free && env.scope.kind == .function && env.kindOf n == some .cell) then (n, NameKind.cell) else (n, k)).lookup x = some .cell ∨
    (names.map fun (n, k) => if (k == NameKind.free && env.scope.kind == .function && env.kindOf n == some .cell) then (n, NameKind.cell) else (n, k)).lookup x = some .free) →
    names.lookup x = some .cell ∨ names.lookup x = some .free
  | [], _, h => by simp at h
  | (n, k) :: r, x, h => by
    have ih := @relabel_inv env r x
    simp only [List.map_cons] at h
    cases hx : x == n with
    | true =>
      simp only [List.lookup_cons, hx]
      by_cases hc : (k == NameKind.free && env.scope.kind == .function && env.kindOf n == some .cell) = true
      · right
        have : k = .free := by
          simp only [Bool.and_eq_true] at hc
          simpa using hc.1.1
        rw [this]
      · rw [if_neg hc] at h
        simp only [List.lookup_cons, hx] at h
        exact h
    | false =>
      simp only [List.lookup_cons, hx]
      apply ih
      by_cases hc : (k == NameKind.free && env.scope.kind == .function && env.kindOf n == some .cell) = true
      · rw [if_pos hc] at h; simp only [List.lookup_cons, hx] at h; exact h
      · rw [if_neg hc] at h; simp only [List.lookup_cons, hx] at h; exact h
theorem comp_start {X : Cx} {pins : List (Addr × Obj)} {σ : St} {H2 : Hp} {s2 : Shared} {scope : Scope} {cl : List (Str × Addr)} {N' : List Str} {js : List (Option Nat)} {fp : List Addr} {h' : Heap} {t' : Nat} {m0 : Str → Option Value}
    (I : Inv X pins σ H2 s2) (hk : scope.kind = .function) (hcell : ∀ y ∈ scope.names, y.2 ≠ .cell)
    (hf : ∀ b ∈ fp, FpOk X pins H2 b) (ho : ∀ b ∈ fp, ∃ o, s2.heap.get? b = some o)
    (c1 : ∀ x c, cl.lookup x = some c → X.env.cells.lookup x = some c) (c2 : ∀ x, (x, NameKind.free) ∈ scope.names → ∃ c, cl.lookup x = some c)
    (cap : Cap X scope N' js) (ns : h'.Ns s2.heap.objs.size m0) (sb : ∀ b o, s2.heap.get? b = some o → h'.get? b = some o) :
    Inv (cxComp X scope N' ⟨cl, s2, H2, fp⟩) [] (capS js σ) H2 { s2 with heap := h', toks := t' } := by
  have isc : ∀ c v, s2.heap.IsCell c v → h'.IsCell c v := fun c v ⟨o, e, d⟩ => ⟨o, sb _ _ e, d⟩
  refine ⟨⟨I.ok.mod, hk, I.ok.glob, I.ok.blt, Nat.le_refl _, fun x y c h1 h2 => I.ok.inj x y c (c1 x c h1) (c1 y c h2), fun x hx => ?_, fun x c h => absurd h (by simp [cxComp]), I.ok.hd, I.ok.frames, .inl rfl, fun b hb => ⟨?_, fun x c e => ?_⟩, I.bs, Nat.le_trans I.ok.bsz I.sz,
    fun b o e hb => ?_, fun b hb hs => ?_, I.stack, I.stkFree⟩, rfl, I.bare, Un.kept sb, ⟨m0, ns, fun i x v e1 e2 e3 => ?_⟩, fun x c e => ?_, I.hok.fresh (Nat.le_refl _), fun x c e => I.freeC x c (c1 x c e), fun p hp => absurd hp (by simp [cxComp]), I.hok.kept sb, ?_⟩
  · have hx' := relabel_inv (env := X.env) (names := scope.names) (x := x) hx
    rcases hx' with z | z
    · exact absurd rfl (hcell _ (PySem.mem_of_lookup z))
    · exact c2 x (PySem.mem_of_lookup z)
  · obtain ⟨o, e⟩ := ho b hb
    exact Nat.ne_of_lt (Heap.lt_size e)
  · exact (hf b hb).2.2.2.2.1 x c (c1 x c e)
  · rcases (hf b hb).2.2.2.1 with z | z
    · exact I.ok.noex b o e z
    · exact absurd (Nat.lt_of_lt_of_le (Heap.lt_size e) (Nat.le_trans I.ok.bsz z)) (Nat.lt_irrefl _)
  · rcases List.mem_cons.mp (I.stkSub b hs) with z | z
    · exact (hf b hb).2.1 z
    · exact (hf b hb).2.2.1 z
  · have e2' : ((js.map fun o => o.bind fun j => (σ[j]?).join) : St)[i]? = some (some v) := e2
    rw [List.getElem?_map] at e2'
    cases q : js[i]? with
    | none => rw [q] at e2'; cases e2'
    | some o =>
      rw [q] at e2'
      cases o with
      | none => simp at e2'
      | some j =>
        have q2 : (σ[j]?).join = some v := by simpa using e2'
        have q3 : σ[j]? = some (some v) := by
          cases z : σ[j]? with
          | none => rw [z] at q2; cases q2
          | some w => rw [z] at q2; exact congrArg some q2
        obtain ⟨n1, n2, n3⟩ := cap.ok i j x q e1
        obtain ⟨m, hm, hl⟩ := I.loc
        obtain ⟨u, r, l⟩ := hl j x v n1 q3 (.inr n3)
        refine ⟨u, r, .inr ⟨relabel_free (env := X.env) n2, ?_⟩⟩
        obtain ⟨c, hc⟩ := c2 x (PySem.mem_of_lookup n2)
        refine ⟨c, hc, ?_⟩
        rcases l with ⟨l, _⟩ | ⟨_, c', e', z'⟩
        · rcases n3 with n3 | n3 <;> (rw [n3] at l; cases l)
        · have := c1 x c hc
          rw [e'] at this; cases this
          exact isc _ _ z'
  · obtain ⟨v, z⟩ := I.cell x c (c1 x c e)
    exact ⟨v, isc _ _ z⟩
  · show (js.map _).length = N'.length
    rw [List.length_map]; exact cap.len
@[irreducible] def PIfs (X : Cx) (ifs : List Expr) (t : TT) : Prop :=
  ∀ (pins : List (Addr × Obj)) (s : Shared) (σ : St) (H : Hp) (Q : Bool → Hp → Prop), Inv X pins σ H s → t σ H Q →
    wpAny (model X.prog X.w) X.A (forIn ifs true fun c r => if r = true then do let ok ← isTrue c X.env (eval c X.env); pure (ForInStep.yield ok) else pure (ForInStep.yield r)) (TP X pins σ Q) X.xe s
def tAll : TT := fun _ H Q => Q true H
theorem pifs_nil {X : Cx} : PIfs X [] tAll := by
  first
  | exact (fun _ _ _ H _ I h => wpAny_tests_nil ⟨H, I, h⟩)
  | (unfold PIfs at *; exact (fun _ _ _ H _ I h => wpAny_tests_nil ⟨H, I, h⟩))
theorem pifs_one {X : Cx} {c : Expr} {t : TT} (hc : PT X c t) : PIfs X [c] t := by
  first
  | exact (fun pins s σ H Q I h => wpAny_tests_one (hc pins s σ H Q I h))
  | (unfold PT at *; unfold PIfs at *; exact (fun pins s σ H Q I h => wpAny_tests_one (hc pins s σ H Q I h)))
section
variable {prog : Program} {w : World} {A : Around} {R : Result → Shared → Prop} {s : Shared}
theorem compLoop_go {elt target iter : Expr} {ifs : List Expr} {scope : Scope} {pos : Pos} {it acc : Value} {env : Env} (I : Nat → Shared → Prop)
    (turn : ∀ n s, I n s → wpAny (model prog w) A (pyNext it) (fun r s₁ => match r with
      | none => R (.ok .next) s₁
      | some v => wpAny (model prog w) A (letOwnedTupleGo target it v) (fun _ s₁ => wpAny (model prog w) A (assign target env v) (fun _ s₂ =>
          wpAny (model prog w) A (forIn ifs true fun c r => if r = true then do let ok ← isTrue c env (eval c env); pure (ForInStep.yield ok) else pure (ForInStep.yield r)) (fun ok s₃ =>
            if ok = true then wpAny (model prog w) A (eval elt env) (fun x s₄ =>
              wpAny (model prog w) A (call (.builtin "list.append") [acc, x]) (fun _ s₅ => ∃ m, m < n ∧ I m s₅) (fun _ _ => False) s₄) (fun _ _ => False) s₃
            else ∃ m, m < n ∧ I m s₃) (fun _ _ => False) s₂) (fun _ _ => False) s₁) (fun _ _ => False) s₁) (fun _ _ => False) s)
    (n : Nat) (h : I n s) :
    codeAny (model prog w) A (.compLoop (.ListComp elt [⟨target, iter, ifs, 0⟩] scope pos) 0 it acc env) R s := by
  refine codeAny_loop rfl I (fun n s hI => ?_) n h
  show wpAny _ A ((compTurn (.ListComp elt [⟨target, iter, ifs, 0⟩] scope pos) 0 it acc env).onRaise (fun x => do noteFrame x env; theTreesLotGoes x)) _ _ s
  refine wpAny_noted ?_
  rw [compTurn_list]
  refine wpAny_bind (wpAny_standAt (wpAny_bind (wpAny_mono (turn n s hI) (fun r s₁ h₁ => ?_) fun _ _ h' => h'.elim)))
  cases r with
  | none => exact wpAny_pure h₁
  | some v =>
    refine wpAny_bind (wpAny_mono h₁ (fun _ s₁ h₁ => ?_) fun _ _ h' => h'.elim)
    refine wpAny_bind (wpAny_mono h₁ (fun _ s₂ h₂ => wpAny_bind (wpAny_mono h₂ (fun ok s₃ h₃ => ?_) fun _ _ h' => h'.elim)) fun _ _ h' => h'.elim)
    cases ok with
    | false => exact wpAny_pure ⟨rfl, h₃⟩
    | true =>
      exact wpAny_bind (wpAny_bind (wpAny_mono h₃ (fun x s₄ h₄ => wpAny_bind (wpAny_mono h₄ (fun _ s₅ h₅ => wpAny_pure (wpAny_pure ⟨rfl, h₅⟩)) fun _ _ h' => h'.elim)) fun _ _ h' => h'.elim))
end
def tLoop (J : It) (l : Addr) (g : TG) (tc : TT) (te : TE) (σ : St) (H : Hp) (Q : VK) : Prop :=
  ∃ W : Nat → Nat → St → List V → Hp → Prop, (∃ m, W 0 m σ [] H) ∧ ∀ i m σ acc H, W i m σ acc H → H l = some (.lst acc) ∧ ((J.stop i H ∧ Q (.ref l) H) ∨
    (J.go i H ∧ acc.length < sizeLine ∧ ∀ x H', J.yld i H x H' → g x σ H' fun σ2 H2 => tc σ2 H2 fun b H3 => if b = true then
      te σ2 H3 fun v H4 => H4 l = some (.lst acc) ∧ ∃ m', m' < m ∧ W (i + 1) m' σ2 (acc ++ [v]) (upd H4 l (.lst (acc ++ [v])))
      else ∃ m', m' < m ∧ W (i + 1) m' σ2 acc H3))
def tComp (js : List (Option Nat)) (wi : TI) (g : Bk → TG) (tc : Bk → TT) (te : Bk → TE) : TE := fun σ H Q => wi σ H fun J H1 => ∀ l B, H1 l = none → tLoop J l (g B) (tc B) (te B) (capS js σ) (upd H1 l (.lst [])) Q
section
variable {X : Cx} {elt tg iter : Expr} {ifs : List Expr} {scope : Scope} {pos : Pos} {N' : List Str} {js : List (Option Nat)} {wi : TI} {g : Bk → TG} {tc : Bk → TT} {te : Bk → TE}
theorem comp_block {pins : List (Addr × Obj)} {σ : St} {H1 : Hp} {s1 : Shared} {it : Addr} {fp : List Addr} {tn : Nat → Heap → Prop} {J : It} {cl : List (Str × Addr)} {Q : VK} {RR : Value → Addr → Result → Shared → Prop}
    (hc : X.calm = true) (hk : scope.kind = .function) (hcell : ∀ y ∈ scope.names, y.2 ≠ .cell) (cap : Cap X scope N' js)
    (blk : ∀ B, PG (cxComp X scope N' B) tg (g B) ∧ PIfs (cxComp X scope N' B) ifs (tc B) ∧ PE (cxComp X scope N' B) elt (te B))
    (c1 : ∀ x c, cl.lookup x = some c → X.env.cells.lookup x = some c) (c2 : ∀ x, (x, NameKind.free) ∈ scope.names → ∃ c, cl.lookup x = some c)
    (I : Inv X pins σ H1 s1) (T : Turn X.prog X.w X.K tg J fp it tn) (st : tn 0 s1.heap) (hf : ∀ b ∈ fp, FpOk X pins H1 b)
    (h : ∀ l B, H1 l = none → tLoop J l (g B) (tc B) (te B) (capS js σ) (upd H1 l (.lst [])) Q)
    (hRR : ∀ l C H' s' (m' : Str → Option Value), Inv X pins σ H' s' → Q (.ref l) H' → s'.heap.Ns C m' → H' C = none → C ≠ X.env.locals → (∀ x c, X.env.cells.lookup x = some c → c ≠ C) → C ∉ X.fs → X.s₀.heap.objs.size ≤ C → (∀ p ∈ X.pn ++ pins, p.1 ≠ C) →
      RR (.ref l) C (.ok .next) s') :
    wpAny (model X.prog X.w) X.A (newList []) (fun acc s₃ => wpAny (model X.prog X.w) X.A (newFunctionEnv scope X.env.globals cl [] X.env.qual none .none (some X.env)) (fun cenv s₄ =>
      codeAny (model X.prog X.w) X.A (.compStart (.ListComp elt [⟨tg, iter, ifs, 0⟩] scope pos) 0 (.ref it) acc { cenv with scope := relabel scope X.env }) (RR acc cenv.locals) s₄) X.xe s₃) X.xe s1 := by
  unfold PE at *; unfold PG at *; unfold PIfs at *
  exact by
    refine wpAny_newObj_type ?_
    have I2 : Inv X pins σ (upd H1 s1.heap.objs.size (.lst [])) { s1 with heap := s1.heap.push { cls := .type "list", data := .seq ([] : List Value).toArray } } := I.lnew (t' := s1.toks) .nil (Nat.zero_le _)
    have hl : H1 s1.heap.objs.size = none := I.fresh
    generalize es2 : ({ s1 with heap := s1.heap.push { cls := .type "list", data := .seq ([] : List Value).toArray } } : Shared) = s2 at I2 ⊢
    generalize el : s1.heap.objs.size = l at *
    have ne_fp : ∀ b ∈ fp, b ≠ l := fun b hb => by
      obtain ⟨o, e, _⟩ := T.obj _ _ st b hb
      rw [← el]
      exact Nat.ne_of_lt (Heap.lt_size e)
    have hf2 : ∀ b ∈ fp, FpOk X pins (upd H1 l (.lst [])) b := fun b hb => ⟨by rw [upd_ne (ne_fp b hb)]; exact (hf b hb).1, (hf b hb).2⟩
    have kp : ∀ b o, s1.heap.get? b = some o → s2.heap.get? b = some o := fun b o e => by rw [← es2]; exact Heap.get?_push_of_some _ e
    have st2 : tn 0 s2.heap := T.keep _ _ _ st fun b _ o e => kp b o e
    refine wpAny_newFunctionEnv hcell (by intro y hy; simp at hy) (fun h' ns sb => ?_) hk
    have kp2 : ∀ b o, s2.heap.get? b = some o → h'.get? b = some o := fun b o e => (sb.2 b (Nat.ne_of_lt (Heap.lt_size e))).trans (Heap.get?_push_of_some _ e)
    have st3 : tn 0 h' := T.keep _ _ _ st2 fun b _ o e => kp2 b o e
    have I3 := comp_start (t' := s2.toks + ([] : List (Str × Value)).length) (m0 := fun x => ([] : List (Str × Value)).reverse.lookup x) I2 hk hcell hf2 (fun b hb => by obtain ⟨o, e, _⟩ := T.obj _ _ st2 b hb; exact ⟨o, e⟩) c1 c2 cap ns kp2
    obtain ⟨pg, pif, pel⟩ := blk ⟨cl, s2, upd H1 l (.lst []), fp⟩
    obtain ⟨W, ⟨m0, w0⟩, turn⟩ := h l ⟨cl, s2, upd H1 l (.lst []), fp⟩ hl
    have fpY : ∀ {H' : Hp}, (∀ b ∈ fp, H' b = none) → ∀ b ∈ fp, FpOk (cxComp X scope N' ⟨cl, s2, upd H1 l (.lst []), fp⟩) [] H' b := fun {H'} hn b hb =>
      ⟨hn b hb, (I3.ok.exf b hb).1, I3.ok.exfs b hb, .inl hb, (I3.ok.exf b hb).2, fun p hp => absurd hp (by simp [cxComp])⟩
    have loop : codeAny (model X.prog X.w) X.A (.compLoop (.ListComp elt [⟨tg, iter, ifs, 0⟩] scope pos) 0 (.ref it) (.ref l) (compEnvC scope cl s2.heap.objs.size X.env)) (RR (.ref l) s2.heap.objs.size) { s2 with heap := h', toks := s2.toks + ([] : List (Str × Value)).length } := by
      refine compLoop_go (fun n s' => ∃ i σ' acc H', Inv (cxComp X scope N' ⟨cl, s2, upd H1 l (.lst []), fp⟩) [] σ' H' s' ∧ tn i s'.heap ∧ (∀ b ∈ fp, H' b = none) ∧ W i n σ' acc H') ?_ m0 ⟨0, _, _, _, I3, st3, fun b hb => (hf2 b hb).1, w0⟩
      rintro n s3 ⟨i, σ3, acc, H3, J3, t3, f3, w3⟩
      obtain ⟨hacc, alt⟩ := turn i n σ3 acc H3 w3
      rcases alt with ⟨stop, q⟩ | ⟨go, hz, step⟩
      · refine thn (T.done (cxComp X scope N' ⟨cl, s2, upd H1 l (.lst []), fp⟩) rfl rfl rfl hc i [] s3 σ3 H3 (fun _ _ => False) J3 (fpY f3) t3 stop) fun r s4 ⟨hr, J4⟩ => ?_
        subst hr
        have IX : Inv X pins σ H3 s4 := I2.call' (ch := fp) J4.os J4.base J4.hok J4.bare fun b hb => ⟨(hf2 b hb).2.2.2.1, (hf2 b hb).2.1, (hf2 b hb).2.2.2.2.1, (hf2 b hb).2.2.2.2.2⟩
        obtain ⟨m', hn', _⟩ := J4.loc
        refine hRR l s2.heap.objs.size H3 s4 m' IX q hn' J4.free (Nat.ne_of_gt I2.lt) (fun x c e => ?_) (I2.nofs (Nat.le_refl _)) I2.sz fun p hp => Nat.ne_of_lt (Heap.lt_size (I2.pin p hp).1)
        obtain ⟨v, z⟩ := I2.cell x c e
        exact Nat.ne_of_lt z.lt
      · refine thn (T.item (cxComp X scope N' ⟨cl, s2, upd H1 l (.lst []), fp⟩) rfl rfl rfl hc i [] s3 σ3 H3 (fun _ _ => False) J3 (fpY f3) t3 go) fun r s4 ⟨u, hr, h4⟩ => ?_
        subst hr
        refine thn h4 fun _ s5 ⟨x, H5, J5, r5, y5, t5, f5⟩ => ?_
        have J5' := J5.pinned (fpY f5) (T.obj _ _ t5)
        refine thn (pg _ s5 σ3 H5 x u _ J5' r5 (step x H5 y5)) fun _ s6 ⟨σ6, H6, J6, q6⟩ => ?_
        refine thn (pif _ s6 σ6 H6 _ J6 q6) fun ok s7 ⟨H7, J7, q7⟩ => ?_
        have again : ∀ {σ8 : St} {H8 : Hp} {s8 : Shared} {acc8 : List V}, Inv (cxComp X scope N' ⟨cl, s2, upd H1 l (.lst []), fp⟩) ([] ++ pinsAt fp s5.heap) σ8 H8 s8 → (∃ m', m' < n ∧ W (i + 1) m' σ8 acc8 H8) →
            ∃ m, m < n ∧ ∃ i σ' acc H', Inv (cxComp X scope N' ⟨cl, s2, upd H1 l (.lst []), fp⟩) [] σ' H' s8 ∧ tn i s8.heap ∧ (∀ b ∈ fp, H' b = none) ∧ W i m σ' acc H' := fun {σ8 H8 s8 acc8} J8 hw => by
          obtain ⟨m', hm, w8⟩ := hw
          refine ⟨m', hm, i + 1, σ8, acc8, H8, J8.unpinned, T.keep _ _ _ t5 fun b hb o e => (J8.pin (b, o) (List.mem_append_right _ (List.mem_append_right _ (mem_pinsAt hb e)))).1, fun b hb => ?_, w8⟩
          obtain ⟨o, e, d⟩ := T.obj _ _ t5 b hb
          exact (J8.pin (b, o) (List.mem_append_right _ (List.mem_append_right _ (mem_pinsAt hb e)))).2.1
        cases ok with
        | false => exact again J7 q7
        | true =>
          refine thn (pel _ s7 σ6 H7 _ J7 q7) fun xv s8 ⟨v, H8, J8, r8, hl8, m', hm, w8⟩ => ?_
          have mtq := mt_append (X := cxComp X scope N' ⟨cl, s2, upd H1 l (.lst []), fp⟩)
          unfold MtM at mtq
          refine thn (mtq _ s8 σ6 H8 (.ref l) [v] (.ref l) [xv] (fun _ H9 => H9 = upd H8 l (.lst (acc ++ [v]))) J8 rfl (.cons r8 .nil) ⟨l, acc, v, rfl, rfl, hl8, hz, rfl⟩) fun _ s9 ⟨v9, H9, J9, _, e9⟩ => ?_
          subst e9
          exact again J9 ⟨m', hm, w8⟩
    exact codeAny_compStart_list loop (T.self X.A 0 _ _ _ st3 loop)
theorem pe_comp (hc : X.calm = true) (hk : scope.kind = .function) (hcell : ∀ y ∈ scope.names, y.2 ≠ .cell) (hnames : ∀ y ∈ scope.names, y.2 = .local → scope.names.lookup y.1 = some .local)
    (hfree : ∀ y ∈ scope.names, y.2 = .free → (X.env.kindOf y.1 = some .cell ∨ X.env.kindOf y.1 = some .free)) (cap : Cap X scope N' js) (hi : PI X tg iter wi)
    (blk : ∀ B, PG (cxComp X scope N' B) tg (g B) ∧ PIfs (cxComp X scope N' B) ifs (tc B) ∧ PE (cxComp X scope N' B) elt (te B))
    (hs : ∀ x, foldedSetIterable iter X.env x = pure x := by intro _; rfl) : PE X (.ListComp elt [⟨tg, iter, ifs, 0⟩] scope pos) (tComp js wi g tc te) := by
  unfold PE; unfold PI at hi
  exact by
    intro pins s σ H Q I h
    obtain ⟨cl, hcl, c1, c2⟩ := closure_of (scope := scope) (env := X.env) fun x hx hxf => I.ok.has x.1 (hfree x hx hxf)
    rw [eval_ListComp]
    refine wpAny_comprehension_free (use := none) rfl hs hcl hk hnames (thn (hi pins s σ H _ I h) fun v s1 h1 => thn h1 fun itv s2 h2 => ?_)
    obtain ⟨it, fp, tn, J, H2, e, I2, T, st2, f2, hloop⟩ := h2
    subst e
    refine comp_block (RR := fun acc C => compPost (model X.prog X.w) X.A X.xe none (EP X pins σ Q) acc C) hc hk hcell cap blk c1 c2 I2 T st2 f2 hloop ?_
    intro l C H' s' m' I' q ns fC hL hcl' hfs hs0 hpin
    exact ⟨m', ns, fun h'' sb => ⟨.ref l, H', I'.turned (t' := s'.toks) (fun b o hb e => (sb.2 b hb).trans e) fC hL (.inr hs0) hcl' hpin, rfl, q⟩⟩
theorem ps_setComp {i : Nat} {y : Str} {py spos : Pos} (hN : X.N.Nodup) (hy : X.N[i]? = some y) (hyk : X.env.kindOf y = some .local) (hc : X.calm = true) (hk : scope.kind = .function) (hcell : ∀ y ∈ scope.names, y.2 ≠ .cell)
    (hnames : ∀ y ∈ scope.names, y.2 = .local → scope.names.lookup y.1 = some .local)
    (hfree : ∀ y ∈ scope.names, y.2 = .free → (X.env.kindOf y.1 = some .cell ∨ X.env.kindOf y.1 = some .free)) (cap : Cap X scope N' js) (hi : PI X tg iter wi)
    (blk : ∀ B, PG (cxComp X scope N' B) tg (g B) ∧ PIfs (cxComp X scope N' B) ifs (tc B) ∧ PE (cxComp X scope N' B) elt (te B))
    (hsw : swapsWith (.ListComp elt [⟨tg, iter, ifs, 0⟩] scope pos) (some (.Name y py)) spos.line X.env = pure true := by rfl)
    (hs : ∀ x, foldedSetIterable iter X.env x = pure x := by intro _; rfl) : PS X (.Assign [.Name y py] (.ListComp elt [⟨tg, iter, ifs, 0⟩] scope pos) spos) (tAsg (tComp js wi g tc te) (gName i)) := by
  unfold PS; unfold PI at hi
  exact by
    intro pins s σ H D I h
    obtain ⟨cl, hcl, c1, c2⟩ := closure_of (scope := scope) (env := X.env) fun x hx hxf => I.ok.has x.1 (hfree x hx hxf)
    rw [exec_Assign_Name_used _ _ _ _ hsw]
    refine wpAny_bind (wpAny_standAt (wpAny_bind ?_))
    show wpAny _ X.A (do let _ ← comprehension (.ListComp elt [⟨tg, iter, ifs, 0⟩] scope pos) scope X.env _ (newList []) false (eval iter X.env) (some (assign (.Name y py) X.env))) _ _ s
    refine wpAny_bind (wpAny_mono (wpAny_comprehension_free (use := some (assign (.Name y py) X.env)) (Q := fun _ s' => SP X pins D .next s') rfl hs hcl hk hnames
      (thn (hi pins s σ H _ I h) fun v s1 h1 => thn h1 fun itv s2 h2 => ?_)) (fun _ s' hq => wpAny_pure (wpAny_pure hq)) fun _ _ e => e)
    obtain ⟨it, fp, tn, J, H2, e, I2, T, st2, f2, hloop⟩ := h2
    subst e
    refine comp_block (RR := fun acc C => compPost (model X.prog X.w) X.A X.xe (some (assign (.Name y py) X.env)) (fun _ s' => SP X pins D .next s') acc C) hc hk hcell cap blk c1 c2 I2 T st2 f2 hloop ?_
    intro l C H' s' m' I' q ns fC hL hcl' hfs hs0 hpin
    show wpAny _ X.A (assign (.Name y py) X.env (.ref l)) _ _ _
    refine wpAny_assign_Name (store_ok2 (v := .ref l) I' hN hy (.inl hyk) rfl (fun s'' I'' sb => ?_) (.inr hyk))
    obtain ⟨a, sb, ha⟩ := sb
    have hCa : C ≠ a := by
      rcases ha with z | z
      · rw [z]; exact hL
      · exact fun z' => hcl' y a z z'.symm
    refine ⟨m', ns.sameBut sb hCa, fun h'' sb2 => ?_⟩
    exact ⟨σ.set i (some (.ref l)), H', I''.turned (t' := s''.toks) (fun b o hb e => (sb2.2 b hb).trans e) fC hL (.inr hs0) hcl' hpin, q⟩
end
end L2
namespace L2
open PySem PySem.Spec PyProof.Rows
theorem ObjOk.there {P : Program} {w : World} {H : Hp} {h : Heap} {a : Addr} {o : HO} (x : ObjOk P w H h a o) : ∃ ob, h.get? a = some ob := by
  cases o with
  | lst xs => obtain ⟨_, _, _, _, e⟩ := x; exact ⟨_, e⟩
  | tup xs => obtain ⟨_, _, _, ob, e, _⟩ := x; exact ⟨_, e⟩
  | dK kvs => obtain ⟨_, _, _, _, o, _, _, e, _⟩ := x; exact ⟨_, e⟩
  | dT kvs => obtain ⟨_, _, _, _, o, _, _, e, _⟩ := x; exact ⟨_, e⟩
  | set S n => obtain ⟨o, _, _, _, e, _⟩ := x; exact ⟨_, e⟩
  | ins C dx fs => obtain ⟨_, _, _, e, _⟩ := x; exact ⟨_, e⟩
  | own y => obtain ⟨_, e⟩ := x; exact ⟨_, e⟩
  | xd fs => obtain ⟨_, ⟨_, _, _, e, _⟩, _⟩ := x; exact ⟨_, e⟩
  | rng lo hi => obtain ⟨_, _, _, e⟩ := x; exact ⟨_, e⟩
  | frz ob u => obtain ⟨e, _⟩ := x; exact ⟨_, e⟩
  | tbl ps => exact ⟨_, (show h.get? a = some _ from x)⟩
  | met f y => exact ⟨_, (show h.get? a = some _ from x)⟩
  | ext φ => obtain ⟨_, ⟨_, e⟩, _⟩ := x; exact ⟨_, e⟩
theorem HOk.track {P : Program} {w : World} {H : Hp} {h h' : Heap} (x : HOk P w H h) (k : ∀ b u o, H b = some u → h.get? b = some o → h'.get? b = some o) : HOk P w H h' := fun a o e =>
  (x a o e).stay (fun b u hb q => by
    rcases hb with z | z
    · subst z; exact k _ _ _ e q
    · exact k _ _ _ z q) (fun _ q => q) fun _ _ q => q
theorem dict_mapF (o : Obj) (f : Array Value → Array Value) : (Obj.mapFields f o).dict = o.dict := by
  obtain ⟨c, d, dt, sl⟩ := o
  cases dt <;> rfl
def ExAt (h : Heap) (e : Addr) (C : Value) (dd : Option Addr) (t1 : Value) : Prop := ∃ oe vs, h.get? e = some oe ∧ oe.cls = C ∧ oe.dict = dd ∧ oe.data = .fields vs ∧ vs[1]? = some t1
def TrAt (h : Heap) (T : Addr) (fl : Value) : Prop := ∃ oT ts, h.get? T = some oT ∧ oT.data = .fields ts ∧ ts[3]? = some fl
structure Moved (fs : List Addr) (e : Addr) (T0 : Option Addr) (h h' : Heap) : Prop where
  keep : ∀ b o, b ≠ e → some b ≠ T0 → b ∉ fs → h.get? b = some o → h'.get? b = some o
  slot : ∀ b o, b ∈ fs → h.get? b = some o → ∃ sl, h'.get? b = some { o with slots := sl }
  there : ∀ b o, h.get? b = some o → ∃ o', h'.get? b = some o'
section
variable {M : Model} {A : Around} {E : Value → Shared → Prop} {s : Shared}
theorem up_self {h : Heap} {a : Addr} {o : Obj} {vs : Array Value} {f : Array Value → Array Value} (e : h.get? a = some o) (hd : o.data = .fields vs) : (h.update a (Obj.mapFields f)).get? a = some (Obj.mapFields f o) :=
  Heap.get?_update_self _ e (Obj.isFreed_of_fields (Obj.data_mapFields hd _))
theorem note_new {base : Heap} {env : Env} {outer : List Env} {L e : Addr} {C : Value} {dd : Option Addr} {t1 head : Value} {hadNext : Bool} {Q : Unit → Shared → Prop}
    (hfr : A.frames = some (env :: outer)) (hl : s.heap.FunFrames base (env :: outer)) (hf : env.frame = some L) (X : ExAt s.heap e C dd t1)
    (h : ∀ h' T, ExAt h' e C dd (.ref T) → TrAt h' T (rawInt L) → s.heap.objs.size ≤ T → T ≠ e → Moved (frs (env :: outer)) e none s.heap h' → Q () { s with heap := h' }) :
    wpAny M A (do let a ← frameOf env; let pl ← entryPlaceOf L hadNext; let b ← EntryCells.newEntry head a .none (rawInt L) .none pl; setField (.ref e) 1 b) Q E s := by
  obtain ⟨oe, vs, he, hC, hdd, hd, h1⟩ := X
  have ne : e ∉ frs (env :: outer) := fun hm => by
    obtain ⟨_, o, ho, hnf⟩ := hl.mem hm
    rw [he] at ho; cases ho
    exact hnf vs hd
  refine wpAny_bind (wpAny_frameOf_fun hfr hl hf fun g so => ?_)
  refine wpAny_bind (wpAny_entryPlaceOf fun pl hpl => ?_)
  unfold EntryCells.newEntry newFields
  refine wpAny_bind (wpAny_newObj_type ?_ (hpl.sizeOk5 _ _ _ _ _))
  have hg : g.get? e = some oe := (so.2.1 e ne).trans he
  have hsz := (Array.getElem?_eq_some_iff.mp h1).1
  refine wpAny_setField (Heap.get?_push_of_some _ hg) hd hsz ?_
  have nT : g.objs.size ≠ e := Nat.ne_of_gt (Heap.lt_size hg)
  refine h _ g.objs.size ⟨_, _, up_self (Heap.get?_push_of_some _ hg) hd, (Obj.cls_mapFields _ _).trans hC, (dict_mapF _ _).trans hdd, Obj.data_mapFields hd _, by simp [hsz]⟩
    ⟨_, _, (Heap.get?_update_other _ _ (Ne.symm nT)).trans (Heap.get?_push_size g rfl), rfl, ?_⟩ (Nat.le_of_eq so.1.symm) nT ⟨fun b o h1 _ h3 q => ?_, fun b o hb q => ?_, fun b o q => ?_⟩
  · rcases hpl with rfl | ⟨_, _, _, _, _, _, _, rfl⟩ <;> simp
  · rw [Heap.get?_update_other _ _ (Ne.symm h1)]
    exact Heap.get?_push_of_some _ ((so.2.1 b h3).trans q)
  · obtain ⟨sl, z⟩ := so.2.2 b o q
    refine ⟨sl, ?_⟩
    rw [Heap.get?_update_other _ _ (fun k => ne (by rw [k]; exact hb))]
    exact Heap.get?_push_of_some _ z
  · by_cases k : b = e
    · rw [k]; exact ⟨_, up_self (Heap.get?_push_of_some _ hg) hd⟩
    · obtain ⟨sl, z⟩ := so.2.2 b o q
      exact ⟨_, by rw [Heap.get?_update_other _ _ (Ne.symm k)]; exact Heap.get?_push_of_some _ z⟩
theorem note_fly {base : Heap} {env : Env} {outer : List Env} {L e : Addr} {C : Value} {dd : Option Addr} {T0 : Option Addr} {Q : Unit → Shared → Prop}
    (hfr : A.frames = some (env :: outer)) (hl : s.heap.FunFrames base (env :: outer)) (hf : env.frame = some L) (X : ExAt s.heap e C dd (T0.elim .none Value.ref)) (hT : ∀ T, T0 = some T → TrAt s.heap T .none ∧ T ≠ e)
    (h : ∀ h' T, ExAt h' e C dd (.ref T) → TrAt h' T (rawInt L) → s.heap.objs.size ≤ T → T ≠ e → Moved (frs (env :: outer)) e T0 s.heap h' → Q () { s with heap := h' }) :
    wpAny M A (noteFrame (.ref e) env) Q E s := by
  obtain ⟨oe, vs, he, hC, hdd, hd, h1⟩ := id X
  unfold noteFrame
  simp only [hf]
  refine wpAny_bind (wpAny_field he hd h1 ?_)
  cases T0 with
  | none =>
    rw [if_neg (by decide)]
    exact note_new hfr hl hf X h
  | some T =>
    obtain ⟨⟨oT, ts, hT, hdT, h3⟩, hne⟩ := hT T rfl
    show wpAny M A (if (Value.ref T != Value.none) = true then _ else _) Q E s
    rw [if_pos (by simp)]
    refine wpAny_bind (wpAny_field hT hdT h3 ?_)
    rw [if_neg (by simp [rawInt])]
    refine wpAny_bind (wpAny_setField hT hdT (Array.getElem?_eq_some_iff.mp h3).1 ?_)
    have oth : ∀ b, b ≠ T → (s.heap.update T (Obj.mapFields (·.setIfInBounds 3 Value.none))).get? b = s.heap.get? b := fun b hb => Heap.get?_update_other _ _ (Ne.symm hb)
    have nfr : ∀ b o, b ∈ frs (env :: outer) → s.heap.get? b = some o → b ≠ T := fun b o hb q z => by
      obtain ⟨_, o', ho', hnf⟩ := hl.mem hb
      rw [z, hT] at ho'; cases ho'
      exact hnf _ hdT
    have hl2 : (s.heap.update T (Obj.mapFields (·.setIfInBounds 3 Value.none))).FunFrames base (env :: outer) := hl.of_keeps fun b o hb hnf => ⟨o, (oth b fun z => by rw [z, hT] at hb; cases hb; exact hnf _ hdT).trans hb, rfl⟩
    refine note_new (s := { s with heap := s.heap.update T (Obj.mapFields (·.setIfInBounds 3 Value.none)) }) hfr hl2 hf ⟨oe, vs, (oth e (Ne.symm hne)).trans he, hC, hdd, hd, h1⟩ fun h' T2 x1 x2 x3 x4 mv => ?_
    have goneT : s.heap.objs.size ≤ T2 := Nat.le_trans (Nat.le_of_eq (Heap.size_after_update ..).symm) x3
    refine h h' T2 x1 x2 goneT x4 ⟨fun b o k1 k2 k3 q => mv.keep b o k1 (by simp) k3 ((oth b fun z => k2 (by rw [z])).trans q), fun b o hb q => mv.slot b o hb ((oth b (nfr b o hb q)).trans q), fun b o q => ?_⟩
    by_cases k : b = T
    · exact mv.there b _ (by rw [k]; exact up_self hT hdT)
    · exact mv.there b o ((oth b k).trans q)
theorem rest_fly {e T : Addr} {C : Value} {dd : Option Addr} {fl : Value} {Q : Unit → Shared → Prop} (X : ExAt s.heap e C dd (.ref T)) (hT : TrAt s.heap T fl) (hne : T ≠ e)
    (h : ∀ h', ExAt h' e C dd (.ref T) → TrAt h' T .none → (∀ b o, b ≠ T → s.heap.get? b = some o → h'.get? b = some o) → (∀ b o, s.heap.get? b = some o → ∃ o', h'.get? b = some o') → Q () { s with heap := h' }) :
    wpAny M A (setFlight (.ref e) none) Q E s := by
  obtain ⟨oe, vs, he, hC, hdd, hd, h1⟩ := X
  obtain ⟨oT, ts, hT, hdT, h3⟩ := hT
  have hsz := (Array.getElem?_eq_some_iff.mp h3).1
  unfold setFlight
  refine wpAny_bind (wpAny_field he hd h1 ?_)
  rw [if_pos (by simp)]
  have oth : ∀ b, b ≠ T → (s.heap.update T (Obj.mapFields (·.setIfInBounds 3 ((none : Option Addr).elim Value.none fun f => rawInt f)))).get? b = s.heap.get? b := fun b hb => Heap.get?_update_other _ _ (Ne.symm hb)
  refine wpAny_setField hT hdT hsz (h _ ⟨oe, vs, (oth e (Ne.symm hne)).trans he, hC, hdd, hd, h1⟩ ⟨_, _, up_self hT hdT, Obj.data_mapFields hdT _, by simp [hsz]⟩ (fun b o k q => (oth b k).trans q) fun b o q => ?_)
  by_cases k : b = T
  · rw [k]; exact ⟨_, up_self hT hdT⟩
  · exact ⟨o, (oth b k).trans q⟩
end
def CXx (P : Program) (w : World) : CXT := fun outer H s E u s' => ∃ (e : Addr) (C : Value) (dd : Option Addr) (T : Addr) (H' : Hp), u = .ref e ∧ s'.os = s.os ∧ AllBare s'.gens ∧ Un (frs outer) [] H H' s.heap s'.heap ∧ HOk P w H' s'.heap ∧
  ExAt s'.heap e C dd (.ref T) ∧ TrAt s'.heap T .none ∧ T ≠ e ∧ H' e = none ∧ H' T = none ∧ s.heap.get? e = none ∧ s.heap.get? T = none ∧ E C dd H'
def PassesS (CX : CXT) (X : Cx) (Ez : St → XK) : Prop := ∀ (pins : List (Addr × Obj)) (σ : St) (H : Hp) (s : Shared) (e : Value) (s' : Shared), Inv X pins σ H s → CX X.stack H s (Ez σ) e s' → X.xe e s'
theorem un_moved {l l' : List Env} {H H' : Hp} {h g h' : Heap} {e : Addr} {T0 : Option Addr} (u : Un (frs l') [] H H' h g) (mv : Moved (frs l) e T0 g h') (hsub : ∀ b ∈ frs l', b ∈ frs l) (hnew : ∀ b o, h.get? b = some o → b ∈ frs l → b ∈ frs l')
    (he : h.get? e = none) (hT : ∀ T, T0 = some T → h.get? T = none) : Un (frs l') [] H H' h h' := by
  have k1 : ∀ b o, h.get? b = some o → b ≠ e := fun b o q z => by rw [z, he] at q; cases q
  have k2 : ∀ b o, h.get? b = some o → some b ≠ T0 := fun b o q z => by rw [hT b z.symm] at q; cases q
  refine ⟨fun b o q n hb hx => ?_, fun b o q n hb hx => ?_, u.free, fun b o q hx => ?_, u.tups, u.frzs, u.tbls⟩
  · exact mv.keep b o (k1 b o q) (k2 b o q) (fun z => hb (hnew b o q z)) (u.keep b o q n hb hx)
  · obtain ⟨sl, q1⟩ := u.slot b o q n hb hx
    obtain ⟨sl2, q2⟩ := mv.slot b _ (hsub b hb) q1
    exact ⟨sl2, q2⟩
  · obtain ⟨o1, q1⟩ := u.there b o q hx
    exact mv.there b o1 q1
section
variable {P : Program} {w : World} {K : PySem.W.Frag} {mg : Str → Option Value} {base : Heap} {N : List Str} {qual : Str} {scope : Scope} {f : Addr} {cd : Value} {A : Around} {outer : List Env} {s₀ : Shared} {H₀ : Hp} {E : XK}
theorem frs_cons {env : Env} {outer : List Env} {L : Addr} (h : env.frame = some L) : frs (env :: outer) = L :: frs outer := by
  unfold frs
  rw [List.filterMap_cons, h]
theorem leave_fly {M : Model} {A : Around} {E : Value → Shared → Prop} {s : Shared} {base : Heap} {env : Env} {outer : List Env} {L e : Addr} {C : Value} {dd : Option Addr} {T0 : Option Addr} {Q : Unit → Shared → Prop}
    (hfr : A.frames = some (env :: outer)) (hl : s.heap.FunFrames base (env :: outer)) (hf : env.frame = some L) (X : ExAt s.heap e C dd (T0.elim .none Value.ref)) (hT : ∀ T, T0 = some T → TrAt s.heap T .none ∧ T ≠ e)
    (h : ∀ h' T, ExAt h' e C dd (.ref T) → TrAt h' T .none → s.heap.objs.size ≤ T → T ≠ e → Moved (frs (env :: outer)) e T0 s.heap h' → Q () { s with heap := h' }) :
    wpAny M A (noteFrame (.ref e) env) (fun _ s2 => wpAny M A (setFlight (.ref e) none) Q E s2) E s := by
  refine note_fly hfr hl hf X hT fun h1 T x1 x2 x3 x4 mv => ?_
  refine rest_fly (s := { s with heap := h1 }) x1 x2 x4 fun h2 y1 y2 k1 k2 => h h2 T y1 y2 x3 x4 ?_
  have nT : ∀ b o, s.heap.get? b = some o → b ≠ T := fun b o q z => absurd (Heap.lt_size q) (by rw [z]; exact Nat.not_lt.mpr x3)
  refine ⟨fun b o z1 z2 z3 q => k1 b o (nT b o q) (mv.keep b o z1 z2 z3 q), fun b o hb q => ?_, fun b o q => ?_⟩
  · obtain ⟨sl, q1⟩ := mv.slot b o hb q
    exact ⟨sl, k1 b _ (nT b o q) q1⟩
  · obtain ⟨o1, q1⟩ := mv.there b o q
    exact k2 b o1 q1
theorem funFrames_un {base h h' : Heap} : ∀ {l : List Env}, h.FunFrames base l → (∀ b o, b ∈ frs l → h.get? b = some o → ∃ sl, h'.get? b = some { o with slots := sl }) → h'.FunFrames base l
  | [], _, _ => trivial
  | env :: r, hl, k => by
    obtain ⟨hk, ⟨L, o, hf, hn, ho, hd⟩, hr⟩ := hl
    have e := frs_cons (outer := r) hf
    obtain ⟨sl, z⟩ := k L o (by rw [e]; exact List.mem_cons_self) ho
    exact ⟨hk, ⟨L, _, hf, hn, z, hd⟩, funFrames_un hr fun b o' hb q => k b o' (by rw [e]; exact List.mem_cons_of_mem _ hb) q⟩
theorem un_enter {fs : List Addr} {L : Addr} {H H1 H2 : Hp} {h h1 h2 : Heap} (a : Un fs [] H H1 h h1) (b : Un (L :: fs) [] H1 H2 h1 h2) (hL : h.get? L = none) : Un fs [] H H2 h h2 where
  keep := fun c o q n hc hx => b.keep c o (a.keep c o q n hc hx) (a.free c o q n hx) (fun z => (List.mem_cons.mp z).elim (fun y => by rw [y, hL] at q; cases q) hc) (by simp)
  slot := fun c o q n hc hx => by
    obtain ⟨sl, q1⟩ := a.slot c o q n hc hx
    obtain ⟨sl2, q2⟩ := b.slot c _ q1 (a.free c o q n hx) (List.mem_cons_of_mem _ hc) (by simp)
    exact ⟨sl2, q2⟩
  free := fun c o q n hx => by
    obtain ⟨o1, q1⟩ := a.there c o q hx
    exact b.free c o1 q1 (a.free c o q n hx) (by simp)
  there := fun c o q hx => by
    obtain ⟨o1, q1⟩ := a.there c o q hx
    exact b.there c o1 q1 (by simp)
  tups := fun c xs q => b.tups c xs (a.tups c xs q)
  frzs := fun c o xs q => b.frzs c o xs (a.frzs c o xs q)
  tbls := fun c ps q => by
    obtain ⟨m1, e1⟩ := a.tbls c ps q
    obtain ⟨m2, e2⟩ := b.tbls c _ e1
    exact ⟨m1 ++ m2, by rw [e2, Array.append_assoc]⟩
theorem pass_def : PassesS (CXx P w) (cxOf (CXx P w) P w K mg base N qual scope f cd A outer s₀ H₀ E) (fun _ => E) := by
  intro pins σ H s u s' I h
  obtain ⟨e, C, dd, T, H', rfl, os, bare, un, hok, x1, x2, x3, f1, f2, n1, n2, hE⟩ := h
  have fe : frs (envOfC qual scope s₀.heap.objs.size f cd :: outer) = s₀.heap.objs.size :: frs outer := frs_cons rfl
  have un' : Un (s₀.heap.objs.size :: frs outer) [] H H' s.heap s'.heap := by rw [← fe]; exact un
  have ib : Un (frs outer) [] H₀ H s₀.heap s.heap := I.base
  have nL : s₀.heap.get? s₀.heap.objs.size = none := Heap.get?_none_of_le (Nat.le_refl _)
  have um := un_enter ib un' nL
  have hfun : s'.heap.FunFrames base (envOfC qual scope s₀.heap.objs.size f cd :: outer) := funFrames_un I.stack fun b o hb q => un.slot b o q (I.stkFree b hb) hb (by simp)
  have ntr : ∀ b u, H' b = some u → b ∉ frs (envOfC qual scope s₀.heap.objs.size f cd :: outer) := fun b u q hb => by
    obtain ⟨_, o, ho, _⟩ := I.stack.mem hb
    have := un.free b o ho (I.stkFree b hb) (by simp)
    rw [q] at this; cases this
  show wpAny _ _ (leaving _ (.ref e)) _ _ s'
  unfold leaving
  refine wpAny_bind (leave_fly (T0 := some T) (L := s₀.heap.objs.size) I.ok.frames hfun rfl x1 (fun T' z => by cases z; exact ⟨x2, x3⟩) fun h' T2 y1 y2 y3 y4 mv => ?_)
  have none_of : ∀ b, s.heap.get? b = none → s₀.heap.get? b = none := fun b hb => by
    cases q : s₀.heap.get? b with
    | none => rfl
    | some o => obtain ⟨o1, q1⟩ := ib.there b o q (by simp); rw [hb] at q1; cases q1
  refine ⟨e, C, dd, T2, H', rfl, os.trans I.os, bare, un_moved (l := envOfC qual scope s₀.heap.objs.size f cd :: outer) um mv (fun b hb => by rw [fe]; exact List.mem_cons_of_mem _ hb) (fun b o q hb => ?_) (none_of e n1) (fun T' z => by cases z; exact none_of T n2),
    hok.track fun b u o q1 q2 => mv.keep b o (fun z => by rw [z, f1] at q1; cases q1) (fun z => by cases z; rw [f2] at q1; cases q1) (ntr b u q1) q2, y1, y2, y4, f1, ?_, none_of e n1, ?_, hE⟩
  · rw [fe] at hb
    rcases List.mem_cons.mp hb with z | z
    · rw [z, nL] at q; cases q
    · exact z
  · cases q : H' T2 with
    | none => rfl
    | some u => obtain ⟨ob, hob⟩ := (hok T2 u q).there; exact absurd (Heap.lt_size hob) (Nat.not_lt.mpr y3)
  · cases q : s₀.heap.get? T2 with
    | none => rfl
    | some o => obtain ⟨o1, q1⟩ := um.there T2 o q (by simp); exact absurd (Heap.lt_size q1) (Nat.not_lt.mpr y3)
def Rz (X : Cx) (E : XK) : Prop := ∀ (pins : List (Addr × Obj)) (σ : St) (H : Hp) (s : Shared) (h' : Heap) (e : Addr) (C : Value) (vs : List Value), Inv X pins σ H s → Heap.MadeExcOf s.heap h' e C vs → E C none H → X.xe (.ref e) { s with heap := h' }
theorem rz_def : Rz (cxOf (CXx P w) P w K mg base N qual scope f cd A outer s₀ H₀ E) E := by
  intro pins σ H s h1 e C vs I mx hE
  obtain ⟨t, he, htn, ht⟩ := mx.there
  have fe : frs (envOfC qual scope s₀.heap.objs.size f cd :: outer) = s₀.heap.objs.size :: frs outer := frs_cons rfl
  have ib : Un (frs outer) [] H₀ H s₀.heap s.heap := I.base
  have nL : s₀.heap.get? s₀.heap.objs.size = none := Heap.get?_none_of_le (Nat.le_refl _)
  have um : Un (frs outer) [] H₀ H s₀.heap h1 := ib.trans (Un.kept mx.keeps)
  have hfun : h1.FunFrames base (envOfC qual scope s₀.heap.objs.size f cd :: outer) := funFrames_un I.stack fun b o hb q => ⟨o.slots, mx.keeps b o q⟩
  have ntr : ∀ b u, H b = some u → b ∉ frs (envOfC qual scope s₀.heap.objs.size f cd :: outer) := fun b u q hb => by
    have := I.stkFree b hb
    rw [q] at this; cases this
  have hok1 : HOk P w H h1 := I.hok.kept mx.keeps
  have fE : H e = none := by
    cases q : H e with
    | none => rfl
    | some u => obtain ⟨ob, hob⟩ := (I.hok e u q).there; rw [mx.new] at hob; cases hob
  have none_of : ∀ b, s.heap.get? b = none → s₀.heap.get? b = none := fun b hb => by
    cases q : s₀.heap.get? b with
    | none => rfl
    | some o => obtain ⟨o1, q1⟩ := ib.there b o q (by simp); rw [hb] at q1; cases q1
  show wpAny _ _ (leaving _ (.ref e)) _ _ { s with heap := h1 }
  unfold leaving
  refine wpAny_bind (leave_fly (s := { s with heap := h1 }) (T0 := none) (L := s₀.heap.objs.size) (C := C) (dd := none) I.ok.frames hfun rfl ⟨_, _, he, rfl, rfl, rfl, rfl⟩ (fun T' z => by cases z) fun h' T2 y1 y2 y3 y4 mv => ?_)
  refine ⟨e, C, none, T2, H, rfl, I.os, I.bare, un_moved (l := envOfC qual scope s₀.heap.objs.size f cd :: outer) um mv (fun b hb => by rw [fe]; exact List.mem_cons_of_mem _ hb) (fun b o q hb => ?_) (none_of e mx.new) (fun T' z => by cases z),
    hok1.track fun b u o q1 q2 => mv.keep b o (fun z => by rw [z, fE] at q1; cases q1) (by simp) (ntr b u q1) q2, y1, y2, y4, fE, ?_, none_of e mx.new, ?_, hE⟩
  · rw [fe] at hb
    rcases List.mem_cons.mp hb with z | z
    · rw [z, nL] at q; cases q
    · exact z
  · cases q : H T2 with
    | none => rfl
    | some u => obtain ⟨ob, hob⟩ := (hok1 T2 u q).there; exact absurd (Heap.lt_size hob) (Nat.not_lt.mpr y3)
  · cases q : s₀.heap.get? T2 with
    | none => rfl
    | some o => obtain ⟨o1, q1⟩ := um.there T2 o q (by simp); exact absurd (Heap.lt_size q1) (Nat.not_lt.mpr y3)
end
def tCallS (sp : Sp) (dvs : List V) (Ez : St → XK) (t : TA) : TE := fun σ H Q => t σ H fun vs H1 => sp (vs ++ dvs) H1 Q (Ez σ)
section
variable {X : Cx} {CX : CXT} {k : Nat} {f C : Addr} {fd : FuncData} {ps : List Str} {sp : Sp} {dvs : List V} {ds : List Value} {Ez : St → XK} {x m : Str} {p pos apos : Pos} {e o : Expr} {es : List Expr} {ta : TE} {t : TA}
theorem run_fnS {pins : List (Addr × Obj)} {σ : St} {H : Hp} {s : Shared} {Q : VK} {us : List Value} {vs : List V} (F : FnOk X.prog X.w X.K X.mg X.base CX k f fd ps sp) (hr : Room k X.A) (hb : Binds X.K fd ps ds) (hd : Vals dvs ds) (hx : PassesS CX X Ez)
    (I : Inv X pins σ H s) (r : Vals vs us) (h : sp (vs ++ dvs) H Q (Ez σ)) : wpAny (model X.prog X.w) X.A (call (.ref f) us) (EP X pins σ Q) X.xe s := by
  have r2 : Vals (vs ++ dvs) (us ++ ds) := r.append hd
  have hl : (us ++ ds).length = ps.length := by rw [← r2.length]; exact F.len _ _ _ _ h
  refine wpAny_call (codeAny_mono (F.run X.A X.stack s H ⟨us, []⟩ (us ++ ds) (vs ++ dvs) Q (Ez σ) hr I.env0 (hb s us I.kIn hl) r2 h) fun r s' hq => ?_)
  cases r with
  | error e => exact hx pins σ H s e s' I hq
  | ok fl =>
    cases fl with
    | ret u => exact I.after hq
    | next => exact False.elim hq
    | brk => exact False.elim hq
    | cont => exact False.elim hq
theorem pe_callS (F : FnOk X.prog X.w X.K X.mg X.base CX k f fd ps sp) (hr : Room k X.A) (hg : Gl X x) (hm : X.mg x = some (.ref f)) (hk : PySem.W.keepIn X.K (.ref f) = true) (hb : Binds X.K fd ps ds) (hd : Vals dvs ds) (hx : PassesS CX X Ez)
    (ha : PA X (e :: es) t) (hdb : (x == ("__debug__" : Str)) = false := by decide) (he : starEach (e :: es) X.env = (false, eval e X.env) :: starEach es X.env := by rfl) (hpl : (backTo pos (starEach es X.env)).any (·.1) = false := by rfl) :
    PE X (.Call (.Name x p) (e :: es) [] pos) (tCallS sp dvs Ez t) := by
  unfold PE at *; unfold PA at *
  exact by
    intro pins s σ H Q I h
    refine wpAny_Call_Name_kw (ld_glob I hg hm ?_ hdb)
    refine PySem.W.callWith_K (h₀ := X.base) I.ok.mod.kin hk (thn (ha pos pins s σ H _ I h) fun us s1 ⟨vs, H1, I1, r, q⟩ => ⟨I1.kIn, ?_⟩) he hpl
    exact run_fnS F hr hb hd hx I1 r q
end
end L2
namespace L2
open PySem PySem.Spec PyProof.Rows
def vmro : List Value := [.type "ValueError", .type "Exception", .type "BaseException", .type "object"]
def NsK (K : PySem.W.Frag) (N : Addr) (es : Array DictEntry) : Prop := ∃ c d ep sl, K.lookup N = some ⟨c, d, .dict es ep, sl⟩ ∧ StrKeys es
theorem NsK.ns {K : PySem.W.Frag} {N : Addr} {es : Array DictEntry} {h : Heap} (x : NsK K N es) (X : K.In h) : h.Ns N (nsFind es) := by
  obtain ⟨c, d, ep, sl, lk, sk⟩ := x
  exact ⟨_, es, ep, X _ _ lk, rfl, sk, fun _ => rfl⟩
inductive TailK (K : PySem.W.Frag) : List Value → Prop
  | base : TailK K vmro
  | own {A : Addr} {c0 : Value} {dd : Option Addr} {cd : ClassData} {sl : Array (Option Value)} {tl : List Value} {es : Array DictEntry} :
      K.lookup A = some { cls := c0, dict := dd, data := .cls cd, slots := sl } → NsK K cd.ns es → nsFind es "__init__" = none → TailK K tl → TailK K (.ref A :: tl)
theorem TailK.own' {K : PySem.W.Frag} {h : Heap} {bm : List Value} (t : TailK K bm) (X : K.In h) : OwnTail h vmro bm := by
  induction t with
  | base => exact .base
  | own l n i _ ih => exact .own (X _ _ l) (n.ns X) i ih
structure XCls (K : PySem.W.Frag) (C : Addr) : Prop where
  ex : ∃ nm q N bs bm hdct sn sub ab col dd k0 k1 k2 k3 k5 es, K.lookup C = some (excClassObj nm q C N bs bm hdct sn sub ab col dd k0 k1 k2 k3 k5 "ValueError.__new__") ∧ NsK K N es ∧ nsFind es "__init__" = none ∧ TailK K bm
def tRaise (t : TA) (C : Value) (E : XK) : TS := fun _ σ H => t σ H fun vs H1 => vs.length ≤ sizeLine ∧ E C none H1
theorem ps_raise {X : Cx} {C : Addr} {x : Str} {np cpos pos : Pos} {e₀ : Expr} {rest : List Expr} {t : TA} {E : XK} (xc : XCls X.K C) (hc : X.calm = true) (hg : Gl X x) (hm : X.mg x = some (.ref C)) (hz : Rz X E) (ha : PA X (e₀ :: rest) t)
    (hdb : (x == ("__debug__" : Str)) = false := by decide) (he : starEach (e₀ :: rest) X.env = (false, eval e₀ X.env) :: starEach rest X.env := by rfl) (hpl : (backTo cpos (starEach rest X.env)).any (·.1) = false := by rfl) :
    PS X (.Raise (some (.Call (.Name x np) (e₀ :: rest) [] cpos)) none pos) (tRaise t (.ref C) E) := by
  unfold PA at *; unfold PS at *
  exact by
    intro pins s σ H D I h
    obtain ⟨nm, q, N, bs, bm, hdct, sn, sub, ab, col, dd, k0, k1, k2, k3, k5, es, lk, nk, ni, tl⟩ := xc.ex
    refine wpAny_Raise_call_subT (C := C) (nm := nm) (q := q) (N := N) (bs := bs) (bm := bm) (hdct := hdct) (sn := sn) (sub := sub) (ab := ab) (col := col) (dd := dd) (k0 := k0) (k1 := k1) (k2 := k2) (k3 := k3) (k5 := k5)
      F.excBase_ValueError (mN := nsFind es) ((tl.own' I.kIn).hasType F.excBase_ValueError.hasBase) (I.ok.hd hc) ?_ ni (ld_glob I hg hm ⟨rfl, ?_⟩ hdb)
    · rw [he]
      show (false || (backTo cpos (starEach rest X.env)).any (·.1)) = false
      rw [hpl]; rfl
    · have hA := ha cpos pins s σ H _ I h
      rw [he] at hA ⊢
      refine Calls.evalArgs_plain (wpAny_mono hA (fun us s2 ⟨vs, H1, I1, r, z, hE⟩ => ?_) fun _ _ y => y)
      exact ⟨rfl, by rw [← r.length]; exact z, I1.kIn _ _ lk, nk.ns I1.kIn, tl.own' I1.kIn, fun h' e mx => hz pins σ H1 s2 h' e (.ref C) us I1 mx hE⟩
theorem Fun.okx {P : Program} {w : World} {K : PySem.W.Frag} {mg : Str → Option Value} {base : Heap} {x qual : Str} {st : Stmt} {f : Addr} {fd : FuncData} {N ps : List Str} {k : Nat} {sp : Sp} (F : Fun K x qual st f fd) (S : FnScope N ps (defScope st)) (len : ∀ vs H Q E, sp vs H Q E → vs.length = ps.length)
    (hbody : ∀ (cdv : Value) (A : Around) (outer : List Env) (s : Shared) (H : Hp) (vs : List V) (Q : VK) (E : XK), Room k (A.deeper (envOfC qual (defScope st) s.heap.objs.size f cdv)) → sp vs H Q E →
      ∃ t, PSs (cxOf (CXx P w) P w K mg base N qual (defScope st) f cdv A outer s H E) (defBody st) t ∧ t { nx := fun _ H' => Q .non H', rt := Q } (start N vs) H) : FnOk P w K mg base (CXx P w) (k + 1) f fd ps sp := by
  obtain ⟨oc, od, kV, doc, pm, an, cdv, ct, osl, rfl, lk, hcd⟩ := F.ex
  exact fn_of lk hcd S len fun A outer s H vs Q E hr hsp => hbody cdv A outer s H vs Q E hr hsp
section
variable {X : Cx} {pins pins' : List (Addr × Obj)} {σ : St} {H : Hp} {s : Shared} {W : Value → Shared → Prop}
def Cx.tr (X : Cx) (pins : List (Addr × Obj)) (W : Value → Shared → Prop) : Cx := { X with xe := W, pn := X.pn ++ pins }
theorem Cx.Ok.tr (ok : X.Ok) : (X.tr pins W).Ok := ⟨ok.mod, ok.kind, ok.glob, ok.blt, ok.above, ok.inj, ok.has, ok.cab, ok.hd, ok.frames, ok.stk, ok.exf, ok.bs, ok.bsz, ok.noex, ok.exfs, ok.funs, ok.frf⟩
theorem Cx.Ok.untr (ok : (X.tr pins W).Ok) : X.Ok := ⟨ok.mod, ok.kind, ok.glob, ok.blt, ok.above, ok.inj, ok.has, ok.cab, ok.hd, ok.frames, ok.stk, ok.exf, ok.bs, ok.bsz, ok.noex, ok.exfs, ok.funs, ok.frf⟩
theorem Inv.tr (I : Inv X pins σ H s) : Inv (X.tr pins W) [] σ H s := ⟨I.ok.tr, I.os, I.bare, I.base, I.loc, I.cell, I.free, I.freeC, fun p hp => I.pin p (by simpa [Cx.tr] using hp), I.hok, I.len⟩
theorem Inv.untr (I : Inv (X.tr pins W) pins' σ H s) : Inv X pins σ H s := ⟨I.ok.untr, I.os, I.bare, I.base, I.loc, I.cell, I.free, I.freeC, fun p hp => I.pin p (List.mem_append_left _ hp), I.hok, I.len⟩
theorem SP.untr {D : Ends} {f : Flow} (h : SP (X.tr pins W) pins' D f s) : SP X pins D f s := by
  cases f with
  | next => obtain ⟨a, b, I, q⟩ := h; exact ⟨a, b, I.untr, q⟩
  | brk => obtain ⟨a, b, I, q⟩ := h; exact ⟨a, b, I.untr, q⟩
  | cont => obtain ⟨a, b, I, q⟩ := h; exact ⟨a, b, I.untr, q⟩
  | ret u => obtain ⟨v, a, b, I, r, q⟩ := h; exact ⟨v, a, b, I.untr, r, q⟩
def Cx.sui (X : Cx) (e : Addr) : Cx := { X with A := X.A.mark (some (.ref e)), calm := false, xe := fun _ _ => False }
theorem Cx.Ok.sui (ok : X.Ok) (e : Addr) : (X.sui e).Ok := ⟨ok.mod, ok.kind, ok.glob, ok.blt, ok.above, ok.inj, ok.has, ok.cab, fun z => Bool.noConfusion z, ok.frames, ok.stk, ok.exf, ok.bs, ok.bsz, ok.noex, ok.exfs, ok.funs, ok.frf⟩
theorem Inv.sui (I : Inv X pins σ H s) (e : Addr) : Inv (X.sui e) pins σ H s := ⟨I.ok.sui e, I.os, I.bare, I.base, I.loc, I.cell, I.free, I.freeC, I.pin, I.hok, I.len⟩
theorem Inv.unsui {e : Addr} (ok : X.Ok) (I : Inv (X.sui e) pins σ H s) : Inv X pins σ H s := ⟨ok, I.os, I.bare, I.base, I.loc, I.cell, I.free, I.freeC, I.pin, I.hok, I.len⟩
theorem Inv.adopt {e : Addr} {o : HO} (I : Inv X pins σ H s) (hn : H e = none) (h0 : X.s₀.heap.get? e = none) (hL : e ≠ X.env.locals) (hc : ∀ x c, X.env.cells.lookup x = some c → c ≠ e) (hp : ∀ p ∈ X.pn ++ pins, p.1 ≠ e)
    (new : ObjOk X.prog X.w (upd H e o) s.heap e o) : Inv X pins σ (upd H e o) s := by
  have ne : ∀ b u, H b = some u → b ≠ e := fun b u q z => by rw [z, hn] at q; cases q
  refine ⟨I.ok, I.os, I.bare, ⟨I.base.keep, I.base.slot, fun b ob q n hx => ?_, I.base.there, fun b xs q => ?_, fun b ob u q => ?_, fun b ps q => ?_⟩, I.loc, I.cell, ?_, fun x c q => ?_, fun p hq => ?_, fun b u q => ?_, I.len⟩
  · rw [upd_ne (fun z => by rw [z, h0] at q; cases q)]
    exact I.base.free b ob q n hx
  · have q1 := I.base.tups b xs q
    rw [upd_ne (ne b _ q1)]; exact q1
  · have q1 := I.base.frzs b ob u q
    rw [upd_ne (ne b _ q1)]; exact q1
  · obtain ⟨m, q1⟩ := I.base.tbls b ps q
    exact ⟨m, by rw [upd_ne (ne b _ q1)]; exact q1⟩
  · rw [upd_ne (Ne.symm hL)]; exact I.free
  · rw [upd_ne (hc x c q)]; exact I.freeC x c q
  · obtain ⟨a1, a2, a3, a4, a5⟩ := I.pin p hq
    exact ⟨a1, by rw [upd_ne (hp p hq)]; exact a2, a3, a4, a5⟩
  · by_cases hb : b = e
    · subst hb; rw [upd_same] at q; cases q; exact new
    · rw [upd_ne hb] at q
      exact (I.hok b u q).stay (fun _ _ _ z => z) (fun c z => by rw [upd_ne (ne c _ z)]; exact z) fun c xs z => by rw [upd_ne (ne c _ z)]; exact z
end
def exO (C : Value) (dd : Option Addr) (e : Addr) : HO := .ext fun h => ∃ oe vs, h.get? e = some oe ∧ oe.cls = C ∧ oe.dict = dd ∧ oe.data = .fields vs
theorem exO_ok {P : Program} {w : World} {H : Hp} {h : Heap} {e : Addr} {C t1 : Value} {dd : Option Addr} (x : ExAt h e C dd t1) : ObjOk P w H h e (exO C dd e) := by
  obtain ⟨oe, vs, he, hC, hdd, hd, _⟩ := x
  exact ⟨⟨oe, vs, he, hC, hdd, hd⟩, ⟨oe, he⟩, fun h1 h2 ⟨o, v, q, r⟩ k => ⟨o, v, k o q, r⟩⟩
section
variable {X : Cx}
end
end L2
namespace L2
open PySem PySem.Spec PyProof.Rows PySem.W
section
variable {prog : Program} {w : World} {A : Around} {E : Value → Shared → Prop} {s : Shared} {K : Frag} {e C : Addr} {oe : Obj}
theorem findX {a g : Value} {name : Str} (hc : (clsIn K C).isSome = true) (ha : findIn K (.ref C) name = some (some a)) (hg : specialIn K a "__get__" = some (some g)) (ht : takesIn K a = some true) : findObj K C none name = some (.bind g a) := by
  obtain ⟨cd, hc⟩ := Option.isSome_iff_exists.mp hc
  unfold findObj
  rw [hc, Option.bind_some, ha, Option.bind_some]
  simp [hg, ht]
structure XAsk (K : Frag) (C : Addr) : Prop where
  cs : (clsIn K C).isSome = true
  ga : findIn K (.ref C) "__getattribute__" = some (some (.builtin "BaseException.__getattribute__"))
  gt : findIn K (.ref C) "__getattr__" = some none
  ca : findIn K (.ref C) "__class__" = some (some (.builtin "object.__class__"))
  gg : specialIn K (.builtin "object.__class__") "__get__" = some (some (.builtin "getset_descriptor.__get__"))
  tk : takesIn K (.builtin "object.__class__") = some true
  mo : mroIn K C (.type "object") = some true
  sb : subIn K (.ref C) (.type "BaseException") = some true
theorem xcheck {nameV : Value} {Q : Unit → Shared → Prop} (U : XAsk K C) (X : K.In s.heap) (I : InstAt s.heap e oe C none) (hq : Q () s) :
    wpAny (model prog w) A (checkBuiltinCall "BaseException.__getattribute__" ⟨[.ref e, nameV], []⟩) Q E s := by
  have hk : builtinKind "BaseException.__getattribute__" = some .slot := by decide +kernel
  have hsplit : splitId "BaseException.__getattribute__" = some ("BaseException", "__getattribute__") := by decide +kernel
  have L0 := I.type (M := model prog w)
  have L1 := looks_subIn (M := model prog w) X U.sb
  have LI : Looks (model prog w) s.heap (isInstance (.ref e) (.type "BaseException")) true := L0.andThen L1
  have ha := F.args_bexc_ga (.ref e) nameV
  simp only [checkBuiltinCall, hk, hsplit]
  refine wpAny_bind (LI.at ?_)
  rw [if_neg (by decide)]
  exact wpAny_of_eq ha hq
theorem xentry {tk : Tok} {Q : Fin → Shared → Prop} (U : XAsk K C) (X : K.In s.heap) (I : InstAt s.heap e oe C none) (hq : Q (.done (.ret (.ref C))) s) :
    wpAny (model prog w) A (Builtin.«object.__getattribute__» ⟨[.ref e, .str "__class__" tk], []⟩) Q E s := by
  obtain ⟨hh, g, d, t, os⟩ := s
  have L0 := I.type (M := model prog w)
  have L3 := looks_find (M := model prog w) X I (findX U.cs U.ca U.gg U.tk)
  unfold Builtin.«object.__getattribute__»
  refine wpAny_bind (wpAny_of_eq (show slotArgs "__getattribute__" 1 ⟨[.ref e, .str "__class__" tk], []⟩ = pure (.ref e, [.str "__class__" tk]) from rfl) ?_)
  refine wpAny_bind (wpAny_of_eq (show Builtin.ObjectAttr.attrName (.str "__class__" tk) = pure ("__class__" : Str) from rfl) ?_)
  refine wpAny_bind (L0.at (wpAny_bind (L3.at ?_)))
  show wpAny _ _ (Builtin.ObjectAttr.bindTo (.builtin "getset_descriptor.__get__") (.builtin "object.__class__") (.ref e) (.ref C)) _ _ _
  show wpAny _ _ (holding [.builtin "object.__class__"] (call (.builtin "getset_descriptor.__get__") [.builtin "object.__class__", .ref e, .ref C]) >>= ret) _ _ _
  exact wpAny_bind (wpAny_holding (wpAny_call (class_get X I U.mo (wpAny_pure hq))))
theorem xclass {Q : Option Value → Shared → Prop} (U : XAsk K C) (X : K.In s.heap) (I : InstAt s.heap e oe C none) (h : Q (some (.ref C)) { s with toks := s.toks + 1 }) : wpAny (model prog w) A (getAttr? (.ref e) "__class__") Q E s := by
  obtain ⟨hh, g, d, t, os⟩ := s
  have L0 := I.type (M := model prog w)
  have L1 := looks_findIn (M := model prog w) X U.ga
  have L2 := looks_findIn (M := model prog w) X U.gt
  have L3 := looks_find (M := model prog w) X I (findX U.cs U.ca U.gg U.tk)
  unfold getAttr? getAttrBy? getAttrBy
  refine wpAny_bind (wpAny_mkText (wpAny_bind (wpAny_attempt (wpAny_holding (wpAny_bind (L0.at (wpAny_bind (L1.at ?_))))))))
  show wpAny _ _ (getAttrByItsOwn (.ref e) _ (.ref C) (.builtin "BaseException.__getattribute__") false false) _ _ _
  unfold getAttrByItsOwn
  refine wpAny_bind ?_
  show wpAny _ _ (typeLookup (.ref C) "__getattr__") _ _ _
  refine L2.at ?_
  refine wpAny_bind (wpAny_attempt (wpAny_holding ?_))
  show wpAny _ _ (boundAndCalled (.builtin "BaseException.__getattribute__") (.ref e) _) _ _ _
  unfold boundAndCalled
  refine wpAny_bind (wpAny_of_eq (F.attr_ValueError.ga.bind (.ref e)) ?_)
  refine wpAny_call (codeAny_call_builtin F.attr_ValueError.ga.plain F.entry_bexc_ga (xcheck U X I (xentry U X I ?_)))
  exact wpAny_pure (wpAny_pure h)
theorem kitx_exc (U : XAsk K C) : KitX K (.ref e) (.ref C) (fun h => ∃ oe, InstAt h e oe C none) where
  ty := fun M h _ ⟨_, I⟩ => I.type
  it := fun _ _ X _ => by
    obtain ⟨cd, hc⟩ := Option.isSome_iff_exists.mp U.cs
    unfold clsIn at hc
    split at hc
    · rename_i c' d' cd' sl' ho
      intro A' Q' E' s' k q
      unfold isType loadHead
      exact wpAny_bind (wpAny_loadPart (k _ _ (X _ _ ho)) (wpAny_pure q))
    · cases hc
  ne := fun h tp dd its n sl X htp => by
    obtain ⟨cd, hc⟩ := Option.isSome_iff_exists.mp U.cs
    refine Bool.eq_false_iff.mpr fun q => ?_
    have z : C = tp := Value.ref.inj (beq_iff_eq.mp q)
    subst z
    unfold clsIn at hc
    split at hc
    · rename_i c' d' cd' sl' ho
      have z := (X _ _ ho).symm.trans htp
      cases z
    · cases hc
  ca := fun X ⟨_, I⟩ k => xclass U X I k
end
theorem exO_inst {P : Program} {w : World} {H : Hp} {h : Heap} {e C : Addr} (ok : HOk P w H h) (q : H e = some (exO (.ref C) none e)) : ∃ oe, InstAt h e oe C none := by
  obtain ⟨⟨oe, vs, he, hC, hdd, hd⟩, _⟩ := ok e _ q
  refine ⟨oe, he, hC, ?_, ?_⟩
  · obtain ⟨a, b, c, d⟩ := oe
    have hd' : c = .fields vs := hd
    subst hd'
    rfl
  · rw [hdd]
    trivial
section
variable {X : Cx}
def rIsiX (K : Frag) : List V → Hp → VK → Prop := fun xs H Q => ∃ e c cv C b, xs = [.ref e, c] ∧ ClsV c cv ∧ H e = some (exO (.ref C) none e) ∧ XAsk K C ∧ kitOne K (.ref C) cv = some b ∧ Q (.bl b) H
theorem call_isiX : CallR X (.builtin "isinstance") (rIsiX X.K) := by
  unfold CallR at *
  exact by
    intro pins s σ H xs us Q I rv h
    obtain ⟨e, c, cv, C, b, rfl, hc, he, U, k, q⟩ := h
    obtain ⟨u, cu, rfl, ru, rc⟩ := rv.two
    have ec : cu = cv := by cases hc <;> exact rc
    subst ec
    cases (show u = Value.ref e from ru)
    exact kia_one (kitx_exc U) I.kIn (exO_inst I.hok he) k (fun z => nomatch z) fun tk => ⟨.bl b, H, I.tok tk, rfl, q⟩
def rIsiA (K : Frag) : List V → Hp → VK → Prop := fun xs H Q => rIsi K xs H Q ∨ rIsiX K xs H Q
theorem call_isiA : CallR X (.builtin "isinstance") (rIsiA X.K) := by
  first
  | exact (call_isi.or call_isiX)
  | (unfold CallR at *; exact (call_isi.or call_isiX))
end
end L2
namespace L2
open PySem PySem.Spec PyProof.Rows
theorem bt_len : bootBuiltins "len" = some (.builtin "len") := by decide +kernel
theorem bt_isinstance : bootBuiltins "isinstance" = some (.builtin "isinstance") := by decide +kernel
theorem bt_int : bootBuiltins "int" = some (.type "int") := by decide +kernel
theorem bt_bool : bootBuiltins "bool" = some (.type "bool") := by decide +kernel
theorem bt_list : bootBuiltins "list" = some (.type "list") := by decide +kernel
theorem bt_tuple : bootBuiltins "tuple" = some (.type "tuple") := by decide +kernel
theorem bt_all : bootBuiltins "all" = some (.builtin "all") := by decide +kernel
theorem bt_min : bootBuiltins "min" = some (.builtin "min") := by decide +kernel
theorem rel_int {n : Int} {t : Tok} : RelV (.int n) (.int n t) := ⟨_, rfl⟩
theorem rel_str {n : Str} {t : Tok} : RelV (.str n) (.str n t) := ⟨_, rfl⟩
theorem Same.new {H : Hp} {p : Addr} {o : HO} (h : H p = none) : Same H (upd H p o) := fun b u q => by
  rw [upd_ne (ne_of_none q h)]
  exact q
theorem Same.seqT {K : PySem.W.Frag} {H H' : Hp} {a : Addr} {xs : List V} (e : Same H H') (h : SqT K H a xs) : SqT K H' a xs := by
  rcases h with (h | ⟨o, h⟩) | h
  · exact .inl (.inl (e _ _ h))
  · exact .inl (.inr ⟨o, e _ _ h⟩)
  · exact .inr h
theorem atI_in {α : Type} {xs : List α} {i : Int} (h0 : 0 ≤ i) (h1 : i < xs.length) : ∃ v, atI xs i = some v ∧ v ∈ xs := by
  have e : ((i.toNat : Nat) : Int) = i := Int.toNat_of_nonneg h0
  have hl : i.toNat < xs.length := by omega
  refine ⟨xs[i.toNat], ?_, List.getElem_mem hl⟩
  have q := atI_nat (xs := xs) (List.getElem?_eq_getElem hl)
  rw [e] at q
  exact q
theorem atI_toNat {α : Type} {xs : List α} {i : Int} {v : α} (h0 : 0 ≤ i) (h : xs[i.toNat]? = some v) : atI xs i = some v := by
  have q := atI_nat (xs := xs) h
  rw [Int.toNat_of_nonneg h0] at q
  exact q
theorem TyOf.same {K : PySem.W.Frag} {H H' : Hp} {x : V} {t : Value} (e : Same H H') (h : TyOf K H x t) : TyOf K H' x t := by
  cases h with
  | non => exact .non
  | bl b => exact .bl b
  | int i => exact .int i
  | str x => exact .str x
  | flt x => exact .flt x
  | lst q => exact .lst (e _ _ q)
  | frz q => exact .frz (e _ _ q)
  | tup q => exact .tup (e _ _ q)
  | dK q => exact .dK (e _ _ q)
  | dT q => exact .dT (e _ _ q)
  | ins q a b c d f => exact .ins (e _ _ q) a b c d f
def Own (K : PySem.W.Frag) (H : Hp) (x : V) : Prop := ∃ n, TyOf K H x (.type n)
theorem Own.same {K : PySem.W.Frag} {H H' : Hp} {x : V} (e : Same H H') (h : Own K H x) : Own K H' x := let ⟨n, t⟩ := h; ⟨n, t.same e⟩
theorem Own.non {K : PySem.W.Frag} {H : Hp} : Own K H .non := ⟨_, .non⟩
theorem Own.bl {K : PySem.W.Frag} {H : Hp} {b : Bool} : Own K H (.bl b) := ⟨_, .bl b⟩
theorem Own.int {K : PySem.W.Frag} {H : Hp} {i : Int} : Own K H (.int i) := ⟨_, .int i⟩
theorem Own.str {K : PySem.W.Frag} {H : Hp} {x : Str} : Own K H (.str x) := ⟨_, .str x⟩
theorem Own.lst {K : PySem.W.Frag} {H : Hp} {a : Addr} {xs : List V} (h : H a = some (.lst xs)) : Own K H (.ref a) := ⟨_, .lst h⟩
theorem Own.tup {K : PySem.W.Frag} {H : Hp} {a : Addr} {xs : List V} (h : H a = some (.tup xs)) : Own K H (.ref a) := ⟨_, .tup h⟩
theorem Own.dK {K : PySem.W.Frag} {H : Hp} {a : Addr} {xs : List (Key × V)} (h : H a = some (.dK xs)) : Own K H (.ref a) := ⟨_, .dK h⟩
def isInt : V → Bool
  | .int _ => true
  | .bl _ => true
  | _ => false
def isBool : V → Bool
  | .bl _ => true
  | _ => false
def isStr : V → Bool
  | .str _ => true
  | _ => false
theorem kit_int {K : PySem.W.Frag} {H : Hp} {x : V} {n : String} (ty : TyOf K H x (.type n)) : PySem.W.kitOne K (.type n) (.type "int") = some (isInt x) := by
  cases ty <;> rfl
theorem kit_bool {K : PySem.W.Frag} {H : Hp} {x : V} {n : String} (ty : TyOf K H x (.type n)) : PySem.W.kitOne K (.type n) (.type "bool") = some (isBool x) := by
  cases ty <;> rfl
theorem kit_str {K : PySem.W.Frag} {H : Hp} {x : V} {n : String} (ty : TyOf K H x (.type n)) : PySem.W.kitOne K (.type n) (.type "str") = some (isStr x) := by
  cases ty <;> rfl
theorem rIsiA.own {K : PySem.W.Frag} {H : Hp} {x : V} {c : String} {Q : VK} {b : Bool} (h : Own K H x) (k : ∀ n, TyOf K H x (.type n) → PySem.W.kitOne K (.type n) (.type c) = some b) (q : Q (.bl b) H) : rIsiA K [x, .ty c] H Q := by
  obtain ⟨n, t⟩ := h
  exact .inl ⟨x, .ty c, _, _, _, rfl, .ty c, t, k n t, q⟩
theorem rIsiA.int {K : PySem.W.Frag} {H : Hp} {x : V} {Q : VK} (h : Own K H x) (q : Q (.bl (isInt x)) H) : rIsiA K [x, .ty "int"] H Q := rIsiA.own h (fun _ => kit_int) q
theorem rIsiA.bool {K : PySem.W.Frag} {H : Hp} {x : V} {Q : VK} (h : Own K H x) (q : Q (.bl (isBool x)) H) : rIsiA K [x, .ty "bool"] H Q := rIsiA.own h (fun _ => kit_bool) q
theorem rIsiA.str {K : PySem.W.Frag} {H : Hp} {x : V} {Q : VK} (h : Own K H x) (q : Q (.bl (isStr x)) H) : rIsiA K [x, .ty "str"] H Q := rIsiA.own h (fun _ => kit_str) q
theorem iteB {b : Bool} {A B : Prop} (h1 : b = true → A) (h2 : b = false → B) : if b = true then A else B := by
  cases b
  · exact iteF (h2 rfl)
  · exact iteT (h1 rfl)
theorem le_ble {a b : Nat} (h : Nat.ble a b = true) : a ≤ b := Nat.le_of_ble_eq_true h
end L2
namespace L2
open PySem PySem.Spec PyProof.Rows
section
variable {X : Cx} {pins : List (Addr × Obj)} {σ : St} {H H' : Hp} {s : Shared} {h' : Heap}
theorem Inv.turns {t' : Nat} {wr : List Addr} (I : Inv X pins σ H s) (k : ∀ b o, b ∉ wr → s.heap.get? b = some o → h'.get? b = some o) (hw : ∀ b ∈ wr, FpOk X pins H b) : Inv X pins σ H { s with heap := h', toks := t' } := by
  have nit : ∀ b u, H b = some u → b ∉ wr := fun b u e z => by rw [(hw b z).1] at e; cases e
  refine I.step (g' := s.gens) (d' := s.drawn) (ch := wr) (fun b hb => ?_) (fun b o _ _ hc e _ => k b o hc e) (fun b o _ _ hc e _ => ⟨o.slots, k b o hc e⟩) (fun _ _ _ _ n => n)
    (fun b o hc e => ⟨o, k b o hc e⟩) (fun _ _ e => e) (fun _ _ _ e => e) (fun b ps e => ⟨#[], by rw [e]; simp⟩) (fun m hm => ?_) (fun b u e => ?_) I.bare
  · obtain ⟨_, f1, _, f3, f4, f5⟩ := hw b hb
    exact ⟨f3, f1, f4, f5⟩
  · obtain ⟨o, es, ep, ho, r⟩ := hm
    exact ⟨o, es, ep, k _ o (fun z => (hw _ z).2.1 rfl) ho, r⟩
  · refine (I.hok b u e).stay (fun c v hc q => k c v ?_ q) (fun _ q => q) fun _ _ q => q
    rcases hc with z | z
    · rw [z]; exact nit b u e
    · exact nit c _ z
end
def Ite (K : PySem.W.Frag) (a : Addr) : It :=
  ⟨fun i H => ∃ xs x, SqL K H a xs ∧ xs[i]? = some x, fun i H v H' => ∃ T x, v = .ref T ∧ H T = none ∧ H' = upd H T (.tup [.int i, x]) ∧ ∀ xs, SqL K H a xs → xs[i]? = some x, fun i H => ∃ xs, SqL K H a xs ∧ xs.length = i⟩
theorem turn_enum {P : Program} {w : World} {K : PySem.W.Frag} {es : List Expr} {k : Nat} {pos : Pos} (a e it : Addr) (hei : e ≠ it) :
    Turn P w K (.Tuple es k pos) (Ite K a) [e, it] e (fun i h => (∃ old, IsEnum h e it i old) ∧ h.IsListIter it a i) where
  mem := by simp
  obj := fun i h st b hb => by
    obtain ⟨⟨old, he⟩, o, ho, hc, hd⟩ := st
    rcases List.mem_cons.mp hb with rfl | hb
    · exact ⟨_, he, fun v z => by cases z⟩
    · have e : b = it := by simpa using hb
      subst e
      exact ⟨o, ho, fun v z => by rw [hd] at z; cases z⟩
  keep := fun i h h' st k => by
    obtain ⟨⟨old, he⟩, hi⟩ := st
    exact ⟨⟨old, k e (by simp) _ he⟩, hi.at fun o x => k it (by simp) o x⟩
  item := by
    intro X hP hw hK hc i pins s σ H E I hf st hg
    subst hP hw hK
    obtain ⟨xs, x, hq, hx⟩ := hg
    obtain ⟨its, rv, p, hz⟩ := I.list hq
    obtain ⟨u, hu, ru⟩ := rv.get hx
    obtain ⟨he, hi⟩ := st
    have hlt : i < its.toArray.size := by
      obtain ⟨hl, _⟩ := List.getElem?_eq_some_iff.mp hu
      simpa using hl
    have na : ∀ b ∈ [e, it], a ≠ b := fun b hb z => by
      obtain ⟨o, ho, _⟩ := id p.isList
      subst z
      rcases List.mem_cons.mp hb with rfl | hb
      · obtain ⟨old, he⟩ := he
        have l1 := p.isList
        obtain ⟨o, ho, hc, n, hd⟩ := l1
        rw [he] at ho; cases ho; exact absurd (show Value.type "enumerate" = Value.type "list" from hc) (by decide)
      · have e' : a = it := by simpa using hb
        subst e'
        obtain ⟨o, ho, hc, n, hd⟩ := p.isList
        obtain ⟨o', ho', hc', hd'⟩ := hi
        rw [ho] at ho'; cases ho'
        rw [hc] at hc'; exact absurd hc' (by decide)
    have W := WalksT.enumerate (prog := X.prog) (w := X.w) (I.ok.hd hc) e it a hei (na e (by simp)) (na it (by simp)) its.toArray
    refine W.item i s _ _ hlt ⟨he, hi, p.isList⟩ fun T vals h1 tk hp hT hIs hm hk => ?_
    obtain ⟨t, y, hy, rfl⟩ := hp
    have ey : y = u := by
      have : its.toArray[i]? = some u := by simpa using hu
      rw [this] at hy
      exact (Option.some.inj hy).symm
    subst ey
    refine ⟨_, rfl, W.go es k pos i T _ _ _ hm fun h2 st2 hk2 => ?_⟩
    have hTn : H T = none := I.hok.fresh hT
    have hap := W.apart i T h1 hm
    have I1 : Inv X pins σ H { s with heap := h2, toks := tk } := I.turns (t' := tk) (fun b o hb e => hk2 b o hb (hk b o hb e)) hf
    have hT2 : h2.IsTuple T #[.int i t, y] := by
      obtain ⟨o, ho, r⟩ := hIs
      exact ⟨o, hk2 T o hap ho, r⟩
    have fT : ∀ b ∈ [e, it], upd H T (.tup [.int i, x]) b = none := fun b hb => by
      rw [upd_ne (fun z => hap (by rw [← z]; exact hb))]
      exact (hf b hb).1
    have hs0 : X.s₀.heap.objs.size ≤ T := Nat.le_trans I.sz hT
    have I2 : Inv X pins σ (upd H T (.tup [.int i, x])) { s with heap := h2, toks := tk } := by
      refine I1.adopt hTn (Heap.get?_none_of_le hs0) (Nat.ne_of_gt (Nat.lt_of_lt_of_le I.lt hT)) (fun z c e q => ?_) (fun p hp q => ?_) ⟨le_ble rfl, [.int i t, y], .cons ⟨t, rfl⟩ (.cons ru .nil), hT2⟩
      · obtain ⟨v, q1⟩ := I.cell z c e
        exact absurd (Nat.lt_of_lt_of_le q1.lt (by rw [q]; exact hT)) (Nat.lt_irrefl _)
      · exact absurd (Nat.lt_of_lt_of_le (Heap.lt_size (I.pin p hp).1) (by rw [q]; exact hT)) (Nat.lt_irrefl _)
    exact ⟨.ref T, _, I2, rfl, ⟨T, x, rfl, hTn, rfl, fun ys hy => by rw [I.list_inj hy hq]; exact hx⟩, ⟨st2.1, st2.2.1⟩, fT⟩
  done := by
    intro X hP hw hK hc i pins s σ H E I hf st hg
    subst hP hw hK
    obtain ⟨xs, hq, hx⟩ := hg
    obtain ⟨its, rv, p, hz⟩ := I.list hq
    obtain ⟨⟨old, he⟩, hi⟩ := st
    have D := Draws.list (prog := X.prog) (w := X.w) (A := X.A.in1) (I.ok.hd hc) it a (fun z => by
      subst z
      obtain ⟨o, ho, hc, n, hd⟩ := p.isList
      obtain ⟨o', ho', hc', hd'⟩ := hi
      rw [ho] at ho'; cases ho'
      rw [hc] at hc'; exact absurd hc' (by decide)) its.toArray
    have en : its.toArray.size = i := by rw [List.size_toArray, ← rv.length]; exact hx
    refine wpAny_pyNext_enum_endD D he (by rw [en]; exact ⟨hi, p.isList⟩) fun h' hx' => ⟨rfl, ?_⟩
    exact I.turns (t' := s.toks) (wr := [e, it]) (fun b o hb q => hx' b o (fun z => hb (by simp [z])) q) hf
  self := fun A i s Q E st h => by
    obtain ⟨⟨old, he⟩, _⟩ := st
    exact wpAny_pyIter_enum he h
theorem bt_enumerate : bootBuiltins "enumerate" = some (.type "enumerate") := by decide +kernel
def iEnum (K : PySem.W.Frag) (ta : TA) : TI := fun σ H R => ta σ H fun vs H1 => ∃ a, vs = [.ref a] ∧ (∃ xs, SqL K H1 a xs) ∧ R (Ite K a) H1
theorem pi_enum {X : Cx} {es : List Expr} {k : Nat} {tpos p pos : Pos} {a : Expr} {ta : TA} (hg : Gl X "enumerate") (hm : X.mg "enumerate" = none) (ha : PA X [a] ta)
    (he : starEach [a] X.env = [(false, eval a X.env)] := by rfl) : PI X (.Tuple es k tpos) (.Call (.Name "enumerate" p) [a] [] pos) (iEnum X.K ta) := by
  unfold PA at *; unfold PI at *
  exact by
    intro pins s σ H R I h
    refine wpAny_Call_Name_kw (ld_blt I hg hm bt_enumerate ?_ (by decide) (by decide))
    refine PyProof.Rows.callWith_type1 (thn (ha pos pins s σ H _ I h) fun us s1 ⟨vs, H1, I1, r, q⟩ => ?_) he (by rfl)
    obtain ⟨b, rfl, ⟨xs, hq⟩, q⟩ := q
    obtain ⟨u, rfl, ru⟩ := vals1 r
    cases ru
    obtain ⟨its, rv, pl, hz⟩ := I1.list hq
    refine call_enumerate_list pl.isList fun h' he hi hsz hk => ?_
    refine wpAny_pyIter_enum he ?_
    have I2 : Inv X pins σ H1 { s1 with heap := h' } := I1.kept (t' := s1.toks) hk
    refine ⟨s1.heap.objs.size + 1, [s1.heap.objs.size + 1, s1.heap.objs.size], _, _, H1, rfl, I2, turn_enum b _ _ (Nat.succ_ne_self _), ⟨⟨_, he⟩, hi⟩, fun c hc => ?_, q⟩
    have hle : s1.heap.objs.size ≤ c := by
      rcases List.mem_cons.mp hc with e | hc
      · rw [e]; exact Nat.le_succ _
      · have e : c = s1.heap.objs.size := by simpa using hc
        rw [e]; exact Nat.le_refl _
    exact I1.fpOk hle (I1.hok.fresh hle)
def Nx (n i : Nat) (P : Prop) : Prop := ∃ m', m' < n - i ∧ m' = n - (i + 1) ∧ i + 1 ≤ n ∧ P
theorem Nx.mk {n i : Nat} {P : Prop} (hi : i < n) (p : P) : Nx n i P := ⟨n - (i + 1), by omega, rfl, hi, p⟩
theorem loop_by {J : It} {l : Addr} {g : TG} {tc : TT} {te : TE} {σ : St} {H : Hp} {Q : VK} (n : Nat) (Pv : Nat → St → List V → Hp → Prop) (hsz : n ≤ sizeLine) (h0 : Pv 0 σ [] H)
    (hl : ∀ i σ acc H, i ≤ n → Pv i σ acc H → H l = some (.lst acc) ∧ acc.length ≤ i)
    (hgo : ∀ i σ acc H, i < n → Pv i σ acc H → J.go i H)
    (hs : ∀ i x σ acc H H', i < n → Pv i σ acc H → J.yld i H x H' → g x σ H' fun σ2 H2 => tc σ2 H2 fun b H3 => if b = true then
      te σ2 H3 fun v H4 => H4 l = some (.lst acc) ∧ Nx n i (Pv (i + 1) σ2 (acc ++ [v]) (upd H4 l (.lst (acc ++ [v])))) else Nx n i (Pv (i + 1) σ2 acc H3))
    (hd : ∀ σ acc H, Pv n σ acc H → J.stop n H ∧ Q (.ref l) H) : tLoop J l g tc te σ H Q := by
  refine ⟨fun i m σ acc H => m = n - i ∧ i ≤ n ∧ Pv i σ acc H, ⟨n, by simp, Nat.zero_le _, h0⟩, ?_⟩
  rintro i m σ acc H ⟨rfl, hi, p⟩
  obtain ⟨q1, q2⟩ := hl i σ acc H hi p
  refine ⟨q1, ?_⟩
  by_cases hlt : i < n
  · exact .inr ⟨hgo i σ acc H hlt p, by omega, fun x H' y => hs i x σ acc H H' hlt p y⟩
  · have e : i = n := by omega
    subst e
    exact .inl (hd σ acc H p)
theorem for_enum {K : PySem.W.Frag} {a : Addr} {xs : List V} {g : TG} {tb : TS} {D : Ends} {σ : St} {H : Hp} (Pv : Nat → St → Hp → Prop) (h0 : Pv 0 σ H) (hl : ∀ i σ H, i ≤ xs.length → Pv i σ H → SqL K H a xs)
    (hs : ∀ (i : Nat) x σ H T, xs[i]? = some x → Pv i σ H → H T = none → g (.ref T) σ (upd H T (.tup [.int i, x])) fun σ2 H2 => tb { D with nx := Pv (i + 1), ct := Pv (i + 1), bk := D.nx } σ2 H2) (hd : ∀ σ H, Pv xs.length σ H → D.nx σ H) :
    ∃ W : Nat → Nat → St → Hp → Prop, (∃ m, W 0 m σ H) ∧ ∀ i m σ H, W i m σ H →
      ((Ite K a).stop i H ∧ D.nx σ H) ∨ ((Ite K a).go i H ∧ ∃ N : St → Hp → Prop, (∀ σ' H', N σ' H' → ∃ m', m' < m ∧ W (i + 1) m' σ' H') ∧ ∀ v H', (Ite K a).yld i H v H' → g v σ H' fun σ2 H2 => tb { D with nx := N, ct := N, bk := D.nx } σ2 H2) := by
  refine ⟨fun i m σ H => m = xs.length - i ∧ i ≤ xs.length ∧ Pv i σ H, ⟨xs.length, by simp, Nat.zero_le _, h0⟩, ?_⟩
  rintro i m σ H ⟨rfl, hi, p⟩
  have q := hl i σ H hi p
  by_cases hlt : i < xs.length
  · refine .inr ⟨⟨xs, xs[i], q, by simp [hlt]⟩, Pv (i + 1), fun σ' H' p' => ⟨xs.length - (i + 1), by omega, rfl, hlt, p'⟩, fun v H' y => ?_⟩
    obtain ⟨T, x, rfl, hT, rfl, hx⟩ := y
    exact hs i x σ H T (hx xs q) p hT
  · have e : i = xs.length := by omega
    subst e
    exact .inl ⟨⟨xs, q, rfl⟩, hd σ H p⟩
theorem boolsAre_of : ∀ {bs : List Bool} {us : List Value}, Vals (bs.map V.bl) us → LSm.BoolsAre us bs
  | [], _, .nil => .nil
  | b :: r, _, .cons h t => by
    cases h
    exact .cons b (boolsAre_of t)
theorem kept_it {s : Shared} {h' : Heap} {o : Obj} (hk : ∀ b x, b ∉ [s.heap.objs.size] → (s.heap.push o).get? b = some x → h'.get? b = some x) : ∀ b x, s.heap.get? b = some x → h'.get? b = some x :=
  fun b x e => hk b x (fun hm => by rw [List.mem_singleton.mp hm] at e; exact Nat.lt_irrefl _ (Heap.lt_size e)) (Heap.get?_push_of_some _ e)
theorem call_all {X : Cx} (hc : X.calm = true) : CallR X (.builtin "all") (fun xs H Q => ∃ (a : Addr) (bs : List Bool), xs = [.ref a] ∧ SqL X.K H a (bs.map V.bl) ∧ Q (.bl (bs.all id)) H) := by
  unfold CallR at *
  exact by
    intro pins s σ H xs us Q I r h
    obtain ⟨a, bs, rfl, hq, q⟩ := h
    obtain ⟨u, rfl, ru⟩ := vals1 r
    cases ru
    obtain ⟨its, rv, pl, hz⟩ := I.list hq
    have hb := boolsAre_of rv
    have hl := pl.isList
    have hlt : a < s.heap.objs.size := by obtain ⟨_, e, _⟩ := hl; exact Heap.lt_size e
    refine call_all_walk (wpAny_pyIter_list hl ?_)
    refine ⟨s.heap.objs.size, [s.heap.objs.size, a], [s.heap.objs.size], its.toArray.size, _, _, fun i => (bs[i]?).getD true, rfl, Walks.list (A := X.A.in1) (I.ok.hd hc) _ a (Nat.ne_of_lt hlt) its.toArray,
      ⟨⟨_, Heap.get?_push_size _ rfl, rfl, rfl⟩, hl.push _⟩, fun i v s' Q' E' hP hQ => ?_, fun h' tk hk => ?_⟩
    · obtain ⟨b, e, rfl⟩ := hb.get i v (by simpa using hP)
      simp only [e, Option.getD_some] at hQ
      exact wpAny_truthy_bool hQ
    · have e : ((List.range its.toArray.size).all fun i => (bs[i]?).getD true) = bs.all id := by
        rw [List.size_toArray, hb.length]; exact LSm.range_all bs
      rw [e]
      exact ⟨.bl (bs.all id), H, I.kept (t' := tk) (kept_it hk), rfl, q⟩
end L2
namespace L2
open PySem PySem.Spec PyProof.Rows
section
variable {X : Cx}
end
inductive SeqEq (K : PySem.W.Frag) (H : Hp) (R : V → V → Bool → Prop) : V → V → Bool → Prop where
  | list {a b : Addr} {xs ys : List V} {e : Nat → Bool} (ha : SqL K H a xs) (hb : SqL K H b ys) (hl : xs.length = ys.length) (he : ∀ i x y, xs[i]? = some x → ys[i]? = some y → R x y (e i)) : SeqEq K H R (.ref a) (.ref b) ((List.range xs.length).all e)
  | listN {a b : Addr} {xs ys : List V} (ha : SqL K H a xs) (hb : SqL K H b ys) (hl : xs.length ≠ ys.length) : SeqEq K H R (.ref a) (.ref b) false
  | tup {a b : Addr} {xs ys : List V} {e : Nat → Bool} (ha : SqT K H a xs) (hb : SqT K H b ys) (he : ∀ i x y, xs[i]? = some x → ys[i]? = some y → R x y (e i)) : SeqEq K H R (.ref a) (.ref b) ((List.range (min xs.length ys.length)).all e && xs.length == ys.length)
def EqD (K : PySem.W.Frag) (H : Hp) : Nat → V → V → Bool → Prop
  | 0, x, y, b => (flatV x = true ∧ flatV y = true ∧ b = eqV x y) ∨ ∃ a, x = .ref a ∧ y = .ref a ∧ b = true
  | n + 1, x, y, b => ((flatV x = true ∧ flatV y = true ∧ b = eqV x y) ∨ ∃ a, x = .ref a ∧ y = .ref a ∧ b = true) ∨ SeqEq K H (EqD K H n) x y b
theorem eqV_self {x : V} (h : flatV x = true) : eqV x x = true := by
  cases x <;> simp_all [flatV, eqV]
section
variable {X : Cx} {pins : List (Addr × Obj)} {σ : St} {H : Hp} {s : Shared}
theorem all_range {n : Nat} {e : Nat → Bool} (h : ∀ i, i < n → e i = true) : (List.range n).all e = true := by
  rw [List.all_eq_true]
  exact fun i hi => h i (List.mem_range.mp hi)
theorem EqD.self (I : Inv X pins σ H s) : ∀ {n : Nat} {x : V} {b : Bool}, EqD X.K H n x x b → b = true := by
  intro n
  induction n with
  | zero =>
    intro x b h
    rcases h with ⟨h1, _, h2⟩ | ⟨_, _, _, h⟩
    · rw [h2]; exact eqV_self h1
    · exact h
  | succ n ih =>
    intro x b h
    rcases h with (⟨h1, _, h2⟩ | ⟨_, _, _, h⟩) | h
    · rw [h2]; exact eqV_self h1
    · exact h
    · cases h with
      | @list a _ xs ys e ha hb hl he =>
        have q := I.list_inj ha hb
        subst q
        exact all_range fun i hi => ih (he i xs[i] xs[i] (by simp [hi]) (by simp [hi]))
      | listN ha hb hl => exact absurd (congrArg List.length (I.list_inj ha hb)) hl
      | @tup a _ xs ys e ha hb he =>
        have q := I.tuple_inj ha hb
        subst q
        rw [Nat.min_self, all_range fun i hi => ih (he i xs[i] xs[i] (by simp [hi]) (by simp [hi]))]
        simp
theorem SeqEq.rc {A : Around} {R : V → V → Bool → Prop} {x y : V} {b : Bool} {u v : Value} (I : Inv X pins σ H s) (h : SeqEq X.K H R x y b) (rx : RelV x u) (ry : RelV y v) (hu : A.units < cLine)
    (hR : ∀ x y b u v, R x y b → RelV x u → RelV y v → SeqAt.EqAt A.in1 s u v b) : SeqAt.RcAt A s u v b := by
  cases h with
  | @list a c xs ys e ha hb hl he =>
    cases rx; cases ry
    obtain ⟨its, r1, p1, z1⟩ := I.list ha
    obtain ⟨jts, r2, p2, z2⟩ := I.list hb
    have l1 := r1.length
    have l2 := r2.length
    have q := SeqAt.RcAt.lists (A := A) (s := s) (e := e) p1.isList p2.isList (by simp only [List.size_toArray]; omega) hu fun j h1 h2 => ?_
    · rw [List.size_toArray, ← l1] at q
      exact q
    · simp only [List.size_toArray] at h1 h2
      have g1 : xs[j]? = some xs[j] := by simp
      have g2 : ys[j]? = some ys[j] := by simp
      obtain ⟨w1, k1, rr1⟩ := r1.get g1
      obtain ⟨w2, k2, rr2⟩ := r2.get g2
      have e1 : its.toArray[j] = w1 := by
        have := List.getElem?_eq_some_iff.mp k1
        obtain ⟨_, this⟩ := this
        simpa using this
      have e2 : jts.toArray[j] = w2 := by
        have := List.getElem?_eq_some_iff.mp k2
        obtain ⟨_, this⟩ := this
        simpa using this
      rw [e1, e2]
      exact hR _ _ _ _ _ (he j _ _ g1 g2) rr1 rr2
  | @listN a c xs ys ha hb hl =>
    cases rx; cases ry
    obtain ⟨its, r1, p1, z1⟩ := I.list ha
    obtain ⟨jts, r2, p2, z2⟩ := I.list hb
    have l1 := r1.length
    have l2 := r2.length
    exact SeqAt.RcAt.lists_lengths p1.isList p2.isList (by simp only [List.size_toArray, bne_iff_ne]; omega) hu
  | @tup a c xs ys e ha hb he =>
    cases rx; cases ry
    obtain ⟨its, r1, p1, z1⟩ := I.tuple ha
    obtain ⟨jts, r2, p2, z2⟩ := I.tuple hb
    have l1 := r1.length
    have l2 := r2.length
    have q := SeqAt.RcAt.tuples (A := A) (s := s) (e := e) p1 p2 hu fun j h1 h2 => ?_
    · rw [List.size_toArray, List.size_toArray, ← l1, ← l2] at q
      exact q
    · simp only [List.size_toArray] at h1 h2
      have g1 : xs[j]? = some xs[j] := by simp
      have g2 : ys[j]? = some ys[j] := by simp
      obtain ⟨w1, k1, rr1⟩ := r1.get g1
      obtain ⟨w2, k2, rr2⟩ := r2.get g2
      have e1 : its.toArray[j] = w1 := by
        have := List.getElem?_eq_some_iff.mp k1
        obtain ⟨_, this⟩ := this
        simpa using this
      have e2 : jts.toArray[j] = w2 := by
        have := List.getElem?_eq_some_iff.mp k2
        obtain ⟨_, this⟩ := this
        simpa using this
      rw [e1, e2]
      exact hR _ _ _ _ _ (he j _ _ g1 g2) rr1 rr2
theorem SeqEq.rcNe {A : Around} {R : V → V → Bool → Prop} {x y : V} {b : Bool} {u v : Value} (I : Inv X pins σ H s) (h : SeqEq X.K H R x y b) (rx : RelV x u) (ry : RelV y v) (hu : A.units < cLine)
    (hR : ∀ x y b u v, R x y b → RelV x u → RelV y v → SeqAt.EqAt A.in1 s u v b) : SeqAt.RcNeAt A s u v (!b) := by
  cases h with
  | @list a c xs ys e ha hb hl he =>
    cases rx; cases ry
    obtain ⟨its, r1, p1, z1⟩ := I.list ha
    obtain ⟨jts, r2, p2, z2⟩ := I.list hb
    have l1 := r1.length
    have l2 := r2.length
    have q := SeqAt.RcNeAt.lists (A := A) (s := s) (e := e) p1.isList p2.isList (by simp only [List.size_toArray]; omega) hu fun j h1 h2 => ?_
    · rw [List.size_toArray, ← l1] at q
      exact q
    · simp only [List.size_toArray] at h1 h2
      have g1 : xs[j]? = some xs[j] := by simp
      have g2 : ys[j]? = some ys[j] := by simp
      obtain ⟨w1, k1, rr1⟩ := r1.get g1
      obtain ⟨w2, k2, rr2⟩ := r2.get g2
      have e1 : its.toArray[j] = w1 := by
        have := List.getElem?_eq_some_iff.mp k1
        obtain ⟨_, this⟩ := this
        simpa using this
      have e2 : jts.toArray[j] = w2 := by
        have := List.getElem?_eq_some_iff.mp k2
        obtain ⟨_, this⟩ := this
        simpa using this
      rw [e1, e2]
      exact hR _ _ _ _ _ (he j _ _ g1 g2) rr1 rr2
  | @listN a c xs ys ha hb hl =>
    cases rx; cases ry
    obtain ⟨its, r1, p1, z1⟩ := I.list ha
    obtain ⟨jts, r2, p2, z2⟩ := I.list hb
    have l1 := r1.length
    have l2 := r2.length
    exact SeqAt.RcNeAt.lists_lengths p1.isList p2.isList (by simp only [List.size_toArray, bne_iff_ne]; omega) hu
  | @tup a c xs ys e ha hb he =>
    cases rx; cases ry
    obtain ⟨its, r1, p1, z1⟩ := I.tuple ha
    obtain ⟨jts, r2, p2, z2⟩ := I.tuple hb
    have l1 := r1.length
    have l2 := r2.length
    have q := SeqAt.RcNeAt.tuples (A := A) (s := s) (e := e) p1 p2 hu fun j h1 h2 => ?_
    · rw [List.size_toArray, List.size_toArray, ← l1, ← l2] at q
      exact q
    · simp only [List.size_toArray] at h1 h2
      have g1 : xs[j]? = some xs[j] := by simp
      have g2 : ys[j]? = some ys[j] := by simp
      obtain ⟨w1, k1, rr1⟩ := r1.get g1
      obtain ⟨w2, k2, rr2⟩ := r2.get g2
      have e1 : its.toArray[j] = w1 := by
        have := List.getElem?_eq_some_iff.mp k1
        obtain ⟨_, this⟩ := this
        simpa using this
      have e2 : jts.toArray[j] = w2 := by
        have := List.getElem?_eq_some_iff.mp k2
        obtain ⟨_, this⟩ := this
        simpa using this
      rw [e1, e2]
      exact hR _ _ _ _ _ (he j _ _ g1 g2) rr1 rr2
theorem EqD.at (I : Inv X pins σ H s) : ∀ (n : Nat) (A : Around) (x y : V) (b : Bool) (u v : Value), A.units + n < cLine → EqD X.K H n x y b → RelV x u → RelV y v → SeqAt.EqAt A s u v b := by
  intro n
  induction n with
  | zero =>
    intro A x y b u v hu h rx ry
    rcases h with ⟨h1, h2, rfl⟩ | ⟨a, rfl, rfl, rfl⟩
    · exact eqAt_V rx ry h1 h2
    · cases rx; cases ry
      exact SeqAt.EqAt.same _
  | succ n ih =>
    intro A x y b u v hu h rx ry
    rcases h with (⟨h1, h2, rfl⟩ | ⟨a, rfl, rfl, rfl⟩) | h
    · exact eqAt_V rx ry h1 h2
    · cases rx; cases ry
      exact SeqAt.EqAt.same _
    · have rc := SeqEq.rc (A := A) I h rx ry (by omega) fun x y b u v hd r1 r2 => ih A.in1 x y b u v (by show A.units + 1 + n < cLine; omega) hd r1 r2
      have refs : ∃ a c, x = .ref a ∧ y = .ref c := by cases h <;> exact ⟨_, _, rfl, rfl⟩
      obtain ⟨a, c, rfl, rfl⟩ := refs
      cases rx; cases ry
      by_cases hac : a = c
      · subst hac
        have hb : b = true := EqD.self (n := n + 1) I (.inr h)
        subst hb
        exact SeqAt.EqAt.same _
      · exact SeqAt.EqAt.of_refs hac rc
def rEqD (K : PySem.W.Frag) (neg : Bool) : R2 := fun x y H Q => ∃ n b, n ≤ 60 ∧ SeqEq K H (EqD K H n) x y b ∧ Q (.bl (if neg then !b else b)) H
theorem op_eqD (hu : X.A.units + 62 < cLine) : OpR X (compareOp .Eq) (rEqD X.K false) := by
  unfold OpR at *
  exact by
    intro pins s σ H x y v u Q I rx ry h
    obtain ⟨n, b, hn, he, q⟩ := h
    exact SeqEq.rc (A := X.A) I he rx ry (by omega) (fun x y b u v hd r1 r2 => EqD.at I n X.A.in1 x y b u v (by show X.A.units + 1 + n < cLine; omega) hd r1 r2) X.prog X.w _ _ (fin_bl I q rfl)
theorem op_neD (hu : X.A.units + 62 < cLine) : OpR X (compareOp .NotEq) (rEqD X.K true) := by
  unfold OpR at *
  exact by
    intro pins s σ H x y v u Q I rx ry h
    obtain ⟨n, b, hn, he, q⟩ := h
    exact SeqEq.rcNe (A := X.A) I he rx ry (by omega) (fun x y b u v hd r1 r2 => EqD.at I n X.A.in1 x y b u v (by show X.A.units + 1 + n < cLine; omega) hd r1 r2) X.prog X.w _ _ (fin_bl I q rfl)
def eqL : List V → List V → Bool
  | [], [] => true
  | x :: xs, y :: ys => eqV x y && eqL xs ys
  | _, _ => false
end
theorem eqL_range : ∀ {xs ys : List V}, xs.length = ys.length → (List.range xs.length).all (fun i => eqV (xs.getD i .non) (ys.getD i .non)) = eqL xs ys
  | [], [], _ => rfl
  | x :: xs, y :: ys, h => by
    have h' : xs.length = ys.length := by simpa using h
    rw [List.length_cons, List.range_succ_eq_map, List.all_cons, List.all_map, eqL, ← eqL_range h']
    rfl
  | [], _ :: _, h => by simp at h
  | _ :: _, [], h => by simp at h
theorem eqL_len : ∀ {xs ys : List V}, xs.length ≠ ys.length → eqL xs ys = false
  | [], [], h => absurd rfl h
  | x :: xs, y :: ys, h => by
    rw [eqL, eqL_len (xs := xs) (ys := ys) (by simpa using h), Bool.and_false]
  | [], _ :: _, _ => rfl
  | _ :: _, [], _ => rfl
theorem SeqEq.flatL {K : PySem.W.Frag} {H : Hp} {n : Nat} {a b : Addr} {xs ys : List V} (ha : SqL K H a xs) (hb : SqL K H b ys) (fx : xs.all flatV = true) (fy : ys.all flatV = true) : SeqEq K H (EqD K H n) (.ref a) (.ref b) (eqL xs ys) := by
  by_cases hl : xs.length = ys.length
  · rw [← eqL_range hl]
    refine .list ha hb hl fun i x y hx hy => ?_
    have q : (flatV x = true ∧ flatV y = true ∧ eqV (xs.getD i .non) (ys.getD i .non) = eqV x y) := by
      refine ⟨List.all_eq_true.mp fx x (List.mem_of_getElem? hx), List.all_eq_true.mp fy y (List.mem_of_getElem? hy), ?_⟩
      rw [List.getD_eq_getElem?_getD, List.getD_eq_getElem?_getD, hx, hy]
      rfl
    cases n with
    | zero => exact .inl q
    | succ n => exact .inl (.inl q)
  · rw [eqL_len hl]
    exact .listN ha hb hl
theorem SeqEq.flatT {K : PySem.W.Frag} {H : Hp} {n : Nat} {a b : Addr} {xs ys : List V} (ha : SqT K H a xs) (hb : SqT K H b ys) (hl : xs.length = ys.length) (fx : xs.all flatV = true) (fy : ys.all flatV = true) : SeqEq K H (EqD K H n) (.ref a) (.ref b) (eqL xs ys) := by
  have q := SeqEq.tup (K := K) (H := H) (R := EqD K H n) (e := fun i => eqV (xs.getD i .non) (ys.getD i .non)) ha hb fun i x y hx hy => ?_
  · rw [← hl, Nat.min_self, eqL_range hl] at q
    simpa using q
  · have q : (flatV x = true ∧ flatV y = true ∧ eqV (xs.getD i .non) (ys.getD i .non) = eqV x y) := by
      refine ⟨List.all_eq_true.mp fx x (List.mem_of_getElem? hx), List.all_eq_true.mp fy y (List.mem_of_getElem? hy), ?_⟩
      rw [List.getD_eq_getElem?_getD, List.getD_eq_getElem?_getD, hx, hy]
      rfl
    cases n with
    | zero => exact .inl q
    | succ n => exact .inl (.inl q)
end L2
namespace L2
open PySem PySem.Spec PyProof.Rows
end L2
namespace L2
open PySem PySem.Spec PyProof.Rows
def strKeysB (es : Array DictEntry) : Bool := es.all fun e => match e.key with | .str _ _ => true | _ => false
theorem strKeys_of {es : Array DictEntry} (h : strKeysB es = true) : StrKeys es := by
  intro e he
  have q := Array.all_eq_true_iff_forall_mem.mp h e he
  split at q
  · rename_i n t hk
    exact ⟨n, t, hk⟩
  · cases q
theorem XCls.mk2 {K : PySem.W.Frag} {C N A : Addr} {nm q : Str} {bs : List Value} {hdct : Bool} {sn : List Str} {sub : List Value} {ab : Bool} {col : Option Bool} {dd : Option Addr} {k0 k1 k2 k3 k5 : Option Value} {es : Array DictEntry} {c d ep sl}
    {c0 : Value} {dd' : Option Addr} {cd : ClassData} {sl0 : Array (Option Value)} {es' : Array DictEntry} {c' d' ep' sl'}
    (l : K.lookup C = some (excClassObj nm q C N bs (.ref A :: vmro) hdct sn sub ab col dd k0 k1 k2 k3 k5 "ValueError.__new__")) (ln : K.lookup N = some ⟨c, d, .dict es ep, sl⟩) (sk : strKeysB es = true) (ni : nsFind es "__init__" = none)
    (la : K.lookup A = some { cls := c0, dict := dd', data := .cls cd, slots := sl0 }) (lna : K.lookup cd.ns = some ⟨c', d', .dict es' ep', sl'⟩) (ska : strKeysB es' = true) (nia : nsFind es' "__init__" = none) : XCls K C :=
  ⟨nm, q, N, bs, _, hdct, sn, sub, ab, col, dd, k0, k1, k2, k3, k5, es, l, ⟨c, d, ep, sl, ln, strKeys_of sk⟩, ni, .own la ⟨c', d', ep', sl', lna, strKeys_of ska⟩ nia .base⟩
theorem hu62 {A : Around} {k : Nat} (hr : Room k A) : A.units + 62 < cLine := by have := hr.un; omega
theorem cap_nil {X : Cx} {scope : Scope} {N' : List Str} {js : List (Option Nat)} (hl : js.length = N'.length) (h : js.all Option.isNone = true) : Cap X scope N' js :=
  ⟨hl, fun i j x h1 _ => by
    have q := List.all_eq_true.mp h _ (List.mem_of_getElem? h1)
    cases q⟩
theorem free_nil {X : Cx} {scope : Scope} (h : (scope.names.all fun y => match y.2 with | .free => false | _ => true) = true) : ∀ y ∈ scope.names, y.2 = .free → (X.env.kindOf y.1 = some .cell ∨ X.env.kindOf y.1 = some .free) := fun y hy e => by
  have q := List.all_eq_true.mp h y hy
  rw [e] at q
  cases q
theorem rIsiA.exc {K : PySem.W.Frag} {H : Hp} {e C c : Addr} {b : Bool} {Q : VK} (h : H e = some (exO (.ref C) none e)) (q : XAsk K C) (k : PySem.W.kitOne K (.ref C) (.ref c) = some b) (hQ : Q (.bl b) H) : rIsiA K [.ref e, .ref c] H Q :=
  .inr ⟨e, .ref c, .ref c, C, b, rfl, .own c, h, q, k, hQ⟩
theorem passE0 {P : Program} {w : World} {X : Cx} : PassesS (CXx P w) X (fun _ => E0) := by
  intro pins σ H s e s' I h
  obtain ⟨_, _, _, _, _, _, _, _, _, _, _, _, _, _, _, _, _, h⟩ := h
  exact h.elim
end L2
namespace L2
open PySem PySem.Spec PyProof.Rows
structure FunD (K : PySem.W.Frag) (x qual : Str) (st : Stmt) (dV : Value) (f : Addr) (fd : FuncData) : Prop where
  ex : ∃ (oc : Value) (od : Option Addr) (kV doc pm : Value) (an : Option Addr) (cdv ct : Value) (osl : Array (Option Value)),
    fd = PySem.W.fnOf x qual (defArgs st) (defBody st) (defScope st) dV kV doc pm an cdv ct ∧ K.lookup f = some ⟨oc, od, .func fd, osl⟩ ∧ PySem.W.codeIn K cdv qual = true
  kp : PySem.W.keepIn K (.ref f) = true
theorem FunD.okx {P : Program} {w : World} {K : PySem.W.Frag} {mg : Str → Option Value} {base : Heap} {x qual : Str} {st : Stmt} {dV : Value} {f : Addr} {fd : FuncData} {N ps : List Str} {k : Nat} {sp : Sp} (F : FunD K x qual st dV f fd) (S : FnScope N ps (defScope st)) (len : ∀ vs H Q E, sp vs H Q E → vs.length = ps.length)
    (hbody : ∀ (cdv : Value) (A : Around) (outer : List Env) (s : Shared) (H : Hp) (vs : List V) (Q : VK) (E : XK), Room k (A.deeper (envOfC qual (defScope st) s.heap.objs.size f cdv)) → sp vs H Q E →
      ∃ t, PSs (cxOf (CXx P w) P w K mg base N qual (defScope st) f cdv A outer s H E) (defBody st) t ∧ t { nx := fun _ H' => Q .non H', rt := Q } (start N vs) H) : FnOk P w K mg base (CXx P w) (k + 1) f fd ps sp := by
  obtain ⟨oc, od, kV, doc, pm, an, cdv, ct, osl, rfl, lk, hcd⟩ := F.ex
  exact fn_of lk hcd S len fun A outer s H vs Q E hr hsp => hbody cdv A outer s H vs Q E hr hsp
section
variable {X : Cx} {CX : CXT} {k : Nat} {f C : Addr} {fd : FuncData} {ps ks : List Str} {sp : Sp} {Ez : St → XK} {x : Str} {p pos : Pos} {e : Expr} {es : List Expr} {kws : List Keyword} {t tk : TA} {na : Nat} {g : List Value → List Value → List Value} {gV : List V → List V → List V}
end
theorem free_of {X : Cx} {scope : Scope} (l : List Str) (h : (scope.names.all fun y => match y.2 with | .free => l.contains y.1 | _ => true) = true) (hl : ∀ x ∈ l, X.env.kindOf x = some .cell ∨ X.env.kindOf x = some .free) :
    ∀ y ∈ scope.names, y.2 = .free → (X.env.kindOf y.1 = some .cell ∨ X.env.kindOf y.1 = some .free) := fun y hy e => by
  have q := List.all_eq_true.mp h y hy
  rw [e] at q
  exact hl _ (List.contains_iff_mem.mp q)
def tCut (t u : TS) : TS := fun D σ H => ∃ Mid : St → Hp → Prop, t { D with nx := Mid } σ H ∧ ∀ σ' H', Mid σ' H' → u D σ' H'
theorem pss_cut {X : Cx} {st : Stmt} {rest : List Stmt} {t u : TS} (h1 : PS X st t) (h2 : PSs X rest u) : PSs X (st :: rest) (tCut t u) := by
  unfold PS at *; unfold PSs at *
  exact by
    intro pins s σ H D I h
    obtain ⟨Mid, h, hm⟩ := h
    refine wpAny_execs_cons (thn (h1 pins s σ H { D with nx := Mid } I h) fun f s1 q => ?_)
    cases f with
    | next =>
      obtain ⟨σ', H', I', q⟩ := q
      exact h2 pins s1 σ' H' D I' (hm σ' H' q)
    | ret v => exact q
    | brk => exact q
    | cont => exact q
theorem lenS {α : Type} {n : Nat} : ∀ {us : List α}, us.length = n + 1 → ∃ a r, us = a :: r ∧ r.length = n
  | a :: r, h => ⟨a, r, rfl, by simpa using h⟩
theorem len0 {α : Type} : ∀ {us : List α}, us.length = 0 → us = []
  | [], _ => rfl
theorem fm_nil {α : Type} {p : α → Prop} : ∀ x ∈ ([] : List α), p x := fun _ h => nomatch h
theorem fm_cons {α : Type} {p : α → Prop} {a : α} {l : List α} (h : p a) (r : ∀ x ∈ l, p x) : ∀ x ∈ a :: l, p x := fun x hx => by
  rcases List.mem_cons.mp hx with e | e
  · subst e; exact h
  · exact r x e
theorem cap_of {X : Cx} {scope : Scope} {N' : List Str} {js : List (Option Nat)} (hl : js.length = N'.length)
    (h : ∀ p ∈ js.zip N', ∀ j, p.1 = some j → X.N[j]? = some p.2 ∧ scope.names.lookup p.2 = some .free ∧ (X.env.kindOf p.2 = some .cell ∨ X.env.kindOf p.2 = some .free)) : Cap X scope N' js :=
  ⟨hl, fun i j x h1 h2 => h (some j, x) (List.mem_of_getElem? (i := i) (by rw [List.getElem?_zip_eq_some]; exact ⟨h1, h2⟩)) j rfl⟩
end L2
namespace L2
open PySem PySem.Spec PyProof.Rows
section
variable {X : Cx}
end
end L2
namespace L2
open PySem PySem.Spec PyProof.Rows
section
variable {X : Cx}
theorem ints_are : ∀ {ns : List Int} {us : List Value}, Vals (ns.map V.int) us → IntsAre us ns
  | [], _, .nil => .nil
  | _ :: _, _, .cons ⟨_, h⟩ r => by
    subst h
    exact .cons _ _ (ints_are r)
theorem ints_vals : ∀ {ns : List Int} {us : List Value}, IntsAre us ns → Vals (ns.map V.int) us
  | [], _, .nil => .nil
  | _ :: _, _, .cons _ _ r => .cons ⟨_, rfl⟩ (ints_vals r)
theorem call_sorted (hc : X.calm = true) : CallR X (.builtin "sorted") (fun xs H Q => ∃ (a : Addr) (ns : List Int), xs = [.ref a] ∧ SqL X.K H a (ns.map V.int) ∧ ns.length < 64 ∧
    ∀ (l : Addr) (ms : List Int), H l = none → ms.Perm ns → ms.Pairwise (· ≤ ·) → Q (.ref l) (upd H l (.lst (ms.map V.int)))) := by
  unfold CallR at *
  exact by
    intro pins s σ H xs us Q I r h
    obtain ⟨a, ns, rfl, hq, hl, q⟩ := h
    obtain ⟨u, rfl, rx⟩ := vals1 r
    cases rx
    obtain ⟨its, r', pl, hz⟩ := I.list hq
    have hlen := r'.length
    rw [List.length_map] at hlen
    refine sorted_ints pl.isList (ints_are r') (by omega) fun out ns' a1 a2 a3 => ?_
    obtain ⟨e, he⟩ := sortedAll_at s.heap its out
    have hn := a2.length_eq
    have h64 : 64 ≤ sizeLine := le_ble rfl
    exact ⟨.ref (s.heap.objs.size + 1), _, I.laid (t' := s.toks) (fun _ _ => sortedAll_old) (Nat.le_succ _) (show ObjOk X.prog X.w _ _ _ (.lst (ns'.map V.int)) from ⟨by rw [List.length_map]; omega, out.toList, e, ints_vals a1, he⟩), rfl, q _ _ (I.hok.fresh (Nat.le_succ _)) a2 a3⟩
end
structure CDivB (i j : Int) : Prop where
  lo : 0 < j
  hi : j < 2 ^ 200
theorem own_def {P : Program} {w : World} {K : PySem.W.Frag} {mg : Str → Option Value} {base : Heap} {N : List Str} {qual : Str} {scope : Scope} {f : Addr} {cd : Value} {A : Around} {outer : List Env} {s₀ : Shared} {H₀ : Hp} {E : XK} {CX : CXT} :
    PassesOwn (model P w) (cxOf CX P w K mg base N qual scope f cd A outer s₀ H₀ E).A (cxOf CX P w K mg base N qual scope f cd A outer s₀ H₀ E).env (cxOf CX P w K mg base N qual scope f cd A outer s₀ H₀ E).xe := PassesOwn.leaving
theorem MtM.r {X : Cx} {id : String} {r : V → List V → Hp → VK → Prop} (h : MtM X id r) : MtR X id r := by
  first
  | exact (h)
  | (unfold MtR at *; unfold MtM at *; exact (h))
theorem bt_sorted : bootBuiltins "sorted" = some (.builtin "sorted") := by decide +kernel
end L2
namespace L2
open PySem PySem.Spec PyProof.Rows
theorem loop_lst {K : PySem.W.Frag} {a l : Addr} {xs : List V} {g : TG} {tc : TT} {te : TE} {σ : St} {H : Hp} {Q : VK} (Pv : Nat → St → List V → Hp → Prop) (hsz : xs.length ≤ sizeLine) (h0 : Pv 0 σ [] H)
    (hl : ∀ i σ acc H, i ≤ xs.length → Pv i σ acc H → H l = some (.lst acc) ∧ SqL K H a xs ∧ acc.length ≤ i)
    (hs : ∀ i x σ acc H, xs[i]? = some x → Pv i σ acc H → g x σ H fun σ2 H2 => tc σ2 H2 fun b H3 => if b = true then
      te σ2 H3 fun v H4 => H4 l = some (.lst acc) ∧ Nx xs.length i (Pv (i + 1) σ2 (acc ++ [v]) (upd H4 l (.lst (acc ++ [v])))) else Nx xs.length i (Pv (i + 1) σ2 acc H3))
    (hd : ∀ σ acc H, Pv xs.length σ acc H → Q (.ref l) H) : tLoop (Itl K a) l g tc te σ H Q :=
  loop_by xs.length Pv hsz h0 (fun i σ acc H hi p => ⟨(hl i σ acc H hi p).1, (hl i σ acc H hi p).2.2⟩)
    (fun i σ acc H hi p => ⟨xs, xs[i], (hl i σ acc H (Nat.le_of_lt hi) p).2.1, List.getElem?_eq_getElem hi⟩)
    (fun i x σ acc H H' hi p y => by
      obtain ⟨e, y⟩ := y
      subst e
      exact hs i x σ acc _ (y xs (hl i σ acc _ (Nat.le_of_lt hi) p).2.1) p)
    (fun σ acc H p => ⟨⟨xs, (hl _ σ acc H (Nat.le_refl _) p).2.1, Nat.le_refl _⟩, hd σ acc H p⟩)
def Tr : Nat → Type
  | 0 => Int
  | n + 1 => List (Tr n)
abbrev ls {n : Nat} (ts : Tr (n + 1)) : List (Tr n) := ts
abbrev Ow := Addr → Option (List Nat)
def AtR (H : Hp) : (n : Nat) → V → Tr n → Prop
  | 0, v, i => v = .int i
  | n + 1, v, ts => ∃ a vs, v = .ref a ∧ H a = some (.lst vs) ∧ vs.length = (ls ts).length ∧ ∀ (j : Nat) w t, vs[j]? = some w → (ls ts)[j]? = some t → AtR H n w t
def At (o : Ow) (H : Hp) : (n : Nat) → List Nat → V → Tr n → Prop
  | 0, _, v, i => v = .int i
  | n + 1, p, v, ts => ∃ a vs, v = .ref a ∧ o a = some p ∧ H a = some (.lst vs) ∧ vs.length = (ls ts).length ∧ ∀ (j : Nat) w t, vs[j]? = some w → (ls ts)[j]? = some t → At o H n (j :: p) w t
theorem At.r {o : Ow} {H : Hp} : ∀ {n : Nat} {p : List Nat} {v : V} {t : Tr n}, At o H n p v t → AtR H n v t
  | 0, _, _, _, h => h
  | n + 1, _, _, _, ⟨a, vs, e, _, h, l, k⟩ => ⟨a, vs, e, h, l, fun j w t hw ht => (k j w t hw ht).r⟩
theorem AtR.keep {H H' : Hp} (s : ∀ a xs, H a = some (.lst xs) → H' a = some (.lst xs)) : ∀ {n : Nat} {v : V} {t : Tr n}, AtR H n v t → AtR H' n v t
  | 0, _, _, h => h
  | n + 1, _, _, ⟨a, vs, e, h, l, k⟩ => ⟨a, vs, e, s _ _ h, l, fun j w t hw ht => (k j w t hw ht).keep s⟩
theorem AtR.same {H H' : Hp} (s : Same H H') {n : Nat} {v : V} {t : Tr n} (h : AtR H n v t) : AtR H' n v t := h.keep fun a xs e => s a _ e
theorem At.frame {o o' : Ow} {H H' : Hp} : ∀ {n : Nat} {p : List Nat} {v : V} {t : Tr n}, At o H n p v t → (∀ a r xs, o a = some r → p <:+ r → H a = some (.lst xs) → H' a = some (.lst xs) ∧ o' a = some r) → At o' H' n p v t
  | 0, _, _, _, h, _ => h
  | n + 1, p, _, _, ⟨a, vs, e, ho, h, l, k⟩, f =>
    have q := f a p vs ho (List.suffix_refl p) h
    ⟨a, vs, e, q.2, q.1, l, fun j w t hw ht => (k j w t hw ht).frame fun b r xs hb hs hx => f b r xs hb ((List.suffix_cons j p).trans hs) hx⟩
theorem At.under {o : Ow} {H : Hp} (q : List Nat) : ∀ {n : Nat} {p : List Nat} {v : V} {t : Tr n}, At o H n p v t → At (fun a => (o a).map (· ++ q)) H n (p ++ q) v t
  | 0, _, _, _, h => h
  | n + 1, p, _, _, ⟨a, vs, e, ho, h, l, k⟩ => ⟨a, vs, e, (by show (o a).map (· ++ q) = _; rw [ho]; rfl), h, l, fun j w t hw ht => (k j w t hw ht).under q⟩
theorem cons_not_suffix {j : Nat} {p : List Nat} : ¬ (j :: p) <:+ p := fun h => by
  have := h.length_le
  rw [List.length_cons] at this
  omega
theorem cons_ne_suffix {j i : Nat} {p r : List Nat} (h : (j :: p) <:+ r) (h' : (i :: p) <:+ r) : j = i := by
  have e1 : (j :: p) = r.drop (r.length - (j :: p).length) := List.suffix_iff_eq_drop.mp h
  have e2 : (i :: p) = r.drop (r.length - (i :: p).length) := List.suffix_iff_eq_drop.mp h'
  rw [List.length_cons] at e1 e2
  rw [← e2] at e1
  exact (List.cons.inj e1).1
theorem At.app {o o' : Ow} {H H' : Hp} {n : Nat} {p : List Nat} {a : Addr} {ts : Tr (n + 1)} {vs : List V} {w : V} {t : Tr n} (h : At o H (n + 1) p (.ref a) ts) (hv : H a = some (.lst vs)) (hf : ∀ b r xs, o b = some r → b ≠ a → H b = some (.lst xs) → H' b = some (.lst xs))
    (ho : ∀ b r, o b = some r → o' b = some r) (e : H' a = some (.lst (vs ++ [w]))) (hw : At o' H' n ((ls ts).length :: p) w t) : At o' H' (n + 1) p (.ref a) (ls ts ++ [t] : List (Tr n)) := by
  obtain ⟨a', vs', ea, ho', h', l, k⟩ := h
  cases ea
  rw [hv] at h'
  cases h'
  refine ⟨a, _, rfl, ho _ _ ho', e, by show (vs ++ [w]).length = (ls ts ++ [t]).length; rw [List.length_append, List.length_append, l]; rfl, fun j x u hx hu => ?_⟩
  have hu : (ls ts ++ [t])[j]? = some u := hu
  rcases Nat.lt_trichotomy j vs.length with q | q | q
  · rw [List.getElem?_append_left q] at hx
    rw [List.getElem?_append_left (by omega)] at hu
    refine (k j x u hx hu).frame fun b r xs hb hs hx => ?_
    have hne : b ≠ a := fun z => by
      subst z
      rw [ho'] at hb
      cases hb
      exact cons_not_suffix hs
    exact ⟨hf b r xs hb hne hx, ho b r hb⟩
  · subst q
    rw [List.getElem?_append_right (Nat.le_refl _), Nat.sub_self] at hx
    rw [List.getElem?_append_right (by omega), show vs.length - (ls ts).length = 0 by omega] at hu
    cases hx
    cases hu
    rw [l]
    exact hw
  · rw [List.getElem?_append_right (by omega)] at hx
    have : [w].length ≤ j - vs.length := by rw [List.length_singleton]; omega
    rw [List.getElem?_eq_none this] at hx
    cases hx
theorem At.put {o o' : Ow} {H H' : Hp} {n : Nat} {p : List Nat} {a : Addr} {ts : Tr (n + 1)} {vs : List V} {i : Nat} {w : V} {t : Tr n} (h : At o H (n + 1) p (.ref a) ts) (hv : H a = some (.lst vs)) (hi : i < vs.length)
    (hf : ∀ b r xs, o b = some r → b ≠ a → ¬ (i :: p) <:+ r → H b = some (.lst xs) → H' b = some (.lst xs)) (ho : ∀ b r, o b = some r → ¬ (i :: p) <:+ r → o' b = some r)
    (e : H' a = some (.lst (vs.set i w))) (hw : At o' H' n (i :: p) w t) : At o' H' (n + 1) p (.ref a) ((ls ts).set i t : List (Tr n)) := by
  obtain ⟨a', vs', ea, ho', h', l, k⟩ := h
  cases ea
  rw [hv] at h'
  cases h'
  refine ⟨a, _, rfl, ho _ _ ho' cons_not_suffix, e, by show (vs.set i w).length = ((ls ts).set i t).length; rw [List.length_set, List.length_set, l], fun j x u hx hu => ?_⟩
  have hu : ((ls ts).set i t)[j]? = some u := hu
  by_cases q : i = j
  · subst q
    rw [List.getElem?_set_self (by omega)] at hx
    rw [List.getElem?_set_self (by omega)] at hu
    cases hx
    cases hu
    exact hw
  · rw [List.getElem?_set_ne q] at hx hu
    refine (k j x u hx hu).frame fun b r xs hb hs hx => ?_
    have hne : b ≠ a := fun z => by
      subst z
      rw [ho'] at hb
      cases hb
      exact cons_not_suffix hs
    have hni : ¬ (i :: p) <:+ r := fun z => q (cons_ne_suffix z hs)
    exact ⟨hf b r xs hb hne hni hx, ho b r hb hni⟩
theorem At.lst {o : Ow} {H : Hp} {n : Nat} {p : List Nat} {v : V} {ts : Tr (n + 1)} (h : At o H (n + 1) p v ts) : ∃ a vs, v = .ref a ∧ o a = some p ∧ H a = some (.lst vs) ∧ vs.length = (ls ts).length :=
  let ⟨a, vs, e, ho, h, l, _⟩ := h
  ⟨a, vs, e, ho, h, l⟩
theorem At.kid {o : Ow} {H : Hp} {n : Nat} {p : List Nat} {a : Addr} {ts : Tr (n + 1)} {vs : List V} {j : Nat} (h : At o H (n + 1) p (.ref a) ts) (hv : H a = some (.lst vs)) (hj : j < vs.length) : ∃ w t, vs[j]? = some w ∧ (ls ts)[j]? = some t ∧ At o H n (j :: p) w t := by
  obtain ⟨a', vs', ea, ho', h', l, k⟩ := h
  cases ea
  rw [hv] at h'
  cases h'
  have h1 : vs[j]? = some vs[j] := List.getElem?_eq_getElem hj
  have hj' : j < (ls ts).length := by omega
  have h2 : (ls ts)[j]? = some (ls ts)[j] := List.getElem?_eq_getElem hj'
  exact ⟨_, _, h1, h2, k j _ _ h1 h2⟩
theorem AtR.kid {H : Hp} {n : Nat} {a : Addr} {ts : Tr (n + 1)} {vs : List V} {j : Nat} (h : AtR H (n + 1) (.ref a) ts) (hv : H a = some (.lst vs)) (hj : j < vs.length) : ∃ w t, vs[j]? = some w ∧ (ls ts)[j]? = some t ∧ AtR H n w t := by
  obtain ⟨a', vs', ea, h', l, k⟩ := h
  cases ea
  rw [hv] at h'
  cases h'
  have h1 : vs[j]? = some vs[j] := List.getElem?_eq_getElem hj
  have hj' : j < (ls ts).length := by omega
  have h2 : (ls ts)[j]? = some (ls ts)[j] := List.getElem?_eq_getElem hj'
  exact ⟨_, _, h1, h2, k j _ _ h1 h2⟩
theorem AtR.lst {H : Hp} {n : Nat} {v : V} {ts : Tr (n + 1)} (h : AtR H (n + 1) v ts) : ∃ a vs, v = .ref a ∧ H a = some (.lst vs) ∧ vs.length = (ls ts).length :=
  let ⟨a, vs, e, h, l, _⟩ := h
  ⟨a, vs, e, h, l⟩
def New (H H' : Hp) (n : Nat) (w : V) (t : Tr n) : Prop := ∃ o, At o H' n [] w t ∧ ∀ a r, o a = some r → H a = none ∧ H' a ≠ none
def NewL (H H' : Hp) (l : Addr) (n : Nat) (ws : List V) (ts : List (Tr n)) : Prop :=
  ws.length = ts.length ∧ ∃ o : Ow, (∀ (j : Nat) w t, ws[j]? = some w → ts[j]? = some t → At o H' n [j] w t) ∧ ∀ a r, o a = some r → H a = none ∧ H' a ≠ none ∧ a ≠ l ∧ r ≠ []
theorem New.r {H H' : Hp} {n : Nat} {w : V} {t : Tr n} (h : New H H' n w t) : AtR H' n w t := let ⟨_, h, _⟩ := h; h.r
theorem NewL.nil {H H' : Hp} {l : Addr} {n : Nat} : NewL H H' l n [] [] := ⟨rfl, fun _ => none, fun j w t h => (by rw [List.getElem?_nil] at h; cases h), fun a r h => nomatch h⟩
theorem NewL.frame {H H' H'' : Hp} {l : Addr} {n : Nat} {ws : List V} {ts : List (Tr n)} (h : NewL H H' l n ws ts) (f : ∀ a xs, a ≠ l → H a = none → H' a = some (.lst xs) → H'' a = some (.lst xs)) (g : ∀ a, H' a ≠ none → H'' a ≠ none) : NewL H H'' l n ws ts := by
  obtain ⟨e, o, k, d⟩ := h
  exact ⟨e, o, fun j w t hw ht => (k j w t hw ht).frame fun a r xs ho _ hx => ⟨f a xs (d a r ho).2.2.1 (d a r ho).1 hx, ho⟩, fun a r ho => ⟨(d a r ho).1, g a (d a r ho).2.1, (d a r ho).2.2⟩⟩
theorem New.frame {H H' H'' : Hp} {n : Nat} {w : V} {t : Tr n} (h : New H H' n w t) (f : ∀ a xs, H a = none → H' a = some (.lst xs) → H'' a = some (.lst xs)) (g : ∀ a, H' a ≠ none → H'' a ≠ none) : New H H'' n w t := by
  obtain ⟨o, k, d⟩ := h
  exact ⟨o, k.frame fun a r xs ho _ hx => ⟨f a xs (d a r ho).1 hx, ho⟩, fun a r ho => ⟨(d a r ho).1, g a (d a r ho).2⟩⟩
theorem New.same {H H' H'' : Hp} {n : Nat} {w : V} {t : Tr n} (h : New H H' n w t) (s : Same H' H'') : New H H'' n w t := h.frame (fun a xs _ e => s a _ e) fun a e => by
  cases q : H' a with
  | none => exact absurd q e
  | some u => rw [s a u q]; intro z; cases z
theorem New.older {H0 H H' : Hp} {n : Nat} {w : V} {t : Tr n} (h : New H H' n w t) (s : Same H0 H) : New H0 H' n w t := by
  obtain ⟨o, k, d⟩ := h
  exact ⟨o, k, fun a r ho => ⟨s.free (d a r ho).1, (d a r ho).2⟩⟩
theorem New.int {H H' : Hp} {i : Int} : New H H' 0 (.int i) i := ⟨fun _ => none, rfl, fun a r h => nomatch h⟩
theorem NewL.snoc {H H' H'' : Hp} {l : Addr} {n : Nat} {ws : List V} {ts : List (Tr n)} {w : V} {t : Tr n} (h : NewL H H' l n ws ts) (hl : H' l ≠ none) (fr : ∀ a, H' a = none → H a = none) (f : ∀ a xs, a ≠ l → H a = none → H' a = some (.lst xs) → H'' a = some (.lst xs)) (g : ∀ a, H' a ≠ none → H'' a ≠ none)
    (hn : New H' H'' n w t) : NewL H H'' l n (ws ++ [w]) (ts ++ [t]) := by
  obtain ⟨e, o, k, d⟩ := h
  obtain ⟨o2, k2, d2⟩ := hn
  have old : ∀ a r, o a = some r → o2 a = none := fun a r ho => by
    cases q : o2 a with
    | none => rfl
    | some r2 => exact absurd (d2 a r2 q).1 (d a r ho).2.1
  refine ⟨by rw [List.length_append, List.length_append, e]; rfl, fun a => match o2 a with | some r => some (r ++ [ws.length]) | none => o a, fun j x u hx hu => ?_, fun a r hr => ?_⟩
  · rcases Nat.lt_trichotomy j ws.length with q | q | q
    · rw [List.getElem?_append_left q] at hx
      rw [List.getElem?_append_left (by omega)] at hu
      refine (k j x u hx hu).frame fun a r xs ho _ hx => ⟨f a xs (d a r ho).2.2.1 (d a r ho).1 hx, ?_⟩
      show (match o2 a with | some r => some (r ++ [ws.length]) | none => o a) = some r
      rw [old a r ho]
      exact ho
    · subst q
      rw [List.getElem?_append_right (Nat.le_refl _), Nat.sub_self] at hx
      rw [List.getElem?_append_right (by omega), show ws.length - ts.length = 0 by omega] at hu
      cases hx
      cases hu
      refine (k2.under [ws.length]).frame fun a r xs ho _ hx => ⟨hx, ?_⟩
      show (match o2 a with | some r => some (r ++ [ws.length]) | none => o a) = some r
      cases q : o2 a with
      | none => rw [q] at ho; cases ho
      | some r2 => rw [q] at ho; exact ho
    · rw [List.getElem?_append_right (by omega)] at hx
      have : [w].length ≤ j - ws.length := by rw [List.length_singleton]; omega
      rw [List.getElem?_eq_none this] at hx
      cases hx
  · have hr : (match o2 a with | some r => some (r ++ [ws.length]) | none => o a) = some r := hr
    cases q : o2 a with
    | none =>
      rw [q] at hr
      exact ⟨(d a r hr).1, g a (d a r hr).2.1, (d a r hr).2.2⟩
    | some r2 =>
      rw [q] at hr
      cases hr
      refine ⟨fr a (d2 a r2 q).1, (d2 a r2 q).2, fun z => ?_, fun z => ?_⟩
      · subst z
        exact hl (d2 a r2 q).1
      · have := congrArg List.length z
        rw [List.length_append] at this
        simp at this
theorem NewL.done {H H' : Hp} {l : Addr} {n : Nat} {ws : List V} {ts : List (Tr n)} (h : NewL H H' l n ws ts) (hl : H l = none) (e : H' l = some (.lst ws)) : New H H' (n + 1) (.ref l) ts := by
  obtain ⟨el, o, k, d⟩ := h
  have nl : o l = none := by
    cases q : o l with
    | none => rfl
    | some r => exact absurd rfl (d l r q).2.2.1
  refine ⟨fun a => if a = l then some [] else o a, ⟨l, ws, rfl, if_pos rfl, e, el, fun j w t hw ht => (k j w t hw ht).frame fun a r xs ho _ hx => ⟨hx, ?_⟩⟩, fun a r hr => ?_⟩
  · show (if a = l then some [] else o a) = some r
    rw [if_neg (d a r ho).2.2.1]
    exact ho
  · have hr : (if a = l then some [] else o a) = some r := hr
    by_cases q : a = l
    · subst q
      exact ⟨hl, by rw [e]; intro z; cases z⟩
    · rw [if_neg q] at hr
      exact ⟨(d a r hr).1, (d a r hr).2.1⟩
def flat : (n : Nat) → Tr n → List Int
  | 0, i => [i]
  | n + 1, ts => (ls ts).flatMap (flat n)
def full : (n : Nat) → Tr n → Prop
  | 0, _ => True
  | n + 1, ts => ls ts ≠ [] ∧ ∀ t ∈ ls ts, full n t
def asc : (n : Nat) → Tr n → Prop
  | 0, _ => True
  | 1, f => List.Pairwise (α := Int) (· < ·) f
  | n + 2, ts => ∀ t ∈ ls ts, asc (n + 1) t
theorem flat_ints (f : Tr 1) : flat 1 f = (f : List Int) := by
  show List.flatMap (fun i => [i]) (f : List Int) = f
  exact List.flatMap_singleton' f
theorem flat_app (n : Nat) (ts us : List (Tr n)) : flat (n + 1) (ts ++ us : List (Tr n)) = flat (n + 1) ts ++ flat (n + 1) us := List.flatMap_append
theorem flat_set (n : Nat) : ∀ (ts : List (Tr n)) (i : Nat) (t t' : Tr n) (s : Int), ts[i]? = some t → (flat n t').Perm (flat n t ++ [s]) → (flat (n + 1) (ts.set i t' : List (Tr n))).Perm (flat (n + 1) ts ++ [s])
  | x :: r, 0, t, t', s, h, p => by
    cases h
    show (flat n t' ++ r.flatMap (flat n)).Perm ((flat n x ++ r.flatMap (flat n)) ++ [s])
    refine (p.append_right _).trans ?_
    rw [List.append_assoc, List.append_assoc]
    exact List.Perm.append_left _ List.perm_append_comm
  | x :: r, i + 1, t, t', s, h, p => by
    have := flat_set n r i t t' s h p
    show (flat n x ++ (r.set i t').flatMap (flat n)).Perm ((flat n x ++ r.flatMap (flat n)) ++ [s])
    rw [List.append_assoc]
    exact List.Perm.append_left _ this
theorem full_set {n : Nat} {ts : List (Tr n)} {i : Nat} {t : Tr n} (h : full (n + 1) ts) (ht : full n t) : full (n + 1) (ts.set i t : List (Tr n)) := by
  refine ⟨fun z => h.1 (List.length_eq_zero_iff.mp (by have := congrArg List.length z; rw [List.length_set] at this; exact this)), fun x hx => ?_⟩
  rcases List.mem_or_eq_of_mem_set hx with q | q
  · exact h.2 x q
  · rw [q]; exact ht
theorem full_app {n : Nat} {ts : List (Tr n)} {t : Tr n} (h : full (n + 1) ts) (ht : full n t) : full (n + 1) (ts ++ [t] : List (Tr n)) := by
  refine ⟨List.append_ne_nil_of_right_ne_nil _ (List.cons_ne_nil _ _), fun x hx => ?_⟩
  rcases List.mem_append.mp hx with q | q
  · exact h.2 x q
  · rw [List.mem_singleton.mp q]; exact ht
theorem asc_set {n : Nat} {ts : List (Tr (n + 1))} {i : Nat} {t : Tr (n + 1)} (h : asc (n + 2) ts) (ht : asc (n + 1) t) : asc (n + 2) (ts.set i t : List (Tr (n + 1))) := fun x hx => by
  rcases List.mem_or_eq_of_mem_set hx with q | q
  · exact h x q
  · rw [q]; exact ht
theorem asc_app {n : Nat} {ts : List (Tr (n + 1))} {t : Tr (n + 1)} (h : asc (n + 2) ts) (ht : asc (n + 1) t) : asc (n + 2) (ts ++ [t] : List (Tr (n + 1))) := fun x hx => by
  rcases List.mem_append.mp hx with q | q
  · exact h x q
  · rw [List.mem_singleton.mp q]; exact ht
theorem rIsiA.ty {K : PySem.W.Frag} {H : Hp} {x : V} {n c : String} {b : Bool} {Q : VK} (t : TyOf K H x (.type n)) (k : PySem.W.kitOne K (.type n) (.type c) = some b) (q : Q (.bl b) H) : rIsiA K [x, .ty c] H Q := .inl ⟨x, .ty c, _, _, _, rfl, .ty c, t, k, q⟩
theorem AtR.ints {H : Hp} {a : Addr} {ns : List Int} (h : AtR H 1 (.ref a) ns) : H a = some (.lst (ns.map V.int)) := by
  obtain ⟨a', vs, e, hv, l, k⟩ := h
  cases e
  have l : vs.length = ns.length := l
  have k : ∀ (j : Nat) w (t : Int), vs[j]? = some w → ns[j]? = some t → w = .int t := k
  have ev : vs = ns.map V.int := by
    refine List.ext_getElem? fun j => ?_
    rcases Nat.lt_or_ge j vs.length with q | q
    · have hj : j < ns.length := by omega
      have h1 : vs[j]? = some vs[j] := List.getElem?_eq_getElem q
      have h2 : ns[j]? = some ns[j] := List.getElem?_eq_getElem hj
      rw [h1, List.getElem?_map, h2, k j _ _ h1 h2]
      rfl
    · rw [List.getElem?_eq_none q, List.getElem?_eq_none (by rw [List.length_map]; omega)]
  rw [hv, ev]
theorem New.ints {H H' : Hp} {l : Addr} {ns : List Int} (hl : H l = none) (h : H' l = some (.lst (ns.map V.int))) : New H H' 1 (.ref l) ns :=
  ⟨fun a => if a = l then some [] else none, ⟨l, _, rfl, if_pos rfl, h, List.length_map .., fun j w t hw ht => by
    have ht : ns[j]? = some t := ht
    rw [List.getElem?_map, ht] at hw
    cases hw
    rfl⟩, fun a r hr => by
    have hr : (if a = l then some [] else none) = some r := hr
    by_cases q : a = l
    · subst q
      exact ⟨hl, by rw [h]; intro z; cases z⟩
    · rw [if_neg q] at hr
      cases hr⟩
theorem flat_split {n : Nat} {ts : List (Tr n)} {i : Nat} {t : Tr n} (h : ts[i]? = some t) : flat (n + 1) ts = flat (n + 1) (ts.take i : List (Tr n)) ++ (flat n t ++ flat (n + 1) (ts.drop (i + 1) : List (Tr n))) := by
  have e : ts = ts.take i ++ t :: ts.drop (i + 1) := by
    obtain ⟨hi, rfl⟩ := List.getElem?_eq_some_iff.mp h
    rw [List.getElem_cons_drop hi, List.take_append_drop]
  have e2 := congrArg (fun z : List (Tr n) => flat (n + 1) z) e
  refine Eq.trans e2 ?_
  show flat (n + 1) (ts.take i ++ t :: ts.drop (i + 1) : List (Tr n)) = _
  rw [flat_app]
  rfl
theorem flat_take {n : Nat} {ts : List (Tr n)} {i : Nat} {t : Tr n} (h : ts[i]? = some t) : flat (n + 1) (ts.take (i + 1) : List (Tr n)) = flat (n + 1) (ts.take i : List (Tr n)) ++ flat n t := by
  have e : ts.take (i + 1) = ts.take i ++ [t] := by rw [List.take_succ, h]; rfl
  rw [e, flat_app]
  show _ ++ (flat n t ++ []) = _
  rw [List.append_nil]
theorem flat_mem {n : Nat} {ts : List (Tr n)} {t : Tr n} {s : Int} (h : t ∈ ts) (hs : s ∈ flat n t) : s ∈ flat (n + 1) ts := List.mem_flatMap.mpr ⟨t, h, hs⟩
theorem flat_nd {n : Nat} {ts : List (Tr n)} {i : Nat} {t : Tr n} (h : ts[i]? = some t) (nd : (flat (n + 1) ts).Nodup) : (flat n t).Nodup ∧ ∀ s ∈ flat n t, s ∉ flat (n + 1) (ts.take i : List (Tr n)) := by
  rw [flat_split h, List.nodup_append, List.nodup_append] at nd
  exact ⟨nd.2.1.1, fun s hs z => nd.2.2 s z s (List.mem_append_left _ hs) rfl⟩
theorem flat_len {n : Nat} {ts : List (Tr n)} {i : Nat} {t : Tr n} (h : ts[i]? = some t) : (flat (n + 1) (ts.take i : List (Tr n))).length + (flat n t).length ≤ (flat (n + 1) ts).length := by
  rw [flat_split h, List.length_append, List.length_append]
  omega
def Dom (o : Ow) (H : Hp) : Prop := ∀ b r, o b = some r → H b ≠ none
structure Ext (o o' : Ow) (H H1 : Hp) : Prop where
  old : ∀ b, H b ≠ none → o' b = o b
  new : ∀ b r, o' b = some r → H b = none → H1 b ≠ none
def ovr (H : Hp) (o oN : Ow) (q : List Nat) : Ow := fun b => match H b with | none => (oN b).map (· ++ q) | some _ => o b
theorem New.put {o : Ow} {H H1 : Hp} {n : Nat} {w : V} {t : Tr n} (nw : New H H1 n w t) (q : List Nat) : ∃ o', Ext o o' H H1 ∧ ∀ H2, (∀ b xs, H b = none → H1 b = some (.lst xs) → H2 b = some (.lst xs)) → At o' H2 n q w t := by
  obtain ⟨oN, k, d⟩ := nw
  refine ⟨ovr H o oN q, ⟨fun b hb => ?_, fun b r hr hb => ?_⟩, fun H2 f => ?_⟩
  · unfold ovr
    cases e : H b with
    | none => exact absurd e hb
    | some u => rfl
  · unfold ovr at hr
    rw [hb] at hr
    cases e : oN b with
    | none =>
      have hr : (oN b).map (· ++ q) = some r := hr
      rw [e] at hr
      cases hr
    | some r' => exact (d b r' e).2
  · refine (k.under q).frame fun b r xs hr _ hx => ?_
    have hr : (oN b).map (· ++ q) = some r := hr
    cases e : oN b with
    | none => rw [e] at hr; cases hr
    | some r' =>
      refine ⟨f b xs (d b r' e).1 hx, ?_⟩
      unfold ovr
      rw [(d b r' e).1]
      exact hr
theorem Ext.dom {o o' : Ow} {H H1 : Hp} (x : Ext o o' H H1) (d : Dom o H) : ∀ b r, o b = some r → o' b = some r := fun b r h => by rw [x.old b (d b r h)]; exact h
theorem At.appN {o : Ow} {H H1 : Hp} {n : Nat} {p : List Nat} {a : Addr} {ts : Tr (n + 1)} {vs : List V} {w : V} {t : Tr n} (h : At o H (n + 1) p (.ref a) ts) (dm : Dom o H) (hv : H a = some (.lst vs)) (s : Same H H1) (nw : New H H1 n w t) :
    ∃ o', Ext o o' H H1 ∧ At o' (upd H1 a (.lst (vs ++ [w]))) (n + 1) p (.ref a) (ls ts ++ [t] : List (Tr n)) := by
  obtain ⟨o', x, k⟩ := nw.put (o := o) ((ls ts).length :: p)
  refine ⟨o', x, h.app hv (fun b r xs hb nb hx => by rw [upd_ne nb]; exact s b _ hx) (x.dom dm) upd_same (k _ fun b xs hb hx => ?_)⟩
  rw [upd_ne (fun z => by rw [z, hv] at hb; cases hb)]
  exact hx
theorem At.setN {o : Ow} {H H1 : Hp} {n : Nat} {p : List Nat} {a : Addr} {ts : Tr (n + 1)} {vs : List V} {i : Nat} {w : V} {t : Tr n} (h : At o H (n + 1) p (.ref a) ts) (dm : Dom o H) (hv : H a = some (.lst vs)) (hi : i < vs.length) (s : Same H H1) (nw : New H H1 n w t) :
    ∃ o', Ext o o' H H1 ∧ At o' (upd H1 a (.lst (vs.set i w))) (n + 1) p (.ref a) ((ls ts).set i t : List (Tr n)) := by
  obtain ⟨o', x, k⟩ := nw.put (o := o) (i :: p)
  refine ⟨o', x, h.put hv hi (fun b r xs hb nb _ hx => by rw [upd_ne nb]; exact s b _ hx) (fun b r hb _ => x.dom dm b r hb) upd_same (k _ fun b xs hb hx => ?_)⟩
  rw [upd_ne (fun z => by rw [z, hv] at hb; cases hb)]
  exact hx
theorem At.up {o o' : Ow} {H H1 : Hp} {n : Nat} {p pc : List Nat} {a c : Addr} {ts : Tr (n + 1)} {vs ys : List V} {i : Nat} {w : V} {t : Tr n} (h : At o H (n + 1) p (.ref a) ts) (dm : Dom o H) (hv : H a = some (.lst vs)) (hw : vs[i]? = some w) (s : Same H H1) (x : Ext o o' H H1)
    (hc : o c = some pc) (hp : (i :: p) <:+ pc) (k : At o' (upd H1 c (.lst ys)) n (i :: p) w t) : At o' (upd H1 c (.lst ys)) (n + 1) p (.ref a) ((ls ts).set i t : List (Tr n)) := by
  have hi : i < vs.length := (List.getElem?_eq_some_iff.mp hw).1
  have oa : o a = some p := by
    obtain ⟨a', _, e, oa, _⟩ := h
    cases e
    exact oa
  have nac : a ≠ c := fun z => by
    rw [z, hc] at oa
    cases oa
    exact cons_not_suffix hp
  have es : vs.set i w = vs := by
    obtain ⟨hi, rfl⟩ := List.getElem?_eq_some_iff.mp hw
    exact List.set_getElem_self hi
  refine h.put hv hi (fun b r xs hb _ hs hx => ?_) (fun b r hb _ => x.dom dm b r hb) (by rw [upd_ne nac, es]; exact s a _ hv) k
  rw [upd_ne (fun z => by rw [z, hc] at hb; cases hb; exact hs hp)]
  exact s b _ hx
theorem Ext.after {o o' : Ow} {H H1 : Hp} {c : Addr} {u : HO} (x : Ext o o' H H1) (dm : Dom o H) (s : Same H H1) : Dom o' (upd H1 c u) := fun b r hr => by
  by_cases q : b = c
  · rw [q, upd_same]; intro z; cases z
  · rw [upd_ne q]
    cases e : H b with
    | none => exact x.new b r hr e
    | some v => rw [s b v e]; intro z; cases z
end L2
namespace L2
open PySem PySem.Spec PyProof.Rows
def rCatT1 (K : PySem.W.Frag) : R2 := fun x y H Q => ∃ a b xs ys, x = .ref a ∧ y = .ref b ∧ SqT K H a xs ∧ SqT K H b ys ∧ ys ≠ [] ∧ xs.length + ys.length ≤ sizeLine ∧
  (xs = [] → Q (.ref b) H) ∧ (xs ≠ [] → ∀ p, H p = none → Q (.ref p) (upd H p (.tup (xs ++ ys))))
theorem op_catT1 {X : Cx} : OpR X (binaryOp .Add) (rCatT1 X.K) := by
  unfold OpR at *
  exact by
    intro pins s σ H x y v u Q I rx ry h
    obtain ⟨a, b, xs, ys, rfl, rfl, ha, hb, hy, hz, q1, q2⟩ := h
    cases rx
    cases ry
    by_cases hx : xs = []
    · obtain ⟨its, r1, p1, _⟩ := I.tuple ha
      obtain ⟨its2, r2, p2, _⟩ := I.tuple hb
      have hv : its = [] := r1.nil_iff.mpr hx
      obtain ⟨⟨cls, dd, data, sl⟩, ho, hc, n, hd⟩ := id p1
      obtain ⟨⟨cls2, dd2, data2, sl2⟩, ho2, hc2, n2, hd2⟩ := id p2
      simp only at hc hd hc2 hd2
      subst hc hd hc2 hd2
      exact concat_meets ⟨_, ho, rfl⟩ ⟨_, ho2, rfl⟩ noFill_tuple_add seq_tuple_add PySem.F.slot_tuple_add PySem.F.entry_tuple_add (PySem.F.args_tuple_add_2 _ _)
        (tuple_addW0 a b its.toArray its2.toArray n n2 dd dd2 sl sl2 (by simp [hv])) ⟨ho, ho2, ⟨.ref b, H, I, rfl, q1 hx⟩⟩
    · have op := op_catT (X := X)
      unfold OpR at op
      exact op pins s σ H (.ref a) (.ref b) _ _ Q I rfl rfl ⟨a, b, xs, ys, rfl, rfl, ha, hb, hx, hz, fun e => absurd e hy, fun _ => q2 hx⟩
end L2
namespace L2
open PySem PySem.Spec PyProof.Rows
theorem rel_key {k : Key} {v : Value} (h : keyIs k v = true) : RelV (kV k) v := by
  rcases keyIs_shape h with ⟨i, t, rfl, rfl⟩ | ⟨x, t, rfl, rfl⟩
  · exact ⟨t, rfl⟩
  · exact ⟨t, rfl⟩
theorem vals_get : ∀ {xs : List V} {us : List Value}, xs.length = us.length → (∀ (j : Nat) x u, xs[j]? = some x → us[j]? = some u → RelV x u) → Vals xs us
  | [], [], _, _ => .nil
  | [], _ :: _, h, _ => nomatch h
  | _ :: _, [], h, _ => nomatch h
  | x :: xs, u :: us, h, k => .cons (k 0 x u rfl rfl) (vals_get (Nat.succ.inj h) fun j x' u' h1 h2 => k (j + 1) x' u' h1 h2)
theorem paired_get {α β : Type} {F : α → β → Prop} : ∀ {l₁ : List α} {l₂ : List β} {i : Nat} {a : α}, Paired F l₁ l₂ → l₁[i]? = some a → ∃ b, l₂[i]? = some b ∧ F a b
  | _, _, 0, _, .cons h _, e => by cases e; exact ⟨_, rfl, h⟩
  | _, _, i + 1, _, .cons _ r, e => paired_get (i := i) r e
end L2
namespace L2
open PySem PySem.Spec PyProof.Rows
structure IAsk (K : PySem.W.Frag) (C : Addr) : Prop where
  ha : PySem.W.findIn K (.ref C) "__class__" = some (some (.builtin "object.__class__"))
  hn : PySem.W.specialIn K (.builtin "object.__class__") "__get__" = some (some (.builtin "getset_descriptor.__get__"))
  htk : PySem.W.takesIn K (.builtin "object.__class__") = some true
  hm : PySem.W.mroIn K C (.type "object") = some true
theorem rIsiA.ins {K : PySem.W.Frag} {H : Hp} {a C D dx : Addr} {fs : List (Str × V)} {b : Bool} {Q : VK} (h : H a = some (.ins C dx fs)) (cl : Cls K C) (q : IAsk K C) (k : PySem.W.kitOne K (.ref C) (.ref D) = some b) (hQ : Q (.bl b) H) : rIsiA K [.ref a, .ref D] H Q :=
  .inl ⟨.ref a, .ref D, _, _, _, rfl, .own D, .ins h cl q.ha q.hn q.htk q.hm, k, hQ⟩
end L2
namespace L2
open PySem PySem.Spec PyProof.Rows
section
variable {X : Cx}
def gTupL (K : PySem.W.Frag) (n : Nat) (t : TGs) : TG := fun v σ H Q => ∃ a xs, v = .ref a ∧ SqL K H a xs ∧ xs.length = n ∧ t xs σ H Q
theorem pg_tupL {es : List Expr} {k : Nat} {t : TGs} {n : Nat} {pos : Pos} (hc : X.calm = true) (h : PGs X es t)
    (hn : (assignEach es X.env).length = n := by rfl) (hst : (assignEach es X.env).findIdx? (·.1) = none := by rfl) : PG X (.Tuple es k pos) (gTupL X.K n t) := by
  unfold PG at *; unfold PGs at *
  exact by
    intro pins s σ H v u Q I r hw
    obtain ⟨a, xs, e1, hq, hl, hw⟩ := hw
    subst e1
    cases r
    obtain ⟨its, rv, ht, hz⟩ := I.list hq
    have hs : its.toArray.size = n := by simp [← hl, rv.length]
    rw [assign_Tuple]
    refine wpAny_bind (wpAny_standAt ?_)
    unfold unpack
    rw [hn, hst, ← hs]
    refine wpAny_bind (wpAny_holding (PySem.W.kun_itemsOf (I.ok.hd hc) ht.isList fun h' hx => ?_))
    have I1 : Inv X pins σ H { s with heap := h' } := I.kept (t' := s.toks) fun b o e => hx b o (Nat.ne_of_lt (Heap.lt_size e)) e
    exact h pins _ σ H xs _ Q I1 (by simpa using rv) hw
end
theorem At.relabel {o o' : Ow} {H H' : Hp} {k j : Nat} (f : ∀ b p xs, o b = some (p ++ [k]) → H b = some (.lst xs) → o' b = some (p ++ [j]) ∧ H' b = some (.lst xs)) : ∀ {n : Nat} {q : List Nat} {v : V} {t : Tr n}, At o H n (q ++ [k]) v t → At o' H' n (q ++ [j]) v t
  | 0, _, _, _, h => h
  | n + 1, q, _, _, ⟨a, vs, e, ho, h, l, kd⟩ => ⟨a, vs, e, (f a q vs ho h).1, (f a q vs ho h).2, l, fun i w t hw ht => At.relabel f (q := i :: q) (kd i w t hw ht)⟩
structure Pk {n : Nat} (ws : List V) (ts : List (Tr n)) (i : Nat) (idx : List Nat) (acc : List V) (us : List (Tr n)) : Prop where
  la : acc.length = idx.length
  lu : us.length = idx.length
  lt : ∀ k ∈ idx, k < i
  nd : idx.Nodup
  at_ : ∀ j k : Nat, idx[j]? = some k → acc[j]? = ws[k]? ∧ us[j]? = ts[k]?
theorem Pk.nil {n : Nat} {ws : List V} {ts : List (Tr n)} : Pk ws ts 0 [] [] [] := ⟨rfl, rfl, fun _ h => (nomatch h), List.nodup_nil, fun _ _ h => (by rw [List.getElem?_nil] at h; cases h)⟩
theorem Pk.drop {n : Nat} {ws : List V} {ts : List (Tr n)} {i : Nat} {idx : List Nat} {acc : List V} {us : List (Tr n)} (h : Pk ws ts i idx acc us) : Pk ws ts (i + 1) idx acc us :=
  ⟨h.la, h.lu, fun k hk => Nat.lt_succ_of_lt (h.lt k hk), h.nd, h.at_⟩
theorem Pk.keep {n : Nat} {ws : List V} {ts : List (Tr n)} {i : Nat} {idx : List Nat} {acc : List V} {us : List (Tr n)} {w : V} {t : Tr n} (h : Pk ws ts i idx acc us) (hw : ws[i]? = some w) (ht : ts[i]? = some t) : Pk ws ts (i + 1) (idx ++ [i]) (acc ++ [w]) (us ++ [t]) := by
  refine ⟨by rw [List.length_append, List.length_append, h.la]; rfl, by rw [List.length_append, List.length_append, h.lu]; rfl, fun k hk => ?_, ?_, fun j k hk => ?_⟩
  · rcases List.mem_append.mp hk with q | q
    · exact Nat.lt_succ_of_lt (h.lt k q)
    · rw [List.mem_singleton.mp q]; exact Nat.lt_succ_self i
  · rw [List.nodup_append]
    exact ⟨h.nd, List.nodup_cons.mpr ⟨List.not_mem_nil, List.nodup_nil⟩, fun x hx y hy e => by rw [e, List.mem_singleton.mp hy] at hx; exact Nat.lt_irrefl _ (h.lt _ hx)⟩
  · by_cases q : j < idx.length
    · rw [List.getElem?_append_left q] at hk
      rw [List.getElem?_append_left (by rw [h.la]; exact q), List.getElem?_append_left (by rw [h.lu]; exact q)]
      exact h.at_ j k hk
    · rw [List.getElem?_append_right (by omega)] at hk
      obtain ⟨h1, e1⟩ := List.getElem?_eq_some_iff.mp hk
      have j0 : j - idx.length = 0 := by simpa using h1
      rw [j0] at hk
      cases (Option.some.inj hk : i = k)
      rw [List.getElem?_append_right (by rw [h.la]; omega), List.getElem?_append_right (by rw [h.lu]; omega), h.la, h.lu, j0]
      exact ⟨hw.symm, ht.symm⟩
theorem idx_at {idx : List Nat} : ∀ (nd : idx.Nodup) (j : Nat) (h : j < idx.length), idx.idxOf idx[j] = j := by
  induction idx with
  | nil => intro _ j h; cases h
  | cons x r ih =>
    intro nd j h
    rw [List.nodup_cons] at nd
    cases j with
    | zero => simp
    | succ j =>
      have hj : j < r.length := by simpa using h
      have e := ih nd.2 j hj
      rw [List.getElem_cons_succ, List.idxOf_cons]
      have ne : (x == r[j]) = false := by
        rw [beq_eq_false_iff_ne]
        intro q
        exact nd.1 (q ▸ List.getElem_mem hj)
      rw [ne, cond_false, e]
theorem NewL.pick {H G G' : Hp} {l r : Addr} {n : Nat} {ws acc : List V} {ts us : List (Tr n)} {idx : List Nat} {i : Nat} (h : NewL H G l n ws ts) (p : Pk ws ts i idx acc us) (hr : G r = none) (hH : H r = none) (s : Same G G') (e : G' r = some (.lst acc)) : New H G' (n + 1) (.ref r) us := by
  obtain ⟨el, o, k, d⟩ := h
  have nr : ∀ b q, o b = some q → b ≠ r := fun b q ho z => (d b q ho).2.1 (by rw [z]; exact hr)
  let o' : Ow := fun b => if b = r then some [] else match o b with | none => none | some q => match q.getLast? with | none => none | some m => if m ∈ idx then some (q.dropLast ++ [idx.idxOf m]) else none
  refine ⟨o', ⟨r, acc, rfl, if_pos rfl, e, by show acc.length = us.length; rw [p.la, p.lu], fun j w t hw ht => ?_⟩, fun b q hq => ?_⟩
  · have hj : j < idx.length := by rw [← p.la]; exact (List.getElem?_eq_some_iff.mp hw).1
    have hm : idx[j]? = some idx[j] := List.getElem?_eq_getElem hj
    obtain ⟨p1, p2⟩ := p.at_ j _ hm
    have ht : us[j]? = some t := ht
    rw [hw] at p1
    rw [ht] at p2
    have ka := k idx[j] w t p1.symm p2.symm
    refine At.relabel (q := []) (fun b q xs ho hx => ⟨?_, s b _ hx⟩) ka
    show (if b = r then some [] else match o b with | none => none | some q => match q.getLast? with | none => none | some m => if m ∈ idx then some (q.dropLast ++ [idx.idxOf m]) else none) = some (q ++ [j])
    rw [if_neg (nr b _ ho), ho]
    show (match (q ++ [idx[j]]).getLast? with | none => none | some m => if m ∈ idx then some ((q ++ [idx[j]]).dropLast ++ [idx.idxOf m]) else none) = some (q ++ [j])
    rw [List.getLast?_append]
    show (if idx[j] ∈ idx then some ((q ++ [idx[j]]).dropLast ++ [idx.idxOf idx[j]]) else none) = some (q ++ [j])
    rw [if_pos (List.getElem_mem hj), List.dropLast_concat, idx_at p.nd j hj]
  · have hq : (if b = r then some [] else match o b with | none => none | some q => match q.getLast? with | none => none | some m => if m ∈ idx then some (q.dropLast ++ [idx.idxOf m]) else none) = some q := hq
    by_cases z : b = r
    · subst z
      exact ⟨hH, by rw [e]; intro q; cases q⟩
    · rw [if_neg z] at hq
      cases e2 : o b with
      | none => rw [e2] at hq; cases hq
      | some q2 =>
        have dd := d b q2 e2
        refine ⟨dd.1, ?_⟩
        cases e3 : G b with
        | none => exact absurd e3 dd.2.1
        | some u => rw [s b u e3]; intro q; cases q
end L2
namespace L2
open PySem PySem.Spec PyProof.Rows
theorem loop_tup {K : PySem.W.Frag} {a l : Addr} {xs : List V} {g : TG} {tc : TT} {te : TE} {σ : St} {H : Hp} {Q : VK} (Pv : Nat → St → List V → Hp → Prop) (hsz : xs.length ≤ sizeLine) (h0 : Pv 0 σ [] H)
    (hl : ∀ i σ acc H, i ≤ xs.length → Pv i σ acc H → H l = some (.lst acc) ∧ SqT K H a xs ∧ acc.length ≤ i)
    (hs : ∀ i x σ acc H, xs[i]? = some x → Pv i σ acc H → g x σ H fun σ2 H2 => tc σ2 H2 fun b H3 => if b = true then
      te σ2 H3 fun v H4 => H4 l = some (.lst acc) ∧ Nx xs.length i (Pv (i + 1) σ2 (acc ++ [v]) (upd H4 l (.lst (acc ++ [v])))) else Nx xs.length i (Pv (i + 1) σ2 acc H3))
    (hd : ∀ σ acc H, Pv xs.length σ acc H → Q (.ref l) H) : tLoop (Itt K a) l g tc te σ H Q :=
  loop_by xs.length Pv hsz h0 (fun i σ acc H hi p => ⟨(hl i σ acc H hi p).1, (hl i σ acc H hi p).2.2⟩)
    (fun i σ acc H hi p => ⟨xs, xs[i], (hl i σ acc H (Nat.le_of_lt hi) p).2.1, List.getElem?_eq_getElem hi⟩)
    (fun i x σ acc H H' hi p y => by
      obtain ⟨e, y⟩ := y
      subst e
      exact hs i x σ acc _ (y xs (hl i σ acc _ (Nat.le_of_lt hi) p).2.1) p)
    (fun σ acc H p => ⟨⟨xs, (hl _ σ acc H (Nat.le_refl _) p).2.1, Nat.le_refl _⟩, hd σ acc H p⟩)
theorem cut_last {xs : List V} (h : xs ≠ []) : cutV xs none (some (-1)) = xs.dropLast := by
  have hp : 0 < xs.length := List.length_pos_iff.mpr h
  unfold cutV HT.sIx
  rw [List.dropLast_eq_take]
  simp
  omega
theorem cut_part {xs : List V} (h : xs ≠ []) : ¬ (HT.sIx xs.length 0 none = 0 ∧ HT.sIx xs.length xs.length (some (-1)) = xs.length) := by
  have hp : 0 < xs.length := List.length_pos_iff.mpr h
  unfold HT.sIx
  simp
  omega
end L2
namespace L2
open PySem PySem.Spec PyProof.Rows
section
variable {X : Cx} {pins : List (Addr × Obj)} {σ : St} {H : Hp} {s : Shared}
end
section
variable {X : Cx} {pins : List (Addr × Obj)} {σ : St} {H : Hp} {s : Shared} {d : Addr} {u0 u1 : HO}
def NF (X : Cx) (d : Addr) : Prop := ∀ o u, X.H₀ d ≠ some (.frz o u)
theorem HOk.swap {P : Program} {w : World} {h : Heap} (ok : HOk P w H h) (e : H d = some u0) (h1 : ∀ y, u0 ≠ .own y) (h2 : ∀ xs, u0 ≠ .tup xs) (new : ObjOk P w (upd H d u1) h d u1) : HOk P w (upd H d u1) h := fun b u q => by
  by_cases hb : b = d
  · subst hb
    rw [upd_same] at q
    cases q
    exact new
  · rw [upd_ne hb] at q
    refine (ok b u q).stay (fun c v _ r => r) (fun c r => ?_) fun c xs r => ?_
    · rw [upd_ne (fun z => by rw [z, e] at r; exact h1 _ (Option.some.inj r))]; exact r
    · rw [upd_ne (fun z => by rw [z, e] at r; exact h2 _ (Option.some.inj r))]; exact r
theorem Inv.swap (I : Inv X pins σ H s) (e : H d = some u0) (h1 : ∀ y, u0 ≠ .own y) (h2 : ∀ xs, u0 ≠ .tup xs) (h3 : ∀ ps, u0 ≠ .tbl ps) (h4 : (∀ o u, u0 ≠ .frz o u) ∨ NF X d) (new : ObjOk X.prog X.w (upd H d u1) s.heap d u1) : Inv X pins σ (upd H d u1) s := by
  have ne : ∀ {b : Addr}, H b = none → upd H d u1 b = none := fun {b} hb => by
    rw [upd_ne (fun z => by rw [z, e] at hb; cases hb)]; exact hb
  refine ⟨I.ok, I.os, I.bare, ⟨I.base.keep, I.base.slot, fun b o q n hx => ne (I.base.free b o q n hx), I.base.there, fun b xs q => ?_, fun b o u q => ?_, fun b ps q => ?_⟩, I.loc, I.cell, ne I.free, fun x c q => ne (I.freeC x c q), fun p hp => ?_, I.hok.swap e h1 h2 new, I.len⟩
  · have q' := I.base.tups b xs q
    rw [upd_ne (fun z => by rw [z, e] at q'; exact h2 _ (Option.some.inj q'))]
    exact q'
  · have q' := I.base.frzs b o u q
    rw [upd_ne (fun z => by
      rcases h4 with h4 | h4
      · rw [z, e] at q'; exact h4 _ _ (Option.some.inj q')
      · rw [z] at q; exact h4 _ _ q)]
    exact q'
  · obtain ⟨more, q'⟩ := I.base.tbls b ps q
    refine ⟨more, ?_⟩
    rw [upd_ne (fun z => by rw [z, e] at q'; exact h3 _ (Option.some.inj q'))]
    exact q'
  · obtain ⟨a, b, r⟩ := I.pin p hp
    exact ⟨a, ne b, r⟩
def Thaw (X : Cx) (H H' : Hp) : Prop := ∃ d o kvs, H d = some (.frz o (.dK kvs)) ∧ NF X d ∧ H' = upd H d (.dK kvs)
theorem Inv.thaw {H' : Hp} (I : Inv X pins σ H s) (t : Thaw X H H') : Inv X pins σ H' s := by
  obtain ⟨d, o, kvs, e, nf, rfl⟩ := t
  obtain ⟨g, ok⟩ : s.heap.get? d = some o ∧ ObjOk X.prog X.w H s.heap d (.dK kvs) := I.hok d _ e
  exact I.swap e (fun y z => nomatch z) (fun xs z => nomatch z) (fun ps z => nomatch z) (.inr nf) (show ObjOk X.prog X.w _ s.heap d (.dK kvs) from ok)
def thawD (X : Cx) (D : Ends) : Ends := { D with nx := fun σ H => ∃ H', Thaw X H H' ∧ D.nx σ H', rt := fun v H => ∃ H', Thaw X H H' ∧ D.rt v H' }
theorem ps_thaw {st : Stmt} {t : TS} (h : PS X st t) : PS X st (fun D σ H => t (thawD X D) σ H) := by
  unfold PS at *
  exact by
    intro pins s σ H D I q
    refine thn (h pins s σ H (thawD X D) I q) fun f s1 q1 => ?_
    cases f with
    | next => obtain ⟨σ', H', I', H2, tw, n⟩ := q1; exact ⟨σ', H2, I'.thaw tw, n⟩
    | brk => exact q1
    | cont => exact q1
    | ret u => obtain ⟨v, σ', H', I', r, H2, tw, n⟩ := q1; exact ⟨v, σ', H2, I'.thaw tw, r, n⟩
def Itk (d : Addr) (o : Obj) (kvs : List (Key × V)) : It :=
  ⟨fun i H => H d = some (.frz o (.dK kvs)) ∧ i < kvs.length, fun i H x H' => H' = H ∧ ∃ p, kvs[i]? = some p ∧ x = kV p.1, fun i H => H d = some (.frz o (.dK kvs)) ∧ i = kvs.length⟩
theorem frz_at {o : Obj} {kvs : List (Key × V)} {es : Array DictEntry} {ep : Nat} (I : Inv X pins σ H s) (e : H d = some (.frz o (.dK kvs))) (ho : o.data = .dict es ep) : ∃ vs, KV kvs vs ∧ s.heap.DictAt (mixKind X.prog X.w) d vs ep := by
  obtain ⟨g, _, _, vs, r, o', es', ep', g', c, hd, k⟩ : s.heap.get? d = some o ∧ kvs.length ≤ sizeLine ∧ (d == sysModules) = false ∧ ∃ vs, KV kvs vs ∧ s.heap.DictOf (mixKind X.prog X.w) d vs := I.hok d _ e
  rw [g] at g'
  cases g'
  rw [ho] at hd
  cases hd
  exact ⟨vs, r, o, es, g, c, ho, k⟩
theorem turn_keys {P : Program} {w : World} {K : PySem.W.Frag} {tg : Expr} {o : Obj} {kvs : List (Key × V)} {es : Array DictEntry} {ep : Nat} (d it : Addr) (ho : o.data = .dict es ep) : Turn P w K tg (Itk d o kvs) [it] it (fun i h => h.IsKeyIter it d i kvs.length ep) where
  mem := by simp
  obj := fun i h st b hb => by
    have e : b = it := by simpa using hb
    subst e
    obtain ⟨o, e, c, d⟩ := st
    exact ⟨o, e, fun v z => by rw [d] at z; cases z⟩
  keep := fun i h h' st k => by
    obtain ⟨o, e, c⟩ := st
    exact ⟨o, k it (by simp) o e, c⟩
  item := by
    intro X hP hw hK hc i pins s σ H E I hf st hg
    subst hP hw hK
    obtain ⟨e, hi⟩ := hg
    obtain ⟨vs, r, dd⟩ := frz_at I e ho
    have hl : kvs.length = vs.length := KV.length r
    obtain ⟨f0, f1, f2, f3, f4, f5⟩ := hf it (by simp)
    obtain ⟨p, hp⟩ : ∃ p, kvs[i]? = some p := ⟨_, List.getElem?_eq_getElem hi⟩
    obtain ⟨q, hq, h1, h2⟩ := paired_get r hp
    obtain ⟨q1, q2⟩ := q
    rw [hl] at st
    refine wpAny_pyNext_dict_item st dd hq fun key h' hk st' sb => ?_
    have I1 : Inv X pins σ H { s with heap := h' } := I.turned (t' := s.toks) (fun b o hb e => (sb.2 b hb).trans e) f0 f1 f3 f4 f5
    obtain ⟨oi, ei, c, dt⟩ := id st'
    refine ⟨key, rfl, go_of (s := { s with heap := h' }) ei c dt (by decide) ⟨kV p.1, H, I1, ?_, ⟨rfl, p, hp, rfl⟩, by rw [hl]; exact st', fun b hb => (hf b hb).1⟩⟩
    rw [h1]
    exact rel_key hk
  done := by
    intro X hP hw hK hc i pins s σ H E I hf st hg
    subst hP hw hK
    obtain ⟨e, hi⟩ := hg
    obtain ⟨vs, r, dd⟩ := frz_at I e ho
    have hl : kvs.length = vs.length := KV.length r
    obtain ⟨f0, f1, f2, f3, f4, f5⟩ := hf it (by simp)
    rw [hl] at st
    exact wpAny_pyNext_dict_end (I.ok.hd hc) st dd (by simp; omega) fun h' eb => ⟨rfl, I.turned (t' := s.toks) (fun b o hb e => eb b o hb e) f0 f1 f3 f4 f5⟩
  self := fun _ _ _ _ _ st h => wpAny_pyIter_keyiter st h
theorem Inv.freeze {kvs : List (Key × V)} (I : Inv X pins σ H s) (e : H d = some (.dK kvs)) : ∃ o es ep vs, o.data = .dict es ep ∧ NF X d ∧ Inv X pins σ (upd H d (.frz o (.dK kvs))) s ∧ KV kvs vs ∧ (d == sysModules) = false ∧ s.heap.DictAt (mixKind X.prog X.w) d vs ep := by
  obtain ⟨z, lo, vs, r, o, es, ep, g, c, hd, k⟩ := dk_of I.hok e
  refine ⟨o, es, ep, vs, hd, fun o u q => ?_, ?_, r, lo, o, es, g, c, hd, k⟩
  · have := I.base.frzs d o u q
    rw [e] at this
    cases this
  · exact I.swap e (fun y z => nomatch z) (fun xs z => nomatch z) (fun ps z => nomatch z) (.inl fun o u z => nomatch z) (show ObjOk X.prog X.w _ s.heap d (.frz o (.dK kvs)) from ⟨g, z, lo, vs, r, o, es, ep, g, c, hd, k⟩)
def iKeys (X : Cx) (tl : TE) : TI := fun σ H R => tl σ H fun x H1 => ∃ d kvs, x = .ref d ∧ H1 d = some (.dK kvs) ∧ ∀ o, NF X d → R (Itk d o kvs) (upd H1 d (.frz o (.dK kvs)))
theorem pi_keys {tg l : Expr} {tl : TE} (hl : PE X l tl) : PI X tg l (iKeys X tl) := by
  unfold PE at *; unfold PI at *
  exact by
    intro pins s σ H R I h
    refine thn (hl pins s σ H _ I h) fun v s1 ⟨x, H1, I1, r1, q1⟩ => ?_
    obtain ⟨d, kvs, e, hd, q⟩ := q1
    subst e
    cases r1
    obtain ⟨o, es, ep, vs, ho, nf, I2, r, lo, dd⟩ := I1.freeze hd
    refine wpAny_pyIter_dict lo dd ?_
    refine ⟨s1.heap.objs.size, [s1.heap.objs.size], _, _, _, rfl, I2.kept (t' := s1.toks) fun b o e => Heap.get?_push_of_some _ e, turn_keys d _ ho, ⟨_, Heap.get?_push_size _ rfl, rfl, by rw [KV.length r]; rfl⟩, fun b hb => ?_, q o nf⟩
    have e : b = s1.heap.objs.size := by simpa using hb
    subst e
    exact I2.fpOk (Nat.le_refl _) (I2.hok.fresh (Nat.le_refl _))
theorem for_dict {kvs : List (Key × V)} {o : Obj} {J : It} {f : Key × V → V} (hJ : J = ⟨fun i H => H d = some (.frz o (.dK kvs)) ∧ i < kvs.length, fun i H x H' => H' = H ∧ ∃ p, kvs[i]? = some p ∧ x = f p, fun i H => H d = some (.frz o (.dK kvs)) ∧ i = kvs.length⟩) {g : TG} {tb : TS} {D : Ends} {σ : St} {H : Hp} (Pv : Nat → St → Hp → Prop) (h0 : Pv 0 σ H) (hl : ∀ i σ H, i ≤ kvs.length → Pv i σ H → H d = some (.frz o (.dK kvs)))
    (hs : ∀ i p σ H, kvs[i]? = some p → Pv i σ H → g (f p) σ H fun σ2 H2 => tb { D with nx := Pv (i + 1), ct := Pv (i + 1), bk := D.nx } σ2 H2) (hd : ∀ σ H, Pv kvs.length σ H → D.nx σ H) :
    ∃ W : Nat → Nat → St → Hp → Prop, (∃ m, W 0 m σ H) ∧ ∀ i m σ H, W i m σ H →
      (J.stop i H ∧ D.nx σ H) ∨ (J.go i H ∧ ∃ N : St → Hp → Prop, (∀ σ' H', N σ' H' → ∃ m', m' < m ∧ W (i + 1) m' σ' H') ∧ ∀ x H', J.yld i H x H' → g x σ H' fun σ2 H2 => tb { D with nx := N, ct := N, bk := D.nx } σ2 H2) := by
  subst hJ
  refine ⟨fun i m σ H => m = kvs.length - i ∧ i ≤ kvs.length ∧ Pv i σ H, ⟨kvs.length, by simp, Nat.zero_le _, h0⟩, ?_⟩
  rintro i m σ H ⟨rfl, hi, p⟩
  have q := hl i σ H hi p
  by_cases hlt : i < kvs.length
  · refine .inr ⟨⟨q, hlt⟩, Pv (i + 1), fun σ' H' p' => ⟨kvs.length - (i + 1), by omega, rfl, hlt, p'⟩, fun x H' y => ?_⟩
    obtain ⟨rfl, p', e1, rfl⟩ := y
    exact hs i p' σ _ e1 p
  · have e : i = kvs.length := by omega
    subst e
    exact .inl ⟨⟨q, rfl⟩, hd σ H p⟩
theorem loop_dict {kvs : List (Key × V)} {o : Obj} {J : It} {f : Key × V → V} (hJ : J = ⟨fun i H => H d = some (.frz o (.dK kvs)) ∧ i < kvs.length, fun i H x H' => H' = H ∧ ∃ p, kvs[i]? = some p ∧ x = f p, fun i H => H d = some (.frz o (.dK kvs)) ∧ i = kvs.length⟩) {l : Addr} {g : TG} {tc : TT} {te : TE} {σ : St} {H : Hp} {Q : VK} (Pv : Nat → St → List V → Hp → Prop) (hsz : kvs.length ≤ sizeLine) (h0 : Pv 0 σ [] H)
    (hl : ∀ i σ acc H, i ≤ kvs.length → Pv i σ acc H → H l = some (.lst acc) ∧ H d = some (.frz o (.dK kvs)) ∧ acc.length ≤ i)
    (hs : ∀ i p σ acc H, kvs[i]? = some p → Pv i σ acc H → g (f p) σ H fun σ2 H2 => tc σ2 H2 fun b H3 => if b = true then
      te σ2 H3 fun v H4 => H4 l = some (.lst acc) ∧ Nx kvs.length i (Pv (i + 1) σ2 (acc ++ [v]) (upd H4 l (.lst (acc ++ [v])))) else Nx kvs.length i (Pv (i + 1) σ2 acc H3))
    (hd : ∀ σ acc H, Pv kvs.length σ acc H → Q (.ref l) H) : tLoop J l g tc te σ H Q := by
  subst hJ
  exact loop_by kvs.length Pv hsz h0 (fun i σ acc H hi p => ⟨(hl i σ acc H hi p).1, (hl i σ acc H hi p).2.2⟩)
    (fun i σ acc H hi p => ⟨(hl i σ acc H (Nat.le_of_lt hi) p).2.1, hi⟩)
    (fun i x σ acc H H' hi p y => by
      obtain ⟨rfl, p', e1, rfl⟩ := y
      exact hs i p' σ acc _ e1 p)
    (fun σ acc H p => ⟨⟨(hl _ σ acc H (Nat.le_refl _) p).2.1, rfl⟩, hd σ acc H p⟩)
end
end L2
namespace L2
open PySem PySem.Spec PyProof.Rows
section
variable {X : Cx} {CX : CXT} {k : Nat} {f C : Addr} {fd : FuncData} {ps : List Str} {sp : Sp} {dvs : List V} {ds : List Value} {Ez : St → XK} {x m : Str} {p pos apos : Pos} {e o : Expr} {es : List Expr} {ta : TE} {t : TA}
end
end L2
namespace L2
open PySem PySem.Spec PyProof.Rows
end L2
namespace L2
open PySem PySem.Spec PyProof.Rows
section
variable {prog : Program} {w : World} {A : Around} {E : Value → Shared → Prop} {s : Shared} {T : String} {r d : Addr} {n : Nat} {P : Nat → Value → Prop} {OK : Heap → Prop}
theorem collect_src (K : PySem.W.KdlSrc prog w T r d n P OK) (hh : A.handled = none) (hok : OK s.heap) (hn : n ≤ sizeLine) {Q : List Value → Shared → Prop}
    (hQ : ∀ h' tk acc' c', (∀ b o, s.heap.get? b = some o → h'.get? b = some o) → h'.get? s.heap.objs.size = some { cls := .type "list", dict := none, data := .seq acc' c', slots := #[] } → ItemsOf P acc' n → Q acc'.toList { s with heap := h', toks := tk }) :
    wpAny (model prog w) A (collect (.ref r)) Q E s := by
  have hlt := K.there _ hok
  unfold collect
  refine wpAny_bind (wpAny_runValue (codeAny_builtin entry_proto_collect' ?_))
  show wpAny _ _ (do again (.builtin "list.__iadd__" ⟨[← newList [], .ref r], []⟩)) _ _ s
  refine wpAny_bind (wpAny_newList (wpAny_pure ⟨Code.quiet_builtin _ (by decide +kernel), codeAny_builtin entry_list_iadd' ?_⟩))
  show wpAny _ _ (Builtin.List.listExtendWith (.ref s.heap.objs.size) (.ref r) (.ref s.heap.objs.size)) _ _ { s with heap := s.heap.push (seqObj "list" #[] 0) }
  refine PySem.W.kdl_extend (A := A) (R := fun r s' => match r with
      | Except.ok (Flow.ret v) => wpAny (model prog w) A (match v with
          | Value.ref a => do
            let o ← load a
            match o.data with
            | Data.seq xs _ => pure xs.toList
            | _ => unsupported "internal:collect"
          | _ => unsupported "internal:collect") Q E s'
      | Except.ok _ => False
      | Except.error e => E e s') (s := { s with heap := s.heap.push (seqObj "list" #[] 0) }) K (by exact hh) (K.keep _ _ hok fun b _ o e => Heap.get?_push_of_some _ e) s.heap.objs.size (Nat.ne_of_gt hlt.1) (Nat.ne_of_gt hlt.2) _ 0 (Heap.get?_push_size _ rfl) (fun h' tk acc' c' hk hS hacc => ?_) hn
  show wpAny (model prog w) A (do
      let o ← load s.heap.objs.size
      match o.data with
      | .seq xs _ => pure xs.toList
      | _ => unsupported "internal:collect") Q E _
  refine wpAny_bind (wpAny_load hS ?_)
  show wpAny _ _ (pure acc'.toList) Q E _
  exact wpAny_pure (hQ h' tk acc' c' (fun b o e => hk b o (Nat.ne_of_lt (Heap.lt_size e)) (Heap.get?_push_of_some _ e)) hS hacc)
theorem sorted_src {ns : List Int} {Q : Value → Shared → Prop} (K : PySem.W.KdlSrc prog w T r d n P OK) (hh : A.handled = none) (hok : OK s.heap) (h64 : n < 64) (hI : ∀ acc', ItemsOf P acc' n → IntsAre acc'.toList ns)
    (h : ∀ h' tk l e (out : Array Value) (ns' : List Int), (∀ b o, s.heap.get? b = some o → h'.get? b = some o) → s.heap.objs.size ≤ l → h'.get? l = some (seqObj "list" out e) → IntsAre out.toList ns' → ns'.Perm ns → ns'.Pairwise (· ≤ ·) → Q (.ref l) { s with heap := h', toks := tk }) :
    wpAny (model prog w) A (call (.builtin "sorted") [.ref r]) Q E s := by
  have sz : 64 ≤ sizeLine := le_ble rfl
  refine Calls.call_function_entry kind_sorted plain_sorted entry_sorted (args_sorted1 _) ?_
  unfold Builtin.«sorted»
  refine wpAny_bind (m := checkCount "sorted" 1 1 _) (wpAny_pure ?_)
  refine wpAny_bind (collect_src K (by exact hh) hok (by omega) fun h' tk acc' c' hk hS hacc => ?_)
  refine wpAny_bind (wpAny_newList (hsz := by rw [Array.length_toList, hacc.1]; omega) ?_)
  have hoL : (h'.push (seqObj "list" acc'.toList.toArray 0)).get? h'.objs.size = some (seqObj "list" acc'.toList.toArray 0) := Heap.get?_push_size _ rfl
  have hl : acc'.toList.length < 64 := by rw [Array.length_toList, hacc.1]; exact h64
  refine wpAny_bind (wpAny_holding (wpAny_call_entry slot_list_sort ⟨_, hoL, rfl⟩ entry_list_sort (list_sort_tree hoL (hI _ hacc) hl fun out ns' a1 a2 a3 => ⟨_, rfl, ?_⟩) (args_list_sort _)))
  obtain ⟨e, he⟩ := sortedHeap_at (out := out) hoL
  refine wpAny_pure ⟨_, rfl, h _ tk h'.objs.size e out ns' (fun b o hb => ?_) (Nat.le_of_lt (Heap.lt_size hS)) he a1 a2 a3⟩
  have hb' := hk b o hb
  have hlt := Heap.lt_size hb'
  rw [sortedHeap_old (Nat.ne_of_lt hlt) (by rw [size_push']; exact Nat.lt_succ_of_lt hlt)]
  exact Heap.get?_push_of_some _ hb'
end
section
variable {X : Cx}
theorem call_sorted_dK (hc : X.calm = true) : CallR X (.builtin "sorted") (fun xs H Q => ∃ (d : Addr) (kvs : List (Key × V)) (ns : List Int), xs = [.ref d] ∧ H d = some (.dK kvs) ∧ kvs.map (·.1) = ns.map Sum.inl ∧ ns.length < 64 ∧
    ∀ (l : Addr) (ms : List Int), H l = none → ms.Perm ns → ms.Pairwise (· ≤ ·) → Q (.ref l) (upd H l (.lst (ms.map V.int)))) := by
  unfold CallR at *
  exact by
    intro pins s σ H xs us Q I r h
    obtain ⟨d, kvs, ns, rfl, hd, hk, hl, q⟩ := h
    obtain ⟨u, rfl, rx⟩ := vals1 r
    cases rx
    obtain ⟨hz, lo, vs, kv, o, es, ep, ho, hx, hdat, hke, hp, hn⟩ := I.hok d _ hd
    have hlv : kvs.length = vs.length := Paired.length kv
    have hln : kvs.length = ns.length := by rw [← List.length_map (f := fun p : Key × V => p.1), hk, List.length_map]
    have h64 : 64 ≤ sizeLine := le_ble rfl
    refine sorted_src (ns := ns) (PySem.W.kdl_dict (kvs := vs) (ep := ep) (knd := mixKind X.prog X.w) lo) (I.ok.hd hc) ⟨o, es, ho, hx, hdat, hke, hp, hn⟩ (by omega) (fun acc' hacc => ?_) fun h' tk l e out ns' hkk hle hS a1 a2 a3 => ?_
    · have hv : Vals (ns.map V.int) acc'.toList := by
        refine vals_get (by have h1 : acc'.toList.length = acc'.size := Array.length_toList; have h2 : acc'.size = vs.length := hacc.1; rw [List.length_map]; omega) fun j x u hx hu => ?_
        obtain ⟨k, y, e1, e2⟩ := hacc.2 j u (by rw [← Array.getElem?_toList]; exact hu)
        obtain ⟨p, hp'⟩ : ∃ p, kvs[j]? = some p := ⟨_, List.getElem?_eq_getElem (by rw [hlv]; exact (List.getElem?_eq_some_iff.mp e1).1)⟩
        obtain ⟨p', e4, e5, _⟩ := paired_get kv hp'
        rw [e1] at e4
        cases e4
        have e6 : (kvs.map (·.1))[j]? = some k := by rw [List.getElem?_map, hp']; exact congrArg some e5
        rw [hk, List.getElem?_map] at e6
        rw [List.getElem?_map] at hx
        cases hj : ns[j]? with
        | none => rw [hj] at hx; cases hx
        | some m =>
          rw [hj] at hx e6
          cases hx
          cases e6
          exact rel_key (k := Sum.inl m) e2
      exact ints_are hv
    · have hn' := a2.length_eq
      exact ⟨.ref l, _, I.laid (t' := tk) hkk hle (show ObjOk X.prog X.w _ _ _ (.lst (ns'.map V.int)) from ⟨by rw [List.length_map]; omega, out.toList, e, ints_vals a1, hS⟩), rfl, q _ _ (I.hok.fresh hle) a2 a3⟩
end
theorem sorted_one : ∀ {a b : List Int}, a.Pairwise (· ≤ ·) → b.Pairwise (· ≤ ·) → a.Perm b → a = b
  | [], b, _, _, h => h.nil_eq
  | x :: a, b, ha, hb, h => by
    cases b with
    | nil => exact absurd h.length_eq (by simp)
    | cons y b =>
      rw [List.pairwise_cons] at ha hb
      have hx : x ∈ y :: b := h.subset (List.mem_cons_self ..)
      have hy : y ∈ x :: a := h.symm.subset (List.mem_cons_self ..)
      have e : x = y := by
        rcases List.mem_cons.mp hx with q | q
        · exact q
        · rcases List.mem_cons.mp hy with q2 | q2
          · exact q2.symm
          · exact Int.le_antisymm (ha.1 y q2) (hb.1 x q)
      subst e
      rw [sorted_one ha.2 hb.2 (List.perm_cons x |>.mp h)]
section
variable {X : Cx}
end
theorem cut_lit (xs : List V) (k : Nat) : cutV xs none (some (k : Int)) = xs.take k := by
  unfold cutV
  rw [HT.sIx_nat, HT.sIx_none, List.drop_zero, Nat.sub_zero]
  have h := List.take_take (i := k) (j := xs.length) (l := xs)
  rw [List.take_length] at h
  exact h.symm
end L2
namespace L2
open PySem PySem.Spec PyProof.Rows
theorem dict_anyW {P P' : Program} {w w' : World} {h : Heap} {a : Addr} {vs : List (Key × Value)} (d : h.DictOf (mixKind P w) a vs) (hi : ∀ p ∈ vs, ∃ n : Int, p.1 = Sum.inl n) : h.DictOf (mixKind P' w') a vs := by
  obtain ⟨o, es, ep, g, c, hd, hk, hp, hn⟩ := d
  have pp : ∀ {el : List DictEntry} {vl : List (Key × Value)}, Pairs (mixKind P w) el vl → (∀ p ∈ vl, ∃ n : Int, p.1 = Sum.inl n) → Pairs (mixKind P' w') el vl ∧ ∀ e ∈ el, ∃ n : Int, keyIs (Sum.inl n) e.key = true := by
    intro el vl h
    induction h with
    | nil => intro _; exact ⟨.nil, fun _ h => nomatch h⟩
    | @cons e kv es kvs h1 h2 _ ih =>
      intro hi
      obtain ⟨i1, i2⟩ := ih fun p hp => hi p (List.mem_cons_of_mem _ hp)
      refine ⟨.cons h1 h2 i1, fun x hx => ?_⟩
      rcases List.mem_cons.mp hx with q | q
      · obtain ⟨n, hn⟩ := hi kv (List.mem_cons_self ..)
        rw [q]
        exact ⟨n, by rw [← hn]; exact h1⟩
      · exact i2 x q
  obtain ⟨p1, p2⟩ := pp hp hi
  refine ⟨o, es, ep, g, c, hd, fun e he => ?_, p1, hn⟩
  obtain ⟨k, k1, k2⟩ := hk e he
  obtain ⟨n, hn'⟩ := p2 e (by simpa using he)
  have e1 : k = Sum.inl n := (mixKind P w).inj e.key k (Sum.inl n) k1 hn'
  subst e1
  exact ⟨_, k1, k2⟩
theorem kv_ints {ka : List (Key × V)} {va : List (Key × Value)} (r : KV ka va) (hi : ∀ p ∈ ka, ∃ n : Int, p.1 = Sum.inl n) : ∀ p ∈ va, ∃ n : Int, p.1 = Sum.inl n := by
  unfold KV at r
  induction r with
  | nil => exact fun _ h => nomatch h
  | @cons p q ps qs h t ih =>
    intro x hx
    rcases List.mem_cons.mp hx with e | e
    · obtain ⟨n, hn⟩ := hi p (List.mem_cons_self ..)
      rw [e, ← h.1]
      exact ⟨n, hn⟩
    · exact ih (fun p hp => hi p (List.mem_cons_of_mem _ hp)) x e
def DEq (K : PySem.W.Frag) (H : Hp) (n : Nat) (u v : V) : Prop := ∃ a b ka kb, u = .ref a ∧ v = .ref b ∧ Rd H a (.dK ka) ∧ Rd H b (.dK kb) ∧ ka.length = kb.length ∧ (∀ p ∈ ka, ∃ y, valV kb p.1 = some y ∧ EqD K H n p.2 y true) ∧ (∀ p ∈ ka, ∃ m : Int, p.1 = Sum.inl m) ∧ ∀ p ∈ kb, ∃ m : Int, p.1 = Sum.inl m
section
variable {X : Cx} {pins : List (Addr × Obj)} {σ : St} {H : Hp} {s : Shared}
theorem hits_at (I : Inv X pins σ H s) {A : Around} {n : Nat} {kb : List (Key × V)} {vb : List (Key × Value)} (rb : KV kb vb) (hu : A.units + n < cLine) : ∀ {ka : List (Key × V)} {va : List (Key × Value)}, KV ka va →
    (∀ p ∈ ka, ∃ y, valV kb p.1 = some y ∧ EqD X.K H n p.2 y true) → PySem.W.KeqHits A s vb va true := by
  intro ka va r
  unfold KV at r
  induction r with
  | nil => intro _; exact .nil
  | @cons p q ps qs h t ih =>
    intro hall
    obtain ⟨y, hy, he⟩ := hall p (List.mem_cons_self ..)
    obtain ⟨w, hw, rw'⟩ := RelO.some_of (v := y) (o := valueAt vb q.1) (by rw [← hy, h.1]; exact rb.val q.1)
    obtain ⟨q1, q2⟩ := q
    exact PySem.W.KeqHits.hit (e := true) (b := true) hw (EqD.at I n A p.2 y true q2 w hu he h.2 rw') (ih fun p' hp' => hall p' (List.mem_cons_of_mem _ hp'))
theorem DEq.at (I : Inv X pins σ H s) {A : Around} {n : Nat} {x y : V} {u v : Value} (hu : A.units + 1 + n < cLine) (h : DEq X.K H n x y) (rx : RelV x u) (ry : RelV y v) : SeqAt.EqAt A s u v true := by
  obtain ⟨a, b, ka, kb, rfl, rfl, ha, hb, hl, hall, ia, ib⟩ := h
  cases rx
  cases ry
  obtain ⟨za, da, va, ra, oa⟩ := dk_rd I.hok ha
  obtain ⟨zb, db, vb, rb, ob⟩ := dk_rd I.hok hb
  by_cases hab : a = b
  · subst hab
    exact SeqAt.EqAt.same _
  · refine SeqAt.EqAt.of_refs hab fun prog w E Q hq => ?_
    have oa' := dict_anyW (P' := prog) (w' := w) oa (kv_ints ra ia)
    have ob' := dict_anyW (P' := prog) (w' := w) ob (kv_ints rb ib)
    refine PySem.W.keq_eq da db oa' ob' (by omega) (fun _ => hits_at (A := A.in1) I rb (by show A.units + 1 + n < cLine; exact hu) ra hall) ?_
    rw [← ra.length, ← rb.length, hl, beq_self_eq_true, Bool.true_and]
    exact hq
end
end L2
namespace L2
open PySem PySem.Spec PyProof.Rows
end L2
namespace L2
open PySem PySem.Spec PyProof.Rows
structure RoomH (k : Nat) (A : Around) : Prop where
  dp : A.depth + 3 * k + 5 < recursionLimit
  un : A.units + 16 * k + 200 < cLine
theorem RoomH.mono {j k : Nat} {A : Around} (r : RoomH k A) (h : j ≤ k) : RoomH j A := ⟨by have := r.dp; omega, by have := r.un; omega⟩
theorem RoomH.deeper {k : Nat} {A : Around} (r : RoomH (k + 1) A) (env : Env) : RoomH k (A.deeper env) :=
  ⟨by have := r.dp; show A.depth + 1 + 3 * k + 5 < _; omega, by have := r.un; show A.units + 3 + 16 * k + 200 < _; omega⟩
theorem RoomH.depth {k : Nat} {A : Around} (r : RoomH k A) : A.depth < recursionLimit := by have := r.dp; omega
section
variable {X : Cx} {CX : CXT} {k : Nat} {f C : Addr} {fd : FuncData} {ps : List Str} {sp : Sp} {dvs : List V} {ds : List Value} {E : XK} {x m : Str} {p pos apos : Pos} {e o : Expr} {es : List Expr} {ta : TE} {t : TA}
end
section
variable {P : Program} {w : World} {K : PySem.W.Frag} {mg : Str → Option Value} {base : Heap}
end
end L2
namespace L2
open PySem PySem.Spec PyProof.Rows
section
variable {prog : Program} {w : World} {A : Around} {E : Value → Shared → Prop} {s : Shared}
end
section
variable {prog : Program} {w : World} {A : Around} {E : Value → Shared → Prop} {s : Shared}
end
section
variable {X : Cx}
def OptT (H : Hp) (v : V) (nm : Option (List Str)) : Prop := match nm with | none => v = .non | some z => ∃ t, v = .ref t ∧ H t = some (.tup (z.map V.str))
end
theorem eqL_txt : ∀ (a b : List Str), eqL (a.map V.str) (b.map V.str) = decide (a = b)
  | [], [] => rfl
  | [], _ :: _ => rfl
  | _ :: _, [] => rfl
  | x :: a, y :: b => by
    show (eqV (.str x) (.str y) && eqL (a.map V.str) (b.map V.str)) = _
    rw [eqL_txt a b]
    by_cases h : x = y
    · subst h
      rw [eqV_self rfl, Bool.true_and]
      by_cases q : a = b
      · rw [decide_eq_true q, decide_eq_true (by rw [q])]
      · rw [decide_eq_false q, decide_eq_false (fun z => q (List.cons.inj z).2)]
    · have e : eqV (.str x) (.str y) = false := by
        simp [eqV]
        exact h
      rw [e, decide_eq_false (fun z => h (List.cons.inj z).1)]
      rfl
theorem flat_txt (zs : List Str) : (zs.map V.str).all flatV = true := by
  rw [List.all_eq_true]
  intro x hx
  obtain ⟨z, _, rfl⟩ := List.mem_map.mp hx
  rfl
theorem tup_txt {K : PySem.W.Frag} {H : Hp} {n : Nat} {t u : Addr} {a b : List Str} (h1 : H t = some (.tup (a.map V.str))) (h2 : H u = some (.tup (b.map V.str))) : SeqEq K H (EqD K H n) (.ref t) (.ref u) (decide (a = b)) := by
  by_cases hl : a.length = b.length
  · have h := SeqEq.flatT (K := K) (H := H) (n := n) (SqT.of h1) (SqT.of h2) (by rw [List.length_map, List.length_map, hl]) (flat_txt a) (flat_txt b)
    rw [eqL_txt] at h
    exact h
  · have h := SeqEq.tup (K := K) (H := H) (R := EqD K H n) (e := fun i => eqV ((a.map V.str).getD i .non) ((b.map V.str).getD i .non)) (SqT.of h1) (SqT.of h2) fun i x y hx hy => ?_
    · have e1 : ((a.map V.str).length == (b.map V.str).length) = false := by
        rw [List.length_map, List.length_map]
        exact beq_eq_false_iff_ne.mpr hl
      rw [e1, Bool.and_false] at h
      rw [decide_eq_false (fun z => hl (by rw [z]))]
      exact h
    · have q : flatV x = true ∧ flatV y = true ∧ eqV ((a.map V.str).getD i .non) ((b.map V.str).getD i .non) = eqV x y := by
        refine ⟨List.all_eq_true.mp (flat_txt a) x (List.mem_of_getElem? hx), List.all_eq_true.mp (flat_txt b) y (List.mem_of_getElem? hy), ?_⟩
        rw [List.getD_eq_getElem?_getD, List.getD_eq_getElem?_getD, hx, hy]
        rfl
      cases n with
      | zero => exact .inl q
      | succ n => exact .inl (.inl q)
theorem OptT.eqd {K : PySem.W.Frag} {H : Hp} {x y : V} {a : Option (List Str)} (h1 : OptT H x a) (h2 : OptT H y a) (n : Nat) : EqD K H (n + 1) x y true := by
  cases a with
  | none =>
    obtain rfl : x = .non := h1
    obtain rfl : y = .non := h2
    exact .inl (.inl ⟨rfl, rfl, rfl⟩)
  | some z =>
    obtain ⟨t, rfl, ht⟩ := h1
    obtain ⟨u, rfl, hu⟩ := h2
    have h := tup_txt (K := K) (n := n) ht hu
    rw [decide_eq_true rfl] at h
    exact .inr h
end L2
namespace L2
open PySem PySem.Spec PyProof.Rows
theorem AtR.eqd {K : PySem.W.Frag} {H : Hp} : ∀ {n : Nat} {v w : V} {t : Tr n}, AtR H n v t → AtR H n w t → EqD K H n v w true
  | 0, v, w, t, h1, h2 => by
    have e1 : v = .int t := h1
    have e2 : w = .int t := h2
    subst e1 e2
    exact .inl ⟨rfl, rfl, (eqV_self (x := V.int t) rfl).symm⟩
  | n + 1, v, w, t, h1, h2 => by
    obtain ⟨a, vs, rfl, hA, la⟩ := h1.lst
    obtain ⟨b, ws, rfl, hB, lb⟩ := h2.lst
    have h := SeqEq.list (K := K) (R := EqD K H n) (e := fun _ => true) (SqL.of hA) (SqL.of hB) (by omega) fun i x y hx hy => by
      obtain ⟨x', t1, e1, e2, k1⟩ := h1.kid hA (List.getElem?_eq_some_iff.mp hx).1
      obtain ⟨y', t2, e3, e4, k2⟩ := h2.kid hB (List.getElem?_eq_some_iff.mp hy).1
      rw [hx] at e1; cases e1
      rw [hy] at e3; cases e3
      rw [e2] at e4; cases e4
      exact AtR.eqd k1 k2
    rw [all_range fun i _ => rfl] at h
    exact .inr h
theorem AtR.seq {K : PySem.W.Frag} {H : Hp} {n : Nat} {v w : V} {t : Tr (n + 1)} (h1 : AtR H (n + 1) v t) (h2 : AtR H (n + 1) w t) : SeqEq K H (EqD K H n) v w true := by
  rcases AtR.eqd (K := K) h1 h2 with (⟨e, _, _⟩ | ⟨a, e1, e2, _⟩) | h
  · obtain ⟨a, vs, rfl, _⟩ := h1.lst
    exact absurd e (by intro z; cases z)
  · subst e1 e2
    obtain ⟨_, vs, e, hA, la⟩ := h1.lst
    cases e
    have h := SeqEq.list (K := K) (R := EqD K H n) (e := fun _ => true) (SqL.of hA) (SqL.of hA) rfl fun i x y hx hy => by
      obtain ⟨x', t1, e1, e2, k1⟩ := h1.kid hA (List.getElem?_eq_some_iff.mp hx).1
      rw [hx] at hy; cases hy
      rw [hx] at e1; cases e1
      exact AtR.eqd k1 k1
    rw [all_range fun i _ => rfl] at h
    exact h
  · exact h
end L2
namespace L2
open PySem PySem.Spec PyProof.Rows PySem.W
section
variable {prog : Program} {w : World} {A : Around} {E : Value → Shared → Prop} {h : Heap} {g : Array GenState} {d : Drawn} {t : Nat} {os : OsState}
variable {nm q : Str} {C N : Addr} {bs bm : List Value} {hdct : Bool} {sn : List Str} {sub : List Value} {ab : Bool} {col : Option Bool} {dd : Option Addr} {k0 k1 k2 k3 k5 : Option Value} {K : Frag}
end
structure XCli (K : Frag) (C f : Addr) : Prop where
  ex : ∃ nm q N bs bm hdct sn sub ab col dd k0 k1 k2 k3 k5 es, K.lookup C = some (excClassObj nm q C N bs bm hdct sn sub ab col dd k0 k1 k2 k3 k5 "ValueError.__new__") ∧ NsK K N es ∧ nsFind es "__init__" = some (.ref f) ∧ TailK K bm
  fn : typeIn K (.ref f) = some (.type "function")
  kp : keepIn K (.ref C) = true
def exF (C : Value) (dd : Option Addr) (e : Addr) : HO := .ext fun h => ∃ oe vs, h.get? e = some oe ∧ oe.cls = C ∧ oe.dict = dd ∧ oe.data = .fields vs ∧ vs[1]? = some .none ∧ 0 < vs.size
section
variable {X : Cx} {k : Nat} {f C : Addr} {fd : FuncData} {ps : List Str} {sp : Sp} {x : Str} {p pos : Pos} {e : Expr} {es : List Expr} {t : TA} {na : Nat} {g : List Value → List Value → List Value} {gV : List V → List V → List V}
end
section
variable {M : Model} {A : Around} {E : Value → Shared → Prop} {s : Shared} {env : Env}
variable {nm q : Str} {C N : Addr} {bs bm : List Value} {hdct : Bool} {sn : List Str} {sub : List Value} {ab : Bool} {col : Option Bool} {dd : Option Addr} {k0 k1 k2 k3 k5 : Option Value} {newId : String}
end
section
variable {P : Program} {w : World} {K : PySem.W.Frag} {mg : Str → Option Value} {base : Heap} {N : List Str} {qual : Str} {scope : Scope} {f : Addr} {cd : Value} {A : Around} {outer : List Env} {s₀ : Shared} {H₀ : Hp} {E : XK}
end
section
variable {X : Cx} {k : Nat} {f C : Addr} {fd : FuncData} {ps : List Str} {sp : Sp} {x : Str} {np cpos pos : Pos} {e₀ : Expr} {rest : List Expr} {t : TA} {na : Nat} {g : List Value → List Value → List Value} {gV : List V → List V → List V} {E : XK}
end
theorem vals2X {x y : V} {us : List Value} (r : Vals [x, y] us) : ∃ u v, us = [u, v] ∧ RelV x u ∧ RelV y v := by
  cases r with
  | cons a r => cases r with
    | cons b r => cases r; exact ⟨_, _, rfl, a, b⟩
section
variable {X : Cx} {B : Addr} {x : Str} {p apos pos : Pos} {a b : Expr} {t : TA}
end
end L2
namespace L2
open PySem PySem.Spec PyProof.Rows PySem.W
section
variable {prog : Program} {w : World} {A : Around} {E : Value → Shared → Prop} {s : Shared} {K : Frag} {e C : Addr} {oe : Obj} {od : Option Obj}
end
def XD (H : Hp) (e C dx : Addr) (fs : List (Str × V)) : Prop := (H e = some (exF (.ref C) (some dx) e) ∨ H e = some (exO (.ref C) (some dx) e)) ∧ H dx = some (.xd fs)
section
variable {X : Cx}
def rIsiD (K : Frag) : List V → Hp → VK → Prop := fun xs H Q => ∃ e c cv C dx fs b, xs = [.ref e, c] ∧ ClsV c cv ∧ XD H e C dx fs ∧ XAsk K C ∧ kitOne K (.ref C) cv = some b ∧ Q (.bl b) H
def rIsiE (K : Frag) : List V → Hp → VK → Prop := fun xs H Q => rIsiA K xs H Q ∨ rIsiD K xs H Q
end
section
variable {prog : Program} {w : World} {A : Around} {E : Value → Shared → Prop} {K : Frag} {e C fI : Addr} {oe : Obj} {name : Str} {v : Value} {h : Heap} {g : Array GenState} {d : Drawn} {t : Nat} {os : OsState}
end
section
variable {X : Cx} {o value : Expr} {f : Str} {ta tv : TE} {pos pos' : Pos}
end
theorem XCli.mk2 {K : Frag} {C N A f : Addr} {nm q : Str} {bs : List Value} {hdct : Bool} {sn : List Str} {sub : List Value} {ab : Bool} {col : Option Bool} {dd : Option Addr} {k0 k1 k2 k3 k5 : Option Value} {es : Array DictEntry} {c d ep sl}
    {c0 : Value} {dd' : Option Addr} {cd : ClassData} {sl0 : Array (Option Value)} {es' : Array DictEntry} {c' d' ep' sl'}
    (l : K.lookup C = some (excClassObj nm q C N bs (.ref A :: vmro) hdct sn sub ab col dd k0 k1 k2 k3 k5 "ValueError.__new__")) (ln : K.lookup N = some ⟨c, d, .dict es ep, sl⟩) (sk : strKeysB es = true) (ni : nsFind es "__init__" = some (.ref f))
    (la : K.lookup A = some { cls := c0, dict := dd', data := .cls cd, slots := sl0 }) (lna : K.lookup cd.ns = some ⟨c', d', .dict es' ep', sl'⟩) (ska : strKeysB es' = true) (nia : nsFind es' "__init__" = none)
    (fn : isFn K (.ref f) = true) (kp : keepIn K (.ref C) = true) : XCli K C f :=
  ⟨⟨_, _, _, _, _, _, _, _, _, _, _, _, _, _, _, _, _, l, ⟨_, _, _, _, ln, strKeys_of sk⟩, ni, .own la ⟨_, _, _, _, lna, strKeys_of ska⟩ nia .base⟩, beq_iff_eq.mp fn, kp⟩
theorem rIsiE.xd {K : Frag} {H : Hp} {e C c dx : Addr} {fs : List (Str × V)} {b : Bool} {Q : VK} (h : XD H e C dx fs) (q : XAsk K C) (k : kitOne K (.ref C) (.ref c) = some b) (hQ : Q (.bl b) H) : rIsiE K [.ref e, .ref c] H Q :=
  .inr ⟨e, .ref c, _, C, dx, fs, b, rfl, .own c, h, q, k, hQ⟩
theorem XD.same {H H' : Hp} {e C dx : Addr} {fs : List (Str × V)} (h : XD H e C dx fs) (s : Same H H') : XD H' e C dx fs := ⟨h.1.imp (s _ _) (s _ _), s _ _ h.2⟩
def XE (H : Hp) (e C : Addr) : Prop := H e = some (exO (.ref C) none e) ∨ ∃ dx fs, XD H e C dx fs
theorem XE.same {H H' : Hp} {e C : Addr} (h : XE H e C) (s : Same H H') : XE H' e C := h.imp (s _ _) fun ⟨dx, fs, x⟩ => ⟨dx, fs, x.same s⟩
theorem rIsiE.xe {K : Frag} {H : Hp} {e C c : Addr} {b : Bool} {Q : VK} (h : XE H e C) (q : XAsk K C) (k : kitOne K (.ref C) (.ref c) = some b) (hQ : Q (.bl b) H) : rIsiE K [.ref e, .ref c] H Q := by
  rcases h with h | ⟨dx, fs, h⟩
  · exact .inl (rIsiA.exc h q k hQ)
  · exact .xd h q k hQ
end L2
namespace L2
open PySem PySem.Spec PyProof.Rows
section
variable {prog : Program} {w : World} {A : Around} {E : Value → Shared → Prop} {s : Shared}
def IsPairKey (prog : Program) (w : World) (h : Heap) (k : Key × List Key) (a : Addr) : Prop := ∃ o n u b, h.get? a = some o ∧ o.cls = .type "tuple" ∧ o.data = .seq #[u, .ref b] n ∧ (mixKind prog w).is k.1 u = true ∧ IsTupleKey (mixKind prog w) h k.2 b
theorem IsPairKey.typeIs {k : Key × List Key} {a : Addr} (x : IsPairKey prog w s.heap k a) : s.TypeIs (.ref a) "tuple" := let ⟨o, _, _, _, ho, hc, _⟩ := x; ⟨o, ho, hc⟩
theorem IsPairKey.inj {h : Heap} {a : Addr} {x y : Key × List Key} (hx : IsPairKey prog w h x a) (hy : IsPairKey prog w h y a) : x = y := by
  obtain ⟨o, n, u, b, ho, _, hd, h1, h2⟩ := hx
  obtain ⟨o', n', u', b', ho', _, hd', h1', h2'⟩ := hy
  obtain rfl : o = o' := Option.some.inj (ho.symm.trans ho')
  rw [hd] at hd'
  injection hd' with e _
  have e1 : [u, Value.ref b] = [u', Value.ref b'] := by simpa using congrArg Array.toList e
  injection e1 with e2 e3
  injection e3 with e4 _
  injection e4 with e5
  subst e2 e5
  obtain ⟨x1, x2⟩ := x
  obtain ⟨y1, y2⟩ := y
  exact Prod.ext ((mixKind prog w).inj _ _ _ h1 h1') (h2.inj h2')
theorem IsPairKey.keeps {h h' : Heap} {k : Key × List Key} {a d : Addr} {o : Obj} {es ep} (x : IsPairKey prog w h k a) (ho : h.get? d = some o) (hd : o.data = .dict es ep) (hs : Heap.SameBut d h h') : IsPairKey prog w h' k a := by
  obtain ⟨o', n, u, b, ho', hc, hd', h1, h2⟩ := x
  have hne : a ≠ d := by
    rintro rfl
    obtain rfl : o' = o := Option.some.inj (ho'.symm.trans ho)
    rw [hd] at hd'; exact nomatch hd'
  exact ⟨o', n, u, b, (hs.2 a hne).trans ho', hc, hd', h1, h2.keeps ho hd hs⟩
def pairHash (prog : Program) (w : World) (k : Key × List Key) : Int := reduceHash (Builtin.Tuple.tupleHashOf [(mixKind prog w).hash k.1, tupleKeyHash (mixKind prog w) k.2])
theorem pair_hash {k : Key × List Key} {a : Addr} {Q : Int → Shared → Prop} (hu : A.units + 4 < cLine) (hk : IsPairKey prog w s.heap k a) (h : Q (pairHash prog w k) { s with toks := s.toks + (1 + (k.2.length + 1) + 1) }) :
    wpAny (model prog w) A (pyHash (.ref a)) Q E s := by
  have hT := hk.typeIs
  obtain ⟨o, n, u, b, ho, _, hd, h1, h2⟩ := hk
  unfold pyHash
  first | unfold pyHashByItsType | skip
  first | refine wpAny_bind (wpAny_cRoomFor_or (.inr (by omega)) ?_) | skip
  refine wpAny_bind (wpAny_specialOf hT F.slot_tuple_hash.lookup ?_)
  show wpAny _ _ (if (some (Value.builtin "tuple.__hash__") == some Value.none) = true then _ else _) Q E s
  rw [if_neg (by rw [beq_builtin_none]; exact Bool.false_ne_true)]
  refine wpAny_bind (wpAny_specialOf hT F.slot_tuple_hash.lookup ?_)
  show wpAny _ _ (callSpecialIfBoundUnlessNone? (.ref a) "__hash__" _ >>= _) Q E s
  refine wpAny_bind (wpAny_callSpecialIfBoundUnlessNone?_slot hT F.slot_tuple_hash (wpAny_call_entry F.slot_tuple_hash hT F.entry_tuple_hash ?_ (F.args_tuple_hash_1 _)))
  show wpAny _ _ (Builtin.Tuple.tupleItemsOf (.ref a) >>= _) _ _ s
  refine wpAny_bind (wpAny_tupleItemsOf ho hd ?_)
  refine wpAny_bind ?_
  rw [← Array.forIn_toList]
  simp only [List.forIn_cons, List.forIn_nil]
  refine wpAny_bind (wpAny_bind ((mixKind prog w).pyHash h1 ?_))
  refine wpAny_pure (wpAny_bind (wpAny_bind (wpAny_pyHash_tuple (s := { s with toks := s.toks + 1 }) (by show A.units + 1 < cLine; omega) h2 ?_)))
  refine wpAny_pure (wpAny_pure ?_)
  show wpAny _ _ (retInt (Builtin.Tuple.tupleHashOf [(mixKind prog w).hash k.1, tupleKeyHash (mixKind prog w) k.2])) _ _ _
  refine wpAny_ret_mkInt ?_
  show wpAny _ _ (if (decide (-(2 : Int) ^ 63 ≤ Builtin.Tuple.tupleHashOf [(mixKind prog w).hash k.1, tupleKeyHash (mixKind prog w) k.2]) && decide (Builtin.Tuple.tupleHashOf [(mixKind prog w).hash k.1, tupleKeyHash (mixKind prog w) k.2] < 2 ^ 63)) = true then _ else _) Q E _
  unfold pairHash reduceHash at h
  by_cases hr : (decide (-(2 : Int) ^ 63 ≤ Builtin.Tuple.tupleHashOf [(mixKind prog w).hash k.1, tupleKeyHash (mixKind prog w) k.2]) && decide (Builtin.Tuple.tupleHashOf [(mixKind prog w).hash k.1, tupleKeyHash (mixKind prog w) k.2] < 2 ^ 63)) = true
  · rw [if_pos hr]
    rw [if_pos hr] at h
    exact wpAny_pure (by simpa [Nat.add_assoc] using h)
  · rw [if_neg hr]
    rw [if_neg hr] at h
    exact wpAny_bind (wpAny_rule (wpAny_pure (by simpa [Nat.add_assoc] using h)))
theorem pair_eq_tree {x y : Key × List Key} {a b : Addr} {P : Fin → Shared → Prop} (hu : A.units + 1 < cLine) (hx : IsPairKey prog w s.heap x a) (hy : IsPairKey prog w s.heap y b) (h : P (.done (.ret (.bool (decide (x = y))))) s) :
    wpAny (model prog w) A (Builtin.«tuple.__eq__» ⟨[.ref a, .ref b], []⟩) P E s := by
  have hTb := hy.typeIs
  obtain ⟨oa, na, u1, b1, hoa, _, hda, h11, h12⟩ := hx
  obtain ⟨ob, nb, u2, b2, hob, _, hdb, h21, h22⟩ := hy
  obtain ⟨x1, x2⟩ := x
  obtain ⟨y1, y2⟩ := y
  show wpAny _ _ (isInstance (.ref b) (.type "tuple") >>= _) _ _ s
  refine wpAny_bind (wpAny_isInstance hTb isSubtype_tuple_tuple ?_)
  simp only [Bool.not_true, Bool.false_eq_true, if_false]
  refine wpAny_bind (wpAny_tupleItemsOf hoa hda ?_)
  refine wpAny_bind (wpAny_tupleItemsOf hob hdb ?_)
  refine wpAny_bind ?_
  simp only [List.zip_cons_cons, List.zip_nil_right, List.forIn_cons, List.forIn_nil]
  refine wpAny_bind (wpAny_bind ((mixKind prog w).eqBool (a := x1) (b := y1) h11 h21 ?_))
  by_cases hk : x1 = y1
  · subst hk
    rw [decide_eq_true rfl]
    simp only [Bool.not_true, Bool.false_eq_true, if_false]
    refine wpAny_pure ?_
    refine wpAny_bind (wpAny_bind (wpAny_eqBool_tuple (by omega) h12 h22 ?_))
    by_cases h2 : x2 = y2
    · subst h2
      rw [decide_eq_true rfl]
      simp only [Bool.not_true, Bool.false_eq_true, if_false]
      rw [decide_eq_true rfl] at h
      exact wpAny_pure (wpAny_pure (wpAny_pure h))
    · rw [decide_eq_false h2]
      simp only [Bool.not_false, if_true]
      rw [decide_eq_false (fun z => h2 (congrArg Prod.snd z))] at h
      exact wpAny_bind (wpAny_pure (wpAny_pure (wpAny_pure (wpAny_pure h))))
  · rw [decide_eq_false hk]
    simp only [Bool.not_false, if_true]
    rw [decide_eq_false (fun z => hk (congrArg Prod.fst z))] at h
    exact wpAny_bind (wpAny_pure (wpAny_pure (wpAny_pure (wpAny_pure h))))
theorem pair_eqBool {x y : Key × List Key} {a b : Addr} {Q : Bool → Shared → Prop} (hu : A.units + 4 < cLine) (hx : IsPairKey prog w s.heap x a) (hy : IsPairKey prog w s.heap y b) (h : Q (decide (x = y)) s) :
    wpAny (model prog w) A (eqBool (.ref a) (.ref b)) Q E s := by
  unfold eqBool
  try with_reducible refine wpAny_holding ?_
  show wpAny _ _ (if (Value.ref a == Value.ref b) = true then _ else _) Q E s
  by_cases hab : (Value.ref a == Value.ref b) = true
  · rw [if_pos hab]
    have e : a = b := by have := eq_of_beq hab; injection this
    subst e
    obtain rfl := hx.inj hy
    exact wpAny_bind (wpAny_rule (wpAny_pure (by simpa using h)))
  · rw [if_neg hab]
    exact wpAny_bind (wpAny_richCompare_same_room (op := .Eq) hx.typeIs hy.typeIs F.slot_tuple_eq
      (wpAny_call_entry F.slot_tuple_eq hx.typeIs F.entry_tuple_eq (pair_eq_tree (by show A.units + 1 + 1 < cLine; omega) hx hy ⟨_, rfl, (fun e => nomatch e), wpAny_truthy_bool h⟩) (F.args_tuple_eq_2 _ _)) (by omega))
theorem quiet_tuple {m : Nat} {ks : List Key} {a : Addr} {Q : Bool → Shared → Prop} (hk : IsTupleKey (mixKind prog w) s.heap ks a) (h : Q true s) : wpAny (model prog w) A (eqIsQuiet (m + 1) (.ref a)) Q E s := by
  have hT := hk.typeIs
  obtain ⟨o, items, n, ho, _, hd, hi⟩ := hk
  unfold eqIsQuiet
  refine wpAny_bind (wpAny_specialOf hT F.slot_tuple_eq.lookup ?_)
  show wpAny _ _ (isInstance (.ref a) (.type "tuple") >>= _) _ _ s
  refine wpAny_bind (wpAny_isInstance hT isSubtype_tuple_tuple ?_)
  simp only [Bool.not_true, Bool.false_eq_true, if_false]
  refine wpAny_bind (wpAny_seqItems ho hd ?_)
  refine wpAny_bind ?_
  show wpAny _ _ (forIn items _ _) _ _ s
  rw [← Array.forIn_toList]
  refine wpAny_forIn_list _ (fun rest r s' => r.1 = none ∧ s' = s ∧ ∀ v ∈ rest, carriedByValue v = true) _ ?_ ?_ _ _ ⟨rfl, rfl, hi.byValue⟩
  · rintro v rest r s' ⟨hr, rfl, hall⟩
    rw [eqIsQuiet_byValue _ (hall v List.mem_cons_self)]
    refine wpAny_bind (wpAny_pure ?_)
    simp only [Bool.not_true, Bool.false_eq_true, if_false]
    exact wpAny_pure ⟨rfl, rfl, fun u hu' => hall u (List.mem_cons_of_mem _ hu')⟩
  · rintro ⟨r1, r2⟩ s' ⟨hr, rfl, _⟩
    simp only at hr
    subst hr
    exact wpAny_pure h
theorem pair_quiet {k : Key × List Key} {a : Addr} {Q : Bool → Shared → Prop} (hk : IsPairKey prog w s.heap k a) (h : Q true s) : wpAny (model prog w) A (eqIsQuiet 8 (.ref a)) Q E s := by
  have hT := hk.typeIs
  obtain ⟨o, n, u, b, ho, _, hd, h1, h2⟩ := hk
  unfold eqIsQuiet
  refine wpAny_bind (wpAny_specialOf hT F.slot_tuple_eq.lookup ?_)
  show wpAny _ _ (isInstance (.ref a) (.type "tuple") >>= _) _ _ s
  refine wpAny_bind (wpAny_isInstance hT isSubtype_tuple_tuple ?_)
  simp only [Bool.not_true, Bool.false_eq_true, if_false]
  refine wpAny_bind (wpAny_seqItems ho hd ?_)
  refine wpAny_bind ?_
  show wpAny _ _ (forIn #[u, Value.ref b] _ _) _ _ s
  rw [← Array.forIn_toList]
  simp only [List.forIn_cons, List.forIn_nil]
  rw [eqIsQuiet_byValue _ ((mixKind prog w).byValue _ _ h1)]
  refine wpAny_bind (wpAny_bind (wpAny_pure ?_))
  simp only [Bool.not_true, Bool.false_eq_true, if_false]
  refine wpAny_pure (wpAny_bind (wpAny_bind (quiet_tuple (m := 6) h2 ?_)))
  simp only [Bool.not_true, Bool.false_eq_true, if_false]
  exact wpAny_pure (wpAny_pure (wpAny_pure h))
end
def pairKind (prog : Program) (w : World) : HeapKind prog w (Key × List Key) where
  is := IsPairKey prog w
  hash := pairHash prog w
  draws := fun k => 1 + (k.2.length + 1) + 1
  room := fun A => A.units + 4 < cLine
  inj := fun hx hy => hx.inj hy
  keeps := fun x ho hd hs => x.keeps ho hd hs
  pyHash := fun hu hk h => pair_hash hu hk h
  eqBool := fun hu hx hy h => pair_eqBool hu hx hy h
  quiet := fun hk h => pair_quiet hk h
def KeyAt (H : Hp) (k : Key × List Key) (a : Addr) : Prop := ∃ b, H a = some (.tup [kV k.1, .ref b]) ∧ H b = some (.tup (k.2.map kV))
theorem pair_key {P : Program} {w : World} {H : Hp} {h : Heap} {a : Addr} {k : Key × List Key} (ok : HOk P w H h) (e : KeyAt H k a) : IsPairKey P w h k a := by
  obtain ⟨b, e1, e2⟩ := e
  obtain ⟨_, its, r, o, h1, h2, n, h3⟩ := (show ObjOk P w H h a (.tup [kV k.1, .ref b]) from ok a _ e1)
  obtain ⟨u, v, rfl, ru, rv⟩ := vals2X r
  obtain rfl : v = Value.ref b := rv
  exact ⟨o, n, u, b, h1, h2, h3, kV_is ru, key_of ok e2⟩
abbrev NK := Key × List Key
def dNO (P : Program) (w : World) (a : Addr) (xs : List (NK × Addr × Value)) : HO := .ext fun h => (a == sysModules) = false ∧ ∃ o es ep, h.get? a = some o ∧ o.ExactDict ∧ o.data = .dict es ep ∧ es.toList = xs.map (entryOfKey (pairKind P w)) ∧ (xs.map (·.1)).Nodup
def KN (H : Hp) (kvs : List (NK × V)) (xs : List (NK × Addr × Value)) : Prop := Paired (fun (p : NK × V) (q : NK × Addr × Value) => p.1 = q.1 ∧ KeyAt H q.1 q.2.1 ∧ RelV p.2 q.2.2) kvs xs
def DN (P : Program) (w : World) (H : Hp) (a : Addr) (kvs : List (NK × V)) : Prop := ∃ xs, H a = some (dNO P w a xs) ∧ KN H kvs xs ∧ kvs.length ≤ 1000
theorem KeyAt.keep {H H' : Hp} {k : NK} {a : Addr} (h : KeyAt H k a) (f : ∀ b ys, H b = some (.tup ys) → H' b = some (.tup ys)) : KeyAt H' k a := let ⟨b, e1, e2⟩ := h; ⟨b, f _ _ e1, f _ _ e2⟩
theorem KN.keep {H H' : Hp} {kvs : List (NK × V)} {xs : List (NK × Addr × Value)} (h : KN H kvs xs) (f : ∀ b ys, H b = some (.tup ys) → H' b = some (.tup ys)) : KN H' kvs xs :=
  Paired.mapP h fun _ _ z => ⟨z.1, z.2.1.keep f, z.2.2⟩
theorem DN.same {P : Program} {w : World} {H H' : Hp} {a : Addr} {kvs : List (NK × V)} (d : DN P w H a kvs) (s : Same H H') : DN P w H' a kvs := let ⟨xs, e, k, l⟩ := d; ⟨xs, s _ _ e, k.keep fun b ys q => s _ _ q, l⟩
theorem DN.new {P : Program} {w : World} {H : Hp} {a : Addr} : DN P w (upd H a (dNO P w a [])) a [] := ⟨[], upd_same, .nil, Nat.zero_le _⟩
theorem KN.val {H : Hp} {kvs : List (NK × V)} {xs : List (NK × Addr × Value)} (h : KN H kvs xs) (k : NK) : (valV kvs k).isSome = (atKey xs k).isSome := by
  induction h with
  | nil => rfl
  | @cons p q ps qs e t ih =>
    obtain ⟨q1, q2⟩ := q
    have e1 : p.1 = q1 := e.1
    by_cases z : p.1 = k
    · rw [valV_pos z]
      unfold atKey
      rw [List.find?_cons_of_pos (by simp [← e1, z])]
      rfl
    · rw [valV_neg z, ih]
      unfold atKey
      rw [List.find?_cons_of_neg (by simp [← e1, z])]
theorem DN.at {P : Program} {w : World} {H : Hp} {h : Heap} {a : Addr} {kvs : List (NK × V)} (ok : HOk P w H h) (d : DN P w H a kvs) : ∃ xs, KN H kvs xs ∧ h.DictOfH (pairKind P w) a xs ∧ (a == sysModules) = false ∧ H a = some (dNO P w a xs) ∧ kvs.length ≤ 1000 := by
  obtain ⟨xs, e, kn, l⟩ := d
  obtain ⟨⟨hs, o, es, ep, h1, h2, h3, h4, h5⟩, _⟩ := ok a _ e
  refine ⟨xs, kn, ⟨o, es, ep, h1, h2, h3, h4, fun x hx => ?_, h5⟩, hs, e, l⟩
  have all : ∀ {l : List (NK × V)} {m : List (NK × Addr × Value)}, KN H l m → ∀ x ∈ m, IsPairKey P w h x.1 x.2.1 := by
    intro l m q
    induction q with
    | nil => intro x hx; exact nomatch hx
    | @cons p q ps qs hq t ih =>
      intro x hx
      rcases List.mem_cons.mp hx with e | hx
      · subst e
        exact pair_key ok hq.2.1
      · exact ih x hx
  exact all kn x hx
section
variable {X : Cx}
end
end L2
namespace L2
open PySem PySem.Spec PyProof.Rows
section
variable {X : Cx}
end
end L2
namespace L2
open PySem PySem.Spec PyProof.Rows
section
variable {X : Cx}
end
end L2
namespace L2
open PySem PySem.Spec PyProof.Rows
def tTryN (K : PySem.W.Frag) (Cv : Value) (tb : (St → XK) → List (Addr × Obj) → (Value → Shared → Prop) → TS) (th : Addr → TS) : TS := fun D σ H => ∃ Ez : St → XK, (∀ pins W, tb Ez pins W D σ H) ∧
  ∀ σ1 C dd H1, Ez σ1 C dd H1 → PySem.W.exmOne K C Cv = some true ∧ ∀ e, H1 e = none → th e D σ1 (upd H1 e (exO C dd e))
section
variable {X : Cx}
theorem ps_tryN {body suite : List Stmt} {b₀ : Stmt} {tx : Str} {np hpos pos : Pos} {Cv : Value} {tb : (St → XK) → List (Addr × Obj) → (Value → Shared → Prop) → TS} {th : Addr → TS}
    (hst : X.stack = X.env :: X.outer) (hfr : X.env.frame = some X.env.locals) (hex : X.ex = []) (hg : Gl X tx) (hm : X.mg tx = some Cv)
    (hb : ∀ Ez pins W, PassesS (CXx X.prog X.w) (X.tr pins W) Ez → PSs (X.tr pins W) body (tb Ez pins W)) (hs : ∀ e, PSs (X.sui e) (b₀ :: suite) (th e)) (hdb : (tx == ("__debug__" : Str)) = false := by decide) :
    PS X (.Try body [.ExceptHandler (some (.Name tx np)) none (b₀ :: suite) hpos] [] [] pos) (tTryN X.K Cv tb th) := by
  unfold PS at *; unfold PSs at *
  exact by
    intro pins s σ H D I h
    obtain ⟨Ez, hb1, hh⟩ := h
    let W : Value → Shared → Prop := fun u s' => ∃ σ1 H1 s1, Inv X pins σ1 H1 s1 ∧ CXx X.prog X.w X.stack H1 s1 (Ez σ1) u s'
    have hp : PassesS (CXx X.prog X.w) (X.tr pins W) Ez := fun pins' σ1 H1 s1 u s' I1 hx => ⟨σ1, H1, s1, I1.untr, hx⟩
    refine wpAny_Try_except (wpAny_mono ((hb Ez pins W hp) [] s σ H D I.tr (hb1 pins W)) (fun f s1 q => ?_) (fun u s' q => ?_))
    · have q' := q.untr
      cases f with
      | next => exact wpAny_execs_nil q'
      | brk => exact q'
      | cont => exact q'
      | ret v => exact q'
    · obtain ⟨σ1, H1, s1, I1, e, C, dd, T, H', rfl, os, bare, un, hok, x1, x2, x3, f1, f2, n1, n2, hE⟩ := q
      have hfun : s'.heap.FunFrames X.base (X.env :: X.outer) := by
        rw [← hst]
        exact funFrames_un I1.stack fun b o hb q => un.slot b o q (I1.stkFree b hb) hb (by simp)
      refine leave_fly (T0 := some T) (L := X.env.locals) (by rw [← hst]; exact I1.ok.frames) hfun hfr x1 (fun T' z => by cases z; exact ⟨x2, x3⟩) fun h' T2 y1 y2 y3 y4 mv => ?_
      rw [← hst] at mv
      have ntr : ∀ b u, H' b = some u → b ∉ frs X.stack := fun b u q hb => by
        obtain ⟨_, o, ho, _⟩ := I1.stack.mem hb
        have := un.free b o ho (I1.stkFree b hb) (by simp)
        rw [q] at this; cases this
      have hU : Un (frs X.stack) [] H1 H' s1.heap h' := un_moved (l := X.stack) un mv (fun _ z => z) (fun _ _ _ z => z) n1 fun T' z => by cases z; exact n2
      have hO : HOk X.prog X.w H' h' := hok.track fun b u o q1 q2 => mv.keep b o (fun z => by rw [z, f1] at q1; cases q1) (fun z => by cases z; rw [f2] at q1; cases q1) (ntr b u q1) q2
      have I2 : Inv X pins σ1 H' { s' with heap := h' } := I1.call' (s' := { s' with heap := h' }) (ch := []) os hU hO bare fun _ z => absurd z (by simp)
      -- the exception becomes an object of ours
      have he0 : X.s₀.heap.get? e = none := by
        cases q : X.s₀.heap.get? e with
        | none => rfl
        | some o =>
          obtain ⟨o1, q1⟩ := I1.base.there e o q (by rw [hex]; simp)
          rw [n1] at q1; cases q1
      have live : ∀ b o, s1.heap.get? b = some o → b ≠ e := fun b o q z => by rw [z, n1] at q; cases q
      have heL : e ≠ X.env.locals := by
        obtain ⟨m, ⟨o, _, _, ho, _⟩, _⟩ := I1.loc
        exact Ne.symm (live _ _ ho)
      have heC : ∀ x c, X.env.cells.lookup x = some c → c ≠ e := fun x c q => by
        obtain ⟨v, o, ho, _⟩ := I1.cell x c q
        exact live _ _ ho
      have heP : ∀ p ∈ X.pn ++ pins, p.1 ≠ e := fun p hp => live _ _ (I1.pin p hp).1
      have I3 : Inv X pins σ1 (upd H' e (exO C dd e)) { s' with heap := h' } := I2.adopt f1 he0 heL heC heP (exO_ok y1)
      -- the trace's record is nobody's
      have szT : ∀ b o, s'.heap.get? b = some o → b ≠ T2 := fun b o q => Nat.ne_of_lt (Nat.lt_of_lt_of_le (Heap.lt_size q) y3)
      have liveT : ∀ b o, s1.heap.get? b = some o → b ≠ T2 := fun b o q => by
        obtain ⟨o', q'⟩ := un.there b o q (by simp)
        exact szT b o' q'
      have hTL : T2 ≠ X.env.locals := by
        obtain ⟨m, ⟨o, _, _, ho, _⟩, _⟩ := I1.loc
        exact Ne.symm (liveT _ _ ho)
      have hT0 : X.s₀.heap.objs.size ≤ T2 := by
        obtain ⟨m, ⟨o, _, _, ho, _⟩, _⟩ := I1.loc
        obtain ⟨o', q'⟩ := un.there _ o ho (by simp)
        exact Nat.le_trans I1.ok.above (Nat.le_trans (Nat.le_of_lt (Heap.lt_size q')) y3)
      have hTC : ∀ x c, X.env.cells.lookup x = some c → c ≠ T2 := fun x c q => by
        obtain ⟨v, o, ho, _⟩ := I1.cell x c q
        exact liveT _ _ ho
      have hTP : ∀ p ∈ X.pn ++ pins, p.1 ≠ T2 := fun p hp => liveT _ _ (I1.pin p hp).1
      have hTn : upd H' e (exO C dd e) T2 = none := by
        rw [upd_ne y4]
        cases q : H' T2 with
        | none => rfl
        | some u => obtain ⟨ob, hob⟩ := (hok T2 u q).there; exact absurd rfl (szT T2 ob hob)
      obtain ⟨hmt, hsu⟩ := hh σ1 C dd H' hE
      obtain ⟨oe, vs, hoe, hcls, _⟩ := id y1
      have LT : PySem.W.Looks (model X.prog X.w) h' (typeOf (.ref e)) C := by
        subst hcls
        exact (PySem.W.Looks.ld hoe).andThen .now
      have ok : X.Ok := I.ok
      refine wpAny_handleBy_cons (codeAny_handlers_test (ld_glob (X := X.sui e) (I3.sui e) hg hm ?_ hdb)) (by intro q; cases q)
      refine PySem.W.Looks.here (PySem.W.exm_one I3.kIn LT hmt) ?_
      show codeAny _ _ (.handlers (.ref e) [.ExceptHandler none none (b₀ :: suite) hpos] X.env) _ _
      refine codeAny_handlers_suite ?_
      refine rest_fly y1 y2 y4 fun h2 z1 z2 k1 k2 => ?_
      have I4 : Inv X pins σ1 (upd H' e (exO C dd e)) { s' with heap := h2 } := I3.turned (t' := s'.toks) (fun b o hb q => k1 b o hb q) hTn hTL (.inr hT0) hTC hTP
      refine wpAny_mono ((hs e) pins _ _ _ _ (I4.sui e) (hsu e f1)) (fun f s6 q => ?_) fun _ _ z => z.elim
      cases f with
      | next => obtain ⟨σ6, H6, I6, q6⟩ := q; exact ⟨_, _, I6.unsui ok, q6⟩
      | brk => obtain ⟨σ6, H6, I6, q6⟩ := q; exact ⟨_, _, I6.unsui ok, q6⟩
      | cont => obtain ⟨σ6, H6, I6, q6⟩ := q; exact ⟨_, _, I6.unsui ok, q6⟩
      | ret v => obtain ⟨x6, σ6, H6, I6, r6, q6⟩ := q; exact ⟨_, _, _, I6.unsui ok, r6, q6⟩
end
end L2
namespace L2
open PySem PySem.Spec PyProof.Rows
@[irreducible] def PEp (X : Cx) (e : Expr) (t : TE) : Prop :=
  ∀ (pins : List (Addr × Obj)) (s : Shared) (σ : St) (H : Hp) (Q : VK), 0 < s.toks → Inv X pins σ H s → t σ H Q → wpAny (model X.prog X.w) X.A (eval e X.env) (EP X pins σ Q) X.xe s
@[irreducible] def PAp (X : Cx) (es : List Expr) (t : TA) : Prop :=
  ∀ (pos : Pos) (pins : List (Addr × Obj)) (s : Shared) (σ : St) (H : Hp) (Q : List V → Hp → Prop), 0 < s.toks → Inv X pins σ H s → t σ H Q → wpAny (model X.prog X.w) X.A (spliced (backTo pos (starEach es X.env))) (AP X pins σ Q) X.xe s
section
variable {X : Cx} {e o a : Expr} {es : List Expr} {te to ta tb : TE} {t : TA} {pos : Pos}
theorem PE.p (h : PE X e te) : PEp X e te := by
  unfold PE at *
  exact by
    unfold PEp
    exact fun pins s σ H Q _ => h pins s σ H Q
theorem PA.p (h : PA X es t) : PAp X es t := by
  unfold PA at *
  exact by
    unfold PAp
    exact fun pos pins s σ H Q _ => h pos pins s σ H Q
end
section
open Builtin Builtin.Str
end
section
variable {X : Cx} {o : Expr} {to : TE} {apos cpos : Pos}
end
end L2
namespace L2
open PySem PySem.Spec PyProof.Rows
end L2
namespace L2
open PySem PySem.Spec PyProof.Rows
structure Hand (P : Program) (w : World) (i l : Addr) (St : Nat → Heap → Prop) (xs : Array Value) : Prop where
  keep : ∀ k h h', St k h → (∀ o, h.get? i = some o → h'.get? i = some o) → (∀ o, h.get? l = some o → h'.get? l = some o) → St k h'
  item : ∀ (A : Around) (E : Value → Shared → Prop) k x (s : Shared) (Q : Value → Shared → Prop), St k s.heap → xs[k]? = some x → (∀ h', St (k + 1) h' → Heap.SameBut i s.heap h' → Q x { s with heap := h' }) → wpAny (model P w) A (Builtin.SmallTypes.nextOf (.ref i)) Q E s
  stop : ∀ (A : Around) (E : Value → Shared → Prop) k (s : Shared) (Q : Value → Shared → Prop), A.handled = none → St k s.heap → xs[k]? = none → (∀ h' e, Heap.ExtBut i s.heap h' → (∃ o, h'.get? e = some o ∧ o.cls = .type "StopIteration") → E (.ref e) { s with heap := h' }) → wpAny (model P w) A (Builtin.SmallTypes.nextOf (.ref i)) Q E s
theorem Hand.list {P : Program} {w : World} (i l : Addr) (n : i ≠ l) (xs : Array Value) : Hand P w i l (fun k h => h.IsListIter i l k ∧ h.IsList l xs) xs where
  keep := fun k h h' st a b => ⟨st.1.at a, st.2.at b⟩
  item := fun A E k x s Q st hx hQ => wpAny_nextOf_list_item st.1 st.2 hx fun h' a b => hQ h' ⟨a, st.2.extBut b.extBut n.symm⟩ b
  stop := fun A E k s Q hh st hx hE => wpAny_nextOf_list_end hh st.1 st.2 hx hE
section
variable {P : Program} {w : World} {A : Around} {E : Value → Shared → Prop} {s : Shared}
theorem tup_step {it t : Addr} {i : Nat} {its : Array Value} {Q : Value → Shared → Prop} (hit : s.heap.IsTupleIter it t i) (ht : s.heap.IsTuple t its)
    (h : match its[i]? with
      | some x => ∀ h', h'.IsTupleIter it t (i + 1) → Heap.SameBut it s.heap h' → Q x { s with heap := h' }
      | none => A.handled = none ∧ ∀ h' e, Heap.ExtBut it s.heap h' → (∃ o, h'.get? e = some o ∧ o.cls = .type "StopIteration") → E (.ref e) { s with heap := h' }) :
    wpAny (model P w) A (Builtin.SmallTypes.nextOf (.ref it)) Q E s := by
  obtain ⟨o, ho, hc, hd⟩ := id hit
  obtain ⟨ol, hol, _, nl, hdl⟩ := ht
  have ne : ¬ (Value.ref t == Value.none) = true := Bool.false_ne_true
  unfold Builtin.SmallTypes.nextOf
  refine wpAny_bind (wpAny_callSpecial?_slot (name := Str.ofString "__next__") hit.typeIs F.slot_tuple_iterator_next (wpAny_call_entry F.slot_tuple_iterator_next hit.typeIs F.entry_tuple_iterator_next ?_ (F.args_tuple_iterator_next_1 _)))
  refine (show wpAny _ _ (field (.ref it) 0 >>= _) _ _ s from wpAny_bind (wpAny_field ho hd (x := .ref t) rfl ((if_neg ne).symm ▸ (show wpAny _ _ (field (.ref it) 1 >>= _) _ _ s from wpAny_bind (wpAny_field ho hd (x := .int i 0) rfl (show wpAny _ _ (seqItems? (.ref t) >>= _) _ _ s from wpAny_bind (wpAny_seqItems hol hdl ?_)))))))
  cases hx : its[i]? with
  | some x =>
    rw [hx] at h
    simp only [Int.toNat_natCast, hx]
    refine wpAny_bind (wpAny_setField ho hd (by simp) (wpAny_pure ⟨x, rfl, wpAny_pure (h _ ⟨_, Heap.get?_update_self _ ho (Obj.isFreed_of_fields (Obj.data_mapFields hd _)), (Obj.cls_mapFields ..).trans hc, ?_⟩ (Heap.SameBut.update ..))⟩))
    rw [Obj.data_mapFields hd]; simp [rawInt]
  | none =>
    rw [hx] at h
    simp only [Int.toNat_natCast, hx]
    refine wpAny_bind (wpAny_rule (wpAny_bind (wpAny_setField ho hd (by simp) (show wpAny _ _ (newExc (.type "StopIteration") [] >>= _) _ _ _ from wpAny_bind ?_))))
    simp only [newExc, newTuple]
    refine wpAny_bind (wpAny_newObj_type (wpAny_bind (m := firstArgMember _ _) (wpAny_of_eq (a := Value.none) (by first | rfl | (simp only [firstArgMember]; rfl)) (wpAny_newObj_type ?_ (by size_fits)))) (by size_fits))
    simp only [raiseNew]
    refine wpAny_bind (wpAny_handled ?_)
    rw [show A.in1.handled = none from h.1]
    exact wpAny_bind (wpAny_pure (wpAny_throw (h.2 _ _ (((Heap.SameBut.update ..).extBut.push _).push _) ⟨_, Heap.get?_push_size _ rfl, rfl⟩)))
end
theorem Hand.tup {P : Program} {w : World} (i t : Addr) (n : i ≠ t) (xs : Array Value) : Hand P w i t (fun k h => h.IsTupleIter i t k ∧ h.IsTuple t xs) xs where
  keep := fun k h h' st a b => ⟨st.1.at a, st.2.at b⟩
  item := fun A E k x s Q st hx hQ => tup_step st.1 st.2 (by rw [hx]; exact fun h' a b => hQ h' ⟨a, st.2.extBut b.extBut n.symm⟩ b)
  stop := fun A E k s Q hh st hx hE => tup_step st.1 st.2 (by rw [hx]; exact ⟨hh, hE⟩)
section
variable {P : Program} {w : World} {A : Around} {E : Value → Shared → Prop} {s : Shared} {z TI TO i1 i2 l1 l2 : Addr} {S1 S2 : Nat → Heap → Prop} {xs ys : Array Value} {k : Nat} {a b : Value}
end
end L2
namespace L2
open PySem PySem.Spec PyProof.Rows
section
variable {X : Cx} {a b e : Expr} {ta tb te : TE} {es : List Expr} {t : TA} {pos : Pos} {st st2 : Stmt} {rest : List Stmt} {t1 t2 u : TS}
end
end L2
namespace L2
open PySem PySem.Spec PyProof.Rows
section
variable {X : Cx}
def iKeysF (tl : TE) : TI := fun σ H R => tl σ H fun x H1 => ∃ d kvs o, x = .ref d ∧ H1 d = some (.frz o (.dK kvs)) ∧ R (Itk d o kvs) H1
theorem pi_keysF {tg l : Expr} {tl : TE} (hl : PE X l tl) : PI X tg l (iKeysF tl) := by
  unfold PE at *; unfold PI at *
  exact by
    intro pins s σ H R I h
    refine thn (hl pins s σ H _ I h) fun v s1 ⟨x, H1, I1, r1, q1⟩ => ?_
    obtain ⟨d, kvs, o, e, hd, q⟩ := q1
    subst e
    cases r1
    obtain ⟨g, z, lo, vs, r, o', es, ep, g', c, ho, k⟩ : s1.heap.get? d = some o ∧ kvs.length ≤ sizeLine ∧ (d == sysModules) = false ∧ ∃ vs, KV kvs vs ∧ s1.heap.DictOf (mixKind X.prog X.w) d vs := I1.hok d _ hd
    rw [g] at g'
    cases g'
    refine wpAny_pyIter_dict lo ⟨o, es, g, c, ho, k⟩ ?_
    refine ⟨s1.heap.objs.size, [s1.heap.objs.size], _, _, _, rfl, I1.kept (t' := s1.toks) fun b o e => Heap.get?_push_of_some _ e, turn_keys d _ ho, ⟨_, Heap.get?_push_size _ rfl, rfl, by rw [KV.length r]; rfl⟩, fun b hb => ?_, q⟩
    have e : b = s1.heap.objs.size := by simpa using hb
    subst e
    exact I1.fpOk (Nat.le_refl _) (I1.hok.fresh (Nat.le_refl _))
theorem DGet.f {H : Hp} {a : Addr} {o : Obj} {kvs : List (Key × V)} {k : Key} (e : H a = some (.frz o (.dK kvs))) : DGet H a (kV k) (valV kvs k) := .inl ⟨kvs, k, .inr ⟨o, e⟩, rfl, rfl⟩
end
end L2
namespace HT
open PySem PySem.Spec PyProof.Rows
section
variable {prog : Program} {w : World} {A : Around} {E : Value → Shared → Prop} {s : Shared}
theorem tuple_whole {t sl : Addr} {items : Array Value} {vl vu : Value} {lo hi : Option Int} {Q : Value → Shared → Prop} (hs : s.heap.IsSliceOf sl vl vu .none) (ht : IsTup s.heap t items) (pu : IsPart vu hi) (pl : IsPart vl lo) (h0 : sIx items.size 0 lo = 0) (h1 : sIx items.size items.size hi = items.size) (h : Q (.ref t) s) : wpAny (model prog w) A (getItem (.ref t) (.ref sl)) Q E s := by
  have hTs : s.TypeIs (.ref sl) "slice" := let ⟨o, a, b, _⟩ := hs; ⟨o, a, b⟩
  have yes : (((sIx items.size 0 lo : Nat) : Int) == 0 && (1 : Int) == 1 && (sIx items.size items.size hi - sIx items.size 0 lo) == items.size) = true := by
    rw [h0, h1, Nat.sub_zero]
    simp
  unfold getItem
  try with_reducible refine wpAny_holding ?_
  first | refine wpAny_bind (wpAny_pure ?_) | skip
  refine wpAny_bind (wpAny_sequenceKey ht.typeIs (by decide) (wpAny_bind (wpAny_callSpecial?_slot (name := Str.ofString "__getitem__") ht.typeIs PyProof.Rows.slot_tuple_getitem (wpAny_call_entry PyProof.Rows.slot_tuple_getitem ht.typeIs entry_tuple_getitem ?_ (args_tuple_getitem _ _)))))
  show wpAny _ _ (Builtin.Tuple.tupleItemsOf (.ref t) >>= _) _ _ s
  refine wpAny_bind (tupleItemsOf_ ht (wpAny_bind (wpAny_typeOf hTs ?_)))
  rw [if_pos (by decide)]
  refine wpAny_bind (sliceApplied_gen hs pl pu ?_)
  show wpAny _ _ (if (((sIx items.size 0 lo : Nat) : Int) == 0 && (1 : Int) == 1 && (sIx items.size items.size hi - sIx items.size 0 lo) == items.size) = true then _ else _) _ _ s
  rw [if_pos yes]
  unfold Builtin.Tuple.tupleIsExact
  refine wpAny_bind (wpAny_bind (wpAny_typeOf ht.typeIs (wpAny_pure ?_)))
  rw [if_pos (by decide)]
  exact wpAny_bind (wpAny_rule (wpAny_pure ⟨_, rfl, wpAny_pure h⟩))
end
end HT
namespace L2
open PySem PySem.Spec PyProof.Rows
section
variable {X : Cx}
def rSlTA (K : PySem.W.Frag) : V → Option Int → Option Int → Hp → VK → Prop := fun x lo hi H Q => ∃ a xs, x = .ref a ∧ SqT K H a xs ∧
  ((HT.sIx xs.length 0 lo = 0 ∧ HT.sIx xs.length xs.length hi = xs.length) → Q (.ref a) H) ∧ (¬ (HT.sIx xs.length 0 lo = 0 ∧ HT.sIx xs.length xs.length hi = xs.length) → ∀ p, H p = none → Q (.ref p) (upd H p (.tup (cutV xs lo hi))))
theorem sl_tupA : SlR X (rSlTA X.K) := by
  unfold SlR at *
  exact by
    have h1 := sl_tup (X := X)
    unfold SlR at *
    intro pins s σ H x v vl vu lo hi sl Q I rx hs pl pu h
    obtain ⟨a, xs, e, hx, q1, q2⟩ := h
    by_cases hw : HT.sIx xs.length 0 lo = 0 ∧ HT.sIx xs.length xs.length hi = xs.length
    · subst e
      cases rx
      obtain ⟨its, r, ht, hz⟩ := I.tuple hx
      have hlen : its.toArray.size = xs.length := by rw [List.size_toArray]; exact r.length.symm
      exact ⟨"tuple", _, PyProof.Rows.slot_tuple_getitem.lookup, ht.typeIs, HT.tuple_whole hs ht pu pl (by rw [hlen]; exact hw.1) (by rw [hlen]; exact hw.2) ⟨.ref a, H, I, rfl, q1 hw⟩⟩
    · exact h1 pins s σ H x v vl vu lo hi sl Q I rx hs pl pu ⟨a, xs, e, hx, hw, q2 hw⟩
end
end L2
set_option maxHeartbeats 200000
namespace My
open PySem L2
local macro_rules | `(tactic| walk_at "rd") => `(tactic| repeat (first
  | refine ⟨_, rfl, ?_⟩
  | refine ⟨_, _, rfl, rfl, ?_⟩
  | refine ⟨_, _, rfl, ?_⟩
  | refine ⟨(by show (0 : Int) < _; decide), ?_⟩
  | refine ⟨(⟨by decide, by decide⟩ : CDiv _ _), ?_⟩
  | refine ⟨(⟨by decide, by decide⟩ : CDivB _ _), ?_⟩
  | refine ⟨(⟨by decide, by decide, by decide⟩ : CPow _ _), ?_⟩
  | refine ⟨(.inr ⟨by decide, by decide⟩ : CMul _ _), ?_⟩
  | refine ⟨(.inl ⟨by decide, by decide⟩ : CMul _ _), ?_⟩
  | refine ⟨Own.int, ?_⟩
  | refine ⟨Own.bl, ?_⟩
  | refine ⟨Own.str, ?_⟩
  | refine ⟨Own.non, ?_⟩
  | refine ⟨rfl, ?_⟩))
def isI : V → Bool
  | .int _ => true
  | _ => false
def inR (m : Int) : V → Bool
  | .int i => decide (1 ≤ i) && decide (i ≤ m)
  | _ => false
def spW (K : PySem.W.Frag) : Sp := fun vs H Q _ => ∃ x, vs = [x] ∧ Own K H x ∧ Q (.bl (isI x)) H
def spR (K : PySem.W.Frag) (m : Int) : Sp := fun vs H Q _ => ∃ x, vs = [x] ∧ Own K H x ∧ Q (.bl (inR m x)) H
def FrD (d : Addr) (H H' : Hp) : Prop := ∀ b u, b ≠ d → H b = some u → H' b = some u
def Seen (kvs kv' : List (Key × V)) (ns : List Int) : Prop := kv'.length = kvs.length + ns.length ∧ ∀ s : Int, valV kv' (Sum.inl s) = none ↔ valV kvs (Sum.inl s) = none ∧ s ∉ ns
structure Good (ns : List Int) : Prop where
  inn : ∀ s ∈ ns, inR 1000000000 (.int s) = true
  nd : ns.Nodup
def spSheetList : Sp := fun vs H Q _ => ∃ a d ns kvs, vs = [.ref a, .ref d] ∧ H a = some (.lst (ns.map V.int)) ∧ H d = some (.dK kvs) ∧ Good ns ∧ ns.Pairwise (· < ·) ∧ (∀ s ∈ ns, valV kvs (Sum.inl s) = none) ∧ kvs.length + ns.length ≤ 1000 ∧
  ∀ l kv' H', FrD d H H' → H l = none → H' l = some (.lst (ns.map V.int)) → H' d = some (.dK kv') → Seen kvs kv' ns → Q (.ref l) H'
theorem take_one {α : Type} {l : List α} {i : Nat} {x : α} (h : l[i]? = some x) : l.take (i + 1) = l.take i ++ [x] := by
  rw [List.take_succ, h]; rfl
theorem Seen.nil (kvs : List (Key × V)) : Seen kvs kvs [] := ⟨rfl, fun s => ⟨fun h => ⟨h, List.not_mem_nil⟩, fun h => h.1⟩⟩
theorem Seen.put {kvs kv' : List (Key × V)} {ns : List Int} {s : Int} {v : V} (h : Seen kvs kv' ns) (hs : valV kv' (Sum.inl s) = none) : Seen kvs (putK kv' (Sum.inl s) v) (ns ++ [s]) := by
  refine ⟨?_, fun x => ?_⟩
  · unfold putK
    rw [if_neg (by rw [valV_any, hs]; decide), List.length_append, List.length_append, h.1]
    rfl
  · rw [valV_put, List.mem_append, List.mem_singleton]
    by_cases e : x = s
    · subst e
      rw [if_pos rfl]
      exact ⟨fun z => (nomatch z), fun z => absurd (Or.inr rfl) z.2⟩
    · rw [if_neg (fun z => e (Sum.inl.inj z)), h.2 x]
      exact ⟨fun z => ⟨z.1, fun q => q.elim z.2 e⟩, fun z => ⟨z.1, fun q => z.2 (.inl q)⟩⟩
theorem Seen.more {k0 k1 k2 : List (Key × V)} {ns ms : List Int} (h : Seen k0 k1 ns) (h' : Seen k1 k2 ms) : Seen k0 k2 (ns ++ ms) := by
  refine ⟨by rw [h'.1, h.1, List.length_append, Nat.add_assoc], fun s => ?_⟩
  rw [h'.2 s, h.2 s, List.mem_append]
  exact ⟨fun z => ⟨z.1.1, fun q => q.elim z.1.2 z.2⟩, fun z => ⟨⟨z.1, fun q => z.2 (.inl q)⟩, fun q => z.2 (.inr q)⟩⟩
theorem FrD.refl (d : Addr) (H : Hp) : FrD d H H := fun b u _ h => h
theorem FrD.trans {d : Addr} {H H1 H2 : Hp} (a : FrD d H H1) (b : FrD d H1 H2) : FrD d H H2 := fun c u n h => b c u n (a c u n h)
theorem FrD.lst {d : Addr} {H H' : Hp} {kvs : List (Key × V)} (f : FrD d H H') (hd : H d = some (.dK kvs)) : ∀ a xs, H a = some (.lst xs) → H' a = some (.lst xs) := fun a xs h => f a _ (ne_of h hd (by intro z; cases z)) h
theorem FrD.some {d : Addr} {H H' : Hp} {kvs : List (Key × V)} (f : FrD d H H') (hd : H' d = some (.dK kvs)) : ∀ a, H a ≠ none → H' a ≠ none := fun a h => by
  by_cases e : a = d
  · subst e; rw [hd]; intro z; cases z
  · cases q : H a with
    | none => exact absurd q h
    | some u => rw [f a u e q]; intro z; cases z
structure Grp (n : Nat) (t : Tr n) : Prop where
  fu : full n t
  as : asc n t
  inn : ∀ s ∈ flat n t, inR 1000000000 (.int s) = true
  nd : (flat n t).Nodup
def spGroupList (n : Nat) : Sp := fun vs H Q _ => ∃ v d, ∃ t : Tr (n + 1), ∃ kvs, vs = [v, .int (3 - (n : Int)), .ref d] ∧ AtR H (n + 1) v t ∧ Grp (n + 1) t ∧ H d = some (.dK kvs) ∧ (∀ s ∈ flat (n + 1) t, valV kvs (Sum.inl s) = none) ∧ kvs.length + (flat (n + 1) t).length ≤ 1000 ∧
  ∀ w kv' H', FrD d H H' → New H H' (n + 1) w t → H' d = some (.dK kv') → Seen kvs kv' (flat (n + 1) t) → Q w H'
structure WF (S : Tr 4) : Prop where
  fu : ∀ g ∈ ls S, full 3 g
  as : asc 4 S
  inn : ∀ s ∈ flat 4 S, inR 1000000000 (.int s) = true
  nd : (flat 4 S).Nodup
theorem WF.grp {S : Tr 4} (h : WF S) {i : Nat} {g : Tr 3} (e : (ls S)[i]? = some g) : Grp 3 g :=
  have hm := List.mem_of_getElem? e
  ⟨h.fu g hm, h.as g hm, fun s hs => h.inn s (flat_mem hm hs), (flat_nd e h.nd).1⟩
theorem Grp.kid {n : Nat} {t : Tr (n + 2)} (h : Grp (n + 2) t) {i : Nat} {g : Tr (n + 1)} (e : (ls t)[i]? = some g) : Grp (n + 1) g :=
  have hm := List.mem_of_getElem? e
  ⟨h.fu.2 g hm, h.as g hm, fun s hs => h.inn s (flat_mem hm hs), (flat_nd e h.nd).1⟩
def spSorting (K : PySem.W.Frag) : Sp := fun vs H Q _ => ∃ v, ∃ S : Tr 4, vs = [v] ∧ AtR H 4 v S ∧ WF S ∧ (flat 4 S).length ≤ 1000 ∧ ∀ w H', Same H H' → New H H' 4 w S → Q w H'
theorem le_k {j k n : Nat} (h : j ≤ k) : j ≤ Nat.add k n := Nat.le_trans h (Nat.le_add_right k n)
theorem flat_pos : ∀ {n : Nat} {t : Tr n}, full n t → 1 ≤ (flat n t).length
  | 0, _, _ => Nat.le_refl 1
  | n + 1, t, h => by
    obtain ⟨x, r, e⟩ := List.exists_cons_of_ne_nil h.1
    have hx := flat_pos (h.2 x (by rw [e]; exact List.mem_cons_self ..))
    have e2 : flat (n + 1) t = flat n x ++ flat (n + 1) (r : List (Tr n)) := congrArg (fun z : List (Tr n) => flat (n + 1) z) e
    rw [e2, List.length_append]
    omega
theorem flat_full {n : Nat} : ∀ {ts : List (Tr n)}, (∀ t ∈ ts, full n t) → ts.length ≤ (flat (n + 1) ts).length
  | [], _ => Nat.zero_le _
  | x :: r, h => by
    have h1 := flat_pos (h x (List.mem_cons_self ..))
    have h2 := flat_full (ts := r) fun t ht => h t (List.mem_cons_of_mem _ ht)
    have e2 : flat (n + 1) (x :: r : List (Tr n)) = flat n x ++ flat (n + 1) (r : List (Tr n)) := rfl
    rw [e2, List.length_append, List.length_cons]
    omega
theorem seqNil {K : PySem.W.Frag} {H : Hp} {n : Nat} {a b : Addr} {xs : List V} (ha : SqL K H a xs) (hb : SqL K H b []) : SeqEq K H (EqD K H n) (.ref a) (.ref b) xs.isEmpty := by
  cases xs with
  | nil => exact .list (e := fun _ => true) ha hb rfl fun i x y h => (by rw [List.getElem?_nil] at h; cases h)
  | cons x r => exact .listN ha hb (by intro z; cases z)
def spCell (K : PySem.W.Frag) : Sp := fun vs H Q _ => ∃ (a : Addr) (k : Int) (ns : List Int), vs = [.ref a, .int k] ∧ 0 ≤ k ∧ SqL K H a (ns.map V.int) ∧ ∀ i, Q (.int i) H
def spDrawn (K : PySem.W.Frag) : Sp := fun vs H Q _ => ∃ (a : Addr) (k : Int) (ns : List Int), vs = [.ref a, .int k] ∧ 0 ≤ k ∧ k < ns.length ∧ ns.length ≤ 63 ∧ SqL K H a (ns.map V.int) ∧ ∀ r, 0 ≤ r → Q (.int r) H
theorem inR_int (m i : Int) : inR m (.int i) = (decide (1 ≤ i) && decide (i ≤ m)) := rfl
theorem inR_of {m i : Int} (h1 : 1 ≤ i) (h2 : i ≤ m) : inR m (.int i) = true := by rw [inR_int, decide_eq_true h1, decide_eq_true h2]; rfl
structure Put (S : Tr 4) (s : Int) (S' : Tr 4) : Prop where
  p : (flat 4 S').Perm (flat 4 S ++ [s])
  fu : (∀ g ∈ ls S, full 3 g) → ∀ g ∈ ls S', full 3 g
  as : asc 4 S → asc 4 S'
theorem Put.wf {S S' : Tr 4} {s : Int} (h : Put S s S') (w : WF S) (hs : s ∉ flat 4 S) (hr : inR 1000000000 (.int s) = true) : WF S' := by
  refine ⟨h.fu w.fu, h.as w.as, fun x hx => ?_, ?_⟩
  · rcases List.mem_append.mp (h.p.mem_iff.mp hx) with q | q
    · exact w.inn x q
    · rw [List.mem_singleton.mp q]; exact hr
  · rw [h.p.nodup_iff, List.nodup_append]
    exact ⟨w.nd, List.nodup_cons.mpr ⟨List.not_mem_nil, List.nodup_nil⟩, fun x hx y hy e => hs (by rw [← List.mem_singleton.mp hy, ← e]; exact hx)⟩
theorem full_all_set {n : Nat} {ts : List (Tr n)} {i : Nat} {t : Tr n} (h : ∀ g ∈ ts, full n g) (ht : full n t) : ∀ g ∈ ts.set i t, full n g := fun x hx => by
  rcases List.mem_or_eq_of_mem_set hx with q | q
  · exact h x q
  · rw [q]; exact ht
structure PutG (n : Nat) (t : Tr (n + 1)) (s : Int) (t' : Tr (n + 1)) : Prop where
  p : (flat (n + 1) t').Perm (flat (n + 1) t ++ [s])
  fu : full (n + 1) t → full (n + 1) t'
  as : asc (n + 1) t → asc (n + 1) t'
theorem PutG.up {n : Nat} {ts : Tr (n + 2)} {i : Nat} {t t' : Tr (n + 1)} {s : Int} (h : PutG n t s t') (e : (ls ts)[i]? = some t) : PutG (n + 1) ts s ((ls ts).set i t' : List (Tr (n + 1))) :=
  have hm := List.mem_of_getElem? e
  ⟨flat_set (n + 1) (ls ts) i t t' s e h.p, fun f => full_set f (h.fu (f.2 t hm)), fun a => asc_set a (h.as (a t hm))⟩
theorem PutG.top {S : Tr 4} {i : Nat} {t t' : Tr 3} {s : Int} (h : PutG 2 t s t') (e : (ls S)[i]? = some t) : Put S s ((ls S).set i t' : List (Tr 3)) :=
  have hm := List.mem_of_getElem? e
  ⟨flat_set 3 (ls S) i t t' s e h.p, fun f => full_all_set f (h.fu (f t hm)), fun a => asc_set a (h.as (a t hm))⟩
def solo : (n : Nat) → Int → Tr n
  | 0, s => s
  | n + 1, s => ([solo n s] : List (Tr n))
theorem solo_flat : ∀ (n : Nat) (s : Int), flat n (solo n s) = [s]
  | 0, s => rfl
  | n + 1, s => by
    show flat n (solo n s) ++ [] = [s]
    rw [solo_flat n s]
    rfl
theorem solo_full : ∀ (n : Nat) (s : Int), full n (solo n s)
  | 0, _ => trivial
  | n + 1, s => ⟨List.cons_ne_nil _ _, fun t ht => by rw [List.mem_singleton.mp ht]; exact solo_full n s⟩
theorem solo_asc : ∀ (n : Nat) (s : Int), asc n (solo n s)
  | 0, _ => trivial
  | 1, s => List.pairwise_singleton _ _
  | n + 2, s => fun t ht => by rw [List.mem_singleton.mp ht]; exact solo_asc (n + 1) s
theorem PutG.app {n : Nat} (ts : Tr (n + 2)) (s : Int) : PutG (n + 1) ts s (ls ts ++ [solo (n + 1) s] : List (Tr (n + 1))) := by
  refine ⟨?_, fun f => full_app f (solo_full _ s), fun a => asc_app a (solo_asc _ s)⟩
  rw [flat_app]
  have e : flat (n + 2) ([solo (n + 1) s] : List (Tr (n + 1))) = [s] := solo_flat (n + 2) s
  rw [e]
theorem Put.app (S : Tr 4) (s : Int) : Put S s (ls S ++ [solo 3 s] : List (Tr 3)) := by
  refine ⟨?_, fun f x hx => ?_, fun a => asc_app a (solo_asc _ s)⟩
  · rw [flat_app]
    have e : flat 4 ([solo 3 s] : List (Tr 3)) = [s] := solo_flat 4 s
    rw [e]
  · rcases List.mem_append.mp hx with q | q
    · exact f x q
    · rw [List.mem_singleton.mp q]; exact solo_full 3 s
theorem PutG.form {f f' : List Int} {s : Int} (p : f'.Perm (f ++ [s])) (hs : f'.Pairwise (· ≤ ·)) (hn : s ∉ f) : PutG 0 f s f' := by
  refine ⟨(List.Perm.of_eq (flat_ints f')).trans (p.trans (List.Perm.of_eq (congrArg (· ++ [s]) (flat_ints f).symm))), fun _ => ⟨fun z => ?_, fun t _ => trivial⟩, fun a => ?_⟩
  · have z : f' = [] := z
    rw [z] at p
    exact absurd (p.mem_iff.mpr (List.mem_append_right _ (List.mem_singleton.mpr rfl))) List.not_mem_nil
  · have a : f.Pairwise (· < ·) := a
    have nd : f.Nodup := a.imp fun h => Int.ne_of_lt h
    have nd' : f'.Nodup := by
      rw [p.nodup_iff, List.nodup_append]
      exact ⟨nd, List.nodup_cons.mpr ⟨List.not_mem_nil, List.nodup_nil⟩, fun x hx y hy e => hn (by rw [← List.mem_singleton.mp hy, ← e]; exact hx)⟩
    show f'.Pairwise (· < ·)
    exact (hs.and nd').imp fun h => by omega
theorem newSolo {H H1 : Hp} {n : Nat} {w : V} {s : Int} {q : Addr} (h : New H H1 n w (solo n s)) (hq : H1 q = none) (sm : Same H H1) : New H (upd H1 q (.lst [w])) (n + 1) (.ref q) (solo (n + 1) s) := by
  have nq : H q = none := sm.free hq
  have nl : NewL H1 H1 q n [] [] := NewL.nil
  obtain ⟨o, k, d⟩ := h
  refine ⟨fun b => if b = q then some [] else (o b).map (· ++ [0]), ⟨q, [w], rfl, if_pos rfl, upd_same, rfl, fun j x t hx ht => ?_⟩, fun b r hr => ?_⟩
  · match j, hx, ht with
    | 0, hx, ht =>
      cases hx
      have ht : some (solo n s) = some t := ht
      cases ht
      refine (k.under [0]).frame fun b r xs hb _ hx => ⟨?_, ?_⟩
      · rw [upd_ne (fun z => by rw [z, hq] at hx; cases hx)]
        exact hx
      · show (if b = q then some [] else (o b).map (· ++ [0])) = some r
        rw [if_neg (fun z => by rw [z, hq] at hx; cases hx)]
        exact hb
    | j + 1, hx, ht => cases hx
  · have hr : (if b = q then some [] else (o b).map (· ++ [0])) = some r := hr
    by_cases e : b = q
    · subst e
      exact ⟨nq, by rw [upd_same]; intro z; cases z⟩
    · rw [if_neg e] at hr
      cases e2 : o b with
      | none => rw [e2] at hr; cases hr
      | some r' => exact ⟨(d b r' e2).1, by rw [upd_ne e]; exact (d b r' e2).2⟩
theorem putEnd {o o' : Ow} {G G1 : Hp} {c : Addr} {u : HO} {pc : List Nat} (x : Ext o o' G G1) (s : Same G G1) (hc : o c = some pc) : (∀ b v, o b = none → G b = some v → upd G1 c u b = some v) ∧ ∀ b r, o' b = some r → o b = none → G b = none := by
  refine ⟨fun b v hb hv => ?_, fun b r hr hb => ?_⟩
  · rw [upd_ne (fun z => by rw [z, hc] at hb; cases hb)]
    exact s b v hv
  · cases e : G b with
    | none => rfl
    | some v => rw [x.old b (by rw [e]; intro z; cases z), hb] at hr; cases hr
def small : (n : Nat) → Tr n → Prop
  | 0, _ => True
  | n + 1, ts => (ls ts).length ≤ 1000 ∧ ∀ t ∈ ls ts, small n t
theorem small_of : ∀ {n : Nat} {t : Tr n}, full n t → (flat n t).length ≤ 1000 → small n t
  | 0, _, _, _ => trivial
  | n + 1, t, h, l => ⟨Nat.le_trans (flat_full (fun x hx => h.2 x hx) (ts := ls t)) l, fun x hx => by
    obtain ⟨i, e⟩ := List.getElem?_of_mem hx
    have := flat_len e
    exact small_of (h.2 x hx) (Nat.le_trans (Nat.le_trans (Nat.le_add_left _ _) this) l)⟩
theorem small_S {S : Tr 4} (h : ∀ g ∈ ls S, full 3 g) (l : (flat 4 S).length ≤ 1000) : small 4 S :=
  ⟨Nat.le_trans (flat_full (fun x hx => h x hx) (ts := ls S)) l, fun x hx => by
    obtain ⟨i, e⟩ := List.getElem?_of_mem hx
    have := flat_len e
    exact small_of (h x hx) (Nat.le_trans (Nat.le_trans (Nat.le_add_left _ _) this) l)⟩
theorem WF.nil : WF ([] : List (Tr 3)) := by
  refine ⟨fun g h => ?_, fun g h => ?_, fun s h => ?_, List.nodup_nil⟩
  · exact absurd (show g ∈ ([] : List (Tr 3)) from h) List.not_mem_nil
  · exact absurd (show g ∈ ([] : List (Tr 3)) from h) List.not_mem_nil
  · exact absurd (show s ∈ ([] : List Int) from h) List.not_mem_nil
theorem nd_take {ns : List Int} {i : Nat} {s : Int} (h : ns.Nodup) (hs : ns[i]? = some s) : s ∉ ns.take i := fun z => by
  have e : ns = ns.take i ++ s :: ns.drop (i + 1) := by
    obtain ⟨hi, rfl⟩ := List.getElem?_eq_some_iff.mp hs
    rw [List.getElem_cons_drop hi, List.take_append_drop]
  rw [e, List.nodup_append] at h
  exact h.2.2 s z s (List.mem_cons_self ..) rfl
theorem atI_last {α : Type} (xs : List α) (v : α) : atI (xs ++ [v]) (-1) = some v := by
  have e : ixN (xs ++ [v]).length (-1) = some xs.length := by
    unfold ixN
    rw [List.length_append, List.length_singleton]
    simp
    omega
  unfold atI
  rw [e]
  simp
theorem getI {ns : List Int} {i : Nat} {x : V} (h : (ns.map V.int)[i]? = some x) : ∃ s, ns[i]? = some s ∧ x = .int s := by
  rw [List.getElem?_map] at h
  cases e : ns[i]? with
  | none => rw [e] at h; cases h
  | some s => rw [e] at h; exact ⟨s, rfl, (Option.some.inj h).symm⟩
def srt (ns : List Int) : List Int := ns.mergeSort fun a b => decide (a ≤ b)
theorem srt_perm (ns : List Int) : (srt ns).Perm ns := List.mergeSort_perm ..
theorem srt_pw (ns : List Int) : (srt ns).Pairwise (· ≤ ·) :=
  (List.pairwise_mergeSort (le := fun a b => decide (a ≤ b)) (fun a b c h1 h2 => decide_eq_true (Int.le_trans (of_decide_eq_true h1) (of_decide_eq_true h2))) (fun a b => by
    rcases Int.le_total a b with h | h
    · rw [decide_eq_true h]; rfl
    · rw [decide_eq_true h, Bool.or_true]) ns).imp fun h => of_decide_eq_true h
theorem srt_is {ms ns : List Int} (p : ms.Perm ns) (h : ms.Pairwise (· ≤ ·)) : ms = srt ns :=
  (p.trans (srt_perm ns).symm).eq_of_pairwise (fun a b _ _ h1 h2 => Int.le_antisymm h1 h2) h (srt_pw ns)
abbrev Rw := List Int × List Int
def rows : (n : Nat) → List Int → List (Tr (n + 1)) → List Rw
  | 0, p, ts => ts.zipIdx.flatMap fun x => [(p ++ [(x.2 : Int)], x.1)]
  | n + 1, p, ts => ts.zipIdx.flatMap fun x => (p ++ [(x.2 : Int)], srt (flat (n + 2) x.1)) :: rows n (p ++ [(x.2 : Int)]) x.1
def one : (n : Nat) → List Int → Nat → Tr (n + 1) → List Rw
  | 0, p, i, t => [(p ++ [(i : Int)], t)]
  | n + 1, p, i, t => (p ++ [(i : Int)], srt (flat (n + 2) t)) :: rows n (p ++ [(i : Int)]) t
theorem rows_one : ∀ (n : Nat) (p : List Int) (ts : List (Tr (n + 1))), rows n p ts = ts.zipIdx.flatMap fun x => one n p x.2 x.1
  | 0, _, _ => rfl
  | _ + 1, _, _ => rfl
theorem rows_take {n : Nat} {p : List Int} {ts : List (Tr (n + 1))} {i : Nat} {t : Tr (n + 1)} (h : ts[i]? = some t) : rows n p (ts.take (i + 1)) = rows n p (ts.take i) ++ one n p i t := by
  have e : ts.take (i + 1) = ts.take i ++ [t] := by rw [List.take_succ, h]; rfl
  have hi : i < ts.length := (List.getElem?_eq_some_iff.mp h).1
  have el : (ts.take i).length = i := by rw [List.length_take]; omega
  rw [rows_one, rows_one, e, List.zipIdx_append, List.flatMap_append, el]
  show _ ++ (one n p (0 + i) t ++ []) = _
  rw [Nat.zero_add, List.append_nil]
def sheets3 (rs : List Rw) : List Int := rs.flatMap fun r => if r.1.length = 3 then r.2 else []
theorem sheets3_app (a b : List Rw) : sheets3 (a ++ b) = sheets3 a ++ sheets3 b := List.flatMap_append
theorem rows_flat : ∀ (n : Nat) (p : List Int) (ts : List (Tr (n + 1))), p.length + n = 2 → sheets3 (rows n p ts) = flat (n + 2) ts := by
  intro n
  induction n with
  | zero =>
    intro p ts hp
    have : ∀ (us : List (Tr 1)) (k : Nat), sheets3 ((us.zipIdx k).flatMap fun x => one 0 p x.2 x.1) = flat 2 us := by
      intro us
      induction us with
      | nil => intro k; rfl
      | cons t r ih =>
        intro k
        rw [List.zipIdx_cons, List.flatMap_cons, sheets3_app, ih (k + 1)]
        have e : sheets3 (one 0 p (t, k).snd (t, k).fst) = flat 1 t := by
          show List.append (if (p ++ [(k : Int)]).length = 3 then ls t else []) [] = flat 1 t
          rw [if_pos (by rw [List.length_append]; show p.length + 1 = 3; omega)]
          exact (List.append_nil (ls t)).trans (flat_ints t).symm
        rw [e]
        rfl
    rw [rows_one]
    exact this ts 0
  | succ n ih0 =>
    intro p ts hp
    have : ∀ (us : List (Tr (n + 2))) (k : Nat), sheets3 ((us.zipIdx k).flatMap fun x => one (n + 1) p x.2 x.1) = flat (n + 3) us := by
      intro us
      induction us with
      | nil => intro k; rfl
      | cons t r ih =>
        intro k
        rw [List.zipIdx_cons, List.flatMap_cons, sheets3_app, ih (k + 1)]
        have e : sheets3 (one (n + 1) p (t, k).snd (t, k).fst) = flat (n + 2) t := by
          have el : (p ++ [(k : Int)]).length = p.length + 1 := by rw [List.length_append]; rfl
          show List.append (if (p ++ [(k : Int)]).length = 3 then srt (flat (n + 2) t) else []) (sheets3 (rows n (p ++ [(k : Int)]) (ls t))) = _
          rw [if_neg (by omega)]
          exact ih0 _ (ls t) (by omega)
        rw [e]
        rfl
    rw [rows_one]
    exact this ts 0
theorem rows_len : ∀ (n : Nat) (p : List Int) (ts : List (Tr (n + 1))), (∀ t ∈ ts, full (n + 1) t) → (rows n p ts).length ≤ (n + 1) * (flat (n + 2) ts).length := by
  intro n
  induction n with
  | zero =>
    intro p ts hf
    have : ∀ (us : List (Tr 1)) (k : Nat), (∀ t ∈ us, full 1 t) → ((us.zipIdx k).flatMap fun x => one 0 p x.2 x.1).length ≤ (flat 2 us).length := by
      intro us
      induction us with
      | nil => intro k _; exact Nat.le_refl _
      | cons t r ih =>
        intro k hf
        rw [List.zipIdx_cons, List.flatMap_cons, List.length_append]
        have h1 := ih (k + 1) fun t ht => hf t (List.mem_cons_of_mem _ ht)
        have h2 := flat_pos (hf t (List.mem_cons_self ..))
        have e2 : flat 2 (t :: r : List (Tr 1)) = flat 1 t ++ flat 2 (r : List (Tr 1)) := rfl
        rw [e2, List.length_append]
        have e3 : (one 0 p (t, k).snd (t, k).fst).length = 1 := rfl
        omega
    rw [rows_one]
    have h := this ts 0 hf
    exact Nat.le_trans h (Nat.le_of_eq (Nat.one_mul _).symm)
  | succ n ih0 =>
    intro p ts hf
    have : ∀ (us : List (Tr (n + 2))) (k : Nat), (∀ t ∈ us, full (n + 2) t) → ((us.zipIdx k).flatMap fun x => one (n + 1) p x.2 x.1).length ≤ (n + 2) * (flat (n + 3) us).length := by
      intro us
      induction us with
      | nil => intro k _; exact Nat.zero_le _
      | cons t r ih =>
        intro k hf
        rw [List.zipIdx_cons, List.flatMap_cons, List.length_append]
        have h1 := ih (k + 1) fun t ht => hf t (List.mem_cons_of_mem _ ht)
        have h2 := flat_pos (hf t (List.mem_cons_self ..))
        have h3 : (rows n (p ++ [(k : Int)]) (ls t)).length ≤ (n + 1) * (flat (n + 2) t).length := ih0 (p ++ [(k : Int)]) (ls t) (hf t (List.mem_cons_self ..)).2
        have e2 : flat (n + 3) (t :: r : List (Tr (n + 2))) = flat (n + 2) t ++ flat (n + 3) (r : List (Tr (n + 2))) := rfl
        rw [e2, List.length_append, Nat.mul_add]
        have e3 : (one (n + 1) p (t, k).snd (t, k).fst).length = (rows n (p ++ [(k : Int)]) (ls t)).length + 1 := rfl
        have e4 : (n + 2) * (flat (n + 2) t).length = (n + 1) * (flat (n + 2) t).length + (flat (n + 2) t).length := by rw [Nat.succ_mul]
        omega
    rw [rows_one]
    exact this ts 0 hf
def RowT (H0 H : Hp) (v : V) (r : Rw) : Prop := ∃ t ip sl, v = .ref t ∧ H t = some (.tup [.ref ip, .ref sl]) ∧ H ip = some (.tup (r.1.map V.int)) ∧ H sl = some (.lst (r.2.map V.int)) ∧ H0 sl = none
def RowsAt (H0 H : Hp) (vs : List V) (rs : List Rw) : Prop := vs.length = rs.length ∧ ∀ (j : Nat) v r, vs[j]? = some v → rs[j]? = some r → RowT H0 H v r
theorem RowT.same {H0 H H' : Hp} {v : V} {r : Rw} (h : RowT H0 H v r) (s : Same H H') : RowT H0 H' v r := let ⟨t, ip, sl, e, a, b, c, d⟩ := h; ⟨t, ip, sl, e, s _ _ a, s _ _ b, s _ _ c, d⟩
theorem RowT.older {H0 H1 H : Hp} {v : V} {r : Rw} (h : RowT H1 H v r) (s : Same H0 H1) : RowT H0 H v r := let ⟨t, ip, sl, e, a, b, c, d⟩ := h; ⟨t, ip, sl, e, a, b, c, s.free d⟩
theorem RowsAt.same {H0 H H' : Hp} {vs : List V} {rs : List Rw} (h : RowsAt H0 H vs rs) (s : Same H H') : RowsAt H0 H' vs rs := ⟨h.1, fun j v r a b => (h.2 j v r a b).same s⟩
theorem RowsAt.older {H0 H1 H : Hp} {vs : List V} {rs : List Rw} (h : RowsAt H1 H vs rs) (s : Same H0 H1) : RowsAt H0 H vs rs := ⟨h.1, fun j v r a b => (h.2 j v r a b).older s⟩
theorem RowsAt.elder {H0 H1 H : Hp} {vs : List V} {rs : List Rw} (h : RowsAt H1 H vs rs) (f : ∀ b, H1 b = none → H0 b = none) : RowsAt H0 H vs rs := ⟨h.1, fun j v r a b => let ⟨t, ip, sl, e, a1, b1, c1, d1⟩ := h.2 j v r a b; ⟨t, ip, sl, e, a1, b1, c1, f _ d1⟩⟩
theorem RowsAt.nil {H0 H : Hp} : RowsAt H0 H [] [] := ⟨rfl, fun j v r h => by rw [List.getElem?_nil] at h; cases h⟩
theorem RowsAt.app {H0 H : Hp} {vs ws : List V} {rs qs : List Rw} (h : RowsAt H0 H vs rs) (h' : RowsAt H0 H ws qs) : RowsAt H0 H (vs ++ ws) (rs ++ qs) := by
  refine ⟨by rw [List.length_append, List.length_append, h.1, h'.1], fun j v r hv hr => ?_⟩
  rcases Nat.lt_or_ge j vs.length with q | q
  · rw [List.getElem?_append_left q] at hv
    rw [List.getElem?_append_left (by rw [← h.1]; exact q)] at hr
    exact h.2 j v r hv hr
  · rw [List.getElem?_append_right q] at hv
    rw [List.getElem?_append_right (by rw [← h.1]; exact q), ← h.1] at hr
    exact h'.2 _ v r hv hr
theorem RowsAt.one {H0 H : Hp} {v : V} {r : Rw} (h : RowT H0 H v r) : RowsAt H0 H [v] [r] := by
  refine ⟨rfl, fun j w q hw hq => ?_⟩
  match j, hw, hq with
  | 0, hw, hq => cases hw; cases hq; exact h
  | j + 1, hw, hq => cases hw
theorem RowT.upd {H0 H : Hp} {v : V} {r : Rw} {l : Addr} {xs ys : List V} (h : RowT H0 H v r) (hl : H l = some (.lst xs)) (hl0 : H0 l ≠ none) : RowT H0 (L2.upd H l (.lst ys)) v r := by
  obtain ⟨t, ip, sl, e, a, b, c, d⟩ := h
  have n1 : t ≠ l := fun z => by rw [z, hl] at a; cases a
  have n2 : ip ≠ l := fun z => by rw [z, hl] at b; cases b
  have n3 : sl ≠ l := fun z => hl0 (z ▸ d)
  exact ⟨t, ip, sl, e, by rw [upd_ne n1]; exact a, by rw [upd_ne n2]; exact b, by rw [upd_ne n3]; exact c, d⟩
theorem RowsAt.upd {H0 H : Hp} {vs : List V} {rs : List Rw} {l : Addr} {xs ys : List V} (h : RowsAt H0 H vs rs) (hl : H l = some (.lst xs)) (hl0 : H0 l ≠ none) : RowsAt H0 (L2.upd H l (.lst ys)) vs rs := ⟨h.1, fun j v r a b => (h.2 j v r a b).upd hl hl0⟩
def spSheetsOf : Sp := fun vs H Q _ => ∃ l ws H0 rs, vs = [.ref l] ∧ H l = some (.lst ws) ∧ RowsAt H0 H ws rs ∧ (sheets3 rs).length < 64 ∧ rs.length ≤ 1000 ∧ ∀ q H', Same H H' → H q = none → H' q = some (.lst ((srt (sheets3 rs)).map V.int)) → Q (.ref q) H'
def spGroupsIn (K : PySem.W.Frag) (n : Nat) : Sp := fun vs H Q _ => ∃ tp ps v, ∃ ts : Tr (n + 2), vs = [.ref tp, v] ∧ SqT K H tp (ps.map V.int) ∧ ps.length + n = 2 ∧ AtR H (n + 2) v ts ∧ (∀ t ∈ ls ts, full (n + 1) t) ∧ (flat (n + 2) ts).length < 64 ∧
  ∀ l ws H', Same H H' → H l = none → H' l = some (.lst ws) → RowsAt H H' ws (rows n ps (ls ts)) → Q (.ref l) H'
def spGroups (K : PySem.W.Frag) : Sp := fun vs H Q _ => ∃ v, ∃ S : Tr 4, vs = [v] ∧ AtR H 4 v S ∧ WF S ∧ (flat 4 S).length < 64 ∧ ∀ l ws H', Same H H' → H l = none → H' l = some (.lst ws) → RowsAt H H' ws (rows 2 [] (ls S)) → Q (.ref l) H'
def RowL (H : Hp) (v : V) (r : Rw) : Prop := ∃ a t l, v = .ref a ∧ H a = some (.lst [.ref t, .ref l]) ∧ H t = some (.tup (r.1.map V.int)) ∧ H l = some (.lst (r.2.map V.int))
def RowsL (H : Hp) (vs : List V) (rs : List Rw) : Prop := vs.length = rs.length ∧ ∀ (j : Nat) v r, vs[j]? = some v → rs[j]? = some r → RowL H v r
theorem RowL.keep {H H' : Hp} {v : V} {r : Rw} (h : RowL H v r) (s : ∀ b u, H b = some u → H' b = some u) : RowL H' v r := let ⟨a, t, l, e, h1, h2, h3⟩ := h; ⟨a, t, l, e, s _ _ h1, s _ _ h2, s _ _ h3⟩
theorem RowsL.same {H H' : Hp} {vs : List V} {rs : List Rw} (h : RowsL H vs rs) (s : Same H H') : RowsL H' vs rs := ⟨h.1, fun j v r a b => (h.2 j v r a b).keep s⟩
def RowX (X : Addr → Prop) (H : Hp) (v : V) (r : Rw) : Prop := ∃ a t l, v = .ref a ∧ H a = some (.lst [.ref t, .ref l]) ∧ H t = some (.tup (r.1.map V.int)) ∧ H l = some (.lst (r.2.map V.int)) ∧ ¬ X a ∧ ¬ X l
def RowsX (X : Addr → Prop) (H : Hp) (vs : List V) (rs : List Rw) : Prop := vs.length = rs.length ∧ ∀ (j : Nat) v r, vs[j]? = some v → rs[j]? = some r → RowX X H v r
theorem RowX.keep {X Y : Addr → Prop} {H H' : Hp} {v : V} {r : Rw} (h : RowX X H v r) (s : ∀ b u, H b = some u → ¬ X b → H' b = some u ∧ ¬ Y b) (ht : ∀ b ys, H b = some (.tup ys) → H' b = some (.tup ys)) : RowX Y H' v r := by
  obtain ⟨a, t, l, e, h1, h2, h3, n1, n2⟩ := h
  exact ⟨a, t, l, e, (s _ _ h1 n1).1, ht _ _ h2, (s _ _ h3 n2).1, (s _ _ h1 n1).2, (s _ _ h3 n2).2⟩
theorem RowsX.keep {X Y : Addr → Prop} {H H' : Hp} {vs : List V} {rs : List Rw} (h : RowsX X H vs rs) (s : ∀ b u, H b = some u → ¬ X b → H' b = some u ∧ ¬ Y b) (ht : ∀ b ys, H b = some (.tup ys) → H' b = some (.tup ys)) : RowsX Y H' vs rs := ⟨h.1, fun j v r a b => (h.2 j v r a b).keep s ht⟩
theorem RowsX.app {X : Addr → Prop} {H : Hp} {vs ws : List V} {rs qs : List Rw} (h : RowsX X H vs rs) (h' : RowsX X H ws qs) : RowsX X H (vs ++ ws) (rs ++ qs) := by
  refine ⟨by rw [List.length_append, List.length_append, h.1, h'.1], fun j v r hv hr => ?_⟩
  rcases Nat.lt_or_ge j vs.length with q | q
  · rw [List.getElem?_append_left q] at hv
    rw [List.getElem?_append_left (by rw [← h.1]; exact q)] at hr
    exact h.2 j v r hv hr
  · rw [List.getElem?_append_right q] at hv
    rw [List.getElem?_append_right (by rw [← h.1]; exact q), ← h.1] at hr
    exact h'.2 _ v r hv hr
theorem RowsL.app {H : Hp} {vs ws : List V} {rs qs : List Rw} (h : RowsL H vs rs) (h' : RowsL H ws qs) : RowsL H (vs ++ ws) (rs ++ qs) := by
  refine ⟨by rw [List.length_append, List.length_append, h.1, h'.1], fun j v r hv hr => ?_⟩
  rcases Nat.lt_or_ge j vs.length with q | q
  · rw [List.getElem?_append_left q] at hv
    rw [List.getElem?_append_left (by rw [← h.1]; exact q)] at hr
    exact h.2 j v r hv hr
  · rw [List.getElem?_append_right q] at hv
    rw [List.getElem?_append_right (by rw [← h.1]; exact q), ← h.1] at hr
    exact h'.2 _ v r hv hr
theorem RowsL.one {H : Hp} {v : V} {r : Rw} (h : RowL H v r) : RowsL H [v] [r] := by
  refine ⟨rfl, fun j w q hw hq => ?_⟩
  match j, hw, hq with
  | 0, hw, hq => cases hw; cases hq; exact h
  | j + 1, hw, hq => cases hw
theorem RowsX.one {X : Addr → Prop} {H : Hp} {v : V} {r : Rw} (h : RowX X H v r) : RowsX X H [v] [r] := by
  refine ⟨rfl, fun j w q hw hq => ?_⟩
  match j, hw, hq with
  | 0, hw, hq => cases hw; cases hq; exact h
  | j + 1, hw, hq => cases hw
theorem RowsX.nil {X : Addr → Prop} {H : Hp} : RowsX X H [] [] := ⟨rfl, fun j v r h => by rw [List.getElem?_nil] at h; cases h⟩
theorem RowsL.nil {H : Hp} : RowsL H [] [] := ⟨rfl, fun j v r h => by rw [List.getElem?_nil] at h; cases h⟩
def firstP : List Rw → Int → Option (List Int)
  | [], _ => none
  | r :: rs, s => if r.1.length = 3 ∧ s ∈ r.2 then some r.1 else firstP rs s
def PathV (H : Hp) (w : V) (o : Option (List Int)) : Prop := match o with | none => w = .non | some p => ∃ ip, w = .ref ip ∧ H ip = some (.tup (p.map V.int))
theorem inV_ints (s : Int) : ∀ ns : List Int, inV (.int s) (ns.map V.int) = decide (s ∈ ns)
  | [] => rfl
  | n :: ns => by
    show (eqV (.int n) (.int s) || inV (.int s) (ns.map V.int)) = _
    rw [inV_ints s ns]
    by_cases e : n = s
    · subst e
      simp [eqV]
    · have : eqV (.int n) (.int s) = false := by simp [eqV, e]
      rw [this, Bool.false_or]
      have e' : ¬ s = n := fun z => e z.symm
      simp [e']
theorem flatI (ns : List Int) : (ns.map V.int).all flatV = true := by
  rw [List.all_eq_true]
  intro x hx
  obtain ⟨i, _, rfl⟩ := List.mem_map.mp hx
  rfl
def spRefuse (K : PySem.W.Frag) (C : Addr) : Sp := fun vs H Q E => ∃ x, vs = [x] ∧ Own K H x ∧ (inR 1000000000 x = true → Q .non H) ∧ (inR 1000000000 x = false → E (.ref C) none H)
def spPathOf (K : PySem.W.Frag) (C : Addr) : Sp := fun vs H Q E => ∃ v x, ∃ S : Tr 4, vs = [v, x] ∧ AtR H 4 v S ∧ WF S ∧ (flat 4 S).length < 64 ∧ Own K H x ∧ (inR 1000000000 x = false → ∀ H', Same H H' → E (.ref C) none H') ∧
  (∀ s, x = .int s → inR 1000000000 x = true → ∀ w H', Same H H' → PathV H' w (firstP (rows 2 [] (ls S)) s) → Q w H')
theorem inR_int' {m : Int} {x : V} (h : inR m x = true) : ∃ i, x = .int i := by
  cases x <;> first | exact ⟨_, rfl⟩ | exact absurd (show false = true from h) Bool.false_ne_true
def wo : (n : Nat) → Int → Tr (n + 1) → Tr (n + 1)
  | 0, s, f => (List.filter (fun x => !decide (x = s)) (f : List Int) : List Int)
  | n + 1, s, ts => (List.filter (fun t : Tr (n + 1) => !(ls t).isEmpty) ((ls ts).map (wo n s)) : List (Tr (n + 1)))
def spWithout (n : Nat) : Sp := fun vs H Q _ => ∃ v s, ∃ t : Tr (n + 1), vs = [v, .int s, .int (3 - (n : Int))] ∧ AtR H (n + 1) v t ∧ small (n + 1) t ∧ ∀ w H', Same H H' → New H H' (n + 1) w (wo n s t) → Q w H'
abbrev Q4 := Int × Int × Int × Int
def pl1 (a b d : Int) (f : List Int) : List Q4 := f.map fun s => (s, a, b, d)
def pl2 (a b : Int) : Int → List (Tr 1) → List Q4
  | _, [] => []
  | d, f :: r => pl1 a b d (ls f) ++ pl2 a b (d + 1) r
def pl3 (a : Int) : Int → List (Tr 2) → List Q4
  | _, [] => []
  | b, c :: r => pl2 a b 0 (ls c) ++ pl3 a (b + 1) r
def pl4 : Int → List (Tr 3) → List Q4
  | _, [] => []
  | a, g :: r => pl3 a 0 (ls g) ++ pl4 (a + 1) r
def places (S : Tr 4) : List Q4 := pl4 0 (ls S)
def ne {n : Nat} (xs : List (Tr (n + 1))) : List (Tr (n + 1)) := xs.filter fun t => !(ls t).isEmpty
theorem mem_rows0 {p : List Int} {fs : List (Tr 1)} {r : Rw} : r ∈ rows 0 p fs ↔ ∃ (k : Nat) (f : Tr 1), fs[k]? = some f ∧ r = (p ++ [(k : Int)], ls f) := by
  rw [rows_one, List.mem_flatMap]
  constructor
  · rintro ⟨x, hx, hr⟩
    exact ⟨x.2, x.1, List.mem_zipIdx_iff_getElem?.mp hx, List.mem_singleton.mp hr⟩
  · rintro ⟨k, f, hf, rfl⟩
    exact ⟨(f, k), List.mem_zipIdx_iff_getElem?.mpr hf, List.mem_singleton.mpr rfl⟩
theorem mem_rows1 {n : Nat} {p : List Int} {ts : List (Tr (n + 2))} {r : Rw} : r ∈ rows (n + 1) p ts ↔ ∃ (i : Nat) (t : Tr (n + 2)), ts[i]? = some t ∧ (r = (p ++ [(i : Int)], srt (flat (n + 2) t)) ∨ r ∈ rows n (p ++ [(i : Int)]) (ls t)) := by
  rw [rows_one, List.mem_flatMap]
  constructor
  · rintro ⟨x, hx, hr⟩
    exact ⟨x.2, x.1, List.mem_zipIdx_iff_getElem?.mp hx, List.mem_cons.mp hr⟩
  · rintro ⟨i, t, ht, hr⟩
    exact ⟨(t, i), List.mem_zipIdx_iff_getElem?.mpr ht, List.mem_cons.mpr hr⟩
def Lies (S : Tr 4) (s : Int) (p : List Int) : Prop := ∃ (i j k : Nat) (g : Tr 3) (c : Tr 2) (f : Tr 1), (ls S)[i]? = some g ∧ (ls g)[j]? = some c ∧ (ls c)[k]? = some f ∧ s ∈ ls f ∧ p = [(i : Int), (j : Int), (k : Int)]
theorem mem_flat1 {f : Tr 1} {s : Int} : s ∈ flat 1 f ↔ s ∈ ls f := by
  have := flat_ints f
  constructor
  · intro h; rw [this] at h; exact h
  · intro h; rw [this]; exact h
theorem deep_row {S : Tr 4} {r : Rw} (h : r ∈ rows 2 [] (ls S)) (h3 : r.1.length = 3) : ∃ (i j k : Nat) (g : Tr 3) (c : Tr 2) (f : Tr 1), (ls S)[i]? = some g ∧ (ls g)[j]? = some c ∧ (ls c)[k]? = some f ∧ r = ([(i : Int), (j : Int), (k : Int)], ls f) := by
  obtain ⟨i, g, hg, h | h⟩ := mem_rows1.mp h
  · rw [h] at h3; exact absurd (show (1 : Nat) = 3 from h3) (by decide)
  obtain ⟨j, c, hc, h | h⟩ := mem_rows1.mp h
  · rw [h] at h3; exact absurd (show (2 : Nat) = 3 from h3) (by decide)
  obtain ⟨k, f, hf, h⟩ := mem_rows0.mp h
  exact ⟨i, j, k, g, c, f, hg, hc, hf, h⟩
theorem uniq_at {n : Nat} {ts : List (Tr n)} {i i' : Nat} {t t' : Tr n} {s : Int} (nd : (flat (n + 1) ts).Nodup) (h : ts[i]? = some t) (h' : ts[i']? = some t') (hs : s ∈ flat n t) (hs' : s ∈ flat n t') : i = i' := by
  have key : ∀ {a b : Nat} {x y : Tr n}, ts[a]? = some x → ts[b]? = some y → s ∈ flat n x → s ∈ flat n y → ¬ a < b := fun {a b x y} ha hb hx hy lt => by
    refine (flat_nd hb nd).2 s hy ?_
    refine flat_mem (t := x) ?_ hx
    exact List.mem_of_getElem? (i := a) (by rw [List.getElem?_take_of_lt lt]; exact ha)
  have h1 := key h h' hs hs'
  have h2 := key h' h hs' hs
  omega
theorem first_is {s : Int} {p : List Int} : ∀ {rs : List Rw}, (∀ r ∈ rs, r.1.length = 3 → s ∈ r.2 → r.1 = p) → (∃ r ∈ rs, r.1.length = 3 ∧ s ∈ r.2) → firstP rs s = some p
  | [], _, ⟨r, h, _⟩ => nomatch h
  | r :: rs, u, ⟨q, hq, h3, hs⟩ => by
    show (if r.1.length = 3 ∧ s ∈ r.2 then some r.1 else firstP rs s) = some p
    by_cases e : r.1.length = 3 ∧ s ∈ r.2
    · rw [if_pos e, u r (List.mem_cons_self ..) e.1 e.2]
    · rw [if_neg e]
      refine first_is (fun x hx => u x (List.mem_cons_of_mem _ hx)) ⟨q, ?_, h3, hs⟩
      rcases List.mem_cons.mp hq with rfl | hq
      · exact absurd ⟨h3, hs⟩ e
      · exact hq
theorem first_no {s : Int} : ∀ {rs : List Rw}, (∀ r ∈ rs, r.1.length = 3 → s ∉ r.2) → firstP rs s = none
  | [], _ => rfl
  | r :: rs, u => by
    show (if r.1.length = 3 ∧ s ∈ r.2 then some r.1 else firstP rs s) = none
    rw [if_neg (fun e => u r (List.mem_cons_self ..) e.1 e.2)]
    exact first_no fun x hx => u x (List.mem_cons_of_mem _ hx)
theorem Lies.first {S : Tr 4} {s : Int} {p : List Int} (wf : WF S) (h : Lies S s p) : firstP (rows 2 [] (ls S)) s = some p := by
  obtain ⟨i, j, k, g, c, f, hg, hc, hf, hs, rfl⟩ := h
  have hs := mem_flat1.mpr hs
  have hs2 := flat_mem (List.mem_of_getElem? hf) hs
  have hs3 := flat_mem (List.mem_of_getElem? hc) hs2
  refine first_is (fun r hr h3 hr2 => ?_) ⟨([(i : Int), (j : Int), (k : Int)], ls f), mem_rows1.mpr ⟨i, g, hg, .inr (mem_rows1.mpr ⟨j, c, hc, .inr (mem_rows0.mpr ⟨k, f, hf, rfl⟩)⟩)⟩, rfl, mem_flat1.mp hs⟩
  obtain ⟨i', j', k', g', c', f', hg', hc', hf', rfl⟩ := deep_row hr h3
  have gs := mem_flat1.mpr hr2
  have gs2 := flat_mem (List.mem_of_getElem? hf') gs
  have gs3 := flat_mem (List.mem_of_getElem? hc') gs2
  obtain rfl := uniq_at wf.nd hg hg' hs3 gs3
  rw [hg] at hg'
  cases hg'
  have ndg := (flat_nd hg wf.nd).1
  obtain rfl := uniq_at ndg hc hc' hs2 gs2
  rw [hc] at hc'
  cases hc'
  obtain rfl := uniq_at (flat_nd hc ndg).1 hf hf' hs gs
  rfl
theorem first_out {S : Tr 4} {s : Int} (h : s ∉ flat 4 S) : firstP (rows 2 [] (ls S)) s = none := first_no fun r hr h3 hr2 => by
  obtain ⟨i, j, k, g, c, f, hg, hc, hf, rfl⟩ := deep_row hr h3
  exact h (flat_mem (List.mem_of_getElem? hg) (flat_mem (List.mem_of_getElem? hc) (flat_mem (List.mem_of_getElem? hf) (mem_flat1.mpr hr2))))
structure Kn (S : Tr 4) (G : Hp) (kvs : List (Key × V)) (done : List Int) : Prop where
  has : ∀ s ∈ done, valV kvs (Sum.inl s) ≠ none
  val : ∀ s v, valV kvs (Sum.inl s) = some v → ∃ p a, Lies S s p ∧ v = .ref a ∧ G a = some (.lst (p.map V.int))
  keys : ∀ q ∈ kvs, ∃ s ∈ flat 4 S, q.1 = Sum.inl s
  len : kvs.length ≤ done.length
theorem Kn.nil {S : Tr 4} {G : Hp} : Kn S G [] [] := by
  refine ⟨fun s h => ?_, fun s v h => ?_, fun q h => ?_, Nat.le_refl _⟩
  · exact absurd h List.not_mem_nil
  · rw [valV_nil] at h; cases h
  · exact absurd h List.not_mem_nil
theorem Kn.keep {S : Tr 4} {G G' : Hp} {kvs : List (Key × V)} {done : List Int} (h : Kn S G kvs done) (s : ∀ a xs, G a = some (.lst xs) → G' a = some (.lst xs)) : Kn S G' kvs done :=
  ⟨h.has, fun x v e => let ⟨p, a, l, e', g⟩ := h.val x v e; ⟨p, a, l, e', s _ _ g⟩, h.keys, h.len⟩
theorem Kn.put {S : Tr 4} {G : Hp} {kvs : List (Key × V)} {done : List Int} {s : Int} {p : List Int} {a : Addr} (h : Kn S G kvs done) (l : Lies S s p) (g : G a = some (.lst (p.map V.int))) (hs : s ∈ flat 4 S) : Kn S G (putK kvs (Sum.inl s) (.ref a)) (done ++ [s]) := by
  refine ⟨fun x hx => ?_, fun x v e => ?_, fun q hq => ?_, ?_⟩
  · rw [valV_put]
    by_cases e : x = s
    · rw [if_pos (by rw [e])]; intro z; cases z
    · rw [if_neg (fun z => e (Sum.inl.inj z))]
      rcases List.mem_append.mp hx with q | q
      · exact h.has x q
      · exact absurd (List.mem_singleton.mp q) e
  · rw [valV_put] at e
    by_cases e' : x = s
    · rw [if_pos (by rw [e'])] at e
      cases e
      rw [e']
      exact ⟨p, a, l, rfl, g⟩
    · rw [if_neg (fun z => e' (Sum.inl.inj z))] at e
      exact h.val x v e
  · unfold putK at hq
    split at hq
    · obtain ⟨q', hq', rfl⟩ := List.mem_map.mp hq
      obtain ⟨x, hx, e⟩ := h.keys q' hq'
      refine ⟨x, hx, ?_⟩
      split
      · exact e
      · exact e
    · rcases List.mem_append.mp hq with q1 | q1
      · exact h.keys q q1
      · rw [List.mem_singleton.mp q1]; exact ⟨s, hs, rfl⟩
  · have := h.len
    unfold putK
    rw [List.length_append]
    show _ ≤ done.length + 1
    split
    · rw [List.length_map]; omega
    · rw [List.length_append]; show kvs.length + 1 ≤ _; omega
theorem flat_ne {n : Nat} : ∀ xs : List (Tr (n + 1)), flat (n + 2) (ne xs : List (Tr (n + 1))) = flat (n + 2) xs
  | [] => rfl
  | x :: r => by
    obtain ⟨y, hy⟩ : ∃ y : List (Tr n), y = x := ⟨x, rfl⟩
    subst hy
    cases y with
    | nil => exact flat_ne r
    | cons a t =>
      show flat (n + 1) (a :: t : List (Tr n)) ++ flat (n + 2) (ne r : List (Tr (n + 1))) = flat (n + 1) (a :: t : List (Tr n)) ++ flat (n + 2) r
      rw [flat_ne r]
theorem flat_wo (s : Int) : ∀ (n : Nat) (t : Tr (n + 1)), flat (n + 1) (wo n s t) = (flat (n + 1) t).filter (fun x => !decide (x = s))
  | 0, f => (flat_ints (wo 0 s f)).trans (congrArg (List.filter (fun x => !decide (x = s))) (flat_ints f).symm)
  | n + 1, ts => by
    have key : ∀ xs : List (Tr (n + 1)), flat (n + 2) (xs.map (wo n s) : List (Tr (n + 1))) = (flat (n + 2) xs).filter (fun x => !decide (x = s)) := fun xs => by
      induction xs with
      | nil => rfl
      | cons x r ih =>
        show flat (n + 1) (wo n s x) ++ flat (n + 2) (r.map (wo n s) : List (Tr (n + 1))) = (flat (n + 1) x ++ flat (n + 2) (r : List (Tr (n + 1)))).filter _
        rw [List.filter_append, ih, flat_wo s n x]
    exact (flat_ne _).trans (key (ls ts))
theorem wo_in {n : Nat} {s : Int} {ts : Tr (n + 2)} {x : Tr (n + 1)} (h : x ∈ ls (wo (n + 1) s ts)) : ls x ≠ [] ∧ ∃ t ∈ ls ts, x = wo n s t := by
  have h : x ∈ List.filter (fun t : Tr (n + 1) => !(ls t).isEmpty) ((ls ts).map (wo n s)) := h
  obtain ⟨h1, h2⟩ := List.mem_filter.mp h
  obtain ⟨t, ht, e⟩ := List.mem_map.mp h1
  refine ⟨fun z => ?_, t, ht, e.symm⟩
  rw [z] at h2
  cases h2
theorem wo_full {s : Int} : ∀ {n : Nat} {ts : Tr (n + 2)} {x : Tr (n + 1)}, x ∈ ls (wo (n + 1) s ts) → full (n + 1) x
  | 0, _, _, h => ⟨(wo_in h).1, fun _ _ => trivial⟩
  | n + 1, _, x, h => by
    obtain ⟨h1, t, _, rfl⟩ := wo_in h
    exact ⟨h1, fun y hy => wo_full hy⟩
theorem wo_asc {s : Int} : ∀ {n : Nat} {t : Tr (n + 1)}, asc (n + 1) t → asc (n + 1) (wo n s t)
  | 0, f, h => by
    have h : List.Pairwise (α := Int) (· < ·) f := h
    exact List.Pairwise.filter (R := ((· < ·) : Int → Int → Prop)) (fun x => !decide (x = s)) h
  | n + 1, ts, h => fun x hx => by
    obtain ⟨_, t, ht, rfl⟩ := wo_in hx
    exact wo_asc (h t ht)
theorem WF.wo {S : Tr 4} (w : WF S) (s : Int) : WF (My.wo 3 s S) := by
  have e := flat_wo s 3 S
  refine ⟨fun g hg => wo_full hg, wo_asc w.as, fun x hx => w.inn x ?_, ?_⟩
  · have hx : x ∈ flat (3 + 1) (My.wo 3 s S) := hx
    rw [e] at hx
    exact (List.mem_filter.mp hx).1
  · show (flat (3 + 1) (My.wo 3 s S)).Nodup
    rw [e]
    exact w.nd.filter _
theorem wo_len (S : Tr 4) (s : Int) : (flat 4 (wo 3 s S)).length ≤ (flat 4 S).length := by
  have e : flat 4 (wo 3 s S) = (flat 4 S).filter (fun x => !decide (x = s)) := flat_wo s 3 S
  rw [e]
  exact List.length_filter_le _ _
theorem Lies.of {S : Tr 4} {s : Int} (h : s ∈ flat 4 S) : ∃ p, Lies S s p := by
  obtain ⟨g, hg, h3⟩ := List.mem_flatMap.mp (show s ∈ (ls S).flatMap (flat 3) from h)
  obtain ⟨c, hc, h2⟩ := List.mem_flatMap.mp (show s ∈ (ls g).flatMap (flat 2) from h3)
  obtain ⟨f, hf, h1⟩ := List.mem_flatMap.mp (show s ∈ (ls c).flatMap (flat 1) from h2)
  obtain ⟨i, ei⟩ := List.getElem?_of_mem hg
  obtain ⟨j, ej⟩ := List.getElem?_of_mem hc
  obtain ⟨k, ek⟩ := List.getElem?_of_mem hf
  exact ⟨_, i, j, k, g, c, f, ei, ej, ek, mem_flat1.mp h1, rfl⟩
def Vis (i j m : Nat) : List Nat → Prop
  | [m', j', i'] => i' < i ∨ (i' = i ∧ (j' < j ∨ (j' = j ∧ m' < m)))
  | _ => False
theorem vis_is {i j m : Nat} {p : List Nat} (h : Vis i j m p) : ∃ c b a, p = [c, b, a] := by
  match p, h with
  | [c, b, a], _ => exact ⟨c, b, a, rfl⟩
structure Jv (o : Ow) (G0 : Hp) (i j m : Nat) (G : Hp) : Prop where
  out : ∀ b u, o b = none → G0 b = some u → G b = some u
  own : ∀ b p u, o b = some p → ¬ Vis i j m p → G0 b = some u → G b = some u
theorem Jv.mono {o : Ow} {G0 G : Hp} {i j m i' j' m' : Nat} (h : Jv o G0 i j m G) (hv : ∀ c b a, Vis i j m [c, b, a] → Vis i' j' m' [c, b, a]) : Jv o G0 i' j' m' G :=
  ⟨h.out, fun b p u hp hn => h.own b p u hp fun z => hn (by
    obtain ⟨x, y, w, rfl⟩ := vis_is z
    exact hv _ _ _ z)⟩
def AtL (H : Hp) (n : Nat) (ws : List V) (ts : List (Tr n)) : Prop := ws.length = ts.length ∧ ∀ (j : Nat) w t, ws[j]? = some w → ts[j]? = some t → AtR H n w t
theorem AtL.nil {H : Hp} {n : Nat} : AtL H n [] [] := ⟨rfl, fun j w t h => (by rw [List.getElem?_nil] at h; cases h)⟩
theorem AtL.snoc {H : Hp} {n : Nat} {ws : List V} {ts : List (Tr n)} {w : V} {t : Tr n} (h : AtL H n ws ts) (hw : AtR H n w t) : AtL H n (ws ++ [w]) (ts ++ [t]) := by
  refine ⟨by rw [List.length_append, List.length_append, h.1]; rfl, fun j u x hu hx => ?_⟩
  by_cases hj : j < ws.length
  · rw [List.getElem?_append_left hj] at hu
    rw [List.getElem?_append_left (by rw [← h.1]; exact hj)] at hx
    exact h.2 j u x hu hx
  · rw [List.getElem?_append_right (by omega)] at hu
    rw [List.getElem?_append_right (by rw [← h.1]; omega)] at hx
    obtain ⟨h1, e1⟩ := List.getElem?_eq_some_iff.mp hu
    have j0 : j - ws.length = 0 := by simpa using h1
    rw [j0] at hu
    rw [← h.1, j0] at hx
    cases Option.some.inj hu
    cases Option.some.inj hx
    exact hw
theorem AtL.at {H H' : Hp} {n : Nat} {a : Addr} {ws : List V} {ts : List (Tr n)} (h : AtL H n ws ts) (s : Same H H') (e : H' a = some (.lst ws)) : AtR H' (n + 1) (.ref a) ts := ⟨a, ws, rfl, e, h.1, fun j w t hw ht => (h.2 j w t hw ht).same s⟩
theorem iteT' {b : Bool} {P Q : Prop} (h : b = true) (p : P) : if b = true then P else Q := by rw [if_pos h]; exact p
theorem iteF' {b : Bool} {P Q : Prop} (h : b = false) (p : Q) : if b = true then P else Q := by rw [if_neg (by rw [h]; decide)]; exact p
def okP : V → Bool
  | .int i => decide (0 ≤ i)
  | _ => false
def plainV : V → Bool
  | .int _ => true
  | .bl _ => true
  | .str _ => true
  | _ => false
theorem plainV.own {K : PySem.W.Frag} {H : Hp} {x : V} (h : plainV x = true) : Own K H x := by
  cases x <;> first | exact Own.int | exact Own.bl | exact Own.str | exact absurd (show false = true from h) Bool.false_ne_true
def nonN : List V → Option (List Int)
  | [] => some []
  | .int i :: r => if 0 ≤ i then (nonN r).map (i :: ·) else none
  | _ :: _ => none
theorem nonN_some : ∀ xs : List V, (nonN xs).isSome = xs.all okP
  | [] => rfl
  | x :: r => by
    cases x with
    | int i =>
      show (if 0 ≤ i then (nonN r).map (i :: ·) else none).isSome = (decide (0 ≤ i) && r.all okP)
      by_cases h : 0 ≤ i
      · rw [if_pos h, decide_eq_true h, Option.isSome_map, nonN_some r]; rfl
      · rw [if_neg h, decide_eq_false h]; rfl
    | _ => rfl
theorem nonN_is : ∀ {xs : List V} {q : List Int}, nonN xs = some q → xs = q.map V.int ∧ ∀ i ∈ q, 0 ≤ i
  | [], q, h => by
    cases (Option.some.inj h : [] = q)
    exact ⟨rfl, fun i hi => nomatch hi⟩
  | x :: r, q, h => by
    cases x with
    | int i =>
      have h : (if 0 ≤ i then (nonN r).map (i :: ·) else none) = some q := h
      by_cases h0 : 0 ≤ i
      · rw [if_pos h0] at h
        obtain ⟨q', e1, e2⟩ := Option.map_eq_some_iff.mp h
        subst e2
        obtain ⟨a, b⟩ := nonN_is e1
        refine ⟨by rw [a]; rfl, fun j hj => ?_⟩
        rcases List.mem_cons.mp hj with e | e
        · rw [e]; exact h0
        · exact b j e
      · rw [if_neg h0] at h; cases h
    | _ => exact absurd (show (none : Option (List Int)) = some q from h) (by intro z; cases z)
def pathQ (xs : List V) : Option (List Int) := if 1 ≤ xs.length ∧ xs.length ≤ 3 then nonN xs else none
theorem pathQ_is {xs : List V} {q : List Int} (h : pathQ xs = some q) : xs = q.map V.int ∧ (∀ i ∈ q, 0 ≤ i) ∧ 1 ≤ q.length ∧ q.length ≤ 3 := by
  unfold pathQ at h
  by_cases h0 : 1 ≤ xs.length ∧ xs.length ≤ 3
  · rw [if_pos h0] at h
    obtain ⟨a, b⟩ := nonN_is h
    rw [a, List.length_map] at h0
    exact ⟨a, b, h0⟩
  · rw [if_neg h0] at h; cases h
def IsP (K : PySem.W.Frag) (H : Hp) (p : V) (o : Option (List Int)) : Prop :=
  (∃ a xs, p = .ref a ∧ H a = some (.tup xs) ∧ (∀ x ∈ xs, plainV x = true) ∧ o = pathQ xs) ∨ (o = none ∧ (p = .non ∨ (∃ i, p = .int i) ∨ (∃ a xs, p = .ref a ∧ H a = some (.lst xs)) ∨ ∃ z, p = .str z))
theorem IsP.same {K : PySem.W.Frag} {H H' : Hp} {p : V} {o : Option (List Int)} (h : IsP K H p o) (s : Same H H') : IsP K H' p o := by
  rcases h with ⟨a, xs, e, h, r⟩ | ⟨e, h | h | ⟨a, xs, e2, h⟩ | h⟩
  · exact .inl ⟨a, xs, e, s _ _ h, r⟩
  · exact .inr ⟨e, .inl h⟩
  · exact .inr ⟨e, .inr (.inl h)⟩
  · exact .inr ⟨e, .inr (.inr (.inl ⟨a, xs, e2, s _ _ h⟩))⟩
  · exact .inr ⟨e, .inr (.inr (.inr h))⟩
theorem IsP.tup {K : PySem.W.Frag} {H : Hp} {a : Addr} {xs : List V} (h : H a = some (.tup xs)) (hp : xs.all plainV = true) : ∃ o, IsP K H (.ref a) o := ⟨_, .inl ⟨a, xs, rfl, h, List.all_eq_true.mp hp, rfl⟩⟩
def lay : (n : Nat) → Tr (n + 2) → Int → List Int → Option (Tr (n + 2))
  | 0, t, s, [i] => if i = ((ls t).length : Int) then some (ls t ++ [solo 1 s] : List (Tr 1)) else if i < ((ls t).length : Int) then (match (ls t)[i.toNat]? with | some f => some ((ls t).set i.toNat (srt (List.append (α := Int) f [s])) : List (Tr 1)) | none => none) else none
  | n + 1, t, s, [i] => if i = ((ls t).length : Int) then some (ls t ++ [solo (n + 2) s] : List (Tr (n + 2))) else none
  | n + 1, t, s, i :: j :: r => if i < ((ls t).length : Int) then (match (ls t)[i.toNat]? with | some g => (lay n g s (j :: r)).map fun g' => ((ls t).set i.toNat g' : List (Tr (n + 2))) | none => none) else none
  | _, _, _, _ => none
theorem lay_last {n : Nat} {t : Tr (n + 2)} {s i : Int} (h : i = ((ls t).length : Int)) : lay n t s [i] = some (ls t ++ [solo (n + 1) s] : List (Tr (n + 1))) := by
  cases n with
  | zero => unfold lay; rw [if_pos h]; rfl
  | succ n => unfold lay; rw [if_pos h]; rfl
theorem lay_form {t : Tr 2} {s i : Int} {f : Tr 1} (h : i < ((ls t).length : Int)) (hf : (ls t)[i.toNat]? = some f) : lay 0 t s [i] = some ((ls t).set i.toNat (srt (List.append (α := Int) f [s])) : List (Tr 1)) := by
  unfold lay
  rw [if_neg (by omega), if_pos h, hf]
  rfl
theorem lay_no0 {n : Nat} {t : Tr (n + 2)} {s i : Int} (h : i ≠ ((ls t).length : Int)) (h' : ¬ (i < ((ls t).length : Int) ∧ n = 0)) : lay n t s [i] = none := by
  cases n with
  | zero => unfold lay; rw [if_neg h, if_neg (fun z => h' ⟨z, rfl⟩)]
  | succ n => unfold lay; rw [if_neg h]
theorem lay_no {n : Nat} {t : Tr (n + 2)} {s i j : Int} {r : List Int} (h : ¬ i < ((ls t).length : Int)) : lay n t s (i :: j :: r) = none := by
  cases n with
  | zero => rfl
  | succ n => unfold lay; rw [if_neg h]
theorem lay_in {n : Nat} {t : Tr (n + 3)} {s i j : Int} {r : List Int} {g : Tr (n + 2)} (h : i < ((ls t).length : Int)) (hg : (ls t)[i.toNat]? = some g) : lay (n + 1) t s (i :: j :: r) = (lay n g s (j :: r)).map fun g' => ((ls t).set i.toNat g' : List (Tr (n + 2))) := by
  rw [lay, if_pos h, hg]
  rfl
structure Hole (o : Ow) (G : Hp) (v : V) (n : Nat) (p : List Nat) (a : Addr) (t : Tr (n + 1)) (C : Tr (n + 1) → Tr 4) : Prop where
  at_ : At o G (n + 1) p (.ref a) t
  up : ∀ (o' : Ow) (G1 : Hp) (c : Addr) (pc : List Nat) (ys : List V) (t' : Tr (n + 1)), Same G G1 → Ext o o' G G1 → o c = some pc → p <:+ pc → At o' (upd G1 c (.lst ys)) (n + 1) p (.ref a) t' → At o' (upd G1 c (.lst ys)) 4 [] v (C t')
theorem Hole.top {o : Ow} {G : Hp} {a : Addr} {U : Tr 4} (h : At o G 4 [] (.ref a) U) : Hole o G (.ref a) 3 [] a U id := ⟨h, fun _ _ _ _ _ _ _ _ _ _ k => k⟩
theorem Hole.kid {o : Ow} {G : Hp} {v : V} {n : Nat} {p : List Nat} {a b : Addr} {t : Tr (n + 2)} {g : Tr (n + 1)} {C : Tr (n + 2) → Tr 4} {vs : List V} {i : Nat} (h : Hole o G v (n + 1) p a t C) (dm : Dom o G) (hv : G a = some (.lst vs)) (hw : vs[i]? = some (.ref b)) (hg : (ls t)[i]? = some g) : Hole o G v n (i :: p) b g (fun g' => C ((ls t).set i g' : List (Tr (n + 1)))) := by
  refine ⟨?_, fun o' G1 c pc ys t' s x hc hp k => h.up o' G1 c pc ys _ s x hc ((List.suffix_cons i p).trans hp) (h.at_.up dm hv hw s x hc hp k)⟩
  obtain ⟨w, t2, e1, e2, k⟩ := h.at_.kid hv (List.getElem?_eq_some_iff.mp hw).1
  rw [hw] at e1
  cases e1
  rw [hg] at e2
  cases e2
  exact k
def spIsPath (K : PySem.W.Frag) : Sp := fun vs H Q _ => ∃ p o, vs = [p] ∧ IsP K H p o ∧ ∀ H', Same H H' → Q (.bl o.isSome) H'
def spNewGroup : Sp := fun vs H Q _ => ∃ (s : Int) (n : Nat), vs = [.int s, .int (3 - (n : Int))] ∧ n ≤ 2 ∧ ∀ w H', Same H H' → New H H' (n + 1) w (solo (n + 1) s) → Q w H'
structure Chg (o : Ow) (H : Hp) (o' : Ow) (H' : Hp) (v : V) (U' : Tr 4) : Prop where
  kp : ∀ b u, o b = none → H b = some u → H' b = some u
  at_ : At o' H' 4 [] v U'
  dm : Dom o' H'
  nw : ∀ b r, o' b = some r → o b = none → H b = none
def spPutSheet (C : Addr) : Sp := fun vs H Q E => ∃ v s a q, ∃ U : Tr 4, ∃ o : Ow, vs = [v, .int s, .ref a] ∧ At o H 4 [] v U ∧ Dom o H ∧ (∀ g ∈ ls U, full 3 g) ∧ (flat 4 U).length < 63 ∧ H a = some (.tup (q.map V.int)) ∧ (∀ i ∈ q, 0 ≤ i) ∧ 1 ≤ q.length ∧ q.length ≤ 3 ∧
  (lay 2 U s q = none → ∀ H', Same H H' → E (.ref C) none H') ∧ (∀ U', lay 2 U s q = some U' → ∀ o' H', Chg o H o' H' v U' → Q .non H')
def spLaid (K : PySem.W.Frag) (C : Addr) : Sp := fun vs H Q E => ∃ v s p op, ∃ S : Tr 4, vs = [v, .int s, p] ∧ AtR H 4 v S ∧ WF S ∧ (flat 4 S).length < 63 ∧ inR 1000000000 (.int s) = true ∧ IsP K H p op ∧
  (op.bind (lay 2 (wo 3 s S) s) = none → ∀ H', Same H H' → E (.ref C) none H') ∧ (∀ U', op.bind (lay 2 (wo 3 s S) s) = some U' → ∀ w H', Same H H' → New H H' 4 w U' → Q w H')
theorem Chg.new {o o' : Ow} {H0 H H' : Hp} {v : V} {U' : Tr 4} (c : Chg o H o' H' v U') (hn : ∀ a r, o a = some r → H0 a = none) (s : Same H0 H) : New H0 H' 4 v U' ∧ Same H0 H' := by
  refine ⟨⟨o', c.at_, fun a r hr => ⟨?_, c.dm a r hr⟩⟩, fun b u hb => c.kp b u ?_ (s b u hb)⟩
  · cases e : o a with
    | none => exact s.free (c.nw a r hr e)
    | some r' => exact hn a r' e
  · cases e : o b with
    | none => rfl
    | some r' => rw [hn b r' e] at hb; cases hb
theorem lay_put : ∀ {n : Nat} {t t' : Tr (n + 2)} {s : Int} {q : List Int}, lay n t s q = some t' → s ∉ flat (n + 2) t → (∀ i ∈ q, 0 ≤ i) → PutG (n + 1) t s t' := by
  intro n
  induction n with
  | zero =>
    intro t t' s q h hs h0
    match q, h with
    | [i], h =>
      by_cases e : i = ((ls t).length : Int)
      · rw [lay_last e] at h
        cases h
        exact PutG.app t s
      · by_cases e2 : i < ((ls t).length : Int)
        · have hi : i.toNat < (ls t).length := by have := h0 i (List.mem_singleton.mpr rfl); omega
          obtain ⟨f, hf⟩ : ∃ f, (ls t)[i.toNat]? = some f := ⟨_, List.getElem?_eq_getElem hi⟩
          rw [lay_form e2 hf] at h
          cases h
          obtain ⟨fl, hfl⟩ : ∃ fl : List Int, fl = f := ⟨f, rfl⟩
          subst hfl
          refine PutG.up (n := 0) (PutG.form (f := fl) (srt_perm _) (srt_pw _) fun z => hs ?_) hf
          exact flat_mem (List.mem_of_getElem? hf) ((List.Perm.of_eq (flat_ints fl)).mem_iff.mpr z)
        · rw [lay_no0 e (fun z => e2 z.1)] at h
          cases h
    | [], h => cases h
    | _ :: _ :: _, h => cases h
  | succ n ih =>
    intro t t' s q h hs h0
    match q, h with
    | [i], h =>
      by_cases e : i = ((ls t).length : Int)
      · rw [lay_last e] at h
        cases h
        exact PutG.app t s
      · rw [lay_no0 e (fun z => by have := z.2; omega)] at h
        cases h
    | i :: j :: r, h =>
      by_cases e2 : i < ((ls t).length : Int)
      · have hi : i.toNat < (ls t).length := by have := h0 i (List.mem_cons_self ..); omega
        obtain ⟨g, hg⟩ : ∃ g, (ls t)[i.toNat]? = some g := ⟨_, List.getElem?_eq_getElem hi⟩
        rw [lay_in e2 hg] at h
        obtain ⟨g', e3, e4⟩ := Option.map_eq_some_iff.mp h
        subst e4
        exact (ih e3 (fun z => hs (flat_mem (List.mem_of_getElem? hg) z)) fun k hk => h0 k (List.mem_cons_of_mem _ hk)).up hg
      · rw [lay_no e2] at h
        cases h
    | [], h => cases h
theorem lay_top {U U' : Tr 4} {s : Int} {q : List Int} (h : lay 2 U s q = some U') (hs : s ∉ flat 4 U) (h0 : ∀ i ∈ q, 0 ≤ i) : Put U s U' := by
  match q, h with
  | [i], h =>
    by_cases e : i = ((ls U).length : Int)
    · rw [lay_last e] at h
      cases h
      exact Put.app U s
    · rw [lay_no0 e (fun z => by have := z.2; omega)] at h
      cases h
  | i :: j :: r, h =>
    by_cases e2 : i < ((ls U).length : Int)
    · have hi : i.toNat < (ls U).length := by have := h0 i (List.mem_cons_self ..); omega
      obtain ⟨g, hg⟩ : ∃ g, (ls U)[i.toNat]? = some g := ⟨_, List.getElem?_eq_getElem hi⟩
      rw [lay_in e2 hg] at h
      obtain ⟨g', e3, e4⟩ := Option.map_eq_some_iff.mp h
      subst e4
      exact (lay_put e3 (fun z => hs (flat_mem (List.mem_of_getElem? hg) z)) fun k hk => h0 k (List.mem_cons_of_mem _ hk)).top hg
    · rw [lay_no e2] at h
      cases h
  | [], h => cases h
theorem wo_not {S : Tr 4} {s : Int} : s ∉ flat 4 (wo 3 s S) := fun z => by
  have e : flat 4 (wo 3 s S) = (flat 4 S).filter (fun x => !decide (x = s)) := flat_wo s 3 S
  rw [e] at z
  have := (List.mem_filter.mp z).2
  simp at this
def tog : (n : Nat) → Tr (n + 2) → Nat → Int → Int → Prop
  | _, _, 0, _, _ => True
  | 0, t, _ + 1, x, y => ∃ f ∈ ls t, x ∈ flat 1 f ∧ y ∈ flat 1 f
  | n + 1, t, k + 1, x, y => ∃ u ∈ ls t, (x ∈ flat (n + 2) u ∧ y ∈ flat (n + 2) u) ∧ tog n u k x y
theorem tog0 {n : Nat} {t : Tr (n + 2)} {x y : Int} : tog n t 0 x y := by cases n <;> exact trivial
theorem togF {t : Tr 2} {k : Nat} {x y : Int} : tog 0 t (k + 1) x y ↔ ∃ f ∈ ls t, x ∈ flat 1 f ∧ y ∈ flat 1 f := Iff.rfl
theorem togS {n : Nat} {t : Tr (n + 3)} {k : Nat} {x y : Int} : tog (n + 1) t (k + 1) x y ↔ ∃ u ∈ ls t, (x ∈ flat (n + 2) u ∧ y ∈ flat (n + 2) u) ∧ tog n u k x y := Iff.rfl
theorem tog_comm : ∀ {n : Nat} {t : Tr (n + 2)} {k : Nat} {x y : Int}, tog n t k x y → tog n t k y x
  | _, _, 0, _, _, _ => tog0
  | 0, t, k + 1, x, y, h => by
    obtain ⟨f, hf, h1, h2⟩ := togF.mp h
    exact togF.mpr ⟨f, hf, h2, h1⟩
  | n + 1, t, k + 1, x, y, h => by
    obtain ⟨u, hu, h1, h2⟩ := togS.mp h
    exact togS.mpr ⟨u, hu, ⟨h1.2, h1.1⟩, tog_comm h2⟩
def lie : (n : Nat) → Tr (n + 2) → Int → List Int → Prop
  | 0, t, s, p => ∃ (i : Nat) (f : Tr 1), (ls t)[i]? = some f ∧ s ∈ flat 1 f ∧ p = [(i : Int)]
  | n + 1, t, s, p => ∃ (i : Nat) (u : Tr (n + 2)) (r : List Int), (ls t)[i]? = some u ∧ lie n u s r ∧ p = (i : Int) :: r
theorem lie_in : ∀ {n : Nat} {t : Tr (n + 2)} {s : Int} {p : List Int}, lie n t s p → s ∈ flat (n + 2) t
  | 0, t, s, p, ⟨i, f, h1, h2, _⟩ => flat_mem (List.mem_of_getElem? h1) h2
  | n + 1, t, s, p, ⟨i, u, r, h1, h2, _⟩ => flat_mem (List.mem_of_getElem? h1) (lie_in h2)
theorem Lies.lie {S : Tr 4} {s : Int} {p : List Int} (h : Lies S s p) : My.lie 2 S s p := by
  obtain ⟨i, j, k, g, c, f, hg, hc, hf, hs, rfl⟩ := h
  exact ⟨i, g, _, hg, ⟨j, c, _, hc, ⟨k, f, hf, mem_flat1.mpr hs, rfl⟩, rfl⟩, rfl⟩
theorem nd_kid {n : Nat} {t : Tr (n + 1)} {i : Nat} {u : Tr n} (nd : (flat (n + 1) t).Nodup) (h : (ls t)[i]? = some u) : (flat n u).Nodup := (flat_nd h nd).1
theorem take_tog : ∀ {n : Nat} {t : Tr (n + 2)} {k : Nat} {x y : Int} {p q : List Int}, (flat (n + 2) t).Nodup → lie n t x p → lie n t y q → (p.take k = q.take k ↔ tog n t k x y)
  | n, t, 0, x, y, p, q, _, _, _ => by
    rw [List.take_zero, List.take_zero]
    exact ⟨fun _ => tog0, fun _ => rfl⟩
  | 0, t, k + 1, x, y, p, q, nd, ⟨i, f, h1, h2, e1⟩, ⟨j, g, h3, h4, e2⟩ => by
    subst e1 e2
    rw [togF]
    constructor
    · intro e
      have e : (i : Int) = j := by simpa using e
      have e : i = j := by omega
      subst e
      rw [h1] at h3
      cases h3
      exact ⟨f, List.mem_of_getElem? h1, h2, h4⟩
    · rintro ⟨u, hu, a1, a2⟩
      obtain ⟨m, hm⟩ := List.getElem?_of_mem hu
      have b1 := uniq_at nd h1 hm h2 a1
      have b2 := uniq_at nd h3 hm h4 a2
      rw [b1, b2]
  | n + 1, t, k + 1, x, y, p, q, nd, ⟨i, u, r, h1, h2, e1⟩, ⟨j, v, r', h3, h4, e2⟩ => by
    subst e1 e2
    rw [togS, List.take_succ_cons, List.take_succ_cons]
    constructor
    · intro e
      have e0 : (i : Int) = j := (List.cons.inj e).1
      have e0 : i = j := by omega
      subst e0
      rw [h1] at h3
      cases h3
      exact ⟨u, List.mem_of_getElem? h1, ⟨lie_in h2, lie_in h4⟩, (take_tog (nd_kid nd h1) h2 h4).mp (List.cons.inj e).2⟩
    · rintro ⟨w, hw, ⟨a1, a2⟩, a3⟩
      obtain ⟨m, hm⟩ := List.getElem?_of_mem hw
      have b1 := uniq_at nd h1 hm (lie_in h2) a1
      have b2 := uniq_at nd h3 hm (lie_in h4) a2
      subst b1 b2
      rw [h1] at h3 hm
      cases h3
      cases hm
      rw [(take_tog (nd_kid nd h1) h2 h4).mpr a3]
theorem wo_flat {n : Nat} {s x : Int} {t : Tr (n + 1)} (hx : x ≠ s) : x ∈ flat (n + 1) (wo n s t) ↔ x ∈ flat (n + 1) t := by
  rw [flat_wo, List.mem_filter]
  exact ⟨fun h => h.1, fun h => ⟨h, by simp [hx]⟩⟩
theorem wo_mem {n : Nat} {s x : Int} {ts : Tr (n + 2)} {t : Tr (n + 1)} (h : t ∈ ls ts) (hx : x ∈ flat (n + 1) (wo n s t)) : wo n s t ∈ ls (wo (n + 1) s ts) := by
  show wo n s t ∈ List.filter (fun t : Tr (n + 1) => !(ls t).isEmpty) ((ls ts).map (wo n s))
  refine List.mem_filter.mpr ⟨List.mem_map_of_mem h, ?_⟩
  cases e : ls (wo n s t) with
  | nil =>
    have hx : x ∈ (ls (wo n s t)).flatMap (flat n) := hx
    rw [e] at hx
    exact nomatch hx
  | cons a r => rfl
theorem wo_tog : ∀ {n : Nat} {t : Tr (n + 2)} {k : Nat} {s x y : Int}, x ≠ s → y ≠ s → (tog n (wo (n + 1) s t) k x y ↔ tog n t k x y)
  | n, t, 0, s, x, y, _, _ => ⟨fun _ => tog0, fun _ => tog0⟩
  | 0, t, k + 1, s, x, y, hx, hy => by
    rw [togF, togF]
    constructor
    · rintro ⟨f, hf, a1, a2⟩
      obtain ⟨_, g, hg, rfl⟩ := wo_in hf
      exact ⟨g, hg, (wo_flat hx).mp a1, (wo_flat hy).mp a2⟩
    · rintro ⟨g, hg, a1, a2⟩
      have b1 := (wo_flat (n := 0) hx).mpr a1
      exact ⟨wo 0 s g, wo_mem hg b1, b1, (wo_flat hy).mpr a2⟩
  | n + 1, t, k + 1, s, x, y, hx, hy => by
    rw [togS, togS]
    constructor
    · rintro ⟨u, hu, ⟨a1, a2⟩, a3⟩
      obtain ⟨_, v, hv, rfl⟩ := wo_in hu
      exact ⟨v, hv, ⟨(wo_flat hx).mp a1, (wo_flat hy).mp a2⟩, (wo_tog hx hy).mp a3⟩
    · rintro ⟨v, hv, ⟨a1, a2⟩, a3⟩
      have b1 := (wo_flat (n := n + 1) hx).mpr a1
      exact ⟨wo (n + 1) s v, wo_mem hv b1, ⟨b1, (wo_flat hy).mpr a2⟩, (wo_tog hx hy).mpr a3⟩
theorem ex_set {α : Type} {L : List α} {i : Nat} {g g' : α} {P : α → Prop} (h : L[i]? = some g) (hP : P g' ↔ P g) : (∃ u ∈ L.set i g', P u) ↔ ∃ u ∈ L, P u := by
  have hi := (List.getElem?_eq_some_iff.mp h).1
  constructor
  · rintro ⟨u, hu, p⟩
    rcases List.mem_or_eq_of_mem_set hu with hu | rfl
    · exact ⟨u, hu, p⟩
    · exact ⟨g, List.mem_of_getElem? h, hP.mp p⟩
  · rintro ⟨u, hu, p⟩
    obtain ⟨j, hj⟩ := List.getElem?_of_mem hu
    by_cases e : j = i
    · subst e
      rw [h] at hj
      cases hj
      exact ⟨g', List.mem_of_getElem? (List.getElem?_set_self hi), hP.mpr p⟩
    · exact ⟨u, List.mem_of_getElem? (by rw [List.getElem?_set_ne (Ne.symm e)]; exact hj), p⟩
theorem in_srt {f : Tr 1} {s x : Int} : x ∈ flat 1 (srt (List.append (α := Int) f [s]) : List Int) ↔ x ∈ flat 1 f ∨ x = s := by
  refine Iff.trans (mem_flat1 (f := (srt (List.append (α := Int) f [s]) : List Int))) (Iff.trans (srt_perm (List.append (α := Int) f [s])).mem_iff (Iff.trans (List.mem_append (s := (f : List Int)) (t := [s])) ?_))
  exact ⟨fun h => h.elim (fun h => .inl (mem_flat1.mpr h)) fun h => .inr (List.mem_singleton.mp h), fun h => h.elim (fun h => .inl (mem_flat1.mp h)) fun h => .inr (List.mem_singleton.mpr h)⟩
theorem lay_flat {n : Nat} {t t' : Tr (n + 2)} {s x : Int} {q : List Int} (h : lay n t s q = some t') (hs : s ∉ flat (n + 2) t) (h0 : ∀ i ∈ q, 0 ≤ i) : x ∈ flat (n + 2) t' ↔ x ∈ flat (n + 2) t ∨ x = s := by
  rw [(lay_put h hs h0).p.mem_iff, List.mem_append, List.mem_singleton]
theorem in_solo {n : Nat} {s x : Int} (h : x ∈ flat n (solo n s)) : x = s := by
  rw [solo_flat] at h
  exact List.mem_singleton.mp h
theorem lay_tog : ∀ {n : Nat} {t t' : Tr (n + 2)} {k : Nat} {s x y : Int} {q : List Int}, lay n t s q = some t' → s ∉ flat (n + 2) t → (∀ i ∈ q, 0 ≤ i) → x ≠ s → y ≠ s → (tog n t' k x y ↔ tog n t k x y)
  | n, t, t', 0, s, x, y, q, _, _, _, _, _ => ⟨fun _ => tog0, fun _ => tog0⟩
  | n, t, t', k + 1, s, x, y, [i], h, hs, h0, hx, hy => by
    by_cases e : i = ((ls t).length : Int)
    · rw [lay_last e] at h
      cases h
      cases n with
      | zero =>
        refine Iff.trans togF (Iff.trans ?_ togF.symm)
        constructor
        · rintro ⟨f, hf, a1, a2⟩
          rcases List.mem_append.mp (show f ∈ ls t ++ [solo 1 s] from hf) with hf | hf
          · exact ⟨f, hf, a1, a2⟩
          · rw [List.mem_singleton.mp hf] at a1
            exact absurd (in_solo a1) hx
        · rintro ⟨f, hf, a1, a2⟩
          exact ⟨f, List.mem_append_left _ hf, a1, a2⟩
      | succ n =>
        refine Iff.trans togS (Iff.trans ?_ togS.symm)
        constructor
        · rintro ⟨f, hf, ⟨a1, a2⟩, a3⟩
          rcases List.mem_append.mp (show f ∈ ls t ++ [solo (n + 2) s] from hf) with hf | hf
          · exact ⟨f, hf, ⟨a1, a2⟩, a3⟩
          · rw [List.mem_singleton.mp hf] at a1
            exact absurd (in_solo a1) hx
        · rintro ⟨f, hf, a1, a2⟩
          exact ⟨f, List.mem_append_left _ hf, a1, a2⟩
    · cases n with
      | succ n =>
        rw [lay_no0 e (fun z => by cases z.2)] at h
        cases h
      | zero =>
        have hi0 := h0 i (List.mem_singleton.mpr rfl)
        by_cases hl : i < ((ls t).length : Int)
        · have hj : i.toNat < (ls t).length := by omega
          rw [lay_form hl (List.getElem?_eq_getElem hj)] at h
          cases h
          refine Iff.trans togF (Iff.trans ?_ togF.symm)
          refine ex_set (List.getElem?_eq_getElem hj) ?_
          rw [in_srt, in_srt]
          exact ⟨fun ⟨a, b⟩ => ⟨a.resolve_right hx, b.resolve_right hy⟩, fun ⟨a, b⟩ => ⟨.inl a, .inl b⟩⟩
        · rw [lay_no0 e (fun z => hl z.1)] at h
          cases h
  | n, t, t', k + 1, s, x, y, i :: j :: r, h, hs, h0, hx, hy => by
    cases n with
    | zero =>
      unfold lay at h
      cases h
    | succ n =>
      have hi0 := h0 i (List.mem_cons_self ..)
      by_cases hl : i < ((ls t).length : Int)
      · have hj : i.toNat < (ls t).length := by omega
        have hg := List.getElem?_eq_getElem hj
        rw [lay_in hl hg] at h
        obtain ⟨g', hg', e⟩ := Option.map_eq_some_iff.mp h
        subst e
        have hsg : s ∉ flat (n + 2) (ls t)[i.toNat] := fun z => hs (flat_mem (List.getElem_mem hj) z)
        have h0' : ∀ a ∈ j :: r, 0 ≤ a := fun a ha => h0 a (List.mem_cons_of_mem _ ha)
        refine Iff.trans togS (Iff.trans ?_ togS.symm)
        refine ex_set hg ?_
        have fl := fun x => lay_flat (x := x) hg' hsg h0'
        have tg := lay_tog (k := k) hg' hsg h0' hx hy
        exact ⟨fun ⟨⟨a, b⟩, c⟩ => ⟨⟨((fl x).mp a).resolve_right hx, ((fl y).mp b).resolve_right hy⟩, tg.mp c⟩, fun ⟨⟨a, b⟩, c⟩ => ⟨⟨(fl x).mpr (.inl a), (fl y).mpr (.inl b)⟩, tg.mpr c⟩⟩
      · rw [lay_no hl] at h
        cases h
  | n, t, t', k + 1, s, x, y, [], h, _, _, _, _ => by
    cases n <;> (unfold lay at h; cases h)
def way : (n : Nat) → Tr (n + 2) → Int → Nat → List Int → Prop
  | _, t, _, 0, q => q = [((ls t).length : Int)]
  | 0, t, o, _ + 1, q => ∃ (i : Nat) (f : Tr 1), (ls t)[i]? = some f ∧ o ∈ flat 1 f ∧ q = [(i : Int)]
  | n + 1, t, o, d + 1, q => ∃ (i : Nat) (u : Tr (n + 2)) (a : Int) (r : List Int), (ls t)[i]? = some u ∧ o ∈ flat (n + 2) u ∧ q = (i : Int) :: a :: r ∧ way n u o d (a :: r)
theorem way0 {n : Nat} {t : Tr (n + 2)} {o : Int} {q : List Int} (h : way n t o 0 q) : q = [((ls t).length : Int)] := by cases n <;> exact h
theorem way_pos : ∀ {n : Nat} {t : Tr (n + 2)} {o : Int} {d : Nat} {q : List Int}, way n t o d q → ∀ i ∈ q, 0 ≤ i
  | n, t, o, 0, q, h => by
    rw [way0 h]
    intro i hi
    rw [List.mem_singleton.mp hi]
    omega
  | 0, t, o, d + 1, q, h => by
    obtain ⟨i, f, _, _, rfl⟩ := (h : ∃ (i : Nat) (f : Tr 1), _)
    intro j hj
    rw [List.mem_singleton.mp hj]
    omega
  | n + 1, t, o, d + 1, q, h => by
    obtain ⟨i, u, a, r, _, _, rfl, h4⟩ := (h : ∃ (i : Nat) (u : Tr (n + 2)) (a : Int) (r : List Int), _)
    intro j hj
    rcases List.mem_cons.mp hj with rfl | hj
    · omega
    · exact way_pos h4 j hj
theorem way_lay : ∀ {n : Nat} {t : Tr (n + 2)} {o s : Int} {d : Nat} {q : List Int}, way n t o d q → ∃ t', lay n t s q = some t'
  | n, t, o, s, 0, q, h => by
    rw [way0 h, lay_last rfl]
    exact ⟨_, rfl⟩
  | 0, t, o, s, d + 1, q, h => by
    obtain ⟨i, f, h1, _, rfl⟩ := (h : ∃ (i : Nat) (f : Tr 1), _)
    have hi := (List.getElem?_eq_some_iff.mp h1).1
    rw [lay_form (by omega) (by rw [Int.toNat_natCast]; exact h1)]
    exact ⟨_, rfl⟩
  | n + 1, t, o, s, d + 1, q, h => by
    obtain ⟨i, u, a, r, h1, _, rfl, h4⟩ := (h : ∃ (i : Nat) (u : Tr (n + 2)) (a : Int) (r : List Int), _)
    have hi := (List.getElem?_eq_some_iff.mp h1).1
    obtain ⟨g', hg'⟩ := way_lay (s := s) h4
    rw [lay_in (by omega) (by rw [Int.toNat_natCast]; exact h1), hg']
    exact ⟨_, rfl⟩
theorem ex_set1 {α : Type} {L : List α} {i : Nat} {g g' : α} {P : α → Prop} (h : L[i]? = some g) (hn : ∀ u ∈ L, ¬ P u) : (∃ u ∈ L.set i g', P u) ↔ P g' := by
  have hi := (List.getElem?_eq_some_iff.mp h).1
  constructor
  · rintro ⟨u, hu, p⟩
    rcases List.mem_or_eq_of_mem_set hu with hu | rfl
    · exact absurd p (hn u hu)
    · exact p
  · intro p
    exact ⟨g', List.mem_of_getElem? (List.getElem?_set_self hi), p⟩
theorem lay_new : ∀ {n : Nat} {t t' : Tr (n + 2)} {k d : Nat} {s o y : Int} {q : List Int}, way n t o d q → lay n t s q = some t' → (flat (n + 2) t).Nodup → s ∉ flat (n + 2) t → y ∈ flat (n + 2) t → k ≤ n + 1 → (tog n t' k s y ↔ k ≤ d ∧ tog n t k o y)
  | n, t, t', 0, d, s, o, y, q, _, _, _, _, _, _ => ⟨fun _ => ⟨Nat.zero_le _, tog0⟩, fun _ => tog0⟩
  | n, t, t', k + 1, 0, s, o, y, q, hw, h, nd, hs, hy, hk => by
    rw [way0 hw, lay_last rfl] at h
    cases h
    have hys : y ≠ s := fun z => hs (z ▸ hy)
    refine ⟨fun w => ?_, fun w => absurd w.1 (Nat.not_succ_le_zero _)⟩
    exfalso
    cases n with
    | zero =>
      obtain ⟨f, hf, a1, a2⟩ := togF.mp w
      rcases List.mem_append.mp (show f ∈ ls t ++ [solo 1 s] from hf) with hf | hf
      · exact hs (flat_mem hf a1)
      · rw [List.mem_singleton.mp hf] at a2
        exact hys (in_solo a2)
    | succ n =>
      obtain ⟨f, hf, ⟨a1, a2⟩, _⟩ := togS.mp w
      rcases List.mem_append.mp (show f ∈ ls t ++ [solo (n + 2) s] from hf) with hf | hf
      · exact hs (flat_mem hf a1)
      · rw [List.mem_singleton.mp hf] at a2
        exact hys (in_solo a2)
  | 0, t, t', k + 1, d + 1, s, o, y, q, hw, h, nd, hs, hy, hk => by
    obtain ⟨i, f, h1, h2, rfl⟩ := (hw : ∃ (i : Nat) (f : Tr 1), _)
    have hi := (List.getElem?_eq_some_iff.mp h1).1
    rw [lay_form (by omega) (by rw [Int.toNat_natCast]; exact h1)] at h
    cases h
    have hys : y ≠ s := fun z => hs (z ▸ hy)
    refine Iff.trans togF (Iff.trans (ex_set1 (by rw [Int.toNat_natCast]; exact h1) (fun u hu w => hs (flat_mem hu w.1))) ?_)
    constructor
    · rintro ⟨_, a⟩
      exact ⟨by omega, togF.mpr ⟨f, List.mem_of_getElem? h1, h2, (in_srt.mp a).resolve_right hys⟩⟩
    · rintro ⟨_, w⟩
      obtain ⟨u, hu, a1, a2⟩ := togF.mp w
      obtain ⟨m, hm⟩ := List.getElem?_of_mem hu
      have e := uniq_at nd h1 hm h2 a1
      subst e
      rw [h1] at hm
      cases hm
      exact ⟨in_srt.mpr (.inr rfl), in_srt.mpr (.inl a2)⟩
  | n + 1, t, t', k + 1, d + 1, s, o, y, q, hw, h, nd, hs, hy, hk => by
    obtain ⟨i, u, a, r, h1, h2, rfl, h4⟩ := (hw : ∃ (i : Nat) (u : Tr (n + 2)) (a : Int) (r : List Int), _)
    have hi := (List.getElem?_eq_some_iff.mp h1).1
    rw [lay_in (by omega) (by rw [Int.toNat_natCast]; exact h1)] at h
    obtain ⟨g', hg', e⟩ := Option.map_eq_some_iff.mp h
    subst e
    have hys : y ≠ s := fun z => hs (z ▸ hy)
    have hsu : s ∉ flat (n + 2) u := fun z => hs (flat_mem (List.mem_of_getElem? h1) z)
    have hp := way_pos h4
    have fl := fun x => lay_flat (x := x) hg' hsu hp
    refine Iff.trans togS (Iff.trans (ex_set1 (by rw [Int.toNat_natCast]; exact h1) (fun v hv w => hs (flat_mem hv w.1.1))) ?_)
    constructor
    · rintro ⟨⟨_, b⟩, c⟩
      have b := ((fl y).mp b).resolve_right hys
      obtain ⟨c1, c2⟩ := (lay_new h4 hg' (nd_kid nd h1) hsu b (by omega)).mp c
      exact ⟨by omega, togS.mpr ⟨u, List.mem_of_getElem? h1, ⟨h2, b⟩, c2⟩⟩
    · rintro ⟨c1, w⟩
      obtain ⟨v, hv, ⟨b1, b2⟩, c2⟩ := togS.mp w
      obtain ⟨m, hm⟩ := List.getElem?_of_mem hv
      have e := uniq_at nd h1 hm h2 b1
      subst e
      rw [h1] at hm
      cases hm
      exact ⟨⟨(fl s).mpr (.inr rfl), (fl y).mpr (.inl b2)⟩, (lay_new h4 hg' (nd_kid nd h1) hsu b2 (by omega)).mpr ⟨by omega, c2⟩⟩
def shr (p q : List Int) : Nat := if p.take 3 = q.take 3 then 3 else if p.take 2 = q.take 2 then 2 else if p.take 1 = q.take 1 then 1 else 0
theorem shr_eq {p q p' q' : List Int} (h : ∀ k, k ≤ 3 → (p.take k = q.take k ↔ p'.take k = q'.take k)) : shr p q = shr p' q' := by
  unfold shr
  have h1 := h 1 (by decide)
  have h2 := h 2 (by decide)
  have h3 := h 3 (by decide)
  by_cases a3 : p.take 3 = q.take 3
  · rw [if_pos a3, if_pos (h3.mp a3)]
  rw [if_neg a3, if_neg (fun z => a3 (h3.mpr z))]
  by_cases a2 : p.take 2 = q.take 2
  · rw [if_pos a2, if_pos (h2.mp a2)]
  rw [if_neg a2, if_neg (fun z => a2 (h2.mpr z))]
  by_cases a1 : p.take 1 = q.take 1
  · rw [if_pos a1, if_pos (h1.mp a1)]
  rw [if_neg a1, if_neg (fun z => a1 (h1.mpr z))]
theorem take_up {p q : List Int} {k : Nat} (h : p.take (k + 1) = q.take (k + 1)) : p.take k = q.take k := by
  have := congrArg (List.take k) h
  rw [List.take_take, List.take_take, Nat.min_eq_left (Nat.le_succ _)] at this
  exact this
theorem shr_min {p q p' q' : List Int} {d : Nat} (hd : d ≤ 3) (h : ∀ k, k ≤ 3 → (p.take k = q.take k ↔ k ≤ d ∧ p'.take k = q'.take k)) : shr p q = min d (shr p' q') := by
  have h1 := h 1 (by decide)
  have h2 := h 2 (by decide)
  have h3 := h 3 (by decide)
  have u2 : p'.take 3 = q'.take 3 → p'.take 2 = q'.take 2 := take_up
  have u1 : p'.take 2 = q'.take 2 → p'.take 1 = q'.take 1 := take_up
  unfold shr
  by_cases a3 : p'.take 3 = q'.take 3
  · have a2 := u2 a3
    have a1 := u1 a2
    rw [if_pos a3]
    by_cases b3 : 3 ≤ d
    · rw [if_pos (h3.mpr ⟨b3, a3⟩)]; omega
    rw [if_neg (fun z => b3 (h3.mp z).1)]
    by_cases b2 : 2 ≤ d
    · rw [if_pos (h2.mpr ⟨b2, a2⟩)]; omega
    rw [if_neg (fun z => b2 (h2.mp z).1)]
    by_cases b1 : 1 ≤ d
    · rw [if_pos (h1.mpr ⟨b1, a1⟩)]; omega
    rw [if_neg (fun z => b1 (h1.mp z).1)]; omega
  rw [if_neg a3, if_neg (fun z => a3 (h3.mp z).2)]
  by_cases a2 : p'.take 2 = q'.take 2
  · have a1 := u1 a2
    rw [if_pos a2]
    by_cases b2 : 2 ≤ d
    · rw [if_pos (h2.mpr ⟨b2, a2⟩)]; omega
    rw [if_neg (fun z => b2 (h2.mp z).1)]
    by_cases b1 : 1 ≤ d
    · rw [if_pos (h1.mpr ⟨b1, a1⟩)]; omega
    rw [if_neg (fun z => b1 (h1.mp z).1)]; omega
  rw [if_neg a2, if_neg (fun z => a2 (h2.mp z).2)]
  by_cases a1 : p'.take 1 = q'.take 1
  · rw [if_pos a1]
    by_cases b1 : 1 ≤ d
    · rw [if_pos (h1.mpr ⟨b1, a1⟩)]; omega
    rw [if_neg (fun z => b1 (h1.mp z).1)]; omega
  rw [if_neg a1, if_neg (fun z => a1 (h1.mp z).2)]; omega
theorem same_put {H G : Hp} {l : Addr} {o : HO} (h : H l = none) (s : Same H G) : Same H (upd G l o) := fun b u hb => by
  rw [upd_ne (ne_of_none hb h)]
  exact s _ _ hb
theorem eqL_self' : ∀ {xs : List V}, xs.all flatV = true → eqL xs xs = true
  | [], _ => rfl
  | x :: r, h => by
    rw [List.all_cons, Bool.and_eq_true] at h
    show (eqV x x && eqL r r) = true
    rw [eqV_self h.1, eqL_self' h.2]
    rfl
theorem Lies.len {S : Tr 4} {s : Int} {p : List Int} (h : Lies S s p) : p.length = 3 := by
  obtain ⟨i, j, k, g, c, f, _, _, _, _, rfl⟩ := h
  rfl
structure PlD (S : Tr 4) (G : Hp) (kvs : List (Key × V)) (done : List Int) : Prop where
  ks : kvs.map (·.1) = done.map Sum.inl
  val : ∀ s ∈ done, ∃ p a, Lies S s p ∧ valV kvs (Sum.inl s) = some (.ref a) ∧ G a = some (.tup (p.map V.int))
theorem PlD.nil {S : Tr 4} {G : Hp} : PlD S G [] [] := ⟨rfl, fun s h => nomatch h⟩
theorem PlD.len {S : Tr 4} {G : Hp} {kvs : List (Key × V)} {done : List Int} (h : PlD S G kvs done) : kvs.length = done.length := by
  have := congrArg List.length h.ks
  rw [List.length_map, List.length_map] at this
  exact this
theorem PlD.keep {S : Tr 4} {G G' : Hp} {kvs : List (Key × V)} {done : List Int} (h : PlD S G kvs done) (s : ∀ a xs, G a = some (.tup xs) → G' a = some (.tup xs)) : PlD S G' kvs done :=
  ⟨h.ks, fun x hx => let ⟨p, a, l, e, g⟩ := h.val x hx; ⟨p, a, l, e, s _ _ g⟩⟩
theorem PlD.none {S : Tr 4} {G : Hp} {kvs : List (Key × V)} {done : List Int} {s : Int} (h : PlD S G kvs done) (hs : s ∉ done) : valV kvs (Sum.inl s) = none := by
  cases e : valV kvs (Sum.inl s) with
  | none => rfl
  | some v =>
    have := valV_in e
    rw [h.ks] at this
    obtain ⟨x, hx, e⟩ := List.mem_map.mp this
    cases e
    exact absurd hx hs
theorem PlD.put {S : Tr 4} {G : Hp} {kvs : List (Key × V)} {done : List Int} {s : Int} {p : List Int} {a : Addr} (h : PlD S G kvs done) (l : Lies S s p) (g : G a = some (.tup (p.map V.int))) (hs : s ∉ done) : PlD S G (putK kvs (Sum.inl s) (.ref a)) (done ++ [s]) := by
  have hn := h.none hs
  refine ⟨by rw [putK_new _ hn, List.map_append, List.map_append, h.ks]; rfl, fun x hx => ?_⟩
  rw [valV_put]
  by_cases e : x = s
  · rw [if_pos (by rw [e]), e]
    exact ⟨p, a, l, rfl, g⟩
  · rw [if_neg (fun z => e (Sum.inl.inj z))]
    rcases List.mem_append.mp hx with hx | hx
    · exact h.val x hx
    · exact absurd (List.mem_singleton.mp hx) e
theorem PlD.at {S : Tr 4} {G : Hp} {kvs : List (Key × V)} {done : List Int} {i : Nat} {q : Key × V} (h : PlD S G kvs done) (e : kvs[i]? = some q) : ∃ s, done[i]? = some s ∧ q.1 = Sum.inl s := by
  have h1 : (kvs.map (·.1))[i]? = some q.1 := by rw [List.getElem?_map, e]; rfl
  rw [h.ks, List.getElem?_map] at h1
  cases e2 : done[i]? with
  | none => rw [e2] at h1; cases h1
  | some s =>
    rw [e2] at h1
    exact ⟨s, rfl, (Option.some.inj h1).symm⟩
def spPlacesD : Sp := fun vs H Q _ => ∃ v, ∃ S : Tr 4, vs = [v] ∧ AtR H 4 v S ∧ WF S ∧ (flat 4 S).length < 64 ∧ ∀ d kvs H', Same H H' → H d = none → H' d = some (.dK kvs) → PlD S H' kvs (flat 4 S) → Q (.ref d) H'
def spShare : Sp := fun vs H Q _ => ∃ t u p q, vs = [.ref t, .ref u] ∧ H t = some (.tup (p.map V.int)) ∧ H u = some (.tup (q.map V.int)) ∧ p.length = 3 ∧ q.length = 3 ∧ ∀ H', Same H H' → Q (.int (shr p q)) H'
def Alk (S U : Tr 4) (s : Int) : Prop := ∀ x ∈ flat 4 U, x ≠ s → x ∈ flat 4 S ∧ ∀ y ∈ flat 4 U, y ≠ s → ∀ k, tog 2 S k x y ↔ tog 2 U k x y
def spAlike : Sp := fun vs H Q _ => ∃ d1 d2 k1 k2 s, ∃ S U : Tr 4, vs = [.ref d1, .ref d2, .int s] ∧ d1 ≠ d2 ∧ H d1 = some (.dK k1) ∧ H d2 = some (.dK k2) ∧ PlD S H k1 (flat 4 S) ∧ PlD U H k2 (flat 4 U) ∧ WF S ∧ WF U ∧ Alk S U s ∧ ∀ H', Same H H' → Q (.bl true) H'
def spTaken2 (C : Addr) : Sp := fun vs H Q E => ∃ v s, ∃ S : Tr 4, vs = [v, .int s] ∧ AtR H 4 v S ∧ WF S ∧ (flat 4 S).length < 64 ∧ inR 1000000000 (.int s) = true ∧ (s ∉ flat 4 S → ∀ H', Same H H' → E (.ref C) none H') ∧ (s ∈ flat 4 S → ∀ w H', Same H H' → New H H' 4 w (wo 3 s S) → Q w H')
def spRef47 (K : PySem.W.Frag) : Sp := fun vs H Q _ => ∃ v s p, ∃ S : Tr 4, vs = [v, .int s, p] ∧ AtR H 4 v S ∧ WF S ∧ (flat 4 S).length < 63 ∧ inR 1000000000 (.int s) = true ∧ ((p = .non ∧ s ∉ flat 4 S) ∨ ∃ a q, p = .ref a ∧ IsP K H p (some q) ∧ lay 2 (wo 3 s S) s q = none) ∧ ∀ H', Same H H' → Q (.bl true) H'
def spLaidBy : Sp := fun vs H Q _ => ∃ v s o d, ∃ S : Tr 4, vs = [v, .int s, .int o, .int ((d : Nat) : Int)] ∧ AtR H 4 v S ∧ WF S ∧ (flat 4 S).length < 63 ∧ inR 1000000000 (.int s) = true ∧ o ∈ flat 4 S ∧ o ≠ s ∧ d ≤ 3 ∧ ∀ U q, way 2 (wo 3 s S) o d q → lay 2 (wo 3 s S) s q = some U → ∀ w H', Same H H' → New H H' 4 w U → Q w H'
theorem filter_id {xs : List Int} {s : Int} (h : s ∉ xs) : xs.filter (fun x => !decide (x = s)) = xs := List.filter_eq_self.mpr fun x hx => by
  have : x ≠ s := fun z => h (z ▸ hx)
  simp [this]
theorem full_ne {n : Nat} {t : Tr (n + 1)} (h : full (n + 1) t) : (ls t).isEmpty = false := by
  cases e : ls t with
  | nil => exact absurd e h.1
  | cons a r => rfl
theorem wo_id {s : Int} : ∀ {n : Nat} {t : Tr (n + 1)}, full (n + 1) t → s ∉ flat (n + 1) t → wo n s t = t
  | 0, f, _, h => filter_id fun z => h (mem_flat1.mpr z)
  | n + 1, ts, fu, h => by
    show (List.filter (fun t : Tr (n + 1) => !(ls t).isEmpty) ((ls ts).map (wo n s)) : List (Tr (n + 1))) = ls ts
    have e : (ls ts).map (wo n s) = ls ts := (List.map_congr_left fun t ht => wo_id (fu.2 t ht) fun z => h (flat_mem ht z)).trans (List.map_id _)
    rw [e]
    exact List.filter_eq_self.mpr fun t ht => by rw [full_ne (fu.2 t ht)]; rfl
theorem wo_same {S : Tr 4} {s : Int} (fu : ∀ g ∈ ls S, full 3 g) (h : s ∉ flat 4 S) : wo 3 s S = S := by
  show (List.filter (fun t : Tr 3 => !(ls t).isEmpty) ((ls S).map (wo 2 s)) : List (Tr 3)) = ls S
  have e : (ls S).map (wo 2 s) = ls S := (List.map_congr_left fun t ht => wo_id (fu t ht) fun z => h (flat_mem ht z)).trans (List.map_id _)
  rw [e]
  exact List.filter_eq_self.mpr fun t ht => by rw [full_ne (fu t ht)]; rfl
theorem mem_wo {S : Tr 4} {s x : Int} : x ∈ flat 4 (wo 3 s S) ↔ x ∈ flat 4 S ∧ x ≠ s := by
  have e : flat 4 (wo 3 s S) = (flat 4 S).filter (fun x => !decide (x = s)) := flat_wo s 3 S
  rw [e, List.mem_filter]
  simp
def Stp (S U : Tr 4) (s : Int) (ov : V) (d : Nat) (li : Bool) : Prop :=
  (li = false ∧ ov = .non ∧ s ∈ flat 4 S ∧ U = wo 3 s S) ∨
  (li = true ∧ ov = .non ∧ (∀ x ∈ flat 4 S, x = s) ∧ lay 2 (wo 3 s S) s [0] = some U) ∨
  (li = true ∧ ∃ o q, ov = .int o ∧ o ∈ flat 4 S ∧ o ≠ s ∧ d ≤ 3 ∧ way 2 (wo 3 s S) o d q ∧ lay 2 (wo 3 s S) s q = some U)
theorem Stp.lay {S U : Tr 4} {s : Int} {ov : V} {d : Nat} {li : Bool} (h : Stp S U s ov d li) : (li = false ∧ s ∈ flat 4 S ∧ U = wo 3 s S) ∨ (li = true ∧ ∃ q, My.lay 2 (wo 3 s S) s q = some U ∧ ∀ i ∈ q, 0 ≤ i) := by
  rcases h with ⟨a, _, b, c⟩ | ⟨a, _, _, c⟩ | ⟨a, o, q, _, _, _, _, w, c⟩
  · exact .inl ⟨a, b, c⟩
  · exact .inr ⟨a, _, c, fun i hi => by rw [List.mem_singleton.mp hi]; exact Int.le_refl _⟩
  · exact .inr ⟨a, q, c, way_pos w⟩
theorem Stp.wf {S U : Tr 4} {s : Int} {ov : V} {d : Nat} {li : Bool} (h : Stp S U s ov d li) (w : WF S) (hs : inR 1000000000 (.int s) = true) : WF U ∧ (flat 4 U).length ≤ (flat 4 S).length + 1 := by
  have l2 := wo_len S s
  rcases h.lay with ⟨_, _, rfl⟩ | ⟨_, q, hq, h0⟩
  · exact ⟨w.wo s, by omega⟩
  · have pt := lay_top hq wo_not h0
    refine ⟨pt.wf (w.wo s) wo_not hs, ?_⟩
    have l1 := pt.p.length_eq
    rw [List.length_append] at l1
    have l3 : [s].length = 1 := rfl
    omega
theorem Stp.mem {S U : Tr 4} {s : Int} {ov : V} {d : Nat} {li : Bool} (h : Stp S U s ov d li) {x : Int} (hx : x ≠ s) : x ∈ flat 4 U ↔ x ∈ flat 4 S := by
  rcases h.lay with ⟨_, _, rfl⟩ | ⟨_, q, hq, h0⟩
  · exact Iff.trans mem_wo ⟨fun h => h.1, fun h => ⟨h, hx⟩⟩
  · rw [(lay_top hq wo_not h0).p.mem_iff, List.mem_append, mem_wo]
    exact ⟨fun h => h.elim (fun h => h.1) fun h => absurd (List.mem_singleton.mp h) hx, fun h => .inl ⟨h, hx⟩⟩
theorem Stp.tog {S U : Tr 4} {s : Int} {ov : V} {d : Nat} {li : Bool} (h : Stp S U s ov d li) {x y : Int} (hx : x ≠ s) (hy : y ≠ s) (k : Nat) : My.tog 2 U k x y ↔ My.tog 2 S k x y := by
  rcases h.lay with ⟨_, _, rfl⟩ | ⟨_, q, hq, h0⟩
  · exact wo_tog hx hy
  · exact Iff.trans (lay_tog hq wo_not h0 hx hy) (wo_tog hx hy)
theorem Stp.alk {S U : Tr 4} {s : Int} {ov : V} {d : Nat} {li : Bool} (h : Stp S U s ov d li) : Alk S U s := fun x hx xs => ⟨(h.mem xs).mp hx, fun y hy ys k => (h.tog xs ys k).symm⟩
theorem Stp.perm {S U : Tr 4} {s : Int} {ov : V} {d : Nat} {li : Bool} (h : Stp S U s ov d li) : (flat 4 U).Perm ((flat 4 S).filter (fun x => !decide (x = s)) ++ if li = true then [s] else []) := by
  have e : flat 4 (wo 3 s S) = (flat 4 S).filter (fun x => !decide (x = s)) := flat_wo s 3 S
  rcases h.lay with ⟨rfl, _, rfl⟩ | ⟨rfl, q, hq, h0⟩
  · rw [if_neg (by decide), List.append_nil, e]
  · rw [if_pos rfl, ← e]
    exact (lay_top hq wo_not h0).p
theorem shr_tog {S U : Tr 4} {x y x' y' : Int} {p q p' q' : List Int} (ws : WF S) (wu : WF U) (h1 : Lies S x p) (h2 : Lies S y q) (h3 : Lies U x' p') (h4 : Lies U y' q') (h : ∀ k, My.tog 2 S k x y ↔ My.tog 2 U k x' y') : shr p q = shr p' q' :=
  shr_eq fun k _ => Iff.trans (take_tog ws.nd h1.lie h2.lie) (Iff.trans (h k) (take_tog wu.nd h3.lie h4.lie).symm)
theorem shr_self (p : List Int) : shr p p = 3 := if_pos rfl
theorem Stp.new {S U : Tr 4} {s o : Int} {d : Nat} {li : Bool} (h : Stp S U s (.int o) d li) (ws : WF S) (hs : inR 1000000000 (.int s) = true) {y : Int} {ps py po : List Int} (hy : y ≠ s) (h1 : Lies U s ps) (h2 : Lies U y py) (h3 : Lies U o po) : shr ps py = min d (shr py po) := by
  have ws' := h.wf ws hs
  have tg := @Stp.tog _ _ _ _ _ _ h
  have hm := h.mem hy
  rcases h with ⟨_, e, _⟩ | ⟨_, e, _⟩ | ⟨_, o', q, e, ho, hos, hd, hw, hl⟩
  · cases e
  · cases e
  cases e
  have yU : y ∈ flat 4 U := lie_in h2.lie
  have yS := hm.mp yU
  refine shr_min hd fun k hk => ?_
  rw [take_tog ws'.1.nd h1.lie h2.lie, take_tog ws'.1.nd h2.lie h3.lie, lay_new hw hl (ws.wo s).nd wo_not (mem_wo.mpr ⟨yS, hy⟩) hk]
  exact ⟨fun ⟨a, b⟩ => ⟨a, tog_comm ((tg hos hy k).mpr ((wo_tog hos hy).mp b))⟩, fun ⟨a, b⟩ => ⟨a, (wo_tog hos hy).mpr ((tg hos hy k).mp (tog_comm b))⟩⟩
theorem eqL_ints : ∀ a b : List Int, eqL (a.map V.int) (b.map V.int) = decide (a = b)
  | [], [] => rfl
  | [], _ :: _ => rfl
  | _ :: _, [] => rfl
  | x :: a, y :: b => by
    show (eqV (.int x) (.int y) && eqL (a.map V.int) (b.map V.int)) = _
    rw [eqL_ints a b]
    by_cases e : x = y
    · subst e
      simp [eqV]
    · simp [eqV, e]
theorem shr_is {p q : List Int} {m : Nat} (h1 : 1 ≤ m) (h3 : m ≤ 3) (h : p.take m = q.take m) (hn : ∀ k, m < k → k ≤ 3 → p.take k ≠ q.take k) : shr p q = m := by
  unfold shr
  by_cases e3 : m = 3
  · subst e3
    exact if_pos h
  rw [if_neg (hn 3 (by omega) (by omega))]
  by_cases e2 : m = 2
  · subst e2
    exact if_pos h
  rw [if_neg (hn 2 (by omega) (by omega))]
  have e1 : m = 1 := by omega
  subst e1
  exact if_pos h
theorem shr_0 {p q : List Int} (hn : ∀ k, 0 < k → k ≤ 3 → p.take k ≠ q.take k) : shr p q = 0 := by
  unfold shr
  rw [if_neg (hn 3 (by omega) (by omega)), if_neg (hn 2 (by omega) (by omega)), if_neg (hn 1 (by omega) (by omega))]
theorem slA {K : PySem.W.Frag} {H : Hp} {Q : VK} {t : Addr} {p : List Int} {m : Nat} (ht : H t = some (.tup (p.map V.int))) (k : ∀ a H', Same H H' → H' a = some (.tup ((p.take m).map V.int)) → Q (.ref a) H') : rSlTA K (.ref t) none (some (m : Int)) H Q := by
  refine ⟨t, _, rfl, SqT.of ht, fun w => k t H (Same.refl H) ?_, fun _ a ha => k a _ (Same.new ha) (by rw [upd_same, cut_lit, List.map_take])⟩
  have w := w.2
  rw [HT.sIx_nat, List.length_map] at w
  rw [List.take_of_length_le (by omega)]
  exact ht
theorem DGet.kv {H : Hp} {a : Addr} {kvs : List (Key × V)} {k : Key} {v : V} (e : H a = some (.dK kvs)) (hv : valV kvs k = some v) : DGet H a (kV k) (some v) := by
  rw [← hv]
  exact DGet.k e
theorem DGet.fv {H : Hp} {a : Addr} {o : Obj} {kvs : List (Key × V)} {k : Key} {v : V} (e : H a = some (.frz o (.dK kvs))) (hv : valV kvs k = some v) : DGet H a (kV k) (some v) := by
  rw [← hv]
  exact DGet.f e
theorem nonN_ints : ∀ {p : List Int}, (∀ i ∈ p, 0 ≤ i) → nonN (p.map V.int) = some p
  | [], _ => rfl
  | i :: r, h => by
    show (if 0 ≤ i then (nonN (r.map V.int)).map (i :: ·) else none) = _
    rw [if_pos (h i (List.mem_cons_self ..)), nonN_ints fun j hj => h j (List.mem_cons_of_mem _ hj)]
    rfl
theorem IsP.path {K : PySem.W.Frag} {H : Hp} {a : Addr} {p : List Int} (h : H a = some (.tup (p.map V.int))) (h0 : ∀ i ∈ p, 0 ≤ i) (l1 : 1 ≤ p.length) (l3 : p.length ≤ 3) : IsP K H (.ref a) (some p) := by
  refine .inl ⟨a, _, rfl, h, fun x hx => ?_, ?_⟩
  · obtain ⟨i, _, rfl⟩ := List.mem_map.mp hx
    rfl
  · unfold pathQ
    rw [if_pos (by rw [List.length_map]; exact ⟨l1, l3⟩), nonN_ints h0]
def Nd (W : Tr 4) (g : Tr 3) (c : Tr 2) (G : Hp) (h : V) : Nat → Prop
  | 0 => AtR G 4 h W
  | 1 => AtR G 3 h g
  | 2 => AtR G 2 h c
  | _ => False
def lenN (W : Tr 4) (g : Tr 3) (c : Tr 2) : Nat → Nat
  | 0 => (ls W).length
  | 1 => (ls g).length
  | _ => (ls c).length
theorem Nd.lst {W : Tr 4} {g : Tr 3} {c : Tr 2} {G : Hp} {h : V} {n : Nat} (x : Nd W g c G h n) : ∃ a vs, h = .ref a ∧ G a = some (.lst vs) ∧ vs.length = lenN W g c n := by
  match n, x with
  | 0, x => exact AtR.lst x
  | 1, x => exact AtR.lst x
  | 2, x => exact AtR.lst x
theorem way_cut {W : Tr 4} {g : Tr 3} {c : Tr 2} {f : Tr 1} {o : Int} {i j m d : Nat} (hd : d ≤ 2) (hg : (ls W)[i]? = some g) (hc : (ls g)[j]? = some c) (hf : (ls c)[m]? = some f) (hs : o ∈ ls f) : way 2 W o d ([(i : Int), (j : Int), (m : Int)].take d ++ [((lenN W g c d : Nat) : Int)]) := by
  have o2 : o ∈ flat 2 c := flat_mem (List.mem_of_getElem? hf) (mem_flat1.mpr hs)
  have o3 : o ∈ flat 3 g := flat_mem (List.mem_of_getElem? hc) o2
  match d, hd with
  | 0, _ => exact rfl
  | 1, _ => exact ⟨i, g, _, [], hg, o3, rfl, rfl⟩
  | 2, _ => exact ⟨i, g, _, _, hg, o3, rfl, ⟨j, c, _, [], hc, o2, rfl, rfl⟩⟩
theorem lies_way {W : Tr 4} {o : Int} {p : List Int} (h : Lies W o p) : way 2 W o 3 p := by
  obtain ⟨i, j, m, g, c, f, hg, hc, hf, hs, rfl⟩ := h
  have o2 : o ∈ flat 2 c := flat_mem (List.mem_of_getElem? hf) (mem_flat1.mpr hs)
  have o3 : o ∈ flat 3 g := flat_mem (List.mem_of_getElem? hc) o2
  exact ⟨i, g, _, _, hg, o3, rfl, ⟨j, c, _, _, hc, o2, rfl, ⟨m, f, hf, mem_flat1.mpr hs, rfl⟩⟩⟩
theorem wo_ls {S : Tr 4} {s : Int} : (ls (wo 3 s S)).length ≤ (ls S).length := by
  show (List.filter (fun t : Tr 3 => !(ls t).isEmpty) ((ls S).map (wo 2 s))).length ≤ _
  exact Nat.le_trans (List.length_filter_le _ _) (by rw [List.length_map]; exact Nat.le_refl _)
theorem wo_nil {S : Tr 4} {s : Int} (h : ∀ x ∈ flat 4 S, x = s) : wo 3 s S = ([] : List (Tr 3)) := by
  have e : ∀ x, x ∉ flat 4 (wo 3 s S) := fun x hx => (mem_wo.mp hx).2 (h x (mem_wo.mp hx).1)
  cases q : ls (wo 3 s S) with
  | nil => exact q
  | cons g r =>
    have hg : g ∈ ls (wo 3 s S) := by rw [q]; exact List.mem_cons_self ..
    have := flat_pos (wo_full hg)
    cases hx : flat 3 g with
    | nil => rw [hx] at this; exact absurd this (by decide)
    | cons x r => exact absurd (flat_mem (n := 3) hg (by rw [hx]; exact List.mem_cons_self ..)) (e x)
def spRight47 : Sp := fun vs H Q _ => ∃ d1 d2 k1 k2 s ov d li, ∃ S U : Tr 4, vs = [.ref d1, .ref d2, .int s, ov, .int ((d : Nat) : Int), .bl li] ∧ d1 ≠ d2 ∧ H d1 = some (.dK k1) ∧ H d2 = some (.dK k2) ∧ PlD S H k1 (flat 4 S) ∧ PlD U H k2 (flat 4 U) ∧ WF S ∧ (flat 4 S).length < 60 ∧ inR 1000000000 (.int s) = true ∧ Stp S U s ov d li ∧ ∀ H', Same H H' → Q (.bl true) H'
def cf (f : Int) : Int := if f % 3 = 0 then 1 else if f % 3 = 1 then 7919 else 50000000
def shf (f s : Int) : Prop := ∃ a, 0 ≤ a ∧ a < 20 ∧ s = 1 + a * cf f
theorem shf_in {f s e : Int} (h : shf f s) (h0 : 0 ≤ e) (h1 : e ≤ 999) : inR 1000000000 (.int (s + e)) = true := by
  obtain ⟨a, a0, a1, rfl⟩ := h
  refine inR_of ?_ ?_
  · have : 0 ≤ a * cf f := Int.mul_nonneg a0 (by
      unfold cf
      split
      · decide
      · split <;> decide)
    omega
  · unfold cf
    split
    · omega
    · split <;> omega
theorem shf_in0 {f s : Int} (h : shf f s) : inR 1000000000 (.int s) = true := by
  have := shf_in (e := 0) h (by decide) (by decide)
  rwa [Int.add_zero] at this
theorem shf_none {f s x : Int} (h : shf f s) (h' : shf (f + 1) x) : s ≠ x + 999 := by
  obtain ⟨a, a0, a1, rfl⟩ := h
  obtain ⟨b, b0, b1, rfl⟩ := h'
  unfold cf
  have : f % 3 = 0 ∨ f % 3 = 1 ∨ f % 3 = 2 := by omega
  rcases this with e | e | e
  · rw [if_pos e, if_neg (by omega), if_pos (by omega)]; omega
  · rw [if_neg (by omega), if_pos e, if_neg (by omega), if_neg (by omega)]; omega
  · rw [if_neg (by omega), if_neg (by omega), if_pos (by omega)]; omega
def spSheetBy : Sp := fun vs H Q _ => ∃ m f, vs = [.int m, .int f] ∧ ∀ s H', Same H H' → shf f s → Q (.int s) H'
def spStep : Sp := fun vs H Q _ => ∃ v m f, ∃ S : Tr 4, vs = [v, .int m, .int f] ∧ AtR H 4 v S ∧ WF S ∧ (flat 4 S).length < 60 ∧
  ∀ l tv s ov d li U H', Same H H' → H' l = some (.lst [tv, .int s, ov, .int ((d : Nat) : Int), .bl li]) → New H H' 4 tv U → shf f s → Stp S U s ov d li → Q (.ref l) H'
def Off (hl : Addr) (G : Hp) (v : V) (S : Tr 4) : Prop := ∀ G', (∀ b u, b ≠ hl → G b = some u → G' b = some u) → AtR G' 4 v S
theorem Off.r {hl : Addr} {G : Hp} {v : V} {S : Tr 4} (h : Off hl G v S) : AtR G 4 v S := h G fun _ _ _ e => e
theorem Off.keep {hl : Addr} {G G2 : Hp} {v : V} {S : Tr 4} (h : Off hl G v S) (f : ∀ b u, b ≠ hl → G b = some u → G2 b = some u) : Off hl G2 v S := fun G' f' => h G' fun b u n e => f' b u n (f b u n e)
theorem Off.same {hl : Addr} {G G2 : Hp} {v : V} {S : Tr 4} (h : Off hl G v S) (f : Same G G2) : Off hl G2 v S := h.keep fun b u _ e => f b u e
theorem Off.upd {hl : Addr} {G : Hp} {v : V} {S : Tr 4} {o : HO} (h : Off hl G v S) : Off hl (L2.upd G hl o) v S := h.keep fun b u n e => by rw [upd_ne n]; exact e
theorem Off.new {hl : Addr} {G0 G : Hp} {v : V} {S : Tr 4} (h : New G0 G 4 v S) (h0 : G0 hl ≠ none) : Off hl G v S := fun G' f => by
  obtain ⟨o, at_, d⟩ := h
  refine (at_.frame (o' := o) (H' := G') fun a r xs ha _ hx => ⟨f a _ (fun z => ?_) hx, ha⟩).r
  rw [z] at ha
  exact h0 (d hl r ha).1
theorem rows_alike {K : PySem.W.Frag} {H H0 H1 : Hp} {p q : Addr} {vs us : List V} {rs : List Rw} (hp : H p = some (.lst vs)) (hq : H q = some (.lst us)) (h1 : RowsAt H0 H vs rs) (h2 : RowsAt H1 H us rs) : SeqEq K H (EqD K H 2) (.ref p) (.ref q) true := by
  have h := SeqEq.list (K := K) (H := H) (R := EqD K H 2) (e := fun _ => true) (SqL.of hp) (SqL.of hq) (h1.1.trans h2.1.symm) fun i x y hx hy => ?_
  · rw [all_range (fun _ _ => rfl)] at h
    exact h
  have hi : i < rs.length := by rw [← h1.1]; exact (List.getElem?_eq_some_iff.mp hx).1
  have er : rs[i]? = some rs[i] := List.getElem?_eq_getElem hi
  obtain ⟨t, ip, sl, rfl, a1, a2, a3, _⟩ := h1.2 i x _ hx er
  obtain ⟨t', ip', sl', rfl, b1, b2, b3, _⟩ := h2.2 i y _ hy er
  refine .inr ?_
  have h := SeqEq.tup (K := K) (H := H) (R := EqD K H 1) (e := fun _ => true) (SqT.of a1) (SqT.of b1) fun j x y hx hy => ?_
  · exact h
  match j, hx, hy with
  | 0, hx, hy =>
    cases hx
    cases hy
    have h := SeqEq.flatT (K := K) (n := 0) (SqT.of a2) (SqT.of b2) rfl (flatI _) (flatI _)
    rw [eqL_self' (flatI _)] at h
    exact .inr h
  | 1, hx, hy =>
    cases hx
    cases hy
    have h := SeqEq.flatL (K := K) (n := 0) (SqL.of a3) (SqL.of b3) (flatI _) (flatI _)
    rw [eqL_self' (flatI _)] at h
    exact .inr h
  | j + 2, hx, hy => cases hx
structure HeldT (hl : Addr) (G : Hp) (x : V) : Prop where
  ex : ∃ t tv l ws G1, ∃ U : Tr 4, x = .ref t ∧ G t = some (.tup [tv, .ref l]) ∧ Off hl G tv U ∧ WF U ∧ (flat 4 U).length < 64 ∧ G l = some (.lst ws) ∧ l ≠ hl ∧ G1 hl ≠ none ∧ RowsAt G1 G ws (rows 2 [] (ls U))
theorem HeldT.same {G G' : Hp} {hl : Addr} {x : V} (h : HeldT hl G x) (s : Same G G') : HeldT hl G' x := by
  obtain ⟨t, tv, l, ws, G1, U, e, a, b, c, d, e1, f, h0, g⟩ := h.ex
  exact ⟨⟨t, tv, l, ws, G1, U, e, s _ _ a, b.same s, c, d, s _ _ e1, f, h0, g.same s⟩⟩
theorem HeldT.upd {G : Hp} {hl : Addr} {x : V} {xs ys : List V} (h : HeldT hl G x) (e : G hl = some (.lst xs)) : HeldT hl (L2.upd G hl (.lst ys)) x := by
  obtain ⟨t, tv, l, ws, G1, U, e', a, b, c, d, e1, f, h0, g⟩ := h.ex
  refine ⟨⟨t, tv, l, ws, G1, U, e', ?_, b.upd, c, d, ?_, f, h0, g.upd e h0⟩⟩
  · rw [upd_ne (fun z => by rw [z, e] at a; cases a)]
    exact a
  · rw [upd_ne f]
    exact e1
def spLaw (K : PySem.W.Frag) : Sp := fun vs H Q _ => ∃ (a : Addr) (ns : List Int), vs = [.ref a] ∧ SqL K H a (ns.map V.int) ∧ ns.length ≤ 63 ∧ ∀ H', Q (.bl true) H'
def top (i : Nat) : Stmt := PySem.Challenge.pw_rightname_k47_whole_lays_and_takes.main.body.getD i (.Pass ⟨0, 0, 0, 0⟩)
abbrev s_is_whole : Stmt := top 7
abbrev s_is_number : Stmt := top 8
abbrev s_sorting_list : Stmt := top 11
abbrev s_group_list : Stmt := top 12
abbrev s_sheet_list : Stmt := top 13
abbrev s_groups : Stmt := top 14
abbrev s_groups_in : Stmt := top 15
abbrev s_sheets_of : Stmt := top 16
abbrev s_refuse_sheet : Stmt := top 17
abbrev s_path_of : Stmt := top 18
abbrev s_without : Stmt := top 19
abbrev s_taken : Stmt := top 20
abbrev s_laid : Stmt := top 21
abbrev s_is_path : Stmt := top 22
abbrev s_put_sheet : Stmt := top 23
abbrev s_new_group : Stmt := top 24
abbrev s_Lcell_at : Stmt := top 26
abbrev s_Ldrawn : Stmt := top 27
abbrev s_Lsheet_by : Stmt := top 28
abbrev s_Lplaces : Stmt := top 29
abbrev s_Lshare : Stmt := top 30
abbrev s_Lalike : Stmt := top 31
abbrev s_Lrefused : Stmt := top 32
abbrev s_Llaid_by : Stmt := top 33
abbrev s_Lstep : Stmt := top 34
abbrev s_Lright : Stmt := top 35
abbrev s_law : Stmt := top 36
structure Fn (K : PySem.W.Frag) (mg : Str → Option Value) (x : Str) (st : Stmt) (ps : List Str) (f : Addr) (fd : FuncData) : Prop where
  fn : Fun K x x st f fd
  mgf : mg x = some (.ref f)
  bi : Binds K fd ps []
theorem Fn.kp {K : PySem.W.Frag} {mg : Str → Option Value} {x : Str} {st : Stmt} {ps : List Str} {f : Addr} {fd : FuncData} (F : Fn K mg x st ps f fd) : PySem.W.keepIn K (.ref f) = true := F.fn.kp
set_option genInjectivity false in
set_option genSizeOfSpec false in
set_option genSizeOf false in
structure Ad where
  a_is_whole : Addr
  d_is_whole : FuncData
  a_is_number : Addr
  d_is_number : FuncData
  a_sorting_list : Addr
  d_sorting_list : FuncData
  a_group_list : Addr
  d_group_list : FuncData
  a_sheet_list : Addr
  d_sheet_list : FuncData
  a_groups : Addr
  d_groups : FuncData
  a_groups_in : Addr
  d_groups_in : FuncData
  a_sheets_of : Addr
  d_sheets_of : FuncData
  a_refuse_sheet : Addr
  d_refuse_sheet : FuncData
  a_path_of : Addr
  d_path_of : FuncData
  a_without : Addr
  d_without : FuncData
  a_taken : Addr
  d_taken : FuncData
  a_laid : Addr
  d_laid : FuncData
  a_is_path : Addr
  d_is_path : FuncData
  a_put_sheet : Addr
  d_put_sheet : FuncData
  a_new_group : Addr
  d_new_group : FuncData
  a_Lcell_at : Addr
  d_Lcell_at : FuncData
  a_Ldrawn : Addr
  d_Ldrawn : FuncData
  a_Lsheet_by : Addr
  d_Lsheet_by : FuncData
  a_Lplaces : Addr
  d_Lplaces : FuncData
  a_Lshare : Addr
  d_Lshare : FuncData
  a_Lalike : Addr
  d_Lalike : FuncData
  a_Lrefused : Addr
  d_Lrefused : FuncData
  a_Llaid_by : Addr
  d_Llaid_by : FuncData
  a_Lstep : Addr
  d_Lstep : FuncData
  a_Lright : Addr
  d_Lright : FuncData
  a_law : Addr
  d_law : FuncData
  u_LAST_NUMBER : Value
  u_FORM_DEPTH : Value
  c_NoSorting : Addr
  c_NoSheet : Addr
  c_NoPath : Addr
  c_RightError : Addr
structure Txt (w : World) (K : PySem.W.Frag) (mg : Str → Option Value) (c : Ad) : Prop where
  is_whole : Fn K mg "is_whole" s_is_whole ["thing"] c.a_is_whole c.d_is_whole
  is_number : Fn K mg "is_number" s_is_number ["thing"] c.a_is_number c.d_is_number
  sorting_list : Fn K mg "sorting_list" s_sorting_list ["sorting"] c.a_sorting_list c.d_sorting_list
  group_list : Fn K mg "group_list" s_group_list ["group", "depth", "seen"] c.a_group_list c.d_group_list
  sheet_list : Fn K mg "sheet_list" s_sheet_list ["sheets", "seen"] c.a_sheet_list c.d_sheet_list
  groups : Fn K mg "groups" s_groups ["sorting"] c.a_groups c.d_groups
  groups_in : Fn K mg "groups_in" s_groups_in ["path", "parts"] c.a_groups_in c.d_groups_in
  sheets_of : Fn K mg "sheets_of" s_sheets_of ["told"] c.a_sheets_of c.d_sheets_of
  refuse_sheet : Fn K mg "refuse_sheet" s_refuse_sheet ["sheet"] c.a_refuse_sheet c.d_refuse_sheet
  path_of : Fn K mg "path_of" s_path_of ["sorting", "sheet"] c.a_path_of c.d_path_of
  without : Fn K mg "without" s_without ["parts", "sheet", "depth"] c.a_without c.d_without
  taken : Fn K mg "taken" s_taken ["sorting", "sheet"] c.a_taken c.d_taken
  laid : Fn K mg "laid" s_laid ["sorting", "sheet", "path"] c.a_laid c.d_laid
  is_path : Fn K mg "is_path" s_is_path ["thing"] c.a_is_path c.d_is_path
  put_sheet : Fn K mg "put_sheet" s_put_sheet ["parts", "sheet", "path"] c.a_put_sheet c.d_put_sheet
  new_group : Fn K mg "new_group" s_new_group ["sheet", "depth"] c.a_new_group c.d_new_group
  Lcell_at : Fn K mg "_law_cell_at" s_Lcell_at ["_law_script", "_law_k"] c.a_Lcell_at c.d_Lcell_at
  Ldrawn : Fn K mg "_law_drawn" s_Ldrawn ["_law_script", "_law_k"] c.a_Ldrawn c.d_Ldrawn
  Lsheet_by : Fn K mg "_law_sheet_by" s_Lsheet_by ["_law_number", "_law_form"] c.a_Lsheet_by c.d_Lsheet_by
  Lplaces : Fn K mg "_law_places" s_Lplaces ["_law_sorting"] c.a_Lplaces c.d_Lplaces
  Lshare : Fn K mg "_law_share" s_Lshare ["_law_one", "_law_other"] c.a_Lshare c.d_Lshare
  Lalike : Fn K mg "_law_alike" s_Lalike ["_law_before", "_law_behind", "_law_sheet"] c.a_Lalike c.d_Lalike
  Lrefused : Fn K mg "_law_refused" s_Lrefused ["_law_sorting", "_law_sheet", "_law_path"] c.a_Lrefused c.d_Lrefused
  Llaid_by : Fn K mg "_law_laid_by" s_Llaid_by ["_law_sorting", "_law_sheet", "_law_other", "_law_deep"] c.a_Llaid_by c.d_Llaid_by
  Lstep : Fn K mg "_law_step" s_Lstep ["_law_sorting", "_law_number", "_law_form"] c.a_Lstep c.d_Lstep
  Lright : Fn K mg "_law_right" s_Lright ["_law_before", "_law_behind", "_law_sheet", "_law_other", "_law_deep", "_law_lies"] c.a_Lright c.d_Lright
  law : Fn K mg "law" s_law ["_law_script"] c.a_law c.d_law
  mg_LAST_NUMBER : mg "LAST_NUMBER" = some c.u_LAST_NUMBER
  rl_LAST_NUMBER : RelV (.int 1000000000) c.u_LAST_NUMBER
  mg_FORM_DEPTH : mg "FORM_DEPTH" = some c.u_FORM_DEPTH
  rl_FORM_DEPTH : RelV (.int 3) c.u_FORM_DEPTH
  mg_NoSorting : mg "NoSorting" = some (.ref c.c_NoSorting)
  mg_NoSheet : mg "NoSheet" = some (.ref c.c_NoSheet)
  mg_NoPath : mg "NoPath" = some (.ref c.c_NoPath)
  mg_RightError : mg "RightError" = some (.ref c.c_RightError)
  x_NoSorting : XCls K c.c_NoSorting
  q_NoSorting : XAsk K c.c_NoSorting
  e_NoSorting_RightError : PySem.W.exmOne K (.ref c.c_NoSorting) (.ref c.c_RightError) = some true
  x_NoSheet : XCls K c.c_NoSheet
  q_NoSheet : XAsk K c.c_NoSheet
  e_NoSheet_RightError : PySem.W.exmOne K (.ref c.c_NoSheet) (.ref c.c_RightError) = some true
  x_NoPath : XCls K c.c_NoPath
  q_NoPath : XAsk K c.c_NoPath
  e_NoPath_RightError : PySem.W.exmOne K (.ref c.c_NoPath) (.ref c.c_RightError) = some true
  no_len : mg "len" = none
  no_isinstance : mg "isinstance" = none
  no_int : mg "int" = none
  no_bool : mg "bool" = none
  no_list : mg "list" = none
  no_tuple : mg "tuple" = none
  no_sorted : mg "sorted" = none
  no_range : mg "range" = none
  no_min : mg "min" = none
  no_enumerate : mg "enumerate" = none
  no_all : mg "all" = none
theorem sc_is_whole : FnScope ["thing"] ["thing"] (defScope s_is_whole) := ⟨rfl, rfl, rfl, by decide +kernel, rfl, by decide +kernel, by decide +kernel⟩
theorem sc_is_number : FnScope ["thing"] ["thing"] (defScope s_is_number) := ⟨rfl, rfl, rfl, by decide +kernel, rfl, by decide +kernel, by decide +kernel⟩
theorem sc_sorting_list : FnScope ["sorting", "seen"] ["sorting"] (defScope s_sorting_list) := ⟨rfl, rfl, rfl, by decide +kernel, rfl, by decide +kernel, by decide +kernel⟩
theorem sc_group_list : FnScope ["group", "depth", "seen"] ["group", "depth", "seen"] (defScope s_group_list) := ⟨rfl, rfl, rfl, by decide +kernel, rfl, by decide +kernel, by decide +kernel⟩
theorem sc_sheet_list : FnScope ["sheets", "seen", "found", "sheet"] ["sheets", "seen"] (defScope s_sheet_list) := ⟨rfl, rfl, rfl, by decide +kernel, rfl, by decide +kernel, by decide +kernel⟩
theorem sc_groups : FnScope ["sorting"] ["sorting"] (defScope s_groups) := ⟨rfl, rfl, rfl, by decide +kernel, rfl, by decide +kernel, by decide +kernel⟩
theorem sc_groups_in : FnScope ["path", "parts", "found", "place", "part", "inner", "inside"] ["path", "parts"] (defScope s_groups_in) := ⟨rfl, rfl, rfl, by decide +kernel, rfl, by decide +kernel, by decide +kernel⟩
theorem sc_sheets_of : FnScope ["told", "found", "path", "sheets"] ["told"] (defScope s_sheets_of) := ⟨rfl, rfl, rfl, by decide +kernel, rfl, by decide +kernel, by decide +kernel⟩
theorem sc_refuse_sheet : FnScope ["sheet"] ["sheet"] (defScope s_refuse_sheet) := ⟨rfl, rfl, rfl, by decide +kernel, rfl, by decide +kernel, by decide +kernel⟩
theorem sc_path_of : FnScope ["sorting", "sheet", "told", "path", "sheets"] ["sorting", "sheet"] (defScope s_path_of) := ⟨rfl, rfl, rfl, by decide +kernel, rfl, by decide +kernel, by decide +kernel⟩
theorem sc_without : FnScope ["parts", "sheet", "depth", "left"] ["parts", "sheet", "depth"] (defScope s_without) := ⟨rfl, rfl, rfl, by decide +kernel, rfl, by decide +kernel, by decide +kernel⟩
theorem sc_taken : FnScope ["sorting", "sheet"] ["sorting", "sheet"] (defScope s_taken) := ⟨rfl, rfl, rfl, by decide +kernel, rfl, by decide +kernel, by decide +kernel⟩
theorem sc_laid : FnScope ["sorting", "sheet", "path", "parts", "left"] ["sorting", "sheet", "path"] (defScope s_laid) := ⟨rfl, rfl, rfl, by decide +kernel, rfl, by decide +kernel, by decide +kernel⟩
theorem sc_is_path : FnScope ["thing"] ["thing"] (defScope s_is_path) := ⟨rfl, rfl, rfl, by decide +kernel, rfl, by decide +kernel, by decide +kernel⟩
theorem sc_put_sheet : FnScope ["parts", "sheet", "path", "above", "place", "last"] ["parts", "sheet", "path"] (defScope s_put_sheet) := ⟨rfl, rfl, rfl, by decide +kernel, rfl, by decide +kernel, by decide +kernel⟩
theorem sc_new_group : FnScope ["sheet", "depth", "group", "above"] ["sheet", "depth"] (defScope s_new_group) := ⟨rfl, rfl, rfl, by decide +kernel, rfl, by decide +kernel, by decide +kernel⟩
theorem sc_Lcell_at : FnScope ["_law_script", "_law_k"] ["_law_script", "_law_k"] (defScope s_Lcell_at) := ⟨rfl, rfl, rfl, by decide +kernel, rfl, by decide +kernel, by decide +kernel⟩
theorem sc_Ldrawn : FnScope ["_law_script", "_law_k"] ["_law_script", "_law_k"] (defScope s_Ldrawn) := ⟨rfl, rfl, rfl, by decide +kernel, rfl, by decide +kernel, by decide +kernel⟩
theorem sc_Lsheet_by : FnScope ["_law_number", "_law_form"] ["_law_number", "_law_form"] (defScope s_Lsheet_by) := ⟨rfl, rfl, rfl, by decide +kernel, rfl, by decide +kernel, by decide +kernel⟩
theorem sc_Lplaces : FnScope ["_law_sorting", "_law_found", "_law_path", "_law_sheets", "_law_sheet"] ["_law_sorting"] (defScope s_Lplaces) := ⟨rfl, rfl, rfl, by decide +kernel, rfl, by decide +kernel, by decide +kernel⟩
theorem sc_Lshare : FnScope ["_law_one", "_law_other", "_law_many"] ["_law_one", "_law_other"] (defScope s_Lshare) := ⟨rfl, rfl, rfl, by decide +kernel, rfl, by decide +kernel, by decide +kernel⟩
theorem sc_Lalike : FnScope ["_law_before", "_law_behind", "_law_sheet", "_law_one", "_law_other"] ["_law_before", "_law_behind", "_law_sheet"] (defScope s_Lalike) := ⟨rfl, rfl, rfl, by decide +kernel, rfl, by decide +kernel, by decide +kernel⟩
theorem sc_Lrefused : FnScope ["_law_sorting", "_law_sheet", "_law_path"] ["_law_sorting", "_law_sheet", "_law_path"] (defScope s_Lrefused) := ⟨rfl, rfl, rfl, by decide +kernel, rfl, by decide +kernel, by decide +kernel⟩
theorem sc_Llaid_by : FnScope ["_law_sorting", "_law_sheet", "_law_other", "_law_deep", "_law_lies", "_law_left", "_law_path", "_law_holder", "_law_place"] ["_law_sorting", "_law_sheet", "_law_other", "_law_deep"] (defScope s_Llaid_by) := ⟨rfl, rfl, rfl, by decide +kernel, rfl, by decide +kernel, by decide +kernel⟩
theorem sc_Lstep : FnScope ["_law_sorting", "_law_number", "_law_form", "_law_before", "_law_sheet", "_law_others", "_law_way", "_law_other", "_law_deep"] ["_law_sorting", "_law_number", "_law_form"] (defScope s_Lstep) := ⟨rfl, rfl, rfl, by decide +kernel, rfl, by decide +kernel, by decide +kernel⟩
theorem sc_Lright : FnScope ["_law_before", "_law_behind", "_law_sheet", "_law_other", "_law_deep", "_law_lies", "_law_due", "_law_one", "_law_share_here"] ["_law_before", "_law_behind", "_law_sheet", "_law_other", "_law_deep", "_law_lies"] (defScope s_Lright) := ⟨rfl, rfl, rfl, by decide +kernel, rfl, by decide +kernel, by decide +kernel⟩
theorem sc_law : FnScope ["_law_script", "_law_form", "_law_sorting", "_law_held", "_law_k", "_law_number", "_law_before", "_law_told", "_law_sheet", "_law_other", "_law_deep", "_law_lies", "_law_none", "_law_some"] ["_law_script"] (defScope s_law) := ⟨rfl, rfl, rfl, by decide +kernel, rfl, by decide +kernel, by decide +kernel⟩
section
variable {P : Program} {w : World} {K : PySem.W.Frag} {mg : Str → Option Value} {base : Heap} {c : Ad}
set_option maxHeartbeats 4000000 in
theorem ok_is_whole (T : Txt w K mg c) : FnOk P w K mg base CX0 1 c.a_is_whole c.d_is_whole ["thing"] (spW K) := by
  refine T.is_whole.fn.ok sc_is_whole (fun vs H Q E h => ?_) (fun cdv A outer s H vs Q E hr h => ?_)
  · obtain ⟨x, rfl, _⟩ := h
    rfl
  · obtain ⟨x, rfl, ow, k⟩ := h
    refine ⟨_, (pss_one (ps_ret (pe_and (pe_callB call_isiA rfl T.no_isinstance bt_isinstance (pa_cons (pv 0) (pa_cons (pe_bltn (v := .ty "int") rfl T.no_int bt_int rfl) pa_nil))) (pe_one (pe_not (pe_callB call_isiA rfl T.no_isinstance bt_isinstance (pa_cons (pv 0) (pa_cons (pe_bltn (v := .ty "bool") rfl T.no_bool bt_bool rfl) pa_nil)))))))), ?_⟩
    refine ⟨x, rfl, rIsiA.int ow ⟨_, rfl, ?_⟩⟩
    cases x with
    | int i => exact iteT ⟨_, rfl, rIsiA.bool ow ⟨_, rfl, k⟩⟩
    | bl b => exact iteT ⟨_, rfl, rIsiA.bool ow ⟨_, rfl, k⟩⟩
    | _ => exact iteF k
set_option maxHeartbeats 4000000 in
theorem ok_is_number (T : Txt w K mg c) : FnOk P w K mg base CX0 2 c.a_is_number c.d_is_number ["thing"] (spR K 1000000000) := by
  refine T.is_number.fn.ok sc_is_number (fun vs H Q E h => ?_) (fun cdv A outer s H vs Q E hr h => ?_)
  · obtain ⟨x, rfl, _⟩ := h
    rfl
  · obtain ⟨x, rfl, ow, k⟩ := h
    refine ⟨_, (pss_one (ps_ret (pe_and (pe_call (ok_is_whole T) (hr.mono (by decide)) rfl T.is_whole.mgf T.is_whole.kp T.is_whole.bi .nil pass0 (pa_cons (pv 0) pa_nil)) (pe_one (pe_chain op_le op_le pe_int (pv 0) (pe_glob rfl T.mg_LAST_NUMBER T.rl_LAST_NUMBER)))))), ?_⟩
    refine ⟨x, rfl, x, rfl, ow, _, rfl, ?_⟩
    cases x with
    | int i =>
      refine iteT ⟨_, rfl, _, _, rfl, rfl, _, rfl, ?_⟩
      by_cases h1 : 1 ≤ i
      · rw [if_pos (decide_eq_true h1)]
        refine ⟨_, _, rfl, rfl, ?_⟩
        simpa [inR, h1] using k
      · rw [if_neg (by simp [h1])]
        simpa [inR, h1] using k
    | _ => exact iteF k
set_option maxHeartbeats 4000000 in
theorem ok_sheet_list (T : Txt w K mg c) : FnOk P w K mg base (CXx P w) 3 c.a_sheet_list c.d_sheet_list ["sheets", "seen"] (spSheetList) := by
  refine T.sheet_list.fn.okx sc_sheet_list (fun vs H Q E h => ?_) (fun cdv A outer s H vs Q E hr h => ?_)
  · obtain ⟨a, d, ns, kvs, rfl, _⟩ := h
    rfl
  · obtain ⟨a, d, ns, kvs, rfl, hA, hD, hg, hp, hv, hz, k⟩ := h
    refine ⟨_, (pss_cons (ps_set (i := 2) sc_sheet_list.nd rfl (Or.inl rfl) (pe_lst pa_nil))
      (pss_cons (ps_for own_def rfl (pi_list (pv 0)) (pg_name (i := 3) sc_sheet_list.nd rfl (Or.inl rfl))
        (pss_cons (ps_if (pt_not (pt_val (pe_call (ok_is_number T) (hr.mono (by decide)) rfl T.is_number.mgf T.is_number.kp T.is_number.bi .nil pass0 (pa_cons (pv 3) pa_nil))))
        (pss_one (ps_raise T.x_NoSorting rfl rfl T.mg_NoSorting rz_def (pa_cons pe_str pa_nil)))
        pss_nil)
      (pss_cut (ps_if (PW.pt (pw_and (pt_truth (pv 2) (fun _ => rfl)) (pw_and1 (pt_cmpR op_le (pv 3) (pe_ix ix_list (pv 2) (pe_un un_neg pe_int) (fun _ _ => rfl)) (nomark _)))))
        (pss_one (ps_raise T.x_NoSorting rfl rfl T.mg_NoSorting rz_def (pa_cons pe_str pa_nil)))
        pss_nil)
      (pss_cons (ps_if (pt_cmp (pc_din (hu_of hr) (pv 3) (pv 1)))
        (pss_one (ps_raise T.x_NoSorting rfl rfl T.mg_NoSorting rz_def (pa_cons pe_str pa_nil)))
        pss_nil)
      (pss_cons (ps_dput (hu_of hr) (pv 1) (pv 3) pe_bl rfl)
      (pss_one (ps_expr (pe_bm PySem.F.plainAttrs_list PySem.F.slot_list_append PySem.F.type_list_append (MtM.r mt_append) (pv 2) (pa_cons (pv 3) pa_nil)))))))))
      (pss_one (ps_ret (pv 2))))), ?_⟩
    refine ⟨le_ble rfl, fun l hl => ?_⟩
    have nla : a ≠ l := ne_of_none hA hl
    have nld : d ≠ l := ne_of_none hD hl
    refine ⟨_, rfl, a, rfl, ⟨_, SqL.of (by rw [upd_ne nla]; exact hA)⟩, ?_⟩
    refine for_list (xs := ns.map V.int) (fun i σ G => ∃ z kv', σ = [some (.ref a), some (.ref d), some (.ref l), z] ∧ G l = some (.lst ((ns.take i).map V.int)) ∧ G a = some (.lst (ns.map V.int)) ∧ G d = some (.dK kv') ∧ Seen kvs kv' (ns.take i) ∧ FrD d H G) ?_ ?_ ?_ ?_
    · exact ⟨_, kvs, rfl, upd_same, by rw [upd_ne nla]; exact hA, by rw [upd_ne nld]; exact hD, Seen.nil kvs, fun b u _ hb => by rw [upd_ne (ne_of_none hb hl)]; exact hb⟩
    · rintro i σ G _ ⟨z, kv', _, _, h, _⟩
      exact SqL.of h
    · rintro i x σ G hx ⟨z, kv', rfl, h1, h2, h3, h4, h5⟩
      obtain ⟨s, hs, rfl⟩ := getI hx
      have hm := List.mem_of_getElem? hs
      have q : valV kv' (Sum.inl s) = none := (h4.2 s).mpr ⟨hv s hm, nd_take hg.nd hs⟩
      have n1 : l ≠ d := ne_of h1 h3 (by intro z; cases z)
      have n2 : a ≠ d := ne_of h2 h3 (by intro z; cases z)
      have n3 : a ≠ l := nla
      have hi : i < ns.length := (List.getElem?_eq_some_iff.mp hs).1
      have sz : 1000 < sizeLine := le_ble rfl
      have lt : (ns.take i).length = i := by rw [List.length_take]; omega
      have e4 := h4.1
      rw [lt] at e4
      refine ⟨_, rfl, _, rfl, Own.int, _, rfl, ?_⟩
      rw [hg.inn s hm]
      refine iteF ?_
      refine ⟨fun σ' G' => σ' = [some (V.ref a), some (V.ref d), some (V.ref l), some (V.int s)] ∧ G' = G, ?_, ?_⟩
      · refine ⟨_, rfl, _, .inl ⟨_, SqL.of h1, rfl⟩, ?_⟩
        match i, hs, h1 with
        | 0, _, _ => exact iteF ⟨rfl, rfl⟩
        | m + 1, hs, h1 =>
          obtain ⟨p, ep⟩ : ∃ p, ns[m]? = some p := ⟨ns[m], List.getElem?_eq_getElem (by omega)⟩
          rw [take_one ep, List.map_append] at h1
          have lt2 : p < s := by
            obtain ⟨h2', e2⟩ := List.getElem?_eq_some_iff.mp ep
            obtain ⟨h3', e3⟩ := List.getElem?_eq_some_iff.mp hs
            rw [← e2, ← e3]
            exact List.pairwise_iff_getElem.mp hp m (m + 1) h2' h3' (by omega)
          rw [take_one ep, List.map_append]
          have ee : (!(List.map V.int (ns.take m) ++ List.map V.int [p]).isEmpty) = true := by cases List.map V.int (ns.take m) <;> rfl
          rw [ee]
          refine iteT ⟨_, rfl, _, rfl, _, rfl, l, _, _, _, rfl, rfl, SqL.of h1, atI_last _ _, _, _, rfl, rfl, _, rfl, ?_⟩
          rw [decide_eq_false (by omega)]
          exact iteF ⟨rfl, rfl⟩
      rintro σ' G' ⟨rfl, rfl⟩
      refine ⟨_, rfl, _, rfl, d, _, rfl, DGet.k (k := Sum.inl s) h3, ?_⟩
      rw [q]
      refine ⟨_, rfl, iteF ?_⟩
      refine ⟨_, rfl, _, rfl, d, _, rfl, DPut.k (k := Sum.inl s) h3 (by omega), ?_⟩
      refine ⟨_, rfl, .inl ⟨rfl, _, SqL.of (by rw [upd_ne n1]; exact h1)⟩, _, rfl, l, _, _, rfl, rfl, by rw [upd_ne n1]; exact h1, by rw [List.length_map]; omega, ?_⟩
      refine ⟨_, putK kv' (Sum.inl s) (.bl true), rfl, ?_, ?_, ?_, ?_, ?_⟩
      · rw [upd_same, take_one hs, List.map_append]; rfl
      · rw [upd_ne n3, upd_ne n2]; exact h2
      · rw [upd_ne n1.symm, upd_same]
      · rw [take_one hs]; exact h4.put q
      · intro b u nb hb
        rw [upd_ne (fun z => by rw [z, hl] at hb; cases hb), upd_ne nb]
        exact h5 b u nb hb
    · rintro σ G ⟨z, kv', rfl, h1, h2, h3, h4, h5⟩
      rw [List.length_map, List.take_of_length_le (Nat.le_refl _)] at h1 h4
      exact ⟨_, rfl, k l kv' G h5 hl h1 h3 h4⟩
set_option maxHeartbeats 4000000 in
theorem ok_group_list (T : Txt w K mg c) : ∀ n : Nat, FnOk P w K mg base (CXx P w) (4 + n) c.a_group_list c.d_group_list ["group", "depth", "seen"] (spGroupList n)
  | 0 => by
    refine T.group_list.fn.okx sc_group_list (fun vs H Q E h => ?_) (fun cdv A outer s H vs Q E hr h => ?_)
    · obtain ⟨v, d, t, kvs, rfl, _⟩ := h
      rfl
    · obtain ⟨v, d, t, kvs, rfl, hat, hg, hD, hv, hz, k⟩ := h
      refine ⟨_, (pss_cons (ps_if (PW.pt (pw_or (pt_not (pt_val (pe_callB call_isiA rfl T.no_isinstance bt_isinstance (pa_cons (pv 0) (pa_cons (pe_bltn (v := .ty "list") rfl T.no_list bt_list rfl) pa_nil))))) (pw_or1 (pt_cmpR op_eq (pe_callB call_len_seq rfl T.no_len bt_len (pa_cons (pv 0) pa_nil)) pe_int (nomark _)))))
        (pss_one (ps_raise T.x_NoSorting rfl rfl T.mg_NoSorting rz_def (pa_cons pe_str pa_nil)))
        pss_nil)
      (pss_cons (ps_if (pt_cmpR op_eq (pv 1) (pe_glob rfl T.mg_FORM_DEPTH T.rl_FORM_DEPTH) (nomark _))
        (pss_one (ps_ret (pe_callS (ok_sheet_list T) (hr.mono (by decide)) rfl T.sheet_list.mgf T.sheet_list.kp T.sheet_list.bi .nil pass_def (pa_cons (pv 0) (pa_cons (pv 2) pa_nil)))))
        pss_nil)
      (pss_one ps_never))), ?_⟩
      obtain ⟨a, vs, rfl, _, _⟩ := hat.lst
      have hA := AtR.ints (ns := t) hat
      have hne : ls t ≠ [] := hg.fu.1
      refine ⟨_, rfl, rIsiA.ty (.lst hA) rfl ⟨_, rfl, iteF ?_⟩⟩
      refine ⟨_, rfl, a, _, rfl, .inl (SqL.of hA), rfl, _, rfl, ?_⟩
      refine ite2 (fun z => ?_) (fun _ => ?_)
      · exfalso
        have z := V.int.inj (of_decide_eq_true z)
        exact hne (List.length_eq_zero_iff.mp (by exact (List.length_map (f := V.int) (as := t)).symm.trans (Int.ofNat_eq_zero.mp z)))
      have e1 := flat_ints t
      refine ⟨_, rfl, rfl, _, rfl, iteT ?_⟩
      refine ⟨_, rfl, _, rfl, a, d, t, kvs, rfl, hA, hD, ⟨e1 ▸ hg.inn, e1 ▸ hg.nd⟩, hg.as, e1 ▸ hv, by rw [← e1]; exact hz, fun l kv' H' f hl h1 h2 h3 => ?_⟩
      exact k _ kv' H' f (New.ints hl h1) h2 (by rw [e1]; exact h3)
  | n + 1 => by
    have ih := ok_group_list T n
    refine T.group_list.fn.okx sc_group_list (fun vs H Q E h => ?_) (fun cdv A outer s H vs Q E hr h => ?_)
    · obtain ⟨v, d, t, kvs, rfl, _⟩ := h
      rfl
    · obtain ⟨v, d, t, kvs, rfl, hat, hg, hD, hv, hz, k⟩ := h
      refine ⟨_, (pss_cons (ps_if (PW.pt (pw_or (pt_not (pt_val (pe_callB call_isiA rfl T.no_isinstance bt_isinstance (pa_cons (pv 0) (pa_cons (pe_bltn (v := .ty "list") rfl T.no_list bt_list rfl) pa_nil))))) (pw_or1 (pt_cmpR op_eq (pe_callB call_len_seq rfl T.no_len bt_len (pa_cons (pv 0) pa_nil)) pe_int (nomark _)))))
        (pss_one (ps_raise T.x_NoSorting rfl rfl T.mg_NoSorting rz_def (pa_cons pe_str pa_nil)))
        pss_nil)
      (pss_cons (ps_if (pt_cmpR op_eq (pv 1) (pe_glob rfl T.mg_FORM_DEPTH T.rl_FORM_DEPTH) (nomark _))
        (pss_one (ps_ret (pe_callS (ok_sheet_list T) (hr.mono (le_k (by decide))) rfl T.sheet_list.mgf T.sheet_list.kp T.sheet_list.bi .nil pass_def (pa_cons (pv 0) (pa_cons (pv 2) pa_nil)))))
        pss_nil)
      (pss_one (ps_ret (pe_comp (N' := ["part", "seen", "depth"]) (js := [none, some 2, some 1]) rfl rfl (by decide +kernel) (by decide +kernel) (free_of ["seen", "depth"] (by decide +kernel) (fm_cons (.inl rfl) (fm_cons (.inl rfl) fm_nil))) (cap_of rfl (fm_cons (fun j e => nomatch e) (fm_cons (fun j e => by cases e; exact ⟨rfl, rfl, .inl rfl⟩) (fm_cons (fun j e => by cases e; exact ⟨rfl, rfl, .inl rfl⟩) fm_nil)))) (pi_list (pv 0)) (fun B => ⟨(pg_name (i := 0) (show List.Nodup (["part", "seen", "depth"] : List Str) by decide +kernel) rfl (Or.inl rfl)), pifs_nil, (pe_callS ih (hr.mono (Nat.le_refl _)) rfl T.group_list.mgf T.group_list.kp T.group_list.bi .nil passE0 (pa_cons (pv 0) (pa_cons (pe_op op_add (pv 2) pe_int) (pa_cons (pv 1) pa_nil))))⟩)))))), ?_⟩
      obtain ⟨a, vs, rfl, hA, hlen⟩ := hat.lst
      have hne : ls t ≠ [] := hg.fu.1
      refine ⟨_, rfl, rIsiA.ty (.lst hA) rfl ⟨_, rfl, iteF ?_⟩⟩
      refine ⟨_, rfl, a, _, rfl, .inl (SqL.of hA), rfl, _, rfl, ?_⟩
      refine ite2 (fun z => ?_) (fun _ => ?_)
      · exfalso
        have z := V.int.inj (of_decide_eq_true z)
        exact hne (List.length_eq_zero_iff.mp (by omega))
      refine ⟨_, rfl, rfl, _, rfl, ?_⟩
      refine ite2 (fun z => ?_) (fun _ => ?_)
      · exfalso
        have z := V.int.inj (of_decide_eq_true z)
        omega
      have sz : 1000 < sizeLine := le_ble rfl
      have lz : vs.length ≤ 1000 := by
        have := flat_full (fun g hg' => hg.fu.2 g hg') (ts := ls t)
        have e : (flat (n + 1 + 1) t).length = (flat (n + 1 + 1) (ls t : List (Tr (n + 1)))).length := rfl
        omega
      refine ⟨_, rfl, a, rfl, ⟨_, SqL.of hA⟩, fun l B hl => ?_⟩
      have nla : a ≠ l := ne_of_none hA hl
      have nld : d ≠ l := ne_of_none hD hl
      refine loop_lst (xs := vs) (fun i σ acc G => (∃ o, σ = [o, some (.ref d), some (.int (3 - ((n + 1 : Nat) : Int)))]) ∧ ∃ kv', G l = some (.lst acc) ∧ acc.length = i ∧ G d = some (.dK kv') ∧ Seen kvs kv' (flat (n + 2) ((ls t).take i : List (Tr (n + 1)))) ∧ FrD d H G ∧ NewL H G l (n + 1) acc ((ls t).take i)) (by omega) ?_ ?_ ?_ ?_
      · exact ⟨⟨_, rfl⟩, kvs, upd_same, rfl, by rw [upd_ne nld]; exact hD, Seen.nil kvs, fun b u _ hb => (by rw [upd_ne (ne_of_none hb hl)]; exact hb), NewL.nil⟩
      · rintro i σ acc G hi ⟨_, kv', h1, h2, h3, h4, h5, h6⟩
        exact ⟨h1, SqL.of (h5.lst hD _ _ hA), by omega⟩
      · rintro i x σ acc G hx ⟨⟨o, rfl⟩, kv', h1, h2, h3, h4, h5, h6⟩
        have hi : i < vs.length := (List.getElem?_eq_some_iff.mp hx).1
        obtain ⟨x', t', e1, e2, hk⟩ := hat.kid hA hi
        rw [hx] at e1
        cases e1
        have fn := flat_nd e2 hg.nd
        have fl := flat_len e2
        have e4 := h4.1
        have n1 : l ≠ d := ne_of h1 h3 (by intro z; cases z)
        refine ⟨_, rfl, _, rfl, _, _, rfl, rfl, _, rfl, x, d, t', kv', by show [x, V.int (3 - ((n + 1 : Nat) : Int) + 1), V.ref d] = _; rw [show (3 : Int) - ((n + 1 : Nat) : Int) + 1 = 3 - (n : Int) by omega], hk.keep (h5.lst hD), hg.kid e2, h3, fun s hs => (h4.2 s).mpr ⟨hv s (flat_mem (List.mem_of_getElem? e2) hs), fn.2 s hs⟩, ?_, fun w kv'' G' f nw hd2 sn => ?_⟩
        · have e5 : (flat (n + 1 + 1) t).length = (flat (n + 1 + 1) (ls t : List (Tr (n + 1)))).length := rfl
          have e6 : (flat (n + 2) ((ls t).take i : List (Tr (n + 1)))).length = (flat (n + 1 + 1) ((ls t).take i : List (Tr (n + 1)))).length := rfl
          omega
        have hl2 : G' l = some (.lst acc) := f l _ n1 h1
        refine ⟨hl2, Nx.mk hi ⟨⟨_, rfl⟩, kv'', upd_same, by rw [List.length_append, h2]; rfl, by rw [upd_ne n1.symm]; exact hd2, ?_, ?_, ?_⟩⟩
        · rw [flat_take e2]
          exact h4.more sn
        · exact fun b u nb hb => by
            rw [upd_ne (ne_of_none hb hl)]
            exact f b u nb (h5 b u nb hb)
        · rw [take_one e2]
          have hln : G l ≠ none := by rw [h1]; intro z; cases z
          refine (h6.snoc hln (fun b hb => ?_) (fun b xs _ _ hb => f.lst h3 b xs hb) (f.some hd2) nw).frame (fun b xs nb _ hb => by rw [upd_ne nb]; exact hb) (fun b hb => ?_)
          · cases q : H b with
            | none => rfl
            | some u => exact absurd hb (h5.some h3 b (by rw [q]; intro z; cases z))
          · by_cases q : b = l
            · rw [q, upd_same]; intro z; cases z
            · rw [upd_ne q]; exact hb
      · rintro σ acc G ⟨_, kv', h1, h2, h3, h4, h5, h6⟩
        have et : (ls t).take vs.length = ls t := List.take_of_length_le (by omega)
        rw [et] at h4 h6
        exact k _ kv' G h5 (h6.done hl h1) h3 h4
set_option maxHeartbeats 4000000 in
theorem ok_sorting_list (T : Txt w K mg c) : FnOk P w K mg base (CXx P w) 7 c.a_sorting_list c.d_sorting_list ["sorting"] (spSorting K) := by
  refine T.sorting_list.fn.okx sc_sorting_list (fun vs H Q E h => ?_) (fun cdv A outer s H vs Q E hr h => ?_)
  · obtain ⟨v, S, rfl, _⟩ := h
    rfl
  · obtain ⟨v, S, rfl, hat, wf, hz, k⟩ := h
    refine ⟨_, (pss_cons (ps_if (pt_not (pt_val (pe_callB call_isiA rfl T.no_isinstance bt_isinstance (pa_cons (pv 0) (pa_cons (pe_bltn (v := .ty "list") rfl T.no_list bt_list rfl) pa_nil)))))
        (pss_one (ps_raise T.x_NoSorting rfl rfl T.mg_NoSorting rz_def (pa_cons pe_str pa_nil)))
        pss_nil)
      (pss_cons (ps_set (i := 1) sc_sorting_list.nd rfl (Or.inr rfl) pe_dnewK)
      (pss_one (ps_ret (pe_comp (N' := ["group", "seen"]) (js := [none, some 1]) rfl rfl (by decide +kernel) (by decide +kernel) (free_of ["seen"] (by decide +kernel) (fm_cons (.inl rfl) fm_nil)) (cap_of rfl (fm_cons (fun j e => nomatch e) (fm_cons (fun j e => by cases e; exact ⟨rfl, rfl, .inl rfl⟩) fm_nil))) (pi_list (pv 0)) (fun B => ⟨(pg_name (i := 0) (show List.Nodup (["group", "seen"] : List Str) by decide +kernel) rfl (Or.inl rfl)), pifs_nil, (pe_callS (ok_group_list T 2) (hr.mono (by decide)) rfl T.group_list.mgf T.group_list.kp T.group_list.bi .nil passE0 (pa_cons (pv 0) (pa_cons pe_int (pa_cons (pv 1) pa_nil))))⟩)))))), ?_⟩
    obtain ⟨a, vs, rfl, hA, hlen⟩ := hat.lst
    refine ⟨_, rfl, rIsiA.ty (.lst hA) rfl ⟨_, rfl, iteF ?_⟩⟩
    refine fun d hd => ?_
    have nad : a ≠ d := ne_of_none hA hd
    have hD : upd H d (.dK []) d = some (.dK []) := upd_same
    have sH : Same H (upd H d (.dK [])) := Same.new hd
    have hA1 := sH a _ hA
    have hat1 := hat.same sH
    generalize upd H d (.dK []) = H1 at hD sH hA1 hat1
    have sz : 1000 < sizeLine := le_ble rfl
    have lz : vs.length ≤ 1000 := by
      have := flat_full (fun g hg' => wf.fu g hg') (ts := ls S)
      have e : (flat 4 S).length = (flat 4 (ls S : List (Tr 3))).length := rfl
      have e' : (flat (3 + 1) (ls S)).length = (flat 4 (ls S : List (Tr 3))).length := rfl
      omega
    refine ⟨_, rfl, a, rfl, ⟨_, SqL.of hA1⟩, fun l B hl => ?_⟩
    have nld : d ≠ l := ne_of_none hD hl
    refine loop_lst (xs := vs) (fun i σ acc G => (∃ o, σ = [o, some (.ref d)]) ∧ ∃ kv', G l = some (.lst acc) ∧ acc.length = i ∧ G d = some (.dK kv') ∧ Seen [] kv' (flat 4 ((ls S).take i : List (Tr 3))) ∧ FrD d H1 G ∧ NewL H1 G l 3 acc ((ls S).take i)) (by omega) ?_ ?_ ?_ ?_
    · exact ⟨⟨_, rfl⟩, [], upd_same, rfl, by rw [upd_ne nld]; exact hD, Seen.nil [], fun b u _ hb => (by rw [upd_ne (ne_of_none hb hl)]; exact hb), NewL.nil⟩
    · rintro i σ acc G hi ⟨_, kv', h1, h2, h3, h4, h5, h6⟩
      exact ⟨h1, SqL.of (h5.lst hD _ _ hA1), by omega⟩
    · rintro i x σ acc G hx ⟨⟨o, rfl⟩, kv', h1, h2, h3, h4, h5, h6⟩
      have hi : i < vs.length := (List.getElem?_eq_some_iff.mp hx).1
      obtain ⟨x', t', e1, e2, hk⟩ := hat1.kid hA1 hi
      rw [hx] at e1
      cases e1
      have fn := flat_nd e2 wf.nd
      have fl := flat_len e2
      have e4 := h4.1
      have n1 : l ≠ d := ne_of h1 h3 (by intro z; cases z)
      refine ⟨_, rfl, _, rfl, x, d, t', kv', by show [x, V.int 1, V.ref d] = _; rfl, hk.keep (h5.lst hD), wf.grp e2, h3, fun s hs => (h4.2 s).mpr ⟨rfl, fn.2 s hs⟩, ?_, fun w kv'' G' f nw hd2 sn => ?_⟩
      · have e5 : (flat 4 S).length = (flat (3 + 1) (ls S : List (Tr 3))).length := rfl
        have e6 : (flat 4 ((ls S).take i : List (Tr 3))).length = (flat (3 + 1) ((ls S).take i : List (Tr 3))).length := rfl
        have e7 : (flat (2 + 1) t').length = (flat 3 t').length := rfl
        have e8 : ([] : List (Key × V)).length = 0 := rfl
        omega
      have hl2 : G' l = some (.lst acc) := f l _ n1 h1
      refine ⟨hl2, Nx.mk hi ⟨⟨_, rfl⟩, kv'', upd_same, by rw [List.length_append, h2]; rfl, by rw [upd_ne n1.symm]; exact hd2, ?_, ?_, ?_⟩⟩
      · rw [flat_take e2]
        exact h4.more sn
      · exact fun b u nb hb => by
          rw [upd_ne (ne_of_none hb hl)]
          exact f b u nb (h5 b u nb hb)
      · rw [take_one e2]
        have hln : G l ≠ none := by rw [h1]; intro z; cases z
        refine (h6.snoc hln (fun b hb => ?_) (fun b xs _ _ hb => f.lst h3 b xs hb) (f.some hd2) nw).frame (fun b xs nb _ hb => by rw [upd_ne nb]; exact hb) (fun b hb => ?_)
        · cases q : H1 b with
          | none => rfl
          | some u => exact absurd hb (h5.some h3 b (by rw [q]; intro z; cases z))
        · by_cases q : b = l
          · rw [q, upd_same]; intro z; cases z
          · rw [upd_ne q]; exact hb
    · rintro σ acc G ⟨_, kv', h1, h2, h3, h4, h5, h6⟩
      have et : (ls S).take vs.length = ls S := List.take_of_length_le (by omega)
      rw [et] at h6
      refine k _ G (fun b u hb => h5 b u (fun z => ?_) (sH b u hb)) ((h6.done hl h1).older sH)
      rw [z, hd] at hb
      cases hb
set_option maxHeartbeats 4000000 in
theorem ok_sheets_of (T : Txt w K mg c) : FnOk P w K mg base CX0 1 c.a_sheets_of c.d_sheets_of ["told"] (spSheetsOf) := by
  refine T.sheets_of.fn.ok sc_sheets_of (fun vs H Q E h => ?_) (fun cdv A outer s H vs Q E hr h => ?_)
  · obtain ⟨l, ws, H0, rs, rfl, _⟩ := h
    rfl
  · obtain ⟨l, ws, H0, rs, rfl, hL, hR, hz, hn, k⟩ := h
    refine ⟨_, (pss_cons (ps_set (i := 1) sc_sheets_of.nd rfl (Or.inl rfl) (pe_lst pa_nil))
      (pss_cons (ps_for PassesOwn.never rfl (pi_list (pv 0)) (pg_tup rfl (pgs_cons (pg_name (i := 2) sc_sheets_of.nd rfl (Or.inl rfl)) (pgs_cons (pg_name (i := 3) sc_sheets_of.nd rfl (Or.inl rfl)) pgs_nil)))
        (pss_one (ps_if (pt_cmpR op_eq (pe_callB call_len_seq rfl T.no_len bt_len (pa_cons (pv 2) pa_nil)) (pe_glob rfl T.mg_FORM_DEPTH T.rl_FORM_DEPTH) (nomark _))
        (pss_one (ps_expr (pe_bm PySem.F.plainAttrs_list PySem.F.slot_list_extend PySem.F.type_list_extend (MtM.r mt_extend) (pv 1) (pa_cons (pv 3) pa_nil))))
        pss_nil)))
      (pss_one (ps_ret (pe_callB (call_sorted rfl) rfl T.no_sorted bt_sorted (pa_cons (pv 1) pa_nil)))))), ?_⟩
    have sz : 2000 < sizeLine := le_ble rfl
    refine ⟨le_ble rfl, fun f hf => ?_⟩
    have s0 : Same H (upd H f (.lst [])) := Same.new hf
    refine ⟨_, rfl, l, rfl, ⟨_, SqL.of (s0 _ _ hL)⟩, ?_⟩
    refine for_list (xs := ws) (fun i σ G => (∃ z2 z3, σ = [some (.ref l), some (.ref f), z2, z3]) ∧ Same H G ∧ G f = some (.lst ((sheets3 (rs.take i)).map V.int))) ?_ ?_ ?_ ?_
    · exact ⟨⟨_, _, rfl⟩, s0, upd_same⟩
    · rintro i σ G _ ⟨_, sG, _⟩
      exact SqL.of (sG _ _ hL)
    · rintro i x σ G hx ⟨⟨z2, z3, rfl⟩, sG, h1⟩
      have hi : i < ws.length := (List.getElem?_eq_some_iff.mp hx).1
      have hir : i < rs.length := by rw [← hR.1]; exact hi
      have er : rs[i]? = some rs[i] := List.getElem?_eq_getElem hir
      obtain ⟨t, ip, sl, rfl, a1, a2, a3, a4⟩ := hR.2 i x _ hx er
      have e1 : sheets3 (rs.take (i + 1)) = sheets3 (rs.take i) ++ (if rs[i].1.length = 3 then rs[i].2 else []) := by
        rw [take_one er, sheets3_app]
        show _ ++ (_ ++ []) = _
        rw [List.append_nil]
      have hb : (sheets3 (rs.take i)).length + (if rs[i].1.length = 3 then rs[i].2 else []).length ≤ (sheets3 rs).length := by
        have h : sheets3 rs = sheets3 (rs.take (i + 1)) ++ sheets3 (rs.drop (i + 1)) := by rw [← sheets3_app, List.take_append_drop]
        rw [h, e1, List.length_append, List.length_append]
        omega
      refine ⟨t, _, rfl, SqT.of (sG _ _ a1), rfl, _, _, rfl, _, _, rfl, rfl, ?_⟩
      refine ⟨_, rfl, ip, _, rfl, .inr (SqT.of (sG _ _ a2)), rfl, _, rfl, ?_⟩
      refine ite2 (fun z => ?_) (fun z => ?_)
      · have z : rs[i].1.length = 3 := by
          have z := V.int.inj (of_decide_eq_true z)
          rw [List.length_map] at z
          omega
        rw [if_pos z] at e1 hb
        have nfs : sl ≠ f := fun q => by rw [q, hf] at a3; cases a3
        refine ⟨_, rfl, .inl ⟨rfl, _, SqL.of h1⟩, _, rfl, f, sl, _, _, rfl, rfl, h1, sG _ _ a3, ?_, ?_⟩
        · rw [List.length_map, List.length_map]
          omega
        · refine ⟨⟨_, _, rfl⟩, fun b u hb => ?_, ?_⟩
          · rw [upd_ne (ne_of_none hb hf)]
            exact sG _ _ hb
          · rw [upd_same, e1, List.map_append]
      · have z : rs[i].1.length ≠ 3 := fun q => z (by rw [List.length_map, q]; rfl)
        rw [if_neg z, List.append_nil] at e1
        exact ⟨⟨_, _, rfl⟩, sG, by rw [e1]; exact h1⟩
    · rintro σ G ⟨⟨z2, z3, rfl⟩, sG, h1⟩
      rw [hR.1, List.take_of_length_le (Nat.le_refl _)] at h1
      refine ⟨_, rfl, f, _, rfl, SqL.of h1, hz, fun q ms hq pm ps => ?_⟩
      refine k q _ (sG.trans (Same.new hq)) (sG.free hq) ?_
      rw [upd_same, srt_is pm ps]
set_option maxHeartbeats 4000000 in
theorem ok_groups_in (T : Txt w K mg c) : ∀ n : Nat, FnOk P w K mg base CX0 (2 + n) c.a_groups_in c.d_groups_in ["path", "parts"] (spGroupsIn K n)
  | 0 => by
    refine T.groups_in.fn.ok sc_groups_in (fun vs H Q E h => ?_) (fun cdv A outer s H vs Q E hr h => ?_)
    · obtain ⟨tp, ps, v, ts, rfl, _⟩ := h
      rfl
    · obtain ⟨tp, ps, v, ts, rfl, hp, hpl, hat, fu, hz, k⟩ := h
      refine ⟨_, (pss_cons (ps_set (i := 2) sc_groups_in.nd rfl (Or.inl rfl) (pe_lst pa_nil))
      (pss_cons (ps_for PassesOwn.never rfl (pi_enum rfl T.no_enumerate (pa_cons (pv 1) pa_nil)) (pg_tup rfl (pgs_cons (pg_name (i := 3) sc_groups_in.nd rfl (Or.inl rfl)) (pgs_cons (pg_name (i := 4) sc_groups_in.nd rfl (Or.inl rfl)) pgs_nil)))
        (pss_cons (ps_set (i := 5) sc_groups_in.nd rfl (Or.inl rfl) (pe_op op_catT1 (pv 0) (pe_tup (pa_cons (pv 3) pa_nil))))
      (pss_one (ps_if (pt_cmpR op_eq (pe_callB call_len_seq rfl T.no_len bt_len (pa_cons (pv 5) pa_nil)) (pe_glob rfl T.mg_FORM_DEPTH T.rl_FORM_DEPTH) (nomark _))
        (pss_one (ps_expr (pe_bm PySem.F.plainAttrs_list PySem.F.slot_list_append PySem.F.type_list_append (MtM.r mt_append) (pv 2) (pa_cons (pe_tup (pa_cons (pv 5) (pa_cons (pe_callTy call_list_of rfl T.no_list bt_list (pa_cons (pv 4) pa_nil)) pa_nil))) pa_nil))))
        (pss_cons ps_never
      (pss_cons (ps_expr (pe_bm PySem.F.plainAttrs_list PySem.F.slot_list_append PySem.F.type_list_append (MtM.r mt_append) (pv 2) (pa_cons (pe_tup (pa_cons (pv 5) (pa_cons (pe_call (ok_sheets_of T) (hr.mono (by decide)) rfl T.sheets_of.mgf T.sheets_of.kp T.sheets_of.bi .nil pass0 (pa_cons (pv 6) pa_nil)) pa_nil))) pa_nil)))
      (pss_one (ps_expr (pe_bm PySem.F.plainAttrs_list PySem.F.slot_list_extend PySem.F.type_list_extend (MtM.r mt_extend) (pv 2) (pa_cons (pv 6) pa_nil))))))))))
      (pss_one (ps_ret (pv 2))))), ?_⟩
      obtain ⟨a, vs, rfl, hA, hlen⟩ := hat.lst
      have sz : 2000 < sizeLine := le_ble rfl
      refine ⟨le_ble rfl, fun l hl => ?_⟩
      have s0 : Same H (upd H l (.lst [])) := Same.new hl
      refine ⟨_, rfl, a, rfl, ⟨_, SqL.of (s0 _ _ hA)⟩, ?_⟩
      refine for_enum (xs := vs) (fun i σ G => (∃ z3 z4 z5 z6, σ = [some (.ref tp), some (.ref a), some (.ref l), z3, z4, z5, z6]) ∧ Same H G ∧ ∃ ws, G l = some (.lst ws) ∧ RowsAt (upd H l (.lst [])) G ws (rows 0 ps ((ls ts).take i))) ?_ ?_ ?_ ?_
      · exact ⟨⟨_, _, _, _, rfl⟩, s0, [], upd_same, RowsAt.nil⟩
      · rintro i σ G _ ⟨_, sG, _⟩
        exact SqL.of (sG _ _ hA)
      · rintro i x σ G T' hx ⟨⟨z3, z4, z5, z6, rfl⟩, sG, ws, h1, h2⟩ hT
        have hi : i < vs.length := (List.getElem?_eq_some_iff.mp hx).1
        obtain ⟨x', t', e1, e2, hk⟩ := hat.kid hA hi
        rw [hx] at e1
        cases e1
        obtain ⟨fl, hfl⟩ : ∃ fl : List Int, fl = t' := ⟨t', rfl⟩
        subst hfl
        obtain ⟨fa, fs, rfl, _, _⟩ := hk.lst
        have hF := AtR.ints (ns := fl) hk
        have s1 : Same G (upd G T' (.tup [.int i, .ref fa])) := Same.new hT
        refine ⟨T', _, rfl, SqT.of upd_same, rfl, _, _, rfl, _, _, rfl, rfl, ?_⟩
        refine ⟨_, rfl, _, rfl, le_ble rfl, fun u hu => ?_⟩
        have s2 := s1.trans (Same.new (o := HO.tup [.int i]) hu)
        have hu2 := upd_same (H := upd G T' (.tup [.int i, .ref fa])) (a := u) (o := .tup [.int i])
        generalize upd (upd G T' (.tup [.int i, .ref fa])) u (.tup [.int i]) = G2 at s2 hu2
        refine ⟨tp, u, _, _, rfl, rfl, (sG.trans s2).seqT hp, SqT.of hu2, List.cons_ne_nil _ _, ?_, fun z => ?_, fun z p hp2 => ?_⟩
        · rw [List.length_map]
          show ps.length + 1 ≤ _
          omega
        · exfalso
          rw [List.map_eq_nil_iff] at z
          rw [z] at hpl
          exact absurd hpl (by decide)
        have hin : upd G2 p (.tup (ps.map V.int ++ [.int i])) p = some (.tup ((ps ++ [(i : Int)]).map V.int)) := by rw [upd_same, List.map_append]; rfl
        have s3 := s2.trans (Same.new (o := HO.tup (ps.map V.int ++ [.int i])) hp2)
        generalize upd G2 p (.tup (ps.map V.int ++ [.int i])) = G3 at s3 hin
        have li : ((ps ++ [(i : Int)]).map V.int).length = 3 := by
          rw [List.length_map, List.length_append]
          show ps.length + 1 = 3
          omega
        refine ⟨_, rfl, p, _, rfl, .inr (SqT.of hin), rfl, _, rfl, ?_⟩
        rw [li]
        refine iteT ?_
        have lw := h2.1
        have lr := rows_len 0 ps ((ls ts).take i) fun t ht => fu t (List.mem_of_mem_take ht)
        have lf : (flat (0 + 2) ((ls ts).take i : List (Tr 1))).length ≤ (flat (0 + 2) ts).length := by
          have := flat_len e2
          have e : (flat (0 + 2) ts).length = (flat (1 + 1) (ls ts : List (Tr 1))).length := rfl
          have e' : (flat (0 + 2) ((ls ts).take i : List (Tr 1))).length = (flat (1 + 1) ((ls ts).take i : List (Tr 1))).length := rfl
          omega
        refine ⟨_, rfl, .inl ⟨rfl, _, SqL.of (s3 _ _ h1)⟩, _, rfl, _, rfl, fa, _, rfl, .inl (SqL.of (s3 _ _ (sG _ _ hF))), fun q hq => ?_⟩
        have s4 := s3.trans (Same.new (o := HO.lst (fl.map V.int)) hq)
        have hq4 := upd_same (H := G3) (a := q) (o := .lst (fl.map V.int))
        have hi4 := Same.new (o := HO.lst (fl.map V.int)) hq _ _ hin
        have nq : upd H l (.lst []) q = none := by
          rw [upd_ne (fun z => by rw [z, s3 _ _ h1] at hq; cases hq)]
          exact (sG.trans s3).free hq
        have nql : q ≠ l := fun z => by rw [z, s3 _ _ h1] at hq; cases hq
        generalize upd G3 q (.lst (fl.map V.int)) = G4 at s4 hq4 hi4
        refine ⟨le_ble rfl, fun r hr' => ?_⟩
        have s5 := s4.trans (Same.new (o := HO.tup [.ref p, .ref q]) hr')
        have r5 : RowT (upd H l (.lst [])) (upd G4 r (.tup [.ref p, .ref q])) (.ref r) (ps ++ [(i : Int)], fl) := ⟨r, p, q, rfl, upd_same, Same.new hr' _ _ hi4, Same.new hr' _ _ hq4, nq⟩
        generalize upd G4 r (.tup [.ref p, .ref q]) = G5 at s5 r5
        refine ⟨l, _, _, rfl, rfl, s5 _ _ h1, by omega, ?_⟩
        refine ⟨⟨_, _, _, _, rfl⟩, fun b u hb => ?_, _, upd_same, ?_⟩
        · rw [upd_ne (ne_of_none hb hl)]
          exact s5 _ _ (sG _ _ hb)
        · rw [rows_take e2]
          exact (((h2.same s5).app (RowsAt.one r5)).upd (s5 _ _ h1) (by rw [upd_same]; intro z; cases z))
      · rintro σ G ⟨⟨z3, z4, z5, z6, rfl⟩, sG, ws, h1, h2⟩
        have et : (ls ts).take vs.length = ls ts := List.take_of_length_le (by omega)
        rw [et] at h2
        exact ⟨_, rfl, k l ws G sG hl h1 (h2.older s0)⟩
  | n + 1 => by
    have ih := ok_groups_in T n
    refine T.groups_in.fn.ok sc_groups_in (fun vs H Q E h => ?_) (fun cdv A outer s H vs Q E hr h => ?_)
    · obtain ⟨tp, ps, v, ts, rfl, _⟩ := h
      rfl
    · obtain ⟨tp, ps, v, ts, rfl, hp, hpl, hat, fu, hz, k⟩ := h
      refine ⟨_, (pss_cons (ps_set (i := 2) sc_groups_in.nd rfl (Or.inl rfl) (pe_lst pa_nil))
      (pss_cons (ps_for PassesOwn.never rfl (pi_enum rfl T.no_enumerate (pa_cons (pv 1) pa_nil)) (pg_tup rfl (pgs_cons (pg_name (i := 3) sc_groups_in.nd rfl (Or.inl rfl)) (pgs_cons (pg_name (i := 4) sc_groups_in.nd rfl (Or.inl rfl)) pgs_nil)))
        (pss_cut (ps_set (i := 5) sc_groups_in.nd rfl (Or.inl rfl) (pe_op op_catT1 (pv 0) (pe_tup (pa_cons (pv 3) pa_nil))))
      (pss_one (ps_if (pt_cmpR op_eq (pe_callB call_len_seq rfl T.no_len bt_len (pa_cons (pv 5) pa_nil)) (pe_glob rfl T.mg_FORM_DEPTH T.rl_FORM_DEPTH) (nomark _))
        (pss_one (ps_expr (pe_bm PySem.F.plainAttrs_list PySem.F.slot_list_append PySem.F.type_list_append (MtM.r mt_append) (pv 2) (pa_cons (pe_tup (pa_cons (pv 5) (pa_cons (pe_callTy call_list_of rfl T.no_list bt_list (pa_cons (pv 4) pa_nil)) pa_nil))) pa_nil))))
        (pss_cons (ps_set (i := 6) sc_groups_in.nd rfl (Or.inl rfl) (pe_call ih (hr.mono (Nat.le_refl _)) rfl T.groups_in.mgf T.groups_in.kp T.groups_in.bi .nil pass0 (pa_cons (pv 5) (pa_cons (pv 4) pa_nil))))
      (pss_cons (ps_expr (pe_bm PySem.F.plainAttrs_list PySem.F.slot_list_append PySem.F.type_list_append (MtM.r mt_append) (pv 2) (pa_cons (pe_tup (pa_cons (pv 5) (pa_cons (pe_call (ok_sheets_of T) (hr.mono (le_k (by decide))) rfl T.sheets_of.mgf T.sheets_of.kp T.sheets_of.bi .nil pass0 (pa_cons (pv 6) pa_nil)) pa_nil))) pa_nil)))
      (pss_one (ps_expr (pe_bm PySem.F.plainAttrs_list PySem.F.slot_list_extend PySem.F.type_list_extend (MtM.r mt_extend) (pv 2) (pa_cons (pv 6) pa_nil))))))))))
      (pss_one (ps_ret (pv 2))))), ?_⟩
      obtain ⟨a, vs, rfl, hA, hlen⟩ := hat.lst
      have sz : 2000 < sizeLine := le_ble rfl
      refine ⟨le_ble rfl, fun l hl => ?_⟩
      have s0 : Same H (upd H l (.lst [])) := Same.new hl
      refine ⟨_, rfl, a, rfl, ⟨_, SqL.of (s0 _ _ hA)⟩, ?_⟩
      refine for_enum (xs := vs) (fun i σ G => (∃ z3 z4 z5 z6, σ = [some (.ref tp), some (.ref a), some (.ref l), z3, z4, z5, z6]) ∧ Same H G ∧ ∃ ws, G l = some (.lst ws) ∧ RowsAt (upd H l (.lst [])) G ws (rows (n + 1) ps ((ls ts).take i))) ?_ ?_ ?_ ?_
      · exact ⟨⟨_, _, _, _, rfl⟩, s0, [], upd_same, RowsAt.nil⟩
      · rintro i σ G _ ⟨_, sG, _⟩
        exact SqL.of (sG _ _ hA)
      · rintro i x σ G T' hx ⟨⟨z3, z4, z5, z6, rfl⟩, sG, ws, h1, h2⟩ hT
        have hi : i < vs.length := (List.getElem?_eq_some_iff.mp hx).1
        obtain ⟨x', t', e1, e2, hk⟩ := hat.kid hA hi
        rw [hx] at e1
        cases e1
        have s1 : Same G (upd G T' (.tup [.int i, x])) := Same.new hT
        refine ⟨T', _, rfl, SqT.of upd_same, rfl, _, _, rfl, _, _, rfl, rfl, ?_⟩
        refine ⟨fun σ' G3 => ∃ p, σ' = [some (.ref tp), some (.ref a), some (.ref l), some (.int i), some x, some (.ref p), z6] ∧ Same G G3 ∧ G3 p = some (.tup ((ps ++ [(i : Int)]).map V.int)), ?_, ?_⟩
        · refine ⟨_, rfl, _, rfl, le_ble rfl, fun u hu => ?_⟩
          have s2 := s1.trans (Same.new (o := HO.tup [.int i]) hu)
          have hu2 := upd_same (H := upd G T' (.tup [.int i, x])) (a := u) (o := .tup [.int i])
          generalize upd (upd G T' (.tup [.int i, x])) u (.tup [.int i]) = G2 at s2 hu2
          refine ⟨tp, u, _, _, rfl, rfl, (sG.trans s2).seqT hp, SqT.of hu2, List.cons_ne_nil _ _, ?_, fun z => ?_, fun z p hp2 => ?_⟩
          · rw [List.length_map]
            show ps.length + 1 ≤ _
            omega
          · rw [List.map_eq_nil_iff] at z
            subst z
            exact ⟨u, rfl, s2, hu2⟩
          · exact ⟨p, rfl, s2.trans (Same.new hp2), by rw [upd_same, List.map_append]; rfl⟩
        rintro σ' G3 ⟨p, rfl, s3, hin⟩
        have li : ((ps ++ [(i : Int)]).map V.int).length = ps.length + 1 := by
          rw [List.length_map, List.length_append]
          rfl
        refine ⟨_, rfl, p, _, rfl, .inr (SqT.of hin), rfl, _, rfl, ?_⟩
        rw [li]
        refine ite2 (fun z => ?_) (fun _ => ?_)
        · exfalso
          have z := V.int.inj (of_decide_eq_true z)
          omega
        have lw := h2.1
        have lr := rows_len (n + 1) ps ((ls ts).take i) fun t ht => fu t (List.mem_of_mem_take ht)
        have ft := fu t' (List.mem_of_getElem? e2)
        have fl := flat_len e2
        have e5 : (flat (n + 1 + 2) ts).length = (flat (n + 2 + 1) (ls ts : List (Tr (n + 2)))).length := rfl
        have e6 : (flat (n + 1 + 2) ((ls ts).take i : List (Tr (n + 2)))).length = (flat (n + 2 + 1) ((ls ts).take i : List (Tr (n + 2)))).length := rfl
        have lr2 : (n + 1 + 1) * (flat (n + 1 + 2) ((ls ts).take i : List (Tr (n + 2)))).length ≤ 3 * 64 := Nat.mul_le_mul (by omega) (by omega)
        have pl : (ps ++ [(i : Int)]).length + n = 2 := by
          rw [List.length_append]
          show ps.length + 1 + n = 2
          omega
        refine ⟨_, rfl, _, rfl, p, ps ++ [(i : Int)], x, t', rfl, SqT.of hin, pl, hk.same (sG.trans s3), ft.2, ?_, fun m wm G4 s4 hm hm2 hm3 => ?_⟩
        · omega
        have s34 := s3.trans s4
        have l3 := rows_len n (ps ++ [(i : Int)]) (ls t') ft.2
        have l4 : (n + 1) * (flat (n + 2) (ls t' : List (Tr (n + 1)))).length ≤ 3 * 64 := Nat.mul_le_mul (by omega) (by
          have e : (flat (n + 2) (ls t' : List (Tr (n + 1)))).length = (flat (n + 2) t').length := rfl
          omega)
        have rf := rows_flat n (ps ++ [(i : Int)]) (ls t') pl
        refine ⟨_, rfl, .inl ⟨rfl, _, SqL.of (s34 _ _ h1)⟩, _, rfl, _, rfl, m, wm, G3, rows n (ps ++ [(i : Int)]) (ls t'), rfl, hm2, hm3, ?_, by omega, fun q G5 s5 hq hq2 => ?_⟩
        · rw [rf]
          have e : (flat (n + 2) (ls t' : List (Tr (n + 1)))).length = (flat (n + 2) t').length := rfl
          omega
        rw [rf] at hq2
        have fr : ∀ b, G3 b = none → upd H l (.lst []) b = none := fun b hb => by
          rw [upd_ne (fun z => by rw [z, s3 _ _ h1] at hb; cases hb)]
          exact (sG.trans s3).free hb
        refine ⟨le_ble rfl, fun r hr' => ?_⟩
        have s6 := s5.trans (Same.new (o := HO.tup [.ref p, .ref q]) hr')
        have r6 : RowT (upd H l (.lst [])) (upd G5 r (.tup [.ref p, .ref q])) (.ref r) (ps ++ [(i : Int)], srt (flat (n + 2) t')) := ⟨r, p, q, rfl, upd_same, s6 _ _ (s4 _ _ hin), Same.new hr' _ _ hq2, fr _ (s4.free hq)⟩
        generalize upd G5 r (.tup [.ref p, .ref q]) = G6 at s6 r6
        have hl6 := s6 _ _ (s34 _ _ h1)
        refine ⟨l, _, _, rfl, rfl, hl6, by omega, ?_⟩
        have nm : m ≠ l := fun z => by rw [z, s3 _ _ h1] at hm; cases hm
        have hm6 : upd G6 l (.lst (ws ++ [.ref r])) m = some (.lst wm) := by rw [upd_ne nm]; exact s6 _ _ hm2
        refine ⟨_, rfl, .inl ⟨rfl, _, SqL.of upd_same⟩, _, rfl, l, m, _, _, rfl, rfl, upd_same, hm6, ?_, ?_⟩
        · rw [List.length_append, hm3.1]
          show ws.length + 1 + _ ≤ _
          omega
        rw [upd_upd]
        refine ⟨⟨_, _, _, _, rfl⟩, fun b u hb => ?_, _, upd_same, ?_⟩
        · rw [upd_ne (ne_of_none hb hl)]
          exact s6 _ _ (s34 _ _ (sG _ _ hb))
        · rw [rows_take e2, List.append_assoc]
          exact ((h2.same (s34.trans s6)).app ((RowsAt.one r6).app ((hm3.elder fr).same s6))).upd hl6 (by rw [upd_same]; intro z; cases z)
      · rintro σ G ⟨⟨z3, z4, z5, z6, rfl⟩, sG, ws, h1, h2⟩
        have et : (ls ts).take vs.length = ls ts := List.take_of_length_le (by omega)
        rw [et] at h2
        exact ⟨_, rfl, k l ws G sG hl h1 (h2.older s0)⟩
set_option maxHeartbeats 4000000 in
theorem ok_groups (T : Txt w K mg c) : FnOk P w K mg base (CXx P w) 8 c.a_groups c.d_groups ["sorting"] (spGroups K) := by
  refine T.groups.fn.okx sc_groups (fun vs H Q E h => ?_) (fun cdv A outer s H vs Q E hr h => ?_)
  · obtain ⟨v, S, rfl, _⟩ := h
    rfl
  · obtain ⟨v, S, rfl, hat, wf, hz, k⟩ := h
    refine ⟨_, (pss_one (ps_ret (pe_call (ok_groups_in T 2) (hr.mono (by decide)) rfl T.groups_in.mgf T.groups_in.kp T.groups_in.bi .nil pass0 (pa_cons (pe_tup pa_nil) (pa_cons (pe_callS (ok_sorting_list T) (hr.mono (by decide)) rfl T.sorting_list.mgf T.sorting_list.kp T.sorting_list.bi .nil pass_def (pa_cons (pv 0) pa_nil)) pa_nil))))), ?_⟩
    refine ⟨le_ble rfl, fun e he => ?_⟩
    have s0 : Same H (upd H e (.tup [])) := Same.new he
    refine ⟨_, rfl, v, S, rfl, hat.same s0, wf, by omega, fun w G s1 n1 => ?_⟩
    refine ⟨e, [], w, S, rfl, SqT.of (s1 _ _ upd_same), rfl, n1.r, wf.fu, hz, fun l ws G2 s2 hl h1 h2 => ?_⟩
    exact k l ws G2 (s0.trans (s1.trans s2)) ((s0.trans s1).free hl) h1 (h2.older (s0.trans s1))
set_option maxHeartbeats 4000000 in
theorem ok_refuse_sheet (T : Txt w K mg c) : FnOk P w K mg base (CXx P w) 3 c.a_refuse_sheet c.d_refuse_sheet ["sheet"] (spRefuse K c.c_NoSheet) := by
  refine T.refuse_sheet.fn.okx sc_refuse_sheet (fun vs H Q E h => ?_) (fun cdv A outer s H vs Q E hr h => ?_)
  · obtain ⟨x, rfl, _⟩ := h
    rfl
  · obtain ⟨x, rfl, ow, k1, k2⟩ := h
    refine ⟨_, (pss_one (ps_if (pt_not (pt_val (pe_call (ok_is_number T) (hr.mono (by decide)) rfl T.is_number.mgf T.is_number.kp T.is_number.bi .nil pass0 (pa_cons (pv 0) pa_nil))))
        (pss_one (ps_raise T.x_NoSheet rfl rfl T.mg_NoSheet rz_def (pa_cons pe_str pa_nil)))
        pss_nil)), ?_⟩
    refine ⟨_, rfl, x, rfl, ow, _, rfl, ?_⟩
    cases hx : inR 1000000000 x with
    | false => exact iteT ⟨le_ble rfl, k2 hx⟩
    | true => exact iteF (k1 hx)
set_option maxHeartbeats 4000000 in
theorem ok_path_of (T : Txt w K mg c) : FnOk P w K mg base (CXx P w) 9 c.a_path_of c.d_path_of ["sorting", "sheet"] (spPathOf K c.c_NoSheet) := by
  refine T.path_of.fn.okx sc_path_of (fun vs H Q E h => ?_) (fun cdv A outer s H vs Q E hr h => ?_)
  · obtain ⟨v, x, S, rfl, _⟩ := h
    rfl
  · obtain ⟨v, x, S, rfl, hat, wf, hz, ow, k1, k2⟩ := h
    refine ⟨_, (pss_cons (ps_set (i := 2) sc_path_of.nd rfl (Or.inl rfl) (pe_callS (ok_groups T) (hr.mono (by decide)) rfl T.groups.mgf T.groups.kp T.groups.bi .nil pass_def (pa_cons (pv 0) pa_nil)))
      (pss_cons (ps_expr (pe_callS (ok_refuse_sheet T) (hr.mono (by decide)) rfl T.refuse_sheet.mgf T.refuse_sheet.kp T.refuse_sheet.bi .nil pass_def (pa_cons (pv 1) pa_nil)))
      (pss_cons (ps_for own_def rfl (pi_list (pv 2)) (pg_tup rfl (pgs_cons (pg_name (i := 3) sc_path_of.nd rfl (Or.inl rfl)) (pgs_cons (pg_name (i := 4) sc_path_of.nd rfl (Or.inl rfl)) pgs_nil)))
        (pss_one (ps_if (PW.pt (pw_and (pt_cmpR op_eq (pe_callB call_len_seq rfl T.no_len bt_len (pa_cons (pv 3) pa_nil)) (pe_glob rfl T.mg_FORM_DEPTH T.rl_FORM_DEPTH) (nomark _)) (pw_and1 (pt_cmpR op_in_seq (pv 1) (pv 4) (by with_unfolding_all rfl)))))
        (pss_one (ps_ret (pv 3)))
        pss_nil)))
      (pss_one (ps_ret pe_non))))), ?_⟩
    refine ⟨_, rfl, v, S, rfl, hat, wf, hz, fun l ws G s1 hl h1 h2 => ?_⟩
    refine ⟨_, rfl, x, rfl, ow.same s1, fun hx => ?_, fun hx => k1 hx G s1⟩
    obtain ⟨s', rfl⟩ := inR_int' hx
    refine ⟨_, rfl, l, rfl, ⟨_, SqL.of h1⟩, ?_⟩
    refine for_list (xs := ws) (fun i σ G' => (∃ z3 z4, σ = [some v, some (.int s'), some (.ref l), z3, z4]) ∧ G' = G ∧ firstP (rows 2 [] (ls S)) s' = firstP ((rows 2 [] (ls S)).drop i) s') ?_ ?_ ?_ ?_
    · exact ⟨⟨_, _, rfl⟩, rfl, rfl⟩
    · rintro i σ G' _ ⟨_, rfl, _⟩
      exact SqL.of h1
    · rintro i y σ G' hy ⟨⟨z3, z4, rfl⟩, rfl, hf⟩
      have hi : i < ws.length := (List.getElem?_eq_some_iff.mp hy).1
      have hir : i < (rows 2 [] (ls S)).length := by rw [← h2.1]; exact hi
      obtain ⟨t, ip, sl, rfl, a1, a2, a3, a4⟩ := h2.2 i y _ hy (List.getElem?_eq_getElem hir)
      have ed : (rows 2 [] (ls S)).drop i = (rows 2 [] (ls S))[i] :: (rows 2 [] (ls S)).drop (i + 1) := (List.getElem_cons_drop hir).symm
      rw [ed] at hf
      generalize (rows 2 [] (ls S))[i] = r at a2 a3 hf
      have hf : firstP (rows 2 [] (ls S)) s' = if r.1.length = 3 ∧ s' ∈ r.2 then some r.1 else firstP ((rows 2 [] (ls S)).drop (i + 1)) s' := hf
      refine ⟨t, _, rfl, SqT.of a1, rfl, _, _, rfl, _, _, rfl, rfl, ?_⟩
      refine ⟨_, rfl, ip, _, rfl, .inr (SqT.of a2), rfl, _, rfl, ?_⟩
      refine ite2 (fun z => ?_) (fun z => ?_)
      · have z : r.1.length = 3 := by
          have z := V.int.inj (of_decide_eq_true z)
          rw [List.length_map] at z
          omega
        refine ⟨_, rfl, _, rfl, sl, _, rfl, .inl (SqL.of a3), rfl, flatI _, _, rfl, ?_⟩
        rw [inV_ints]
        refine ite2 (fun zz => ?_) (fun zz => ?_)
        · rw [if_pos ⟨z, of_decide_eq_true zz⟩] at hf
          refine ⟨_, rfl, k2 s' rfl hx _ _ s1 ?_⟩
          rw [hf]
          exact ⟨ip, rfl, a2⟩
        · rw [if_neg (fun q => zz (decide_eq_true q.2))] at hf
          exact ⟨⟨_, _, rfl⟩, rfl, hf⟩
      · have z : r.1.length ≠ 3 := fun q => z (by rw [List.length_map, q]; rfl)
        rw [if_neg (fun q => z q.1)] at hf
        exact ⟨⟨_, _, rfl⟩, rfl, hf⟩
    · rintro σ G' ⟨⟨z3, z4, rfl⟩, rfl, hf⟩
      rw [h2.1, List.drop_length] at hf
      refine k2 s' rfl hx _ _ s1 ?_
      rw [hf]
      rfl
set_option maxHeartbeats 4000000 in
theorem ok_without (T : Txt w K mg c) : ∀ n : Nat, FnOk P w K mg base CX0 (1 + n) c.a_without c.d_without ["parts", "sheet", "depth"] (spWithout n)
  | 0 => by
    refine T.without.fn.ok sc_without (fun vs H Q E h => ?_) (fun cdv A outer s H vs Q E hr h => ?_)
    · obtain ⟨v, s', t, rfl, _⟩ := h
      rfl
    · obtain ⟨v, s', t, rfl, hat, sm, k⟩ := h
      refine ⟨_, (pss_cons (ps_if (pt_cmpR op_eq (pv 2) (pe_glob rfl T.mg_FORM_DEPTH T.rl_FORM_DEPTH) (nomark _))
        (pss_one (ps_ret (pe_comp (N' := ["other", "sheet"]) (js := [none, some 1]) rfl rfl (by decide +kernel) (by decide +kernel) (free_of ["sheet"] (by decide +kernel) (fm_cons (.inl rfl) fm_nil)) (cap_of rfl (fm_cons (fun j e => nomatch e) (fm_cons (fun j e => by cases e; exact ⟨rfl, rfl, .inl rfl⟩) fm_nil))) (pi_list (pv 0)) (fun B => ⟨(pg_name (i := 0) (show List.Nodup (["other", "sheet"] : List Str) by decide +kernel) rfl (Or.inl rfl)), (pifs_one (pt_cmpR op_ne (pv 0) (pv 1) (nomark _))), (pv 0)⟩))))
        pss_nil)
      (pss_cons ps_never
      (pss_one ps_never))), ?_⟩
      obtain ⟨a, vs, rfl, _, _⟩ := hat.lst
      obtain ⟨f, hf⟩ : ∃ f : List Int, f = t := ⟨t, rfl⟩
      subst hf
      have hA := AtR.ints (ns := f) hat
      have sz : 1000 < sizeLine := le_ble rfl
      have lz : f.length ≤ 1000 := sm.1
      refine ⟨_, rfl, rfl, _, rfl, iteT ?_⟩
      refine ⟨_, rfl, a, rfl, ⟨_, SqL.of hA⟩, fun l B hl => ?_⟩
      refine loop_lst (xs := f.map V.int) (fun i σ acc G => (∃ o, σ = [o, some (.int s')]) ∧ Same H G ∧ G l = some (.lst acc) ∧ acc = ((f.take i).filter (fun x => !decide (x = s'))).map V.int) (by rw [List.length_map]; omega) ?_ ?_ ?_ ?_
      · exact ⟨⟨_, rfl⟩, Same.new hl, upd_same, rfl⟩
      · rintro i σ acc G hi ⟨_, sG, h1, h2⟩
        refine ⟨h1, SqL.of (sG _ _ hA), ?_⟩
        rw [h2, List.length_map]
        exact Nat.le_trans (List.length_filter_le _ _) (by rw [List.length_take]; omega)
      · rintro i x σ acc G hx ⟨⟨o, rfl⟩, sG, h1, h2⟩
        obtain ⟨y, hy, rfl⟩ := getI hx
        have hi : i < (f.map V.int).length := (List.getElem?_eq_some_iff.mp hx).1
        refine ⟨_, rfl, _, rfl, rfl, _, rfl, ?_⟩
        refine ite2 (fun z => ?_) (fun z => ?_)
        · have z : y ≠ s' := fun q => by rw [q, decide_eq_true rfl] at z; exact absurd z (by decide)
          refine ⟨_, rfl, h1, Nx.mk hi ⟨⟨_, rfl⟩, fun b u hb => ?_, upd_same, ?_⟩⟩
          · rw [upd_ne (ne_of_none hb hl)]
            exact sG _ _ hb
          · rw [take_one hy, List.filter_append, List.map_append, ← h2]
            simp [z]
        · have z : y = s' := V.int.inj (Decidable.of_not_not (p := V.int y = V.int s') (fun q => z (by rw [decide_eq_false q]; rfl)))
          refine Nx.mk hi ⟨⟨_, rfl⟩, sG, h1, ?_⟩
          rw [take_one hy, List.filter_append, List.map_append, ← h2]
          simp [z]
      · rintro σ acc G ⟨_, sG, h1, h2⟩
        rw [List.length_map, List.take_of_length_le (Nat.le_refl _)] at h2
        subst h2
        exact k _ G sG (New.ints hl h1)
  | n + 1 => by
    have ih := ok_without T n
    refine T.without.fn.ok sc_without (fun vs H Q E h => ?_) (fun cdv A outer s H vs Q E hr h => ?_)
    · obtain ⟨v, s', t, rfl, _⟩ := h
      rfl
    · obtain ⟨v, s', t, rfl, hat, sm, k⟩ := h
      refine ⟨_, (pss_cons (ps_if (pt_cmpR op_eq (pv 2) (pe_glob rfl T.mg_FORM_DEPTH T.rl_FORM_DEPTH) (nomark _))
        (pss_one (ps_ret (pe_comp (N' := ["other", "sheet"]) (js := [none, some 1]) rfl rfl (by decide +kernel) (by decide +kernel) (free_of ["sheet"] (by decide +kernel) (fm_cons (.inl rfl) fm_nil)) (cap_of rfl (fm_cons (fun j e => nomatch e) (fm_cons (fun j e => by cases e; exact ⟨rfl, rfl, .inl rfl⟩) fm_nil))) (pi_list (pv 0)) (fun B => ⟨(pg_name (i := 0) (show List.Nodup (["other", "sheet"] : List Str) by decide +kernel) rfl (Or.inl rfl)), (pifs_one (pt_cmpR op_ne (pv 0) (pv 1) (nomark _))), (pv 0)⟩))))
        pss_nil)
      (pss_cons (ps_setComp (i := 3) sc_without.nd rfl rfl (N' := ["part", "sheet", "depth"]) (js := [none, some 1, some 2]) rfl rfl (by decide +kernel) (by decide +kernel) (free_of ["sheet", "depth"] (by decide +kernel) (fm_cons (.inl rfl) (fm_cons (.inl rfl) fm_nil))) (cap_of rfl (fm_cons (fun j e => nomatch e) (fm_cons (fun j e => by cases e; exact ⟨rfl, rfl, .inl rfl⟩) (fm_cons (fun j e => by cases e; exact ⟨rfl, rfl, .inl rfl⟩) fm_nil)))) (pi_list (pv 0)) (fun B => ⟨(pg_name (i := 0) (show List.Nodup (["part", "sheet", "depth"] : List Str) by decide +kernel) rfl (Or.inl rfl)), pifs_nil, (pe_call ih (hr.mono (Nat.le_refl _)) rfl T.without.mgf T.without.kp T.without.bi .nil pass0 (pa_cons (pv 0) (pa_cons (pv 1) (pa_cons (pe_op op_add (pv 2) pe_int) pa_nil))))⟩))
      (pss_one (ps_ret (pe_comp (N' := ["part"]) (js := [none]) rfl rfl (by decide +kernel) (by decide +kernel) (free_nil (by decide +kernel)) (cap_nil rfl rfl) (pi_list (pv 3)) (fun B => ⟨(pg_name (i := 0) (show List.Nodup (["part"] : List Str) by decide +kernel) rfl (Or.inl rfl)), (pifs_one (pt_truth (pv 0) (fun _ => rfl))), (pv 0)⟩)))))), ?_⟩
      obtain ⟨a, vs, rfl, hA, hlen⟩ := hat.lst
      have sz : 1000 < sizeLine := le_ble rfl
      have lz : vs.length ≤ 1000 := by rw [hlen]; exact sm.1
      refine ⟨_, rfl, rfl, _, rfl, ?_⟩
      refine ite2 (fun z => ?_) (fun _ => ?_)
      · exfalso
        have z := V.int.inj (of_decide_eq_true z)
        omega
      refine ⟨_, rfl, a, rfl, ⟨_, SqL.of hA⟩, fun l B hl => ?_⟩
      obtain ⟨us, hus⟩ : ∃ us : List (Tr (n + 1)), us = (ls t).map (wo n s') := ⟨_, rfl⟩
      have lu : us.length = vs.length := by rw [hus, List.length_map, hlen]
      refine loop_lst (xs := vs) (fun i σ acc G => (∃ o, σ = [o, some (.int s'), some (.int (3 - ((n + 1 : Nat) : Int)))]) ∧ Same H G ∧ G l = some (.lst acc) ∧ acc.length = i ∧ NewL H G l (n + 1) acc (us.take i)) (by omega) ?_ ?_ ?_ ?_
      · exact ⟨⟨_, rfl⟩, Same.new hl, upd_same, rfl, NewL.nil⟩
      · rintro i σ acc G hi ⟨_, sG, h1, h2, _⟩
        exact ⟨h1, SqL.of (sG _ _ hA), by omega⟩
      · rintro i x σ acc G hx ⟨⟨o, rfl⟩, sG, h1, h2, h3⟩
        have hi : i < vs.length := (List.getElem?_eq_some_iff.mp hx).1
        obtain ⟨x', t', e1, e2, hk⟩ := hat.kid hA hi
        rw [hx] at e1
        cases e1
        have eu : us[i]? = some (wo n s' t') := by rw [hus, List.getElem?_map, e2]; rfl
        refine ⟨_, rfl, _, rfl, _, rfl, _, _, rfl, rfl, x, s', t', by show [x, V.int s', V.int (3 - ((n + 1 : Nat) : Int) + 1)] = _; rw [show (3 : Int) - ((n + 1 : Nat) : Int) + 1 = 3 - (n : Int) by omega], hk.same sG, sm.2 t' (List.mem_of_getElem? e2), fun w G' sw nw => ?_⟩
        refine ⟨sw _ _ h1, Nx.mk hi ⟨⟨_, rfl⟩, fun b u hb => ?_, upd_same, by rw [List.length_append, h2]; rfl, ?_⟩⟩
        · rw [upd_ne (ne_of_none hb hl)]
          exact sw _ _ (sG _ _ hb)
        · rw [take_one eu]
          have hln : G l ≠ none := by rw [h1]; intro z; cases z
          refine (h3.snoc hln (fun b hb => sG.free hb) (fun b xs _ _ hb => sw b _ hb) (fun b hb => ?_) nw).frame (fun b xs nb _ hb => by rw [upd_ne nb]; exact hb) (fun b hb => ?_)
          · cases q : G b with
            | none => exact absurd q hb
            | some u => rw [sw b u q]; intro z; cases z
          · by_cases q : b = l
            · rw [q, upd_same]; intro z; cases z
            · rw [upd_ne q]; exact hb
      · rintro σ acc G ⟨_, sG, h1, h2, h3⟩
        have et : us.take vs.length = us := List.take_of_length_le (by omega)
        rw [et] at h3
        have hk : ∀ (j : Nat) x u, acc[j]? = some x → us[j]? = some u → ∃ b xs, x = .ref b ∧ G b = some (.lst xs) ∧ xs.length = (ls u).length := fun j x u hx hu => by
          obtain ⟨_, o, ko, _⟩ := h3
          obtain ⟨b, xs, e, h, l, _⟩ := (ko j x u hx hu).r
          exact ⟨b, xs, e, h, l⟩
        refine ⟨_, rfl, l, rfl, ⟨_, SqL.of h1⟩, fun r B2 hr => ?_⟩
        refine loop_lst (xs := acc) (fun i σ bcc G' => (∃ o, σ = [o]) ∧ Same G G' ∧ G' r = some (.lst bcc) ∧ bcc.length ≤ i ∧ ∃ idx, Pk acc us i idx bcc ((us.take i).filter (fun t : Tr (n + 1) => !(ls t).isEmpty))) (by omega) ?_ ?_ ?_ ?_
        · exact ⟨⟨_, rfl⟩, Same.new hr, upd_same, Nat.le_refl _, [], Pk.nil⟩
        · rintro i σ bcc G' hi ⟨_, sG', g1, g2, _⟩
          exact ⟨g1, SqL.of (sG' _ _ h1), g2⟩
        · rintro i x σ bcc G' hx ⟨⟨o, rfl⟩, sG', g1, g2, idx, g3⟩
          have hi : i < acc.length := (List.getElem?_eq_some_iff.mp hx).1
          have hiu : i < us.length := by omega
          have eu : us[i]? = some us[i] := List.getElem?_eq_getElem hiu
          obtain ⟨b, xs, rfl, hb, lb⟩ := hk i x _ hx eu
          refine ⟨_, rfl, _, .inl ⟨_, SqL.of (sG' _ _ hb), rfl⟩, ?_⟩
          have ee : (ls us[i]).isEmpty = xs.isEmpty := by
            rw [Bool.eq_iff_iff, List.isEmpty_iff_length_eq_zero, List.isEmpty_iff_length_eq_zero, lb]
          cases hxs : xs.isEmpty with
          | true =>
            refine iteF (Nx.mk hi ⟨⟨_, rfl⟩, sG', g1, by omega, idx, ?_⟩)
            rw [take_one eu, List.filter_append, List.filter_cons_of_neg (by rw [ee, hxs]; decide), List.filter_nil, List.append_nil]
            exact g3.drop
          | false =>
            refine iteT ⟨_, rfl, g1, Nx.mk hi ⟨⟨_, rfl⟩, fun c u hc => ?_, upd_same, by rw [List.length_append]; show bcc.length + 1 ≤ i + 1; omega, idx ++ [i], ?_⟩⟩
            · rw [upd_ne (ne_of_none hc hr)]
              exact sG' _ _ hc
            · rw [take_one eu, List.filter_append, List.filter_cons_of_pos (by rw [ee, hxs]; rfl), List.filter_nil]
              exact g3.keep hx eu
        · rintro σ bcc G' ⟨_, sG', g1, g2, idx, g3⟩
          rw [show us.take acc.length = us from List.take_of_length_le (by omega)] at g3
          refine k _ G' (sG.trans sG') ?_
          show New H G' (n + 1 + 1) (.ref r) (List.filter (fun t : Tr (n + 1) => !(ls t).isEmpty) ((ls t).map (wo n s')) : List (Tr (n + 1)))
          rw [← hus]
          exact h3.pick g3 hr (sG.free hr) sG' g1
set_option maxHeartbeats 4000000 in
theorem ok_taken (T : Txt w K mg c) : FnOk P w K mg base (CXx P w) 10 c.a_taken c.d_taken ["sorting", "sheet"] (spTaken2 c.c_NoSheet) := by
  refine T.taken.fn.okx sc_taken (fun vs H Q E h => ?_) (fun cdv A outer s H vs Q E hr h => ?_)
  · obtain ⟨v, s', S, rfl, _⟩ := h
    rfl
  · obtain ⟨v, s', S, rfl, hat, wf, hz, hin, k1, k2⟩ := h
    refine ⟨_, (pss_cons (ps_if (pt_cmp (pc_isN (pe_callS (ok_path_of T) (hr.mono (by decide)) rfl T.path_of.mgf T.path_of.kp T.path_of.bi .nil pass_def (pa_cons (pv 0) (pa_cons (pv 1) pa_nil)))))
        (pss_one (ps_raise T.x_NoSheet rfl rfl T.mg_NoSheet rz_def (pa_cons pe_str pa_nil)))
        pss_nil)
      (pss_one (ps_ret (pe_call (ok_without T 3) (hr.mono (by decide)) rfl T.without.mgf T.without.kp T.without.bi .nil pass0 (pa_cons (pe_callS (ok_sorting_list T) (hr.mono (by decide)) rfl T.sorting_list.mgf T.sorting_list.kp T.sorting_list.bi .nil pass_def (pa_cons (pv 0) pa_nil)) (pa_cons (pv 1) (pa_cons pe_int pa_nil))))))), ?_⟩
    refine ⟨_, rfl, _, rfl, v, .int s', S, rfl, hat, wf, hz, Own.int, fun hx => absurd (hin.symm.trans hx) (by decide), fun s2 e hx w G sG pv => ?_⟩
    cases V.int.inj e
    by_cases hs : s' ∈ flat 4 S
    · obtain ⟨p, hp⟩ := Lies.of hs
      rw [hp.first wf] at pv
      obtain ⟨ip, rfl, hip⟩ := pv
      refine ⟨_, rfl, iteF ?_⟩
      refine ⟨_, rfl, v, S, rfl, hat.same sG, wf, by omega, fun w2 G2 s2 n2 => ?_⟩
      refine ⟨_, rfl, w2, s', S, rfl, n2.r, small_S wf.fu (by omega), fun w3 G3 s3 n3 => ?_⟩
      exact k2 hs w3 G3 (sG.trans (s2.trans s3)) (n3.older (sG.trans s2))
    · rw [first_out hs] at pv
      have pv : w = .non := pv
      subst pv
      exact ⟨_, rfl, iteT ⟨le_ble rfl, k1 hs G sG⟩⟩
set_option maxHeartbeats 4000000 in
theorem ok_is_path (T : Txt w K mg c) : FnOk P w K mg base CX0 2 c.a_is_path c.d_is_path ["thing"] (spIsPath K) := by
  refine T.is_path.fn.ok sc_is_path (fun vs H Q E h => ?_) (fun cdv A outer s H vs Q E hr h => ?_)
  · obtain ⟨p, op, rfl, _⟩ := h
    rfl
  · obtain ⟨p, op, rfl, ip, k⟩ := h
    refine ⟨_, (pss_cons (ps_if (PW.pt (pw_or (pt_not (pt_val (pe_callB call_isiA rfl T.no_isinstance bt_isinstance (pa_cons (pv 0) (pa_cons (pe_bltn (v := .ty "tuple") rfl T.no_tuple bt_tuple rfl) pa_nil))))) (pw_or1 (pt_not (pt_chain op_le op_le pe_int (pe_callB call_len_seq rfl T.no_len bt_len (pa_cons (pv 0) pa_nil)) (pe_glob rfl T.mg_FORM_DEPTH T.rl_FORM_DEPTH))))))
        (pss_one (ps_ret pe_bl))
        pss_nil)
      (pss_one (ps_ret (pe_callB (call_all rfl) rfl T.no_all bt_all (pa_cons (pe_comp (N' := ["place"]) (js := [none]) rfl rfl (by decide +kernel) (by decide +kernel) (free_nil (by decide +kernel)) (cap_nil rfl rfl) (pi_tup (pv 0)) (fun B => ⟨(pg_name (i := 0) (show List.Nodup (["place"] : List Str) by decide +kernel) rfl (Or.inl rfl)), pifs_nil, (pe_and (pe_call (ok_is_whole T) (hr.mono (by decide)) rfl T.is_whole.mgf T.is_whole.kp T.is_whole.bi .nil pass0 (pa_cons (pv 0) pa_nil)) (pe_one (pe_cmpR op_ge (pv 0) pe_int (nomark _))))⟩)) pa_nil))))), ?_⟩
    rcases ip with ⟨a, xs, rfl, hx, hp, rfl⟩ | ⟨rfl, ip⟩
    · refine ⟨_, rfl, rIsiA.ty (.tup hx) rfl ⟨_, rfl, iteF ?_⟩⟩
      walk_at "rd"
      refine ⟨a, _, rfl, .inr (SqT.of hx), ?_⟩
      walk_at "rd"
      by_cases h1 : 1 ≤ xs.length
      · refine iteT' (decide_eq_true (by omega)) ?_
        walk_at "rd"
        by_cases h2 : xs.length ≤ 3
        · rw [decide_eq_true (show ((xs.length : Int) ≤ 3) by omega)]
          refine iteF ⟨_, rfl, a, rfl, ⟨_, SqT.of hx⟩, fun l B hl => ?_⟩
          have e0 : pathQ xs = nonN xs := if_pos ⟨h1, h2⟩
          refine loop_tup (xs := xs) (fun i σ acc G => (∃ o, σ = [o]) ∧ Same H G ∧ G l = some (.lst acc) ∧ acc = ((xs.take i).map okP).map V.bl) (by have : 3 ≤ sizeLine := le_ble rfl; omega) ?_ ?_ ?_ ?_
          · exact ⟨⟨_, rfl⟩, Same.new hl, upd_same, rfl⟩
          · rintro i σ acc G hi ⟨_, sG, g1, g2⟩
            refine ⟨g1, SqT.of (sG _ _ hx), ?_⟩
            rw [g2, List.length_map, List.length_map, List.length_take]
            omega
          · rintro i x σ acc G hxi ⟨⟨o, rfl⟩, sG, g1, g2⟩
            have hi : i < xs.length := (List.getElem?_eq_some_iff.mp hxi).1
            have hpx := hp x (List.mem_of_getElem? hxi)
            have fin : ∀ b, b = okP x → G l = some (.lst acc) ∧ Nx xs.length i ((∃ o, ([o].set 0 (some x) : St) = [o]) ∧ Same H (upd G l (.lst (acc ++ [V.bl b]))) ∧ upd G l (.lst (acc ++ [V.bl b])) l = some (.lst (acc ++ [V.bl b])) ∧ acc ++ [V.bl b] = ((xs.take (i + 1)).map okP).map V.bl) := by
              intro b eb
              refine ⟨g1, Nx.mk hi ⟨⟨_, rfl⟩, fun b' u hb => ?_, upd_same, ?_⟩⟩
              · rw [upd_ne (ne_of_none hb hl)]
                exact sG _ _ hb
              · rw [take_one hxi, List.map_append, List.map_append, ← g2, eb]
                rfl
            refine ⟨_, rfl, _, rfl, hpx |> plainV.own, _, rfl, ?_⟩
            cases x with
            | int j =>
              refine iteT ⟨_, rfl, _, _, rfl, rfl, ?_⟩
              exact fin _ rfl
            | _ => exact iteF (fin _ rfl)
          · rintro σ acc G ⟨_, sG, g1, g2⟩
            rw [List.take_of_length_le (Nat.le_refl _)] at g2
            subst g2
            refine ⟨l, xs.map okP, rfl, SqL.of g1, ?_⟩
            have q := k G sG
            rw [e0, nonN_some] at q
            rw [List.all_map]
            exact q
        · rw [decide_eq_false (show ¬ ((xs.length : Int) ≤ 3) by omega)]
          refine iteT ?_
          have e0 : pathQ xs = none := if_neg (fun z => h2 z.2)
          have q := k H (Same.refl H)
          rw [e0] at q
          exact q
      · refine iteF' (decide_eq_false (by omega)) ?_
        have e0 : pathQ xs = none := if_neg (fun z => h1 z.1)
        have q := k H (Same.refl H)
        rw [e0] at q
        exact ⟨_, rfl, iteT q⟩
    · have q := k H (Same.refl H)
      rcases ip with rfl | ⟨i, rfl⟩ | ⟨a, xs, rfl, hx⟩ | ⟨z, rfl⟩
      · exact ⟨_, rfl, rIsiA.ty .non rfl ⟨_, rfl, iteT q⟩⟩
      · exact ⟨_, rfl, rIsiA.ty (.int i) rfl ⟨_, rfl, iteT q⟩⟩
      · exact ⟨_, rfl, rIsiA.ty (.lst hx) rfl ⟨_, rfl, iteT q⟩⟩
      · exact ⟨_, rfl, rIsiA.ty (.str z) rfl ⟨_, rfl, iteT q⟩⟩
set_option maxHeartbeats 4000000 in
theorem ok_new_group (T : Txt w K mg c) : FnOk P w K mg base CX0 1 c.a_new_group c.d_new_group ["sheet", "depth"] (spNewGroup) := by
  refine T.new_group.fn.ok sc_new_group (fun vs H Q E h => ?_) (fun cdv A outer s H vs Q E hr h => ?_)
  · obtain ⟨s', n, rfl, _⟩ := h
    rfl
  · obtain ⟨s', n, rfl, hn, k⟩ := h
    refine ⟨_, (pss_cons (ps_set (i := 2) sc_new_group.nd rfl (Or.inl rfl) (pe_lst (pa_cons (pv 0) pa_nil)))
      (pss_cons (ps_for PassesOwn.never rfl (pi_range2 rfl T.no_range (pa_cons (pv 1) (pa_cons (pe_glob rfl T.mg_FORM_DEPTH T.rl_FORM_DEPTH) pa_nil))) (pg_name (i := 3) sc_new_group.nd rfl (Or.inl rfl))
        (pss_one (ps_set (i := 2) sc_new_group.nd rfl (Or.inl rfl) (pe_lst (pa_cons (pv 2) pa_nil)))))
      (pss_one (ps_ret (pv 2))))), ?_⟩
    refine ⟨_, rfl, le_ble rfl, fun q1 h1 => ?_⟩
    have n1 : New H (upd H q1 (.lst [.int s'])) 1 (.ref q1) (solo 1 s') := newSolo (New.int (i := s')) h1 (Same.refl H)
    have s1 : Same H (upd H q1 (.lst [.int s'])) := Same.new h1
    generalize upd H q1 (.lst [.int s']) = G1 at n1 s1 ⊢
    walk_at "rd"
    refine ⟨⟨by omega, by omega, by omega, by omega⟩, ?_⟩
    refine for_range (lo := 3 - (n : Int)) (fun j σ G => Same H G ∧ ∃ w z, σ = [some (.int s'), some (.int (3 - (n : Int))), some w, z] ∧ New H G (j + 1) w (solo (j + 1) s')) ⟨s1, _, _, rfl, n1⟩ ?_ ?_
    · rintro j σ G hj ⟨sG, w, z, rfl, nw⟩
      exact ⟨_, rfl, le_ble rfl, fun q hq => ⟨sG.trans (Same.new hq), _, _, rfl, newSolo nw hq sG⟩⟩
    · rintro σ G ⟨sG, w, z, rfl, nw⟩
      rw [show ((3 : Int) - (3 - (n : Int))).toNat = n by omega] at nw
      exact ⟨_, rfl, k w G sG nw⟩
set_option maxHeartbeats 4000000 in
theorem ok_put_sheet (T : Txt w K mg c) : FnOk P w K mg base (CXx P w) 2 c.a_put_sheet c.d_put_sheet ["parts", "sheet", "path"] (spPutSheet c.c_NoPath) := by
  refine T.put_sheet.fn.okx sc_put_sheet (fun vs H Q E h => ?_) (fun cdv A outer s H vs Q E hr h => ?_)
  · obtain ⟨v, s', pa, q, U, o, rfl, _⟩ := h
    rfl
  · obtain ⟨v, s', pa, q, U, o, rfl, hat, dm, fu, hz, hP, h0, l1, l3, k1, k2⟩ := h
    refine ⟨_, (pss_cons (ps_set (i := 3) sc_put_sheet.nd rfl (Or.inl rfl) (pv 0))
      (pss_cons (ps_for own_def rfl (pi_tup (pe_slice sl_tup (pv 2) po_none (po_some (pe_un un_neg pe_int)))) (pg_name (i := 4) sc_put_sheet.nd rfl (Or.inl rfl))
        (pss_cons (ps_if (pt_cmpR op_ge (pv 4) (pe_callB call_len_seq rfl T.no_len bt_len (pa_cons (pv 3) pa_nil)) (nomark _))
        (pss_one (ps_raise T.x_NoPath rfl rfl T.mg_NoPath rz_def (pa_cons pe_str pa_nil)))
        pss_nil)
      (pss_one (ps_set (i := 3) sc_put_sheet.nd rfl (Or.inl rfl) (pe_ix ix_list (pv 3) (pv 4) (fun _ _ => rfl))))))
      (pss_cons (ps_set (i := 5) sc_put_sheet.nd rfl (Or.inl rfl) (pe_ix ix_tup (pv 2) (pe_un un_neg pe_int) (fun _ _ => rfl)))
      (pss_one (ps_if (pt_cmpR op_eq (pv 5) (pe_callB call_len_seq rfl T.no_len bt_len (pa_cons (pv 3) pa_nil)) (nomark _))
        (pss_one (ps_expr (pe_bm PySem.F.plainAttrs_list PySem.F.slot_list_append PySem.F.type_list_append (MtM.r mt_append) (pv 3) (pa_cons (pe_call (ok_new_group T) (hr.mono (by decide)) rfl T.new_group.mgf T.new_group.kp T.new_group.bi .nil pass0 (pa_cons (pv 1) (pa_cons (pe_callB call_len_seq rfl T.no_len bt_len (pa_cons (pv 2) pa_nil)) pa_nil))) pa_nil))))
        (pss_one (ps_if (PW.pt (pw_and (pt_cmpR op_lt (pv 5) (pe_callB call_len_seq rfl T.no_len bt_len (pa_cons (pv 3) pa_nil)) (nomark _)) (pw_and1 (pt_cmpR op_eq (pe_callB call_len_seq rfl T.no_len bt_len (pa_cons (pv 2) pa_nil)) (pe_glob rfl T.mg_FORM_DEPTH T.rl_FORM_DEPTH) (nomark _)))))
        (pss_one (ps_asg (pe_callB (call_sorted rfl) rfl T.no_sorted bt_sorted (pa_cons (pe_op op_cat (pe_ix ix_list (pv 3) (pv 5) (fun _ _ => rfl)) (pe_lst (pa_cons (pv 1) pa_nil))) pa_nil)) (pg_sub (pv 3) (pv 5) set_list)))
        (pss_one (ps_raise T.x_NoPath rfl rfl T.mg_NoPath rz_def (pa_cons pe_str pa_nil)))))))))), ?_⟩
    obtain ⟨r, rvs, rfl, _, _, _⟩ := hat.lst
    have sz : 2000 < sizeLine := le_ble rfl
    have hne : q.map V.int ≠ [] := fun z => by
      have := congrArg List.length z
      rw [List.length_map] at this
      have : q.length = 0 := this
      omega
    refine ⟨_, rfl, ?_⟩
    walk_at "rd"
    refine ⟨pa, _, rfl, SqT.of hP, cut_part hne, fun sp hsp => ?_⟩
    rw [cut_last hne]
    have s0 : Same H (upd H sp (.tup (q.map V.int).dropLast)) := Same.new hsp
    have hsp1 := upd_same (H := H) (a := sp) (o := .tup (q.map V.int).dropLast)
    generalize upd H sp (.tup (q.map V.int).dropLast) = G0 at s0 hsp1 ⊢
    have at0 : At o G0 4 [] (.ref r) U := hat.frame fun b q xs hb _ hx => ⟨s0 b _ hx, hb⟩
    have dm0 : Dom o G0 := fun b q hb => by
      cases e : H b with
      | none => exact absurd e (dm b q hb)
      | some u => rw [s0 b u e]; intro z; cases z
    have hP0 := s0 _ _ hP
    refine ⟨sp, rfl, ⟨_, SqT.of hsp1⟩, ?_⟩
    refine for_tup (xs := (q.map V.int).dropLast) (fun i σ G => G = G0 ∧ ∃ a z4, σ = [some (.ref r), some (.int s'), some (.ref pa), some (.ref a), z4, none] ∧ ∃ (n : Nat) (p : List Nat) (t : Tr (n + 2)) (C : Tr (n + 2) → Tr 4), i + n = 2 ∧ Hole o G0 (.ref r) (n + 1) p a t C ∧ (∀ x ∈ ls t, full (n + 1) x) ∧ (flat (n + 2) t).length < 63 ∧ lay 2 U s' q = (lay n t s' (q.drop i)).map C) ?_ ?_ ?_ ?_
    · exact ⟨rfl, r, _, rfl, 2, [], U, id, rfl, Hole.top at0, fu, hz, by rw [List.drop_zero, Option.map_id]; rfl⟩
    · rintro i σ G _ ⟨rfl, _⟩
      exact SqT.of hsp1
    · rintro i x σ G hx ⟨rfl, a, z4, rfl, n, p, t, C, hn, ho, ft, hf, el⟩
      have hi := (List.getElem?_eq_some_iff.mp hx).1
      rw [List.length_dropLast, List.length_map] at hi
      have hx : (q.map V.int)[i]? = some x := by
        rw [List.dropLast_eq_take, List.getElem?_take_of_lt (by rw [List.length_map]; exact hi)] at hx
        exact hx
      obtain ⟨j, hj, rfl⟩ := getI hx
      have j0 := h0 j (List.mem_of_getElem? hj)
      have ed : ∃ j' r', q.drop i = j :: j' :: r' ∧ q.drop (i + 1) = j' :: r' := by
        have hi1 : i < q.length := by omega
        have hi2 : i + 1 < q.length := by omega
        have e1 : q.drop i = q[i] :: q.drop (i + 1) := (List.getElem_cons_drop hi1).symm
        have e2 : q.drop (i + 1) = q[i + 1] :: q.drop (i + 1 + 1) := (List.getElem_cons_drop hi2).symm
        have e3 : q[i] = j := (List.getElem?_eq_some_iff.mp hj).2
        exact ⟨q[i + 1], q.drop (i + 1 + 1), by rw [e1, e2, e3], e2⟩
      obtain ⟨j', r', ed, ed'⟩ := ed
      obtain ⟨_, vs, e, oa, hA, la⟩ := ho.at_.lst
      cases e
      refine ⟨_, rfl, _, rfl, a, _, rfl, .inl (SqL.of hA), _, _, rfl, rfl, _, rfl, ?_⟩
      refine ite2 (fun z => ?_) (fun z => ?_)
      · have z := of_decide_eq_true z
        have el0 : lay 2 U s' q = none := by rw [el, ed, lay_no (by omega)]; rfl
        exact ⟨le_ble rfl, k1 el0 _ s0⟩
      · have z : ¬ ((vs.length : Int) ≤ j) := fun y => z (decide_eq_true y)
        obtain ⟨n', rfl⟩ : ∃ n', n = n' + 1 := ⟨n - 1, by omega⟩
        obtain ⟨w, g, ew, eg, kg⟩ := ho.at_.kid hA (j := j.toNat) (by omega)
        obtain ⟨b, _, rfl, _, _, _⟩ := kg.lst
        have fl := flat_len eg
        refine ⟨_, rfl, _, rfl, a, _, _, _, rfl, rfl, SqL.of hA, atI_toNat j0 ew, ?_⟩
        refine ⟨rfl, b, _, rfl, n', j.toNat :: p, g, _, by omega, ho.kid dm0 hA ew eg, fun x hx => (ft g (List.mem_of_getElem? eg)).2 x hx, ?_, ?_⟩
        · have e5 : (flat (n' + 1 + 2) t).length = (flat (n' + 2 + 1) (ls t : List (Tr (n' + 2)))).length := rfl
          omega
        · rw [el, ed, ed', lay_in (by omega) eg]
          cases lay n' g s' (j' :: r') <;> rfl
    rintro σ G ⟨rfl, a, z4, rfl, n, p, t, C, hn, ho, ft, hf, el⟩
    rw [List.length_dropLast, List.length_map] at hn el
    have hq1 : q.length - 1 < q.length := by omega
    obtain ⟨j, ej⟩ : ∃ j, j = q[q.length - 1] := ⟨_, rfl⟩
    have ed : q.drop (q.length - 1) = [j] := by
      rw [← List.getElem_cons_drop hq1, ← ej, List.drop_of_length_le (by omega)]
    have hl : atI (q.map V.int) (-1) = some (V.int j) := by
      have e : q = q.take (q.length - 1) ++ [j] := by rw [← ed, List.take_append_drop]
      rw [e, List.map_append]
      exact atI_last _ _
    have j0 : 0 ≤ j := h0 j (by rw [ej]; exact List.getElem_mem hq1)
    rw [ed] at el
    obtain ⟨_, vs, e, oa, hA, la⟩ := ho.at_.lst
    cases e
    have lv : vs.length < 63 := by
      have h1 := flat_full (fun x hx => ft x hx) (ts := ls t)
      have e5 : (flat (n + 2) t).length = (flat (n + 1 + 1) (ls t : List (Tr (n + 1)))).length := rfl
      omega
    refine ⟨_, rfl, _, rfl, pa, _, _, _, rfl, rfl, SqT.of hP0, hl, ?_⟩
    refine ⟨_, rfl, _, rfl, a, _, rfl, .inl (SqL.of hA), rfl, _, rfl, ?_⟩
    refine ite2 (fun z => ?_) (fun z => ?_)
    · have z : j = (vs.length : Int) := V.int.inj (of_decide_eq_true z)
      refine ⟨_, rfl, .inl ⟨rfl, _, SqL.of hA⟩, _, rfl, _, rfl, pa, _, rfl, .inr (SqT.of hP0), s', n, ?_, by omega, fun w G1 s1 n1 => ?_⟩
      · rw [List.length_map, show ((q.length : Nat) : Int) = 3 - (n : Int) by omega]
        rfl
      obtain ⟨o', x, a1⟩ := ho.at_.appN dm0 hA s1 n1
      have a2 := ho.up o' G1 a p _ _ s1 x oa (List.suffix_refl _) a1
      obtain ⟨e1, e2⟩ := putEnd (u := .lst (vs ++ [w])) x s1 oa
      exact ⟨a, _, _, rfl, rfl, s1 _ _ hA, by omega, k2 _ (by rw [el, lay_last (by omega)]; rfl) o' _ ⟨fun b u hb hu => e1 b u hb (s0 b u hu), a2, x.after dm0 s1, fun b q hq hb => s0.free (e2 b q hq hb)⟩⟩
    have z : j ≠ (vs.length : Int) := fun y => z (decide_eq_true (congrArg V.int y))
    refine ⟨_, rfl, _, rfl, a, _, rfl, .inl (SqL.of hA), _, _, rfl, rfl, _, rfl, ?_⟩
    refine ite2 (fun y => ?_) (fun y => ?_)
    · have y := of_decide_eq_true y
      refine ⟨_, rfl, pa, _, rfl, .inr (SqT.of hP0), rfl, _, rfl, ?_⟩
      refine ite2 (fun x => ?_) (fun x => ?_)
      · have x := V.int.inj (of_decide_eq_true x)
        rw [List.length_map] at x
        obtain rfl : n = 0 := by omega
        obtain ⟨w, f, ew, ef, kf⟩ := ho.at_.kid hA (j := j.toNat) (by omega)
        obtain ⟨fl, hfl⟩ : ∃ fl : List Int, fl = f := ⟨f, rfl⟩
        subst hfl
        obtain ⟨fa, _, rfl, _, _, _⟩ := kf.lst
        have hF := AtR.ints (ns := fl) kf.r
        have hfl : fl.length < 63 := by
          have h1 := flat_len ef
          have h2 := congrArg List.length (flat_ints fl)
          have e5 : (flat (0 + 2) t).length = (flat (1 + 1) (ls t : List (Tr 1))).length := rfl
          omega
        refine ⟨_, rfl, _, rfl, a, _, _, _, rfl, rfl, SqL.of hA, atI_toNat j0 ew, _, rfl, le_ble rfl, fun q1 h1 => ?_⟩
        have s1 : Same G (upd G q1 (.lst [.int s'])) := Same.new h1
        have e60 : (List.map V.int fl).length = fl.length := List.length_map ..
        refine ⟨fa, q1, _, _, rfl, rfl, s1 _ _ hF, upd_same, ?_, fun q2 h2 => ?_⟩
        · have : [V.int s'].length = 1 := rfl
          omega
        have s2 : Same (upd G q1 (.lst [.int s'])) (upd (upd G q1 (.lst [.int s'])) q2 (.lst (List.map V.int fl ++ [.int s']))) := Same.new h2
        refine ⟨q2, List.append fl [s'], rfl, SqL.of (by rw [upd_same]; exact congrArg (fun z => some (HO.lst z)) (List.map_append (f := V.int) (l₁ := fl) (l₂ := [s'])).symm), ?_, fun q3 ms h3 pm ps => ?_⟩
        · show (fl ++ [s']).length < 64
          rw [List.length_append]
          have : [s'].length = 1 := rfl
          omega
        have s3 := (s1.trans s2).trans (Same.new (o := HO.lst (ms.map V.int)) h3)
        have n3 : New G (upd (upd (upd G q1 (.lst [.int s'])) q2 (.lst (List.map V.int fl ++ [.int s']))) q3 (.lst (ms.map V.int))) 1 (.ref q3) ms := New.ints ((s1.trans s2).free h3) upd_same
        obtain ⟨o', x, a1⟩ := ho.at_.setN dm0 hA (i := j.toNat) (by omega) s3 n3
        have a2 := ho.up o' _ a p _ _ s3 x oa (List.suffix_refl _) a1
        obtain ⟨e1, e2⟩ := putEnd (u := .lst (vs.set j.toNat (.ref q3))) x s3 oa
        have hix : ixN vs.length j = some j.toNat := by
          unfold ixN
          rw [if_pos j0, if_pos (by omega)]
        refine ⟨_, rfl, _, rfl, a, _, _, j.toNat, rfl, rfl, s3 _ _ hA, hix, ?_⟩
        exact k2 _ (by rw [el, lay_form (by omega) ef, ← srt_is pm ps]; rfl) o' _ ⟨fun b u hb hu => e1 b u hb (s0 b u hu), a2, x.after dm0 s3, fun b q hq hb => s0.free (e2 b q hq hb)⟩
      · have x : ¬ (q.length = 3) := fun y => x (by rw [List.length_map, y]; rfl)
        exact ⟨le_ble rfl, k1 (by rw [el, lay_no0 (by omega) (fun y => x (by omega))]; rfl) _ s0⟩
    · have y : ¬ (j < (vs.length : Int)) := fun x => y (decide_eq_true x)
      exact ⟨le_ble rfl, k1 (by rw [el, lay_no0 (by omega) (fun x => y (by omega))]; rfl) _ s0⟩
set_option maxHeartbeats 4000000 in
theorem ok_laid (T : Txt w K mg c) : FnOk P w K mg base (CXx P w) 8 c.a_laid c.d_laid ["sorting", "sheet", "path"] (spLaid K c.c_NoPath) := by
  refine T.laid.fn.okx sc_laid (fun vs H Q E h => ?_) (fun cdv A outer s H vs Q E hr h => ?_)
  · obtain ⟨v, s', p, op, S, rfl, _⟩ := h
    rfl
  · obtain ⟨v, s', p, op, S, rfl, hat, wf, hz, hin, ip, k1, k2⟩ := h
    refine ⟨_, (pss_cons (ps_set (i := 3) sc_laid.nd rfl (Or.inl rfl) (pe_callS (ok_sorting_list T) (hr.mono (by decide)) rfl T.sorting_list.mgf T.sorting_list.kp T.sorting_list.bi .nil pass_def (pa_cons (pv 0) pa_nil)))
      (pss_cons (ps_expr (pe_callS (ok_refuse_sheet T) (hr.mono (by decide)) rfl T.refuse_sheet.mgf T.refuse_sheet.kp T.refuse_sheet.bi .nil pass_def (pa_cons (pv 1) pa_nil)))
      (pss_cons (ps_set (i := 4) sc_laid.nd rfl (Or.inl rfl) (pe_call (ok_without T 3) (hr.mono (by decide)) rfl T.without.mgf T.without.kp T.without.bi .nil pass0 (pa_cons (pv 3) (pa_cons (pv 1) (pa_cons pe_int pa_nil)))))
      (pss_cons (ps_if (pt_not (pt_val (pe_call (ok_is_path T) (hr.mono (by decide)) rfl T.is_path.mgf T.is_path.kp T.is_path.bi .nil pass0 (pa_cons (pv 2) pa_nil))))
        (pss_one (ps_raise T.x_NoPath rfl rfl T.mg_NoPath rz_def (pa_cons pe_str pa_nil)))
        pss_nil)
      (pss_cons (ps_expr (pe_callS (ok_put_sheet T) (hr.mono (by decide)) rfl T.put_sheet.mgf T.put_sheet.kp T.put_sheet.bi .nil pass_def (pa_cons (pv 4) (pa_cons (pv 1) (pa_cons (pv 2) pa_nil)))))
      (pss_one (ps_ret (pv 4)))))))), ?_⟩
    have ww := wf.wo s'
    have wl := wo_len S s'
    refine ⟨_, rfl, v, S, rfl, hat, wf, by omega, fun w1 G1 s1 n1 => ?_⟩
    refine ⟨_, rfl, _, rfl, Own.int, fun _ => ?_, fun h => absurd (hin.symm.trans h) (by decide)⟩
    refine ⟨_, rfl, _, rfl, w1, s', S, rfl, n1.r, small_S wf.fu (by omega), fun w2 G2 s2 n2 => ?_⟩
    have n2 := n2.older s1
    refine ⟨_, rfl, p, op, rfl, ip.same (s1.trans s2), fun G3 s3 => ⟨_, rfl, ?_⟩⟩
    have s03 := (s1.trans s2).trans s3
    cases op with
    | none => exact iteT ⟨le_ble rfl, k1 rfl G3 s03⟩
    | some q =>
      refine iteF ?_
      rcases ip with ⟨a, xs, rfl, hx, _, e⟩ | ⟨e, _⟩
      · obtain ⟨rfl, h0, l1, l3⟩ := pathQ_is e.symm
        obtain ⟨o, at2, d2⟩ := n2.same s3
        refine ⟨_, rfl, _, rfl, _, rfl, w2, s', a, q, _, o, rfl, at2, fun b r hb => (d2 b r hb).2, ww.fu, by omega, s03 _ _ hx, h0, l1, l3, fun e2 G4 s4 => k1 e2 G4 (s03.trans s4), fun U' e2 o' G4 ch => ?_⟩
        obtain ⟨nw, sm⟩ := ch.new (fun b r hb => (d2 b r hb).1) s03
        exact ⟨_, rfl, k2 U' e2 w2 G4 sm nw⟩
      · cases e
set_option maxHeartbeats 4000000 in
theorem ok_Lcell_at (T : Txt w K mg c) : FnOk P w K mg base CX0 1 c.a_Lcell_at c.d_Lcell_at ["_law_script", "_law_k"] (spCell K) := by
  refine T.Lcell_at.fn.ok sc_Lcell_at (fun vs H Q E h => ?_) (fun cdv A outer s H vs Q E hr h => ?_)
  · obtain ⟨a, i, ns, rfl, _⟩ := h
    rfl
  · obtain ⟨a, i, ns, rfl, h0, hS, k⟩ := h
    refine ⟨_, (pss_cons (ps_if (pt_cmpR op_lt (pv 1) (pe_callB call_len_seq rfl T.no_len bt_len (pa_cons (pv 0) pa_nil)) (nomark _))
        (pss_one (ps_ret (pe_ix ix_list (pv 0) (pv 1) (fun _ _ => rfl))))
        pss_nil)
      (pss_one (ps_ret pe_int))), ?_⟩
    refine ⟨_, rfl, _, rfl, a, _, rfl, .inl hS, _, _, rfl, rfl, _, rfl, ?_⟩
    refine ite2 (fun hl => ?_) (fun _ => k 0)
    obtain ⟨v, hv, hm⟩ := atI_in (xs := ns.map V.int) h0 (of_decide_eq_true hl)
    obtain ⟨z, _, rfl⟩ := List.mem_map.mp hm
    exact ⟨_, rfl, _, rfl, a, _, i, _, rfl, rfl, hS, hv, k z⟩
set_option maxHeartbeats 4000000 in
theorem ok_Ldrawn (T : Txt w K mg c) : FnOk P w K mg base CX0 1 c.a_Ldrawn c.d_Ldrawn ["_law_script", "_law_k"] (spDrawn K) := by
  refine T.Ldrawn.fn.ok sc_Ldrawn (fun vs H Q E h => ?_) (fun cdv A outer s H vs Q E hr h => ?_)
  · obtain ⟨a, i, ns, rfl, _⟩ := h
    rfl
  · obtain ⟨a, i, ns, rfl, h0, h1, h2, hS, k⟩ := h
    refine ⟨_, (pss_one (ps_ret (pe_op op_mod (pe_op op_mul (pe_op op_add (pe_ix ix_list (pv 0) (pv 1) (fun _ _ => rfl)) pe_int) (pe_op op_add pe_int (pe_op op_mul (pe_op op_mul pe_int (pv 1)) (pv 1)))) pe_int))), ?_⟩
    have hm : (ns.map V.int).length = ns.length := List.length_map ..
    obtain ⟨v1, hv1, hm1⟩ := atI_in (xs := ns.map V.int) (i := i) (by omega) (by omega)
    obtain ⟨z1, _, rfl⟩ := List.mem_map.mp hm1
    have sq : i * i ≤ 100 * 100 := Int.mul_le_mul (by omega) (by omega) (by omega) (by omega)
    have sq0 : 0 ≤ i * i := Int.mul_nonneg h0 h0
    have e3 : 7919 * i * i = 7919 * (i * i) := Int.mul_assoc _ _ _
    refine ⟨_, rfl, _, rfl, a, _, _, _, rfl, rfl, hS, hv1, ?_⟩
    walk_at "rd"
    refine ⟨.inl ⟨by omega, by omega⟩, ?_⟩
    walk_at "rd"
    refine ⟨.inr ⟨by rw [e3]; omega, by rw [e3]; omega⟩, ?_⟩
    walk_at "rd"
    exact k _ (Int.emod_nonneg _ (by decide))
set_option maxHeartbeats 4000000 in
theorem ok_Lsheet_by (T : Txt w K mg c) : FnOk P w K mg base CX0 1 c.a_Lsheet_by c.d_Lsheet_by ["_law_number", "_law_form"] (spSheetBy) := by
  refine T.Lsheet_by.fn.ok sc_Lsheet_by (fun vs H Q E h => ?_) (fun cdv A outer s H vs Q E hr h => ?_)
  · obtain ⟨m, f, rfl, _⟩ := h
    rfl
  · obtain ⟨m, f, rfl, k⟩ := h
    refine ⟨_, (pss_one (ps_ret (pe_op op_add pe_int (pe_op op_mul (pe_op op_mod (pv 0) pe_int) (pe_ix ix_list (pe_lst (pa_cons pe_int (pa_cons pe_int (pa_cons pe_int pa_nil)))) (pe_op op_mod (pv 1) pe_int) (fun _ _ => rfl)))))), ?_⟩
    walk_at "rd"
    have m0 := Int.emod_nonneg m (b := 20) (by decide)
    have m1 := Int.emod_lt_of_pos m (b := 20) (by decide)
    refine ⟨le_ble rfl, fun l hl => ?_⟩
    walk_at "rd"
    have c : atI [V.int 1, V.int 7919, V.int 50000000] (f % 3) = some (.int (cf f)) := by
      have : f % 3 = 0 ∨ f % 3 = 1 ∨ f % 3 = 2 := by omega
      unfold cf
      rcases this with e | e | e
      · rw [if_pos e, e]; exact atI_nat (j := 0) rfl
      · rw [if_neg (by omega), if_pos e, e]; exact atI_nat (j := 1) rfl
      · rw [if_neg (by omega), if_neg (by omega), e]; exact atI_nat (j := 2) rfl
    refine ⟨l, _, _, _, rfl, rfl, SqL.of upd_same, c, ?_⟩
    walk_at "rd"
    have cp : cf f = 1 ∨ cf f = 7919 ∨ cf f = 50000000 := by
      unfold cf
      split
      · exact .inl rfl
      · split
        · exact .inr (.inl rfl)
        · exact .inr (.inr rfl)
    refine ⟨.inl ⟨by omega, by omega⟩, ?_⟩
    walk_at "rd"
    exact k _ _ (Same.new hl) ⟨m % 20, m0, m1, rfl⟩
set_option maxHeartbeats 4000000 in
theorem ok_Lplaces (T : Txt w K mg c) : FnOk P w K mg base CX0 9 c.a_Lplaces c.d_Lplaces ["_law_sorting"] (spPlacesD) := by
  refine T.Lplaces.fn.ok sc_Lplaces (fun vs H Q E h => ?_) (fun cdv A outer s H vs Q E hr h => ?_)
  · obtain ⟨v, S, rfl, _⟩ := h
    rfl
  · obtain ⟨v, S, rfl, hat, wf, hz, k⟩ := h
    refine ⟨_, (pss_cons (ps_set (i := 1) sc_Lplaces.nd rfl (Or.inl rfl) pe_dnewK)
      (pss_cons (ps_for PassesOwn.never rfl (pi_list (pe_callS (ok_groups T) (hr.mono (by decide)) rfl T.groups.mgf T.groups.kp T.groups.bi .nil passE0 (pa_cons (pv 0) pa_nil))) (pg_tup rfl (pgs_cons (pg_name (i := 2) sc_Lplaces.nd rfl (Or.inl rfl)) (pgs_cons (pg_name (i := 3) sc_Lplaces.nd rfl (Or.inl rfl)) pgs_nil)))
        (pss_one (ps_if (pt_cmpR op_eq (pe_callB call_len_seq rfl T.no_len bt_len (pa_cons (pv 2) pa_nil)) pe_int (nomark _))
        (pss_one (ps_for PassesOwn.never rfl (pi_list (pv 3)) (pg_name (i := 4) sc_Lplaces.nd rfl (Or.inl rfl))
        (pss_cons (ps_if (pt_cmp (pc_din (hu_of hr) (pv 4) (pv 1)))
        (pss_one (ps_ret pe_non))
        pss_nil)
      (pss_one (ps_dput (hu_of hr) (pv 1) (pv 4) (pv 2) rfl)))))
        pss_nil)))
      (pss_one (ps_ret (pv 1))))), ?_⟩
    have sz : 2000 < sizeLine := le_ble rfl
    refine fun d hd => ?_
    have s0 : Same H (upd H d (.dK [])) := Same.new hd
    have hd0 := upd_same (H := H) (a := d) (o := .dK [])
    generalize upd H d (.dK []) = G0 at s0 hd0 ⊢
    refine ⟨_, rfl, v, S, rfl, hat.same s0, wf, hz, fun l ws G s1 hl h1 h2 => ?_⟩
    have rf : sheets3 (rows 2 [] (ls S)) = flat 4 S := rows_flat 2 [] (ls S) rfl
    obtain ⟨rs, hrs⟩ : ∃ rs, rs = rows 2 [] (ls S) := ⟨_, rfl⟩
    rw [← hrs] at h2 rf
    have hdG := s1 _ _ hd0
    have nl : l ≠ d := fun z => by rw [z, hd0] at hl; cases hl
    refine ⟨l, rfl, ⟨_, SqL.of h1⟩, ?_⟩
    refine for_list (xs := ws) (fun i σ G' => (∃ z2 z3 z4, σ = [some v, some (.ref d), z2, z3, z4]) ∧ (∀ b u, b ≠ d → G b = some u → G' b = some u) ∧ ∃ kvs, G' d = some (.dK kvs) ∧ PlD S G kvs (sheets3 (rs.take i))) ?_ ?_ ?_ ?_
    · exact ⟨⟨_, _, _, rfl⟩, fun b u _ e => e, [], hdG, PlD.nil⟩
    · rintro i σ G' _ ⟨_, fr, _⟩
      exact SqL.of (fr _ _ nl h1)
    · rintro i y σ G' hy ⟨⟨z2, z3, z4, rfl⟩, fr, kvs, hD, pl⟩
      have hi : i < ws.length := (List.getElem?_eq_some_iff.mp hy).1
      have hir : i < rs.length := by rw [← h2.1]; exact hi
      have er : rs[i]? = some rs[i] := List.getElem?_eq_getElem hir
      have hm := List.mem_of_getElem? er
      have e1 : sheets3 (rs.take (i + 1)) = sheets3 (rs.take i) ++ (if rs[i].1.length = 3 then rs[i].2 else []) := by
        rw [take_one er, sheets3_app]
        show _ ++ (_ ++ []) = _
        rw [List.append_nil]
      have ef : flat 4 S = sheets3 (rs.take i) ++ ((if rs[i].1.length = 3 then rs[i].2 else []) ++ sheets3 (rs.drop (i + 1))) := by
        rw [← rf, ← List.append_assoc, ← e1, ← sheets3_app, List.take_append_drop]
      obtain ⟨t, ip, sl, rfl, a1, a2, a3, a4⟩ := h2.2 i y _ hy er
      generalize rs[i] = r at hm e1 ef a2 a3
      have nt : t ≠ d := ne_of a1 hdG (by intro z; cases z)
      have nip : ip ≠ d := ne_of a2 hdG (by intro z; cases z)
      have nsl : sl ≠ d := ne_of a3 hdG (by intro z; cases z)
      refine ⟨t, _, rfl, SqT.of (fr _ _ nt a1), rfl, _, _, rfl, _, _, rfl, rfl, ?_⟩
      refine ⟨_, rfl, ip, _, rfl, .inr (SqT.of (fr _ _ nip a2)), rfl, _, rfl, ?_⟩
      refine ite2 (fun z => ?_) (fun z => ?_)
      · have z : r.1.length = 3 := by
          have z := V.int.inj (of_decide_eq_true z)
          rw [List.length_map] at z
          omega
        rw [if_pos z] at e1 ef
        obtain ⟨i1, j1, k1, g, c', f, hg, hc, hf, re⟩ := deep_row (S := S) (by rw [← hrs]; exact hm) z
        refine ⟨_, rfl, sl, rfl, ⟨_, SqL.of (fr _ _ nsl a3)⟩, ?_⟩
        refine for_list (xs := r.2.map V.int) (fun j σ G' => (∃ z4, σ = [some v, some (.ref d), some (.ref ip), some (.ref sl), z4]) ∧ (∀ b u, b ≠ d → G b = some u → G' b = some u) ∧ ∃ kvs, G' d = some (.dK kvs) ∧ PlD S G kvs (sheets3 (rs.take i) ++ r.2.take j)) ?_ ?_ ?_ ?_
        · exact ⟨⟨_, rfl⟩, fr, kvs, hD, by show PlD S G kvs (_ ++ []); rw [List.append_nil]; exact pl⟩
        · rintro j σ G' _ ⟨_, fr, _⟩
          exact SqL.of (fr _ _ nsl a3)
        · rintro j x σ G' hx ⟨⟨z4, rfl⟩, fr, kvs, hD, pl⟩
          obtain ⟨s', hs', rfl⟩ := getI hx
          have hj : j < r.2.length := (List.getElem?_eq_some_iff.mp hs').1
          have e2 : r.2 = r.2.take j ++ (s' :: r.2.drop (j + 1)) := by
            have h := List.take_append_drop j r.2
            rw [← List.getElem_cons_drop hj, (List.getElem?_eq_some_iff.mp hs').2] at h
            exact h.symm
          have e3 : flat 4 S = (sheets3 (rs.take i) ++ r.2.take j) ++ (s' :: (r.2.drop (j + 1) ++ sheets3 (rs.drop (i + 1)))) := by
            rw [ef, List.append_assoc]
            refine congrArg (sheets3 (rs.take i) ++ ·) ?_
            have h := congrArg (· ++ sheets3 (rs.drop (i + 1))) e2
            exact h.trans (List.append_assoc ..)
          have nd := wf.nd
          rw [e3] at nd
          have hno : s' ∉ sheets3 (rs.take i) ++ r.2.take j := fun h => (List.nodup_append.mp nd).2.2 s' h s' (List.mem_cons_self ..) rfl
          have len := congrArg List.length e3
          rw [List.length_append, List.length_cons] at len
          have pll := pl.len
          refine ⟨_, rfl, _, rfl, d, _, rfl, DGet.k (k := Sum.inl s') hD, ?_⟩
          rw [pl.none hno]
          refine ⟨_, rfl, iteF ?_⟩
          refine ⟨_, rfl, _, rfl, _, rfl, d, _, rfl, DPut.k (k := Sum.inl s') hD (by omega), ?_⟩
          refine ⟨⟨_, rfl⟩, fun b u nb hb => by rw [upd_ne nb]; exact fr b u nb hb, _, upd_same, ?_⟩
          rw [take_one hs', ← List.append_assoc]
          have ms : s' ∈ r.2 := List.mem_of_getElem? hs'
          refine pl.put ⟨i1, j1, k1, g, c', f, hg, hc, hf, ?_, rfl⟩ (by rw [re] at a2; exact a2) hno
          rw [re] at ms
          exact ms
        · rintro σ G' ⟨⟨z4, rfl⟩, fr, kvs, hD, pl⟩
          rw [List.length_map, List.take_of_length_le (Nat.le_refl _)] at pl
          exact ⟨⟨_, _, _, rfl⟩, fr, kvs, hD, by rw [e1]; exact pl⟩
      · have z : r.1.length ≠ 3 := fun q => z (by rw [List.length_map, q]; rfl)
        rw [if_neg z, List.append_nil] at e1
        exact ⟨⟨_, _, _, rfl⟩, fr, kvs, hD, by rw [e1]; exact pl⟩
    · rintro σ G' ⟨⟨z2, z3, z4, rfl⟩, fr, kvs, hD, pl⟩
      rw [h2.1, List.take_of_length_le (Nat.le_refl _), rf] at pl
      exact ⟨_, rfl, k d kvs G' (fun b u hb => fr b u (fun z => by rw [z, hd] at hb; cases hb) (s1 _ _ (s0 _ _ hb))) hd hD (pl.keep fun a xs ha => fr a _ (ne_of ha hdG (by intro z; cases z)) ha)⟩
set_option maxHeartbeats 4000000 in
theorem ok_Lshare (T : Txt w K mg c) : FnOk P w K mg base CX0 1 c.a_Lshare c.d_Lshare ["_law_one", "_law_other"] (spShare) := by
  refine T.Lshare.fn.ok sc_Lshare (fun vs H Q E h => ?_) (fun cdv A outer s H vs Q E hr h => ?_)
  · obtain ⟨t, u, p, q, rfl, _⟩ := h
    rfl
  · obtain ⟨t, u, p, q, rfl, ht, hu, lp, lq, k⟩ := h
    refine ⟨_, (pss_cons (ps_for PassesOwn.never rfl (pi_list (pe_lst (pa_cons pe_int (pa_cons pe_int (pa_cons pe_int pa_nil))))) (pg_name (i := 2) sc_Lshare.nd rfl (Or.inl rfl))
        (pss_one (ps_if (pt_cmpR (op_eqD (hu62 hr)) (pe_slice sl_tupA (pv 0) po_none (po_some (pv 2))) (pe_slice sl_tupA (pv 1) po_none (po_some (pv 2))) (nomark _))
        (pss_one (ps_ret (pv 2)))
        pss_nil)))
      (pss_one (ps_ret pe_int))), ?_⟩
    refine ⟨le_ble rfl, fun l hl => ?_⟩
    have s0 := Same.new (o := HO.lst [.int 3, .int 2, .int 1]) hl
    have hl0 := upd_same (H := H) (a := l) (o := HO.lst [.int 3, .int 2, .int 1])
    generalize upd H l (HO.lst [.int 3, .int 2, .int 1]) = G0 at s0 hl0 ⊢
    refine ⟨l, rfl, ⟨_, SqL.of hl0⟩, ?_⟩
    refine for_list (xs := [.int 3, .int 2, .int 1]) (fun i σ G => (∃ z, σ = [some (.ref t), some (.ref u), z]) ∧ Same G0 G ∧ ∀ k, 3 < k + i → k ≤ 3 → p.take k ≠ q.take k) ?_ ?_ ?_ ?_
    · exact ⟨⟨_, rfl⟩, Same.refl _, fun k a b => by omega⟩
    · rintro i σ G _ ⟨_, sG, _⟩
      exact SqL.of (sG _ _ hl0)
    · rintro i x σ G hx ⟨⟨z, rfl⟩, sG, hn⟩
      obtain ⟨m, hm, m1, rfl⟩ : ∃ m : Nat, m + i = 3 ∧ 1 ≤ m ∧ x = .int (m : Int) := by
        match i, hx with
        | 0, hx => cases hx; exact ⟨3, rfl, by decide, rfl⟩
        | 1, hx => cases hx; exact ⟨2, rfl, by decide, rfl⟩
        | 2, hx => cases hx; exact ⟨1, rfl, by decide, rfl⟩
        | n + 3, hx => cases hx
      refine ⟨_, rfl, _, rfl, _, rfl, ?_⟩
      refine slA (m := m) ((s0.trans sG) _ _ ht) fun a1 G1 s1 h1 => ?_
      refine ⟨_, rfl, _, rfl, _, rfl, ?_⟩
      refine slA (m := m) ((s0.trans (sG.trans s1)) _ _ hu) fun a2 G2 s2 h2 => ?_
      have hh := SeqEq.flatT (K := K) (n := 0) (SqT.of (s2 _ _ h1)) (SqT.of h2) (by rw [List.length_map, List.length_map, List.length_take, List.length_take, lp, lq]) (flatI _) (flatI _)
      rw [eqL_ints] at hh
      refine ⟨0, _, by decide, hh, _, rfl, ?_⟩
      have s02 := sG.trans (s1.trans s2)
      refine ite2 (fun z => ?_) (fun z => ?_)
      · have e := shr_is m1 (by omega) (of_decide_eq_true z) fun k a b => hn k (by omega) b
        refine ⟨_, rfl, ?_⟩
        rw [← e]
        exact k _ (s0.trans s02)
      · refine ⟨⟨_, rfl⟩, s02, fun k a b => ?_⟩
        by_cases e : k = m
        · rw [e]
          exact fun w => z (decide_eq_true w)
        · exact hn k (by omega) b
    · rintro σ G ⟨⟨z, rfl⟩, sG, hn⟩
      have e := shr_0 (p := p) (q := q) fun k a b => hn k (show 3 < k + 3 by omega) b
      have kk := k G (s0.trans sG)
      rw [e] at kk
      exact kk
set_option maxHeartbeats 4000000 in
theorem ok_Lalike (T : Txt w K mg c) : FnOk P w K mg base CX0 2 c.a_Lalike c.d_Lalike ["_law_before", "_law_behind", "_law_sheet"] (spAlike) := by
  refine T.Lalike.fn.ok sc_Lalike (fun vs H Q E h => ?_) (fun cdv A outer s H vs Q E hr h => ?_)
  · obtain ⟨d1, d2, ka, kb, s', S, U, rfl, _⟩ := h
    rfl
  · obtain ⟨d1, d2, ka, kb, s', S, U, rfl, nd, h1, h2, p1, p2, wS, wU, alk, k⟩ := h
    refine ⟨_, (pss_cons (ps_thaw (ps_for PassesOwn.never rfl (pi_keys (pv 1)) (pg_name (i := 3) sc_Lalike.nd rfl (Or.inl rfl))
        (pss_one (ps_for PassesOwn.never rfl (pi_keysF (pv 1)) (pg_name (i := 4) sc_Lalike.nd rfl (Or.inl rfl))
        (pss_one (ps_if (PW.pt (pw_and (pt_cmpR op_lt (pv 3) (pv 4) (nomark _)) (pw_and (pt_cmpR op_ne (pv 3) (pv 2) (nomark _)) (pw_and1 (pt_cmpR op_ne (pv 4) (pv 2) (nomark _))))))
        (pss_one (ps_if (pt_cmpR op_ne (pe_call (ok_Lshare T) (hr.mono (by decide)) rfl T.Lshare.mgf T.Lshare.kp T.Lshare.bi .nil pass0 (pa_cons (pe_dget (hu_of hr) (pv 0) (pv 3) (fun _ _ => rfl)) (pa_cons (pe_dget (hu_of hr) (pv 0) (pv 4) (fun _ _ => rfl)) pa_nil))) (pe_call (ok_Lshare T) (hr.mono (by decide)) rfl T.Lshare.mgf T.Lshare.kp T.Lshare.bi .nil pass0 (pa_cons (pe_dget (hu_of hr) (pv 1) (pv 3) (fun _ _ => rfl)) (pa_cons (pe_dget (hu_of hr) (pv 1) (pv 4) (fun _ _ => rfl)) pa_nil))) (nomark _))
        (pss_one (ps_ret pe_bl))
        pss_nil))
        pss_nil))))))
      (pss_one (ps_ret pe_bl))), ?_⟩
    refine ⟨_, rfl, d2, kb, rfl, h2, fun o nf => ?_⟩
    have g1 : upd H d2 (.frz o (.dK kb)) d2 = some (.frz o (.dK kb)) := upd_same
    have f1 : ∀ c u, c ≠ d2 → H c = some u → upd H d2 (.frz o (.dK kb)) c = some u := fun c u nc hc => by rw [upd_ne nc]; exact hc
    have bk1 : ∀ G, Same (upd H d2 (.frz o (.dK kb))) G → Same H (upd G d2 (.dK kb)) := fun G h c u hc => by
      by_cases q : c = d2
      · rw [q, upd_same]; rw [q, h2] at hc; exact hc
      · rw [upd_ne q]; exact h c u (f1 c u q hc)
    have mvT : ∀ t xs, H t = some (.tup xs) → upd H d2 (.frz o (.dK kb)) t = some (.tup xs) := fun t xs h => f1 t _ (ne_of h h2 (by intro q; cases q)) h
    have q1 := p1.keep mvT
    have q2 := p2.keep mvT
    have h1' := f1 d1 _ nd h1
    generalize upd H d2 (.frz o (.dK kb)) = G1 at g1 f1 bk1 mvT q1 q2 h1' ⊢
    refine for_dict (kvs := kb) (f := fun p => kV p.1) rfl (fun i σ G => (∃ z3 z4, σ = [some (.ref d1), some (.ref d2), some (.int s'), z3, z4]) ∧ Same G1 G) ⟨⟨_, _, rfl⟩, Same.refl _⟩ ?_ ?_ ?_
    · rintro i σ G _ ⟨_, sG⟩
      exact sG _ _ g1
    · rintro i e σ G he ⟨⟨z3, z4, rfl⟩, sG⟩
      obtain ⟨x, ex, hx1⟩ := q2.at he
      have hxm := List.mem_of_getElem? ex
      rw [hx1]
      refine ⟨_, rfl, d2, kb, o, rfl, sG _ _ g1, ?_⟩
      refine for_dict (kvs := kb) (f := fun p => kV p.1) rfl (fun i σ G => (∃ z4, σ = [some (.ref d1), some (.ref d2), some (.int s'), some (.int x), z4]) ∧ Same G1 G) ⟨⟨_, rfl⟩, sG⟩ ?_ ?_ ?_
      · rintro i σ G _ ⟨_, sG⟩
        exact sG _ _ g1
      · rintro j e2 σ G he2 ⟨⟨z4, rfl⟩, sG⟩
        obtain ⟨y, ey, hy1⟩ := q2.at he2
        have hym := List.mem_of_getElem? ey
        rw [hy1]
        refine ⟨_, rfl, _, rfl, _, _, rfl, rfl, _, rfl, ?_⟩
        refine ite2 (fun _ => ?_) (fun _ => ⟨⟨_, rfl⟩, sG⟩)
        refine ⟨_, rfl, _, rfl, rfl, _, rfl, ?_⟩
        refine ite2 (fun zx => ?_) (fun _ => ⟨⟨_, rfl⟩, sG⟩)
        refine ⟨_, rfl, _, rfl, rfl, _, rfl, ?_⟩
        refine ite2 (fun zy => ?_) (fun _ => ⟨⟨_, rfl⟩, sG⟩)
        have zx : (!decide (V.int x = V.int s')) = true := zx
        have zy : (!decide (V.int y = V.int s')) = true := zy
        have zx : x ≠ s' := fun q => by rw [q, decide_eq_true rfl] at zx; exact absurd zx (by decide)
        have zy : y ≠ s' := fun q => by rw [q, decide_eq_true rfl] at zy; exact absurd zy (by decide)
        obtain ⟨xS, tg⟩ := alk x hxm zx
        have yS := (alk y hym zy).1
        obtain ⟨px, ax, lx, vx, gx⟩ := q1.val x xS
        obtain ⟨py, ay, ly, vy, gy⟩ := q1.val y yS
        obtain ⟨px', ax', lx', vx', gx'⟩ := q2.val x hxm
        obtain ⟨py', ay', ly', vy', gy'⟩ := q2.val y hym
        refine ⟨_, rfl, _, rfl, d1, _, rfl, DGet.kv (k := Sum.inl x) (sG _ _ h1') vx, _, rfl, _, rfl, d1, _, rfl, DGet.kv (k := Sum.inl y) (sG _ _ h1') vy, ax, ay, px, py, rfl, sG _ _ gx, sG _ _ gy, lx.len, ly.len, fun G2 s2 => ?_⟩
        have sG2 := sG.trans s2
        refine ⟨_, rfl, _, rfl, d2, _, rfl, DGet.fv (k := Sum.inl x) (sG2 _ _ g1) vx', _, rfl, _, rfl, d2, _, rfl, DGet.fv (k := Sum.inl y) (sG2 _ _ g1) vy', ax', ay', px', py', rfl, sG2 _ _ gx', sG2 _ _ gy', lx'.len, ly'.len, fun G3 s3 => ?_⟩
        rw [shr_tog wS wU lx ly lx' ly' (tg y hym zy)]
        refine ⟨rfl, _, rfl, ?_⟩
        rw [decide_eq_true rfl]
        exact iteF ⟨⟨_, rfl⟩, sG2.trans s3⟩
      · rintro σ G ⟨⟨z4, rfl⟩, sG⟩
        exact ⟨⟨_, _, rfl⟩, sG⟩
    · rintro σ G ⟨⟨z3, z4, rfl⟩, sG⟩
      exact ⟨_, ⟨d2, o, kb, sG _ _ g1, nf, rfl⟩, k _ (bk1 G sG)⟩
set_option maxHeartbeats 4000000 in
theorem ok_Lrefused (T : Txt w K mg c) : FnOk P w K mg base CX0 11 c.a_Lrefused c.d_Lrefused ["_law_sorting", "_law_sheet", "_law_path"] (spRef47 K) := by
  refine T.Lrefused.fn.ok sc_Lrefused (fun vs H Q E h => ?_) (fun cdv A outer s H vs Q E hr h => ?_)
  · obtain ⟨v, s', p, S, rfl, _⟩ := h
    rfl
  · obtain ⟨v, s', p, S, rfl, hat, wf, hz, hin, hp, k⟩ := h
    refine ⟨_, (pss_cons (ps_tryN rfl rfl rfl rfl T.mg_RightError (fun Ez pins W hp =>
        (pss_one (ps_if (pt_cmp (pc_isN (pv 2)))
        (pss_one (ps_expr (pe_callS (ok_taken T) (hr.mono (by decide)) rfl T.taken.mgf T.taken.kp T.taken.bi .nil hp (pa_cons (pv 0) (pa_cons (pv 1) pa_nil)))))
        (pss_one (ps_expr (pe_callS (ok_laid T) (hr.mono (by decide)) rfl T.laid.mgf T.laid.kp T.laid.bi .nil hp (pa_cons (pv 0) (pa_cons (pv 1) (pa_cons (pv 2) pa_nil)))))))))
        (fun e => (pss_one (ps_ret pe_bl))))
      (pss_one (ps_ret pe_bl))), ?_⟩
    refine ⟨fun σ1 C dd H1 => Same H H1 ∧ (C = .ref c.c_NoSheet ∨ C = .ref c.c_NoPath), fun pins W => ?_, ?_⟩
    · rcases hp with ⟨rfl, hs⟩ | ⟨a, q, rfl, ip, hl⟩
      · exact ⟨_, rfl, _, rfl, iteT ⟨_, rfl, _, rfl, v, s', S, rfl, hat, wf, by omega, hin, fun _ G sG => ⟨sG, .inl rfl⟩, fun h => absurd h hs⟩⟩
      · exact ⟨_, rfl, _, rfl, iteF ⟨_, rfl, _, rfl, _, rfl, v, s', .ref a, some q, S, rfl, hat, wf, hz, hin, ip, fun _ G sG => ⟨sG, .inr rfl⟩, fun U' e => absurd (hl.symm.trans e) (by intro z; cases z)⟩⟩
    · rintro σ1 C dd H1 ⟨sH, rfl | rfl⟩
      · exact ⟨T.e_NoSheet_RightError, fun e he => k _ (sH.trans (Same.new he))⟩
      · exact ⟨T.e_NoPath_RightError, fun e he => k _ (sH.trans (Same.new he))⟩
set_option maxHeartbeats 4000000 in
theorem ok_Llaid_by (T : Txt w K mg c) : FnOk P w K mg base CX0 11 c.a_Llaid_by c.d_Llaid_by ["_law_sorting", "_law_sheet", "_law_other", "_law_deep"] (spLaidBy) := by
  refine T.Llaid_by.fn.ok sc_Llaid_by (fun vs H Q E h => ?_) (fun cdv A outer s H vs Q E hr h => ?_)
  · obtain ⟨v, s', o, d, S, rfl, _⟩ := h
    rfl
  · obtain ⟨v, s', o, d, S, rfl, hat, wf, hz, hin, ho, hos, hd, k⟩ := h
    refine ⟨_, (pss_cons (ps_set (i := 4) sc_Llaid_by.nd rfl (Or.inl rfl) (pe_callS (ok_path_of T) (hr.mono (by decide)) rfl T.path_of.mgf T.path_of.kp T.path_of.bi .nil passE0 (pa_cons (pv 0) (pa_cons (pv 1) pa_nil))))
      (pss_cons (ps_set (i := 5) sc_Llaid_by.nd rfl (Or.inl rfl) (pv 0))
      (pss_cut (ps_if (pt_cmp (pc_notN (pv 4)))
        (pss_one (ps_set (i := 5) sc_Llaid_by.nd rfl (Or.inl rfl) (pe_callS (ok_taken T) (hr.mono (by decide)) rfl T.taken.mgf T.taken.kp T.taken.bi .nil passE0 (pa_cons (pv 0) (pa_cons (pv 1) pa_nil)))))
        pss_nil)
      (pss_cons (ps_set (i := 6) sc_Llaid_by.nd rfl (Or.inl rfl) (pe_callS (ok_path_of T) (hr.mono (by decide)) rfl T.path_of.mgf T.path_of.kp T.path_of.bi .nil passE0 (pa_cons (pv 5) (pa_cons (pv 2) pa_nil))))
      (pss_cons (ps_if (pt_cmpR op_eq (pv 3) pe_int (nomark _))
        (pss_one (ps_ret (pe_callS (ok_laid T) (hr.mono (by decide)) rfl T.laid.mgf T.laid.kp T.laid.bi .nil passE0 (pa_cons (pv 0) (pa_cons (pv 1) (pa_cons (pv 6) pa_nil))))))
        pss_nil)
      (pss_cons (ps_set (i := 7) sc_Llaid_by.nd rfl (Or.inl rfl) (pv 5))
      (pss_cons (ps_for PassesOwn.never rfl (pi_tup (pe_slice sl_tupA (pv 6) po_none (po_some (pv 3)))) (pg_name (i := 8) sc_Llaid_by.nd rfl (Or.inl rfl))
        (pss_one (ps_set (i := 7) sc_Llaid_by.nd rfl (Or.inl rfl) (pe_ix ix_list (pv 7) (pv 8) (fun _ _ => rfl)))))
      (pss_one (ps_ret (pe_callS (ok_laid T) (hr.mono (by decide)) rfl T.laid.mgf T.laid.kp T.laid.bi .nil passE0 (pa_cons (pv 0) (pa_cons (pv 1) (pa_cons (pe_op op_catT1 (pe_slice sl_tupA (pv 6) po_none (po_some (pv 3))) (pe_tup (pa_cons (pe_callB call_len_seq rfl T.no_len bt_len (pa_cons (pv 7) pa_nil)) pa_nil))) pa_nil))))))))))))), ?_⟩
    have ww := wf.wo s'
    have wl := wo_len S s'
    have oW : o ∈ flat 4 (wo 3 s' S) := mem_wo.mpr ⟨ho, hos⟩
    obtain ⟨p, hp⟩ := Lies.of oW
    refine ⟨_, rfl, _, rfl, v, .int s', S, rfl, hat, wf, by omega, Own.int, fun hx => absurd (hin.symm.trans hx) (by decide), fun s2 e hx lv G sG pv => ?_⟩
    cases V.int.inj e
    refine ⟨_, rfl, ?_⟩
    refine ⟨fun σ G1 => ∃ lf, σ = [some v, some (.int s'), some (.int o), some (.int (d : Int)), some lv, some lf, none, none, none] ∧ Same G G1 ∧ AtR G1 4 lf (wo 3 s' S), ?_, ?_⟩
    · by_cases hs : s' ∈ flat 4 S
      · obtain ⟨p2, hp2⟩ := Lies.of hs
        rw [hp2.first wf] at pv
        obtain ⟨ip, rfl, hip⟩ := pv
        refine ⟨_, rfl, _, rfl, iteT ?_⟩
        exact ⟨_, rfl, _, rfl, v, s', S, rfl, hat.same sG, wf, by omega, hin, fun h => absurd hs h, fun _ w2 G2 s2 n2 => ⟨w2, rfl, s2, n2.r⟩⟩
      · rw [first_out hs] at pv
        have pv : lv = .non := pv
        subst pv
        exact ⟨_, rfl, _, rfl, iteF ⟨v, rfl, Same.refl _, by rw [wo_same wf.fu hs]; exact hat.same sG⟩⟩
    rintro σ G1 ⟨lf, rfl, s1, hlf⟩
    have s01 := sG.trans s1
    refine ⟨_, rfl, _, rfl, lf, .int o, wo 3 s' S, rfl, hlf, ww, by omega, Own.int, fun hx => absurd ((wf.inn o ho).symm.trans hx) (by decide), fun s2 e hx pv2 G2 s2' pw => ?_⟩
    cases V.int.inj e
    rw [hp.first ww] at pw
    obtain ⟨ip, rfl, hip⟩ := pw
    have s02 := s01.trans s2'
    have fin : ∀ (r : Addr) (q : List Int) (G3 : Hp), Same H G3 → G3 r = some (.tup (q.map V.int)) → 1 ≤ q.length → q.length ≤ 3 → way 2 (wo 3 s' S) o d q → spLaid K c.c_NoPath [v, .int s', .ref r] G3 Q (fun _ _ _ => False) := fun r q G3 s3 hr l1 l3 hw => by
      obtain ⟨U, hU⟩ := way_lay (s := s') hw
      exact ⟨v, s', .ref r, some q, S, rfl, hat.same s3, wf, hz, hin, IsP.path hr (way_pos hw) l1 l3, fun e => absurd (hU.symm.trans e) (by intro z; cases z), fun U' e w3 G4 s4 n4 => k U' q hw e w3 G4 (s3.trans s4) (n4.older s3)⟩
    refine ⟨_, rfl, rfl, _, rfl, ?_⟩
    refine ite2 (fun z => ?_) (fun z => ?_)
    · have z : d = 3 := by have z := V.int.inj (of_decide_eq_true z); omega
      subst z
      exact ⟨_, rfl, _, rfl, _, rfl, fin ip p G2 s02 hip (by rw [hp.len]; decide) (by rw [hp.len]; decide) (lies_way hp)⟩
    have d2 : d ≤ 2 := by
      by_cases e : d = 3
      · exact absurd (by rw [e]; rfl) z
      · omega
    obtain ⟨i, j, m, g, c', f, hg, hc, hf, hs3, rfl⟩ := hp
    refine ⟨_, rfl, ?_⟩
    refine ⟨_, rfl, _, rfl, _, rfl, ?_⟩
    refine slA (m := d) hip fun q1 G3 s3 hq1 => ?_
    have s03 := s02.trans s3
    refine ⟨q1, rfl, ⟨_, SqT.of hq1⟩, ?_⟩
    have ld : (([(i : Int), (j : Int), (m : Int)].take d).map V.int).length = d := by
      rw [List.length_map, List.length_take]
      show min d 3 = d
      omega
    have hlf3 := hlf.same (s2'.trans s3)
    refine for_tup (xs := ([(i : Int), (j : Int), (m : Int)].take d).map V.int) (fun n σ G => (∃ h z, σ = [some v, some (.int s'), some (.int o), some (.int (d : Int)), some lv, some lf, some (.ref ip), some h, z] ∧ Nd (wo 3 s' S) g c' G3 h n) ∧ G = G3) ⟨⟨lf, _, rfl, hlf3⟩, rfl⟩ ?_ ?_ ?_
    · rintro n σ G _ ⟨_, rfl⟩
      exact SqT.of hq1
    · rintro n x σ G hx ⟨⟨h, z, rfl, hn⟩, rfl⟩
      have hnd : n < d := by
        have := (List.getElem?_eq_some_iff.mp hx).1
        omega
      have hx : ([(i : Int), (j : Int), (m : Int)].map V.int)[n]? = some x := by
        rw [List.map_take, List.getElem?_take_of_lt hnd] at hx
        exact hx
      have n1 : n = 0 ∨ n = 1 := by omega
      rcases n1 with rfl | rfl
      · cases hx
        have hn : AtR G 4 h (wo 3 s' S) := hn
        obtain ⟨ha, hvs, rfl, hA, hlen⟩ := hn.lst
        obtain ⟨y, g', e1, e2, kg⟩ := hn.kid hA (j := i) (by rw [hlen]; exact (List.getElem?_eq_some_iff.mp hg).1)
        rw [hg] at e2
        cases e2
        exact ⟨_, rfl, _, rfl, ha, _, _, _, rfl, rfl, SqL.of hA, atI_nat e1, ⟨_, _, rfl, kg⟩, rfl⟩
      · cases hx
        have hn : AtR G 3 h g := hn
        obtain ⟨ha, hvs, rfl, hA, hlen⟩ := hn.lst
        obtain ⟨y, g', e1, e2, kg⟩ := hn.kid hA (j := j) (by rw [hlen]; exact (List.getElem?_eq_some_iff.mp hc).1)
        rw [hc] at e2
        cases e2
        exact ⟨_, rfl, _, rfl, ha, _, _, _, rfl, rfl, SqL.of hA, atI_nat e1, ⟨_, _, rfl, kg⟩, rfl⟩
    · rintro σ G ⟨⟨h, z, rfl, hn⟩, rfl⟩
      rw [ld] at hn
      obtain ⟨ha, hvs, rfl, hA, hlen⟩ := hn.lst
      have hw := way_cut d2 hg hc hf hs3
      rw [← hlen] at hw
      refine ⟨_, rfl, _, rfl, _, rfl, _, rfl, _, rfl, ?_⟩
      refine slA (m := d) (s3 _ _ hip) fun q2 G4 s4 hq2 => ?_
      refine ⟨_, rfl, ha, _, rfl, .inl (SqL.of (s4 _ _ hA)), le_ble rfl, fun u hu => ?_⟩
      have s5 := s4.trans (Same.new (o := HO.tup [.int (hvs.length : Int)]) hu)
      have hu5 := upd_same (H := G4) (a := u) (o := HO.tup [.int (hvs.length : Int)])
      have hq5 := Same.new (o := HO.tup [.int (hvs.length : Int)]) hu _ _ hq2
      generalize upd G4 u (HO.tup [.int (hvs.length : Int)]) = G5 at s5 hu5 hq5
      refine ⟨q2, u, _, _, rfl, rfl, SqT.of hq5, SqT.of hu5, List.cons_ne_nil _ _, ?_, fun z => ?_, fun z p hp2 => ?_⟩
      · rw [ld]
        exact Nat.le_trans (show d + 1 ≤ 3 by omega) (le_ble rfl)
      · have d0 : d = 0 := by rw [z] at ld; exact ld.symm
        subst d0
        exact fin u [(hvs.length : Int)] G5 (s03.trans s5) hu5 (Nat.le_refl 1) (le_ble rfl) hw
      · refine fin p _ _ (s03.trans (s5.trans (Same.new hp2))) ?_ ?_ ?_ hw
        · rw [upd_same, List.map_append]
          rfl
        · rw [List.length_append]
          exact Nat.le_add_left _ _
        · rw [List.length_append, List.length_take]
          show min d 3 + 1 ≤ 3
          omega
set_option maxHeartbeats 4000000 in
theorem ok_Lstep (T : Txt w K mg c) : FnOk P w K mg base CX0 12 c.a_Lstep c.d_Lstep ["_law_sorting", "_law_number", "_law_form"] (spStep) := by
  refine T.Lstep.fn.ok sc_Lstep (fun vs H Q E h => ?_) (fun cdv A outer s H vs Q E hr h => ?_)
  · obtain ⟨v, m, f, S, rfl, _⟩ := h
    rfl
  · obtain ⟨v, m, f, S, rfl, hat, wf, hz, k⟩ := h
    refine ⟨_, (pss_cons (ps_set (i := 3) sc_Lstep.nd rfl (Or.inl rfl) (pe_call (ok_Lplaces T) (hr.mono (by decide)) rfl T.Lplaces.mgf T.Lplaces.kp T.Lplaces.bi .nil pass0 (pa_cons (pv 0) pa_nil)))
      (pss_cons (ps_set (i := 4) sc_Lstep.nd rfl (Or.inr rfl) (pe_call (ok_Lsheet_by T) (hr.mono (by decide)) rfl T.Lsheet_by.mgf T.Lsheet_by.kp T.Lsheet_by.bi .nil pass0 (pa_cons (pe_op op_fdiv (pv 1) pe_int) (pa_cons (pv 2) pa_nil))))
      (pss_cons (ps_thaw (ps_setComp (i := 5) sc_Lstep.nd rfl rfl (N' := ["_law_one", "_law_sheet"]) (js := [none, some 4]) rfl rfl (by decide +kernel) (by decide +kernel) (free_of ["_law_sheet"] (by decide +kernel) (fm_cons (.inl rfl) fm_nil)) (cap_of rfl (fm_cons (fun j e => nomatch e) (fm_cons (fun j e => by cases e; exact ⟨rfl, rfl, .inl rfl⟩) fm_nil))) (pi_keys (pv 3)) (fun B => ⟨(pg_name (i := 0) (show List.Nodup (["_law_one", "_law_sheet"] : List Str) by decide +kernel) rfl (Or.inl rfl)), (pifs_one (pt_cmpR op_ne (pv 0) (pv 1) (nomark _))), (pv 0)⟩)))
      (pss_cons (ps_set (i := 6) sc_Lstep.nd rfl (Or.inl rfl) (pe_op op_mod (pv 1) pe_int))
      (pss_cut (ps_if (PW.pt (pw_and (pt_cmpR op_eq (pv 6) pe_int (nomark _)) (pw_and1 (pt_cmp (pc_din (hu_of hr) (pv 4) (pv 3))))))
        (pss_one (ps_ret (pe_lst (pa_cons (pe_callS (ok_taken T) (hr.mono (by decide)) rfl T.taken.mgf T.taken.kp T.taken.bi .nil passE0 (pa_cons (pv 0) (pa_cons (pv 4) pa_nil))) (pa_cons (pv 4) (pa_cons pe_non (pa_cons pe_int (pa_cons pe_bl pa_nil))))))))
        pss_nil)
      (pss_cons (ps_if (pt_cmpR (op_eqD (hu62 hr)) (pv 5) (pe_lst pa_nil) (nomark _))
        (pss_one (ps_ret (pe_lst (pa_cons (pe_callS (ok_laid T) (hr.mono (by decide)) rfl T.laid.mgf T.laid.kp T.laid.bi .nil passE0 (pa_cons (pv 0) (pa_cons (pv 4) (pa_cons (pe_tup (pa_cons pe_int pa_nil)) pa_nil)))) (pa_cons (pv 4) (pa_cons pe_non (pa_cons pe_int (pa_cons pe_bl pa_nil))))))))
        pss_nil)
      (pss_cons (ps_set (i := 7) sc_Lstep.nd rfl (Or.inl rfl) (pe_ix ix_list (pv 5) (pe_op op_mod (pe_op op_fdiv (pv 1) pe_int) (pe_callB call_len_seq rfl T.no_len bt_len (pa_cons (pv 5) pa_nil))) (fun _ _ => rfl)))
      (pss_cons (ps_set (i := 8) sc_Lstep.nd rfl (Or.inl rfl) (pe_ix ix_list (pe_lst (pa_cons pe_int (pa_cons pe_int (pa_cons pe_int (pa_cons pe_int (pa_cons pe_int (pa_cons pe_int (pa_cons pe_int (pa_cons pe_int pa_nil))))))))) (pv 6) (fun _ _ => rfl)))
      (pss_one (ps_ret (pe_lst (pa_cons (pe_call (ok_Llaid_by T) (hr.mono (by decide)) rfl T.Llaid_by.mgf T.Llaid_by.kp T.Llaid_by.bi .nil pass0 (pa_cons (pv 0) (pa_cons (pv 4) (pa_cons (pv 7) (pa_cons (pv 8) pa_nil))))) (pa_cons (pv 4) (pa_cons (pv 7) (pa_cons (pv 8) (pa_cons pe_bl pa_nil)))))))))))))))), ?_⟩
    have sz : 2000 < sizeLine := le_ble rfl
    refine ⟨_, rfl, v, S, rfl, hat, wf, by omega, fun d1 ka G1 s1 hd1 hD pl => ?_⟩
    walk_at "rd"
    refine fun s' G2 s2 sh => ?_
    have hin := shf_in0 sh
    have s02 := s1.trans s2
    have h1 := s2 _ _ hD
    have p1 := pl.keep fun a xs ha => s2 a _ ha
    have pln := p1.len
    refine ⟨_, rfl, d1, ka, rfl, h1, fun o nf lc B hlc => ?_⟩
    have g1 : upd G2 d1 (.frz o (.dK ka)) d1 = some (.frz o (.dK ka)) := upd_same
    have f1 : ∀ c u, c ≠ d1 → G2 c = some u → upd G2 d1 (.frz o (.dK ka)) c = some u := fun c u nc hc => by rw [upd_ne nc]; exact hc
    have bk1 : ∀ G, Same (upd G2 d1 (.frz o (.dK ka))) G → Same G2 (upd G d1 (.dK ka)) := fun G h c u hc => by
      by_cases q : c = d1
      · rw [q, upd_same]; rw [q, h1] at hc; exact hc
      · rw [upd_ne q]; exact h c u (f1 c u q hc)
    have nlc : lc ≠ d1 := fun z => by rw [z, upd_same] at hlc; cases hlc
    have hlc0 : G2 lc = none := by rw [← hlc, upd_ne nlc]
    generalize upd G2 d1 (.frz o (.dK ka)) = Gf at g1 f1 bk1 hlc ⊢
    refine loop_dict (kvs := ka) (f := fun p => kV p.1) rfl (fun i σ acc G => (∃ z, σ = [z, some (.int s')]) ∧ Same Gf G ∧ G lc = some (.lst acc) ∧ acc = (((flat 4 S).take i).filter (fun x => !decide (x = s'))).map V.int) (by omega) ?_ ?_ ?_ ?_
    · exact ⟨⟨_, rfl⟩, Same.new hlc, upd_same, rfl⟩
    · rintro i σ acc G hi ⟨_, sG, e1, e2⟩
      refine ⟨e1, sG _ _ g1, ?_⟩
      rw [e2, List.length_map]
      exact Nat.le_trans (List.length_filter_le _ _) (by rw [List.length_take]; omega)
    · rintro i e σ acc G he ⟨⟨z, rfl⟩, sG, e1, e2⟩
      have hi : i < ka.length := (List.getElem?_eq_some_iff.mp he).1
      obtain ⟨x, ex, hx1⟩ := p1.at he
      rw [hx1]
      refine ⟨_, rfl, _, rfl, rfl, _, rfl, ?_⟩
      refine ite2 (fun z => ?_) (fun z => ?_)
      · have z : (!decide (V.int x = V.int s')) = true := z
        have z : x ≠ s' := fun q => by rw [q, decide_eq_true rfl] at z; exact absurd z (by decide)
        refine ⟨_, rfl, e1, Nx.mk hi ⟨⟨_, rfl⟩, same_put hlc sG, upd_same, ?_⟩⟩
        rw [take_one ex, List.filter_append, List.map_append, ← e2]
        show acc ++ [V.int x] = _
        simp [z]
      · have z : x = s' := V.int.inj (Decidable.of_not_not (p := V.int x = V.int s') (fun q => z (by show (!decide (V.int x = V.int s')) = true; rw [decide_eq_false q]; rfl)))
        refine Nx.mk hi ⟨⟨_, rfl⟩, sG, e1, ?_⟩
        rw [take_one ex, List.filter_append, List.map_append, ← e2]
        simp [z]
    rintro σ acc G ⟨_, sG, e1, e2⟩
    rw [p1.len, List.take_of_length_le (Nat.le_refl _)] at e2
    subst e2
    refine ⟨_, ⟨d1, o, ka, sG _ _ g1, nf, rfl⟩, ?_⟩
    have sB := bk1 G sG
    have hB : upd G d1 (.dK ka) lc = some (.lst (((flat 4 S).filter (fun x => !decide (x = s'))).map V.int)) := by rw [upd_ne nlc]; exact e1
    generalize upd G d1 (.dK ka) = GB at sB hB ⊢
    have s0B := s02.trans sB
    have hDB := sB _ _ h1
    walk_at "rd"
    refine ⟨fun σ G => G = GB ∧ σ = [some v, some (.int m), some (.int f), some (.ref d1), some (.int s'), some (.ref lc), some (.int (m % 8)), none, none], ?_, ?_⟩
    · walk_at "rd"
      refine ite2 (fun z => ?_) (fun z => ⟨rfl, rfl⟩)
      refine ⟨_, rfl, _, rfl, d1, _, rfl, DGet.k (k := Sum.inl s') hDB, ?_⟩
      by_cases hs : s' ∈ flat 4 S
      · obtain ⟨_, _, _, hv, _⟩ := p1.val s' hs
        rw [hv]
        refine ⟨_, rfl, iteT ?_⟩
        exact ⟨_, rfl, _, rfl, v, s', S, rfl, hat.same s0B, wf, by omega, hin, fun h => absurd hs h, fun _ tv G3 s3 n3 => ⟨_, rfl, le_ble rfl, fun l hl => k l tv s' .non 0 false _ _ (s0B.trans (s3.trans (Same.new hl))) upd_same ((n3.older s0B).same (Same.new hl)) sh (.inl ⟨rfl, rfl, hs, rfl⟩)⟩⟩
      · rw [p1.none hs]
        exact ⟨_, rfl, iteF ⟨rfl, rfl⟩⟩
    rintro σ G3 ⟨rfl, rfl⟩
    refine ⟨_, rfl, le_ble rfl, fun e0 he0 => ?_⟩
    have t0 := Same.new (o := HO.lst []) he0
    refine ⟨0, _, by decide, seqNil (SqL.of (t0 _ _ hB)) (SqL.of upd_same), _, rfl, ?_⟩
    have s04 := s0B.trans t0
    have hB4 := t0 _ _ hB
    generalize upd G3 e0 (.lst []) = G4 at t0 s04 hB4 ⊢
    refine iteB (fun he => ?_) (fun he => ?_)
    · have all : ∀ x ∈ flat 4 S, x = s' := fun x hx => by
        by_cases q : x = s'
        · exact q
        · have hm : x ∈ (flat 4 S).filter (fun x => !decide (x = s')) := List.mem_filter.mpr ⟨hx, by rw [decide_eq_false q]; rfl⟩
          have he := List.map_eq_nil_iff.mp (List.isEmpty_iff.mp he)
          rw [he] at hm
          exact nomatch hm
      obtain ⟨U, hU⟩ : ∃ U, lay 2 (wo 3 s' S) s' [0] = some U := ⟨_, lay_last (by rw [wo_nil all]; rfl)⟩
      refine ⟨_, rfl, _, rfl, le_ble rfl, fun t ht => ?_⟩
      have t5 := Same.new (o := HO.tup [.int 0]) ht
      exact ⟨v, s', .ref t, some [0], S, rfl, hat.same (s04.trans t5), wf, by omega, hin, IsP.path (p := [0]) upd_same (fun i hi => by rw [List.mem_singleton.mp hi]; exact Int.le_refl _) (by decide) (by decide), fun e => absurd (hU.symm.trans e) (by intro z; cases z), fun U' e tv G5 s5 n5 => ⟨_, rfl, le_ble rfl, fun l hl => k l tv s' .non 0 true _ _ (s04.trans (t5.trans (s5.trans (Same.new hl)))) upd_same ((n5.older (s04.trans t5)).same (Same.new hl)) sh (.inr (.inl ⟨rfl, rfl, all, e⟩))⟩⟩
    walk_at "rd"
    have lf : (((flat 4 S).filter (fun x => !decide (x = s'))).map V.int).length = ((flat 4 S).filter (fun x => !decide (x = s'))).length := List.length_map ..
    have lp : 0 < ((flat 4 S).filter (fun x => !decide (x = s'))).length := by
      cases e : (flat 4 S).filter (fun x => !decide (x = s')) with
      | nil => rw [e] at he; exact absurd he (by decide)
      | cons _ _ => exact Nat.succ_pos _
    refine ⟨lc, _, rfl, .inl (SqL.of hB4), _, _, rfl, rfl, by omega, ?_⟩
    obtain ⟨y, hy, hmy⟩ := atI_in (xs := ((flat 4 S).filter (fun x => !decide (x = s'))).map V.int) (i := m / 160 % ((((flat 4 S).filter (fun x => !decide (x = s'))).map V.int).length : Int)) (Int.emod_nonneg _ (by omega)) (Int.emod_lt_of_pos _ (by omega))
    obtain ⟨o', hm', rfl⟩ := List.mem_map.mp hmy
    obtain ⟨oS, os⟩ := List.mem_filter.mp hm'
    have os : o' ≠ s' := fun q => by rw [q, decide_eq_true rfl] at os; exact absurd os (by decide)
    refine ⟨lc, _, _, _, rfl, rfl, SqL.of hB4, hy, ?_⟩
    refine ⟨le_ble rfl, fun l2 hl2 => ?_⟩
    have m80 := Int.emod_nonneg m (b := 8) (by decide)
    have m81 := Int.emod_lt_of_pos m (b := 8) (by decide)
    obtain ⟨dv, hdv, hdm⟩ := atI_in (xs := [V.int 3, V.int 3, V.int 3, V.int 2, V.int 1, V.int 0, V.int 3, V.int 2]) (i := m % 8) m80 m81
    obtain ⟨d, d3, rfl⟩ : ∃ d : Nat, d ≤ 3 ∧ dv = .int (d : Int) := by
      simp only [List.mem_cons, List.not_mem_nil, or_false] at hdm
      rcases hdm with rfl | rfl | rfl | rfl | rfl | rfl | rfl | rfl
      · exact ⟨3, by decide, rfl⟩
      · exact ⟨3, by decide, rfl⟩
      · exact ⟨3, by decide, rfl⟩
      · exact ⟨2, by decide, rfl⟩
      · exact ⟨1, by decide, rfl⟩
      · exact ⟨0, by decide, rfl⟩
      · exact ⟨3, by decide, rfl⟩
      · exact ⟨2, by decide, rfl⟩
    have t5 := s04.trans (Same.new (o := HO.lst [V.int 3, V.int 3, V.int 3, V.int 2, V.int 1, V.int 0, V.int 3, V.int 2]) hl2)
    refine ⟨_, rfl, l2, _, _, _, rfl, rfl, SqL.of upd_same, hdv, ?_⟩
    generalize upd G4 l2 (HO.lst [V.int 3, V.int 3, V.int 3, V.int 2, V.int 1, V.int 0, V.int 3, V.int 2]) = G5 at t5 ⊢
    exact ⟨_, rfl, _, rfl, _, rfl, _, rfl, v, s', o', d, S, rfl, hat.same t5, wf, by omega, hin, oS, os, d3, fun U q hw hl w G6 s6 n6 => ⟨_, rfl, _, rfl, _, rfl, le_ble rfl, fun l hl' => k l w s' (.int o') d true U _ (t5.trans (s6.trans (Same.new hl'))) upd_same ((n6.older t5).same (Same.new hl')) sh (.inr (.inr ⟨rfl, o', q, rfl, oS, os, d3, hw, hl⟩))⟩⟩
set_option maxHeartbeats 4000000 in
theorem ok_Lright (T : Txt w K mg c) : FnOk P w K mg base CX0 3 c.a_Lright c.d_Lright ["_law_before", "_law_behind", "_law_sheet", "_law_other", "_law_deep", "_law_lies"] (spRight47) := by
  refine T.Lright.fn.ok sc_Lright (fun vs H Q E h => ?_) (fun cdv A outer s H vs Q E hr h => ?_)
  · obtain ⟨d1, d2, ka, kb, s', ov, d, li, S, U, rfl, _⟩ := h
    rfl
  · obtain ⟨d1, d2, ka, kb, s', ov, d, li, S, U, rfl, nd, h1, h2, p1, p2, wS, hz, hin, stp, k⟩ := h
    refine ⟨_, (pss_cons (ps_thaw (ps_setComp (i := 6) sc_Lright.nd rfl rfl (N' := ["_law_one", "_law_sheet"]) (js := [none, some 2]) rfl rfl (by decide +kernel) (by decide +kernel) (free_of ["_law_sheet"] (by decide +kernel) (fm_cons (.inl rfl) fm_nil)) (cap_of rfl (fm_cons (fun j e => nomatch e) (fm_cons (fun j e => by cases e; exact ⟨rfl, rfl, .inl rfl⟩) fm_nil))) (pi_keys (pv 0)) (fun B => ⟨(pg_name (i := 0) (show List.Nodup (["_law_one", "_law_sheet"] : List Str) by decide +kernel) rfl (Or.inl rfl)), (pifs_one (pt_cmpR op_ne (pv 0) (pv 1) (nomark _))), (pv 0)⟩)))
      (pss_cut (ps_if (pt_val (pv 5))
        (pss_one (ps_expr (pe_bm PySem.F.plainAttrs_list PySem.F.slot_list_append PySem.F.type_list_append (MtM.r mt_append) (pv 6) (pa_cons (pv 2) pa_nil))))
        pss_nil)
      (pss_cons (ps_if (PW.pt (pw_or (pt_cmp (pc_isN (pv 1))) (pw_or (pt_cmpR (op_neD (hu62 hr)) (pe_callB (call_sorted_dK rfl) rfl T.no_sorted bt_sorted (pa_cons (pv 1) pa_nil)) (pe_callB (call_sorted rfl) rfl T.no_sorted bt_sorted (pa_cons (pv 6) pa_nil)) (nomark _)) (pw_or1 (pt_not (pt_val (pe_call (ok_Lalike T) (hr.mono (by decide)) rfl T.Lalike.mgf T.Lalike.kp T.Lalike.bi .nil pass0 (pa_cons (pv 0) (pa_cons (pv 1) (pa_cons (pv 2) pa_nil))))))))))
        (pss_one (ps_ret pe_bl))
        pss_nil)
      (pss_cons (ps_if (pt_cmp (pc_isN (pv 3)))
        (pss_one (ps_ret pe_bl))
        pss_nil)
      (pss_cons (ps_thaw (ps_for PassesOwn.never rfl (pi_keys (pv 1)) (pg_name (i := 7) sc_Lright.nd rfl (Or.inl rfl))
        (pss_one (ps_if (pt_cmpR op_ne (pv 7) (pv 2) (nomark _))
        (pss_cons (ps_set (i := 8) sc_Lright.nd rfl (Or.inl rfl) (pe_callB (call_min2 rfl) rfl T.no_min bt_min (pa_cons (pv 4) (pa_cons (pe_call (ok_Lshare T) (hr.mono (by decide)) rfl T.Lshare.mgf T.Lshare.kp T.Lshare.bi .nil pass0 (pa_cons (pe_dget (hu_of hr) (pv 1) (pv 7) (fun _ _ => rfl)) (pa_cons (pe_dget (hu_of hr) (pv 1) (pv 3) (fun _ _ => rfl)) pa_nil))) pa_nil))))
      (pss_cut (ps_if (pt_cmpR op_eq (pv 7) (pv 3) (nomark _))
        (pss_one (ps_set (i := 8) sc_Lright.nd rfl (Or.inl rfl) (pv 4)))
        pss_nil)
      (pss_one (ps_if (pt_cmpR op_ne (pe_call (ok_Lshare T) (hr.mono (by decide)) rfl T.Lshare.mgf T.Lshare.kp T.Lshare.bi .nil pass0 (pa_cons (pe_dget (hu_of hr) (pv 1) (pv 2) (fun _ _ => rfl)) (pa_cons (pe_dget (hu_of hr) (pv 1) (pv 7) (fun _ _ => rfl)) pa_nil))) (pv 8) (nomark _))
        (pss_one (ps_ret pe_bl))
        pss_nil))))
        pss_nil))))
      (pss_one (ps_ret pe_bl))))))), ?_⟩
    have sz : 2000 < sizeLine := le_ble rfl
    have pln := p1.len
    have wU := stp.wf wS hin
    have pm := stp.perm
    refine ⟨_, rfl, d1, ka, rfl, h1, fun o nf lc B hlc => ?_⟩
    have g1 : upd H d1 (.frz o (.dK ka)) d1 = some (.frz o (.dK ka)) := upd_same
    have f1 : ∀ c u, c ≠ d1 → H c = some u → upd H d1 (.frz o (.dK ka)) c = some u := fun c u nc hc => by rw [upd_ne nc]; exact hc
    have bk1 : ∀ G, Same (upd H d1 (.frz o (.dK ka))) G → Same H (upd G d1 (.dK ka)) := fun G h c u hc => by
      by_cases q : c = d1
      · rw [q, upd_same]; rw [q, h1] at hc; exact hc
      · rw [upd_ne q]; exact h c u (f1 c u q hc)
    have nlc : lc ≠ d1 := fun z => by rw [z, upd_same] at hlc; cases hlc
    have hlc0 : H lc = none := by rw [← hlc, upd_ne nlc]
    generalize upd H d1 (.frz o (.dK ka)) = Gf at g1 f1 bk1 hlc ⊢
    refine loop_dict (kvs := ka) (f := fun p => kV p.1) rfl (fun i σ acc G => (∃ z, σ = [z, some (.int s')]) ∧ Same Gf G ∧ G lc = some (.lst acc) ∧ acc = (((flat 4 S).take i).filter (fun x => !decide (x = s'))).map V.int) (by omega) ?_ ?_ ?_ ?_
    · exact ⟨⟨_, rfl⟩, Same.new hlc, upd_same, rfl⟩
    · rintro i σ acc G hi ⟨_, sG, e1, e2⟩
      refine ⟨e1, sG _ _ g1, ?_⟩
      rw [e2, List.length_map]
      exact Nat.le_trans (List.length_filter_le _ _) (by rw [List.length_take]; omega)
    · rintro i e σ acc G he ⟨⟨z, rfl⟩, sG, e1, e2⟩
      have hi : i < ka.length := (List.getElem?_eq_some_iff.mp he).1
      obtain ⟨x, ex, hx1⟩ := p1.at he
      rw [hx1]
      refine ⟨_, rfl, _, rfl, rfl, _, rfl, ?_⟩
      refine ite2 (fun z => ?_) (fun z => ?_)
      · have z : (!decide (V.int x = V.int s')) = true := z
        have z : x ≠ s' := fun q => by rw [q, decide_eq_true rfl] at z; exact absurd z (by decide)
        refine ⟨_, rfl, e1, Nx.mk hi ⟨⟨_, rfl⟩, same_put hlc sG, upd_same, ?_⟩⟩
        rw [take_one ex, List.filter_append, List.map_append, ← e2]
        show acc ++ [V.int x] = _
        simp [z]
      · have z : x = s' := V.int.inj (Decidable.of_not_not (p := V.int x = V.int s') (fun q => z (by show (!decide (V.int x = V.int s')) = true; rw [decide_eq_false q]; rfl)))
        refine Nx.mk hi ⟨⟨_, rfl⟩, sG, e1, ?_⟩
        rw [take_one ex, List.filter_append, List.map_append, ← e2]
        simp [z]
    rintro σ acc G ⟨_, sG, e1, e2⟩
    rw [p1.len, List.take_of_length_le (Nat.le_refl _)] at e2
    subst e2
    refine ⟨_, ⟨d1, o, ka, sG _ _ g1, nf, rfl⟩, ?_⟩
    have sB := bk1 G sG
    have hB : upd G d1 (.dK ka) lc = some (.lst (((flat 4 S).filter (fun x => !decide (x = s'))).map V.int)) := by rw [upd_ne nlc]; exact e1
    generalize upd G d1 (.dK ka) = GB at sB hB ⊢
    refine ⟨fun σ G => σ = [some (.ref d1), some (.ref d2), some (.int s'), some ov, some (.int (d : Int)), some (.bl li), some (.ref lc), none, none] ∧ Same H G ∧ G lc = some (.lst (((flat 4 S).filter (fun x => !decide (x = s')) ++ if li = true then [s'] else []).map V.int)), ?_, ?_⟩
    · have lf := List.length_filter_le (fun x => !decide (x = s')) (flat 4 S)
      cases li with
      | true =>
        refine ⟨_, rfl, _, rfl, iteT ?_⟩
        exact ⟨_, rfl, .inl ⟨rfl, _, SqL.of hB⟩, _, rfl, lc, _, _, rfl, rfl, hB, by rw [List.length_map]; omega, rfl, same_put hlc0 sB, by rw [upd_same, if_pos rfl, List.map_append]; rfl⟩
      | false =>
        refine ⟨_, rfl, _, rfl, iteF ⟨rfl, sB, by rw [if_neg (by decide), List.append_nil]; exact hB⟩⟩
    rintro σ G2 ⟨rfl, s2, hL⟩
    obtain ⟨D, hDe⟩ : ∃ D, D = (flat 4 S).filter (fun x => !decide (x = s')) ++ if li = true then [s'] else [] := ⟨_, rfl⟩
    rw [← hDe] at pm hL
    have dl := pm.length_eq
    refine ⟨_, rfl, _, rfl, iteF ?_⟩
    refine ⟨_, rfl, d2, kb, flat 4 U, rfl, s2 _ _ h2, p2.ks, by omega, fun l1 ms hl1 pm1 so1 => ?_⟩
    have s3 := Same.new (o := HO.lst (ms.map V.int)) hl1
    have k3 := upd_same (H := G2) (a := l1) (o := HO.lst (ms.map V.int))
    generalize upd G2 l1 (HO.lst (ms.map V.int)) = G3 at s3 k3 ⊢
    refine ⟨_, rfl, lc, D, rfl, SqL.of (s3 _ _ hL), by omega, fun l2 ms2 hl2 pm2 so2 => ?_⟩
    have e : ms = ms2 := sorted_one so1 so2 (pm1.trans (pm.trans pm2.symm))
    subst e
    have hh := SeqEq.flatL (K := K) (n := 0) (SqL.of (Same.new (o := HO.lst (ms.map V.int)) hl2 _ _ k3)) (SqL.of (upd_same (H := G3) (a := l2) (o := HO.lst (ms.map V.int)))) (flatI _) (flatI _)
    rw [eqL_self' (flatI _)] at hh
    have s4 := s2.trans (s3.trans (Same.new (o := HO.lst (ms.map V.int)) hl2))
    refine ⟨0, _, by decide, hh, _, rfl, iteF ?_⟩
    generalize upd G3 l2 (HO.lst (ms.map V.int)) = G4 at s4 ⊢
    refine ⟨_, rfl, _, rfl, _, rfl, d1, d2, ka, kb, s', S, U, rfl, nd, s4 _ _ h1, s4 _ _ h2, p1.keep (fun a xs ha => s4 _ _ ha), p2.keep (fun a xs ha => s4 _ _ ha), wS, wU.1, stp.alk, fun G5 s5 => ⟨_, rfl, iteF ?_⟩⟩
    have s05 := s4.trans s5
    have hov : ov = .non ∨ ∃ o, ov = .int o := by
      rcases id stp with ⟨_, e, _⟩ | ⟨_, e, _⟩ | ⟨_, o, _, e, _⟩
      · exact .inl e
      · exact .inl e
      · exact .inr ⟨o, e⟩
    rcases hov with rfl | ⟨o2, rfl⟩
    · exact ⟨_, rfl, _, rfl, iteT (k _ s05)⟩
    refine ⟨_, rfl, _, rfl, iteF ?_⟩
    have h2' := s05 _ _ h2
    have p2' := p2.keep (fun a xs ha => s05 _ _ ha)
    have mem : s' ∈ flat 4 U ∧ o2 ∈ flat 4 U ∧ d ≤ 3 := by
      have mm := fun (h : o2 ≠ s') => stp.mem h
      rcases id stp with ⟨_, e, _⟩ | ⟨_, e, _⟩ | ⟨rfl, o3, q, e, ho, hos, hd, hw, hl⟩
      · cases e
      · cases e
      · cases e
        refine ⟨pm.mem_iff.mpr ?_, (mm hos).mpr ho, hd⟩
        rw [hDe, if_pos rfl]
        exact List.mem_append_right _ (List.mem_singleton.mpr rfl)
    refine ⟨_, rfl, d2, kb, rfl, h2', fun o nf => ?_⟩
    have g1 : upd G5 d2 (.frz o (.dK kb)) d2 = some (.frz o (.dK kb)) := upd_same
    have f1 : ∀ c u, c ≠ d2 → G5 c = some u → upd G5 d2 (.frz o (.dK kb)) c = some u := fun c u nc hc => by rw [upd_ne nc]; exact hc
    have bk1 : ∀ G, Same (upd G5 d2 (.frz o (.dK kb))) G → Same G5 (upd G d2 (.dK kb)) := fun G h c u hc => by
      by_cases q : c = d2
      · rw [q, upd_same]; rw [q, h2'] at hc; exact hc
      · rw [upd_ne q]; exact h c u (f1 c u q hc)
    have q2 := p2'.keep fun t xs h => f1 t _ (ne_of h h2' (by intro q; cases q)) h
    generalize upd G5 d2 (.frz o (.dK kb)) = G6 at g1 f1 bk1 q2 ⊢
    obtain ⟨ps, as, ls', vs', gs⟩ := q2.val s' mem.1
    obtain ⟨po, ao, lo, vo, go⟩ := q2.val o2 mem.2.1
    refine for_dict (kvs := kb) (f := fun p => kV p.1) rfl (fun i σ G => (∃ z7 z8, σ = [some (.ref d1), some (.ref d2), some (.int s'), some (.int o2), some (.int (d : Int)), some (.bl li), some (.ref lc), z7, z8]) ∧ Same G6 G) ⟨⟨_, _, rfl⟩, Same.refl _⟩ ?_ ?_ ?_
    · rintro i σ G _ ⟨_, sG⟩
      exact sG _ _ g1
    · rintro i e σ G he ⟨⟨z7, z8, rfl⟩, sG⟩
      obtain ⟨x, ex, hx1⟩ := q2.at he
      have hxm := List.mem_of_getElem? ex
      rw [hx1]
      refine ⟨_, rfl, _, rfl, rfl, _, rfl, ?_⟩
      refine ite2 (fun zx => ?_) (fun _ => ⟨⟨_, _, rfl⟩, sG⟩)
      have zx : (!decide (V.int x = V.int s')) = true := zx
      have zx : x ≠ s' := fun q => by rw [q, decide_eq_true rfl] at zx; exact absurd zx (by decide)
      obtain ⟨px, ax, lx, vx, gx⟩ := q2.val x hxm
      have nw := stp.new wS hin zx ls' lx lo
      refine ⟨_, rfl, _, rfl, _, rfl, d2, _, rfl, DGet.fv (k := Sum.inl x) (sG _ _ g1) vx, _, rfl, _, rfl, d2, _, rfl, DGet.fv (k := Sum.inl o2) (sG _ _ g1) vo, ax, ao, px, po, rfl, sG _ _ gx, sG _ _ go, lx.len, lo.len, fun G7 s7 => ?_⟩
      have sG7 := sG.trans s7
      walk_at "rd"
      have hmn : (if ((shr px po : Nat) : Int) < ((d : Nat) : Int) then ((shr px po : Nat) : Int) else ((d : Nat) : Int)) = ((shr ps px : Nat) : Int) := by
        rw [nw]
        split <;> omega
      refine ⟨fun σ G => G = G7 ∧ σ = [some (.ref d1), some (.ref d2), some (.int s'), some (.int o2), some (.int (d : Int)), some (.bl li), some (.ref lc), some (.int x), some (.int ((shr ps px : Nat) : Int))], ?_, ?_⟩
      · refine ⟨_, rfl, _, rfl, rfl, _, rfl, ?_⟩
        refine ite2 (fun z => ?_) (fun z => ⟨rfl, ?_⟩)
        · have z : x = o2 := V.int.inj (of_decide_eq_true z)
          subst z
          have e : po = px := by
            have := lo.first wU.1
            rw [lx.first wU.1] at this
            exact (Option.some.inj this).symm
          refine ⟨_, rfl, rfl, ?_⟩
          rw [nw, e, shr_self, Nat.min_eq_left mem.2.2]
          rfl
        · rw [hmn]
          rfl
      rintro σ G8 ⟨rfl, rfl⟩
      refine ⟨_, rfl, _, rfl, d2, _, rfl, DGet.fv (k := Sum.inl s') (sG7 _ _ g1) vs', _, rfl, _, rfl, d2, _, rfl, DGet.fv (k := Sum.inl x) (sG7 _ _ g1) vx, as, ax, ps, px, rfl, sG7 _ _ gs, sG7 _ _ gx, ls'.len, lx.len, fun G9 s9 => ?_⟩
      refine ⟨_, rfl, rfl, _, rfl, ?_⟩
      rw [decide_eq_true rfl]
      exact iteF ⟨⟨_, _, rfl⟩, sG7.trans s9⟩
    · rintro σ G ⟨⟨z7, z8, rfl⟩, sG⟩
      exact ⟨_, ⟨d2, o, kb, sG _ _ g1, nf, rfl⟩, k _ (s05.trans (bk1 G sG))⟩
set_option maxHeartbeats 4000000 in
theorem ok_law (T : Txt w K mg c) : FnOk P w K mg base CX0 13 c.a_law c.d_law ["_law_script"] (spLaw K) := by
  refine T.law.fn.ok sc_law (fun vs H Q E h => ?_) (fun cdv A outer s H vs Q E hr h => ?_)
  · obtain ⟨a, ns, rfl, _⟩ := h
    rfl
  · obtain ⟨a, ns, rfl, hS, hn, k⟩ := h
    refine ⟨_, (pss_cons (ps_set (i := 1) sc_law.nd rfl (Or.inl rfl) (pe_call (ok_Lcell_at T) (hr.mono (by decide)) rfl T.Lcell_at.mgf T.Lcell_at.kp T.Lcell_at.bi .nil pass0 (pa_cons (pv 0) (pa_cons pe_int pa_nil))))
      (pss_cons (ps_set (i := 2) sc_law.nd rfl (Or.inl rfl) (pe_lst pa_nil))
      (pss_cons (ps_set (i := 3) sc_law.nd rfl (Or.inl rfl) (pe_lst pa_nil))
      (pss_cons (ps_for PassesOwn.never rfl (pi_range1 rfl T.no_range (pa_cons (pe_callB (call_min2 rfl) rfl T.no_min bt_min (pa_cons (pe_callB call_len_seq rfl T.no_len bt_len (pa_cons (pv 0) pa_nil)) (pa_cons pe_int pa_nil))) pa_nil)) (pg_name (i := 4) sc_law.nd rfl (Or.inl rfl))
        (pss_cons (ps_set (i := 5) sc_law.nd rfl (Or.inl rfl) (pe_call (ok_Ldrawn T) (hr.mono (by decide)) rfl T.Ldrawn.mgf T.Ldrawn.kp T.Ldrawn.bi .nil pass0 (pa_cons (pv 0) (pa_cons (pv 4) pa_nil))))
      (pss_cons (ps_set (i := 6) sc_law.nd rfl (Or.inl rfl) (pe_call (ok_Lplaces T) (hr.mono (by decide)) rfl T.Lplaces.mgf T.Lplaces.kp T.Lplaces.bi .nil pass0 (pa_cons (pv 2) pa_nil)))
      (pss_cons (ps_asg (pe_call (ok_Lstep T) (hr.mono (by decide)) rfl T.Lstep.mgf T.Lstep.kp T.Lstep.bi .nil pass0 (pa_cons (pv 2) (pa_cons (pv 5) (pa_cons (pv 1) pa_nil)))) (pg_tupL rfl (pgs_cons (pg_name (i := 7) sc_law.nd rfl (Or.inl rfl)) (pgs_cons (pg_name (i := 8) sc_law.nd rfl (Or.inl rfl)) (pgs_cons (pg_name (i := 9) sc_law.nd rfl (Or.inl rfl)) (pgs_cons (pg_name (i := 10) sc_law.nd rfl (Or.inl rfl)) (pgs_cons (pg_name (i := 11) sc_law.nd rfl (Or.inl rfl)) pgs_nil)))))))
      (pss_cons (ps_if (pt_not (pt_val (pe_call (ok_Lright T) (hr.mono (by decide)) rfl T.Lright.mgf T.Lright.kp T.Lright.bi .nil pass0 (pa_cons (pv 6) (pa_cons (pe_call (ok_Lplaces T) (hr.mono (by decide)) rfl T.Lplaces.mgf T.Lplaces.kp T.Lplaces.bi .nil pass0 (pa_cons (pv 7) pa_nil)) (pa_cons (pv 8) (pa_cons (pv 9) (pa_cons (pv 10) (pa_cons (pv 11) pa_nil)))))))))
        (pss_one (ps_ret pe_bl))
        pss_nil)
      (pss_cons (ps_expr (pe_bm PySem.F.plainAttrs_list PySem.F.slot_list_append PySem.F.type_list_append (MtM.r mt_append) (pv 3) (pa_cons (pe_tup (pa_cons (pv 7) (pa_cons (pe_callS (ok_groups T) (hr.mono (by decide)) rfl T.groups.mgf T.groups.kp T.groups.bi .nil passE0 (pa_cons (pv 7) pa_nil)) pa_nil))) pa_nil)))
      (pss_cons (ps_set (i := 2) sc_law.nd rfl (Or.inl rfl) (pv 7))
      (pss_cons (ps_set (i := 12) sc_law.nd rfl (Or.inl rfl) (pe_op op_add (pe_call (ok_Lsheet_by T) (hr.mono (by decide)) rfl T.Lsheet_by.mgf T.Lsheet_by.kp T.Lsheet_by.bi .nil pass0 (pa_cons (pe_op op_fdiv (pv 5) pe_int) (pa_cons (pe_op op_add (pv 1) pe_int) pa_nil))) pe_int))
      (pss_one (ps_if (PW.pt (pw_or (pt_not (pt_val (pe_call (ok_Lrefused T) (hr.mono (by decide)) rfl T.Lrefused.mgf T.Lrefused.kp T.Lrefused.bi .nil pass0 (pa_cons (pv 2) (pa_cons (pv 12) (pa_cons pe_non pa_nil)))))) (pw_or1 (pt_not (pt_val (pe_call (ok_Lrefused T) (hr.mono (by decide)) rfl T.Lrefused.mgf T.Lrefused.kp T.Lrefused.bi .nil pass0 (pa_cons (pv 2) (pa_cons (pv 8) (pa_cons (pe_tup (pa_cons (pe_op op_add (pe_callB call_len_seq rfl T.no_len bt_len (pa_cons (pv 2) pa_nil)) pe_int) pa_nil)) pa_nil)))))))))
        (pss_one (ps_ret pe_bl))
        pss_nil))))))))))
      (pss_cons (ps_for PassesOwn.never rfl (pi_list (pv 3)) (pg_tup rfl (pgs_cons (pg_name (i := 7) sc_law.nd rfl (Or.inl rfl)) (pgs_cons (pg_name (i := 13) sc_law.nd rfl (Or.inl rfl)) pgs_nil)))
        (pss_one (ps_if (pt_cmpR (op_neD (hu62 hr)) (pe_callS (ok_groups T) (hr.mono (by decide)) rfl T.groups.mgf T.groups.kp T.groups.bi .nil passE0 (pa_cons (pv 7) pa_nil)) (pv 13) (nomark _))
        (pss_one (ps_ret pe_bl))
        pss_nil)))
      (pss_one (ps_ret pe_bl))))))), ?_⟩
    have sz : 2000 < sizeLine := le_ble rfl
    refine ⟨_, rfl, a, 0, ns, rfl, by decide, hS, fun fm => ?_⟩
    refine ⟨le_ble rfl, fun sa hsa => ?_⟩
    refine ⟨le_ble rfl, fun hl hhl => ?_⟩
    have s1 := (Same.new (o := HO.lst []) hsa).trans (Same.new (o := HO.lst []) hhl)
    have k1 := upd_same (H := upd H sa (.lst [])) (a := hl) (o := HO.lst [])
    have nsh : sa ≠ hl := fun z => by rw [← z, upd_same] at hhl; cases hhl
    have ka0 : upd (upd H sa (.lst [])) hl (.lst []) sa = some (.lst []) := by rw [upd_ne nsh, upd_same]
    generalize upd (upd H sa (.lst [])) hl (.lst []) = G1 at s1 k1 ka0 ⊢
    have off0 : Off hl G1 (.ref sa) ([] : List (Tr 3)) := fun G' f => ⟨sa, [], rfl, f sa _ nsh ka0, rfl, fun j w t h => by rw [List.getElem?_nil] at h; cases h⟩
    have lm : (ns.map V.int).length = ns.length := List.length_map ..
    have hl0 : H hl = none := by
      cases e : H hl with
      | none => rfl
      | some u => rw [Same.new (o := HO.lst []) hsa _ _ e] at hhl; cases hhl
    walk_at "rd"
    refine ⟨a, _, rfl, .inl (s1.seq hS), ?_⟩
    walk_at "rd"
    have hm2 : (if (50 : Int) < ((ns.map V.int).length : Int) then (50 : Int) else ((ns.map V.int).length : Int)) ≤ ns.length ∧ (if (50 : Int) < ((ns.map V.int).length : Int) then (50 : Int) else ((ns.map V.int).length : Int)) ≤ 50 ∧ 0 ≤ (if (50 : Int) < ((ns.map V.int).length : Int) then (50 : Int) else ((ns.map V.int).length : Int)) := by
      split <;> omega
    generalize (if (50 : Int) < ((ns.map V.int).length : Int) then (50 : Int) else ((ns.map V.int).length : Int)) = hi at hm2 ⊢
    refine ⟨by omega, by omega, ?_⟩
    refine for_range (lo := 0) (fun i σ G => (∃ v z4 z5 z6 z7 z8 z9 z10 z11 z12 z13, σ = [some (.ref a), some (.int fm), some v, some (.ref hl), z4, z5, z6, z7, z8, z9, z10, z11, z12, z13] ∧ ∃ S : Tr 4, Off hl G v S ∧ WF S ∧ (flat 4 S).length ≤ i ∧ ∀ x ∈ flat 4 S, shf fm x) ∧ Same H G ∧ i ≤ 50 ∧ ∃ hs, G hl = some (.lst hs) ∧ hs.length = i ∧ ∀ x ∈ hs, HeldT hl G x) ?_ ?_ ?_
    · exact ⟨⟨_, _, _, _, _, _, _, _, _, _, _, rfl, _, off0, WF.nil, Nat.le_refl _, fun x hx => nomatch hx⟩, s1, Nat.zero_le _, [], k1, rfl, fun x hx => nomatch hx⟩
    · rintro i σ G hi' ⟨⟨v, z4, z5, z6, z7, z8, z9, z10, z11, z12, z13, rfl, S, off, wf, hz, shs⟩, sG, hi5, hs, hH, hlen, held⟩
      have hi5' : i + 1 ≤ 50 := by omega
      refine ⟨_, rfl, _, rfl, a, 0 + (i : Int), ns, rfl, by omega, by omega, hn, sG.seq hS, fun num n0 => ?_⟩
      refine ⟨_, rfl, v, S, rfl, off.r, wf, by omega, fun d1 ka Ga sa1 hd1 hD1 pl1 => ?_⟩
      refine ⟨_, rfl, _, rfl, _, rfl, v, num, fm, S, rfl, (off.same sa1).r, wf, by omega, fun l tv s' ov d li U Gb sb hl' nw sh stp => ?_⟩
      have hin := shf_in0 sh
      have wU := stp.wf wf hin
      have hHa := sa1 _ _ hH
      have offU := Off.new (hl := hl) nw (by rw [hHa]; intro z; cases z)
      refine ⟨l, _, rfl, SqL.of hl', rfl, ?_⟩
      refine ⟨_, _, rfl, _, _, rfl, _, _, rfl, _, _, rfl, _, _, rfl, rfl, ?_⟩
      refine ⟨_, rfl, _, rfl, tv, U, rfl, nw.r, wU.1, by omega, fun d2 kb Gc sc hd2 hD2 pl2 => ?_⟩
      have sac := sb.trans sc
      have nd : d1 ≠ d2 := fun z => by
        have e := sb _ _ hD1
        rw [z, hd2] at e
        cases e
      refine ⟨_, rfl, _, rfl, _, rfl, _, rfl, d1, d2, ka, kb, s', ov, d, li, S, U, rfl, nd, sac _ _ hD1, hD2, pl1.keep (fun a xs ha => sac _ _ ha), pl2, wf, by omega, hin, stp, fun Gd sd => ⟨_, rfl, iteF ?_⟩⟩
      have sGd := sa1.trans (sac.trans sd)
      have offUd := offU.same (sc.trans sd)
      have hHd := sGd _ _ hH
      refine ⟨_, rfl, .inl ⟨rfl, _, SqL.of hHd⟩, _, rfl, _, rfl, tv, U, rfl, offUd.r, wU.1, by omega, fun l2 ws Ge se hl2 h2 r2 => ?_⟩
      have hHe := se _ _ hHd
      refine ⟨le_ble rfl, fun t ht => ?_⟩
      have st := Same.new (o := HO.tup [tv, .ref l2]) ht
      have ht5 := upd_same (H := Ge) (a := t) (o := HO.tup [tv, .ref l2])
      have hHf := st _ _ hHe
      have h2f := st _ _ h2
      have r2f := r2.same st
      have off5 := offUd.same (se.trans st)
      have sG5 := sGd.trans (se.trans st)
      generalize upd Ge t (HO.tup [tv, .ref l2]) = Gf at st ht5 hHf h2f r2f off5 sG5 ⊢
      refine ⟨hl, _, _, rfl, rfl, hHf, by omega, ?_⟩
      have nl2 : l2 ≠ hl := fun z => by rw [z, hHd] at hl2; cases hl2
      have newH : HeldT hl Gf (.ref t) := ⟨⟨t, tv, l2, ws, Gd, U, rfl, ht5, off5, wU.1, by omega, h2f, nl2, (by rw [hHd]; intro z; cases z), r2f⟩⟩
      have held' : ∀ x ∈ hs ++ [.ref t], HeldT hl (upd Gf hl (.lst (hs ++ [.ref t]))) x := fun x hx => (List.mem_append.mp hx).elim (fun h => ((held x h).same sG5).upd hHf) (fun h => by rw [List.mem_singleton.mp h]; exact newH.upd hHf)
      have sH : Same H (upd Gf hl (.lst (hs ++ [.ref t]))) := same_put hl0 (sG.trans sG5)
      have offV := off5.upd (o := HO.lst (hs ++ [.ref t]))
      have hHg := upd_same (H := Gf) (a := hl) (o := .lst (hs ++ [.ref t]))
      generalize upd Gf hl (.lst (hs ++ [.ref t])) = Gg at held' sH offV hHg ⊢
      have shs' : ∀ y ∈ flat 4 U, shf fm y := fun y hy => by
        by_cases e : y = s'
        · rw [e]; exact sh
        · exact shs y ((stp.mem e).mp hy)
      obtain ⟨ua, us, rfl, hUa, ulen⟩ := offV.r.lst
      refine ⟨_, rfl, ?_⟩
      walk_at "rd"
      refine fun x Gh sh2 shx => ?_
      have hno : x + 999 ∉ flat 4 U := fun h => shf_none (shs' _ h) shx rfl
      walk_at "rd"
      refine ⟨.ref ua, x + 999, .non, U, rfl, (offV.same sh2).r, wU.1, by omega, shf_in shx (by decide) (by decide), .inl ⟨rfl, hno⟩, fun Gi si => ⟨_, rfl, iteF ?_⟩⟩
      have sgi := sh2.trans si
      refine ⟨_, rfl, _, rfl, _, rfl, ua, _, rfl, .inl (SqL.of (sgi _ _ hUa)), ?_⟩
      refine ⟨_, _, rfl, rfl, le_ble rfl, fun t2 ht2 => ?_⟩
      have sgj := sgi.trans (Same.new (o := HO.tup [.int ((us.length : Int) + 1)]) ht2)
      have wl := wo_ls (S := U) (s := s')
      refine ⟨.ref ua, s', .ref t2, U, rfl, (offV.same sgj).r, wU.1, by omega, hin, .inr ⟨t2, [(us.length : Int) + 1], rfl, IsP.path (p := [(us.length : Int) + 1]) upd_same (fun i hi => by rw [List.mem_singleton.mp hi]; omega) (le_ble rfl) (le_ble rfl), lay_no0 (by omega) (by omega)⟩, fun Gj sj => ⟨_, rfl, iteF ?_⟩⟩
      have sgk := sgj.trans sj
      exact ⟨⟨_, _, _, _, _, _, _, _, _, _, _, rfl, U, offV.same sgk, wU.1, by omega, shs'⟩, sH.trans sgk, hi5', _, sgk _ _ hHg, by rw [List.length_append, hlen]; rfl, fun x hx => (held' x hx).same sgk⟩
    · rintro σ G ⟨⟨v, z4, z5, z6, z7, z8, z9, z10, z11, z12, z13, rfl, S, off, wf, hz, shs⟩, sG, hi5, hs, hH, hlen, held⟩
      refine ⟨_, rfl, hl, rfl, ⟨_, SqL.of hH⟩, ?_⟩
      refine for_list (xs := hs) (fun i σ G' => (∃ z7 z13, σ = [some (.ref a), some (.int fm), some v, some (.ref hl), z4, z5, z6, z7, z8, z9, z10, z11, z12, z13]) ∧ Same G G') ⟨⟨_, _, rfl⟩, Same.refl _⟩ ?_ ?_ ?_
      · rintro i σ G' _ ⟨_, s'⟩
        exact SqL.of (s' _ _ hH)
      · rintro i x σ G' hx ⟨⟨z7, z13, rfl⟩, s'⟩
        obtain ⟨t, tv, l, ws, Gx, U, rfl, ht, offU, wU, lU, hl2, _, _, r2⟩ := (held x (List.mem_of_getElem? hx)).ex
        refine ⟨t, _, rfl, SqT.of (s' _ _ ht), rfl, _, _, rfl, _, _, rfl, rfl, ?_⟩
        refine ⟨_, rfl, tv, U, rfl, (offU.same s').r, wU, lU, fun l3 ws3 G3 s3 _ h3 r3 => ?_⟩
        exact ⟨_, rfl, 2, _, by decide, rows_alike h3 ((s'.trans s3) _ _ hl2) r3 (r2.same (s'.trans s3)), _, rfl, iteF ⟨⟨_, _, rfl⟩, s'.trans s3⟩⟩
      · rintro σ G' ⟨⟨z7, z13, rfl⟩, s'⟩
        exact k _
end
theorem all_mk {l : PySem.W.OpenLaw} {w : World} {K : PySem.W.Frag} {h : Heap} {mg : Str → Option Value} {fa : Addr} (X : K.In h) (G : h.Ns mainGlobals mg) (hfa : mg "law" = some (.ref fa))
    {f0 : Addr} {od0 an0 : Option Addr} {sl0 : Array (Option Value)} {oc0 kV0 dc0 pm0 cd0 ct0 : Value}
    {f1 : Addr} {od1 an1 : Option Addr} {sl1 : Array (Option Value)} {oc1 kV1 dc1 pm1 cd1 ct1 : Value}
    {f2 : Addr} {od2 an2 : Option Addr} {sl2 : Array (Option Value)} {oc2 kV2 dc2 pm2 cd2 ct2 : Value}
    {f3 : Addr} {od3 an3 : Option Addr} {sl3 : Array (Option Value)} {oc3 kV3 dc3 pm3 cd3 ct3 : Value}
    {f4 : Addr} {od4 an4 : Option Addr} {sl4 : Array (Option Value)} {oc4 kV4 dc4 pm4 cd4 ct4 : Value}
    {f5 : Addr} {od5 an5 : Option Addr} {sl5 : Array (Option Value)} {oc5 kV5 dc5 pm5 cd5 ct5 : Value}
    {f6 : Addr} {od6 an6 : Option Addr} {sl6 : Array (Option Value)} {oc6 kV6 dc6 pm6 cd6 ct6 : Value}
    {f7 : Addr} {od7 an7 : Option Addr} {sl7 : Array (Option Value)} {oc7 kV7 dc7 pm7 cd7 ct7 : Value}
    {f8 : Addr} {od8 an8 : Option Addr} {sl8 : Array (Option Value)} {oc8 kV8 dc8 pm8 cd8 ct8 : Value}
    {f9 : Addr} {od9 an9 : Option Addr} {sl9 : Array (Option Value)} {oc9 kV9 dc9 pm9 cd9 ct9 : Value}
    {f10 : Addr} {od10 an10 : Option Addr} {sl10 : Array (Option Value)} {oc10 kV10 dc10 pm10 cd10 ct10 : Value}
    {f11 : Addr} {od11 an11 : Option Addr} {sl11 : Array (Option Value)} {oc11 kV11 dc11 pm11 cd11 ct11 : Value}
    {f12 : Addr} {od12 an12 : Option Addr} {sl12 : Array (Option Value)} {oc12 kV12 dc12 pm12 cd12 ct12 : Value}
    {f13 : Addr} {od13 an13 : Option Addr} {sl13 : Array (Option Value)} {oc13 kV13 dc13 pm13 cd13 ct13 : Value}
    {f14 : Addr} {od14 an14 : Option Addr} {sl14 : Array (Option Value)} {oc14 kV14 dc14 pm14 cd14 ct14 : Value}
    {f15 : Addr} {od15 an15 : Option Addr} {sl15 : Array (Option Value)} {oc15 kV15 dc15 pm15 cd15 ct15 : Value}
    {f16 : Addr} {od16 an16 : Option Addr} {sl16 : Array (Option Value)} {oc16 kV16 dc16 pm16 cd16 ct16 : Value}
    {f17 : Addr} {od17 an17 : Option Addr} {sl17 : Array (Option Value)} {oc17 kV17 dc17 pm17 cd17 ct17 : Value}
    {f18 : Addr} {od18 an18 : Option Addr} {sl18 : Array (Option Value)} {oc18 kV18 dc18 pm18 cd18 ct18 : Value}
    {f19 : Addr} {od19 an19 : Option Addr} {sl19 : Array (Option Value)} {oc19 kV19 dc19 pm19 cd19 ct19 : Value}
    {f20 : Addr} {od20 an20 : Option Addr} {sl20 : Array (Option Value)} {oc20 kV20 dc20 pm20 cd20 ct20 : Value}
    {f21 : Addr} {od21 an21 : Option Addr} {sl21 : Array (Option Value)} {oc21 kV21 dc21 pm21 cd21 ct21 : Value}
    {f22 : Addr} {od22 an22 : Option Addr} {sl22 : Array (Option Value)} {oc22 kV22 dc22 pm22 cd22 ct22 : Value}
    {f23 : Addr} {od23 an23 : Option Addr} {sl23 : Array (Option Value)} {oc23 kV23 dc23 pm23 cd23 ct23 : Value}
    {f24 : Addr} {od24 an24 : Option Addr} {sl24 : Array (Option Value)} {oc24 kV24 dc24 pm24 cd24 ct24 : Value}
    {f25 : Addr} {od25 an25 : Option Addr} {sl25 : Array (Option Value)} {oc25 kV25 dc25 pm25 cd25 ct25 : Value}
    {f26 : Addr} {od26 an26 : Option Addr} {sl26 : Array (Option Value)} {oc26 kV26 dc26 pm26 cd26 ct26 : Value}
    {u_LAST_NUMBER : Value}
    {u_FORM_DEPTH : Value}
    {c_NoSorting : Addr}
    {c_NoSheet : Addr}
    {c_NoPath : Addr}
    {c_RightError : Addr}
    {N_NoSorting A_NoSorting : Addr} {nm_NoSorting q_NoSorting : Str} {bs_NoSorting : List Value} {hd_NoSorting : Bool} {sn_NoSorting : List Str} {sub_NoSorting : List Value} {ab_NoSorting : Bool} {col_NoSorting : Option Bool} {dd_NoSorting : Option Addr} {k0_NoSorting k1_NoSorting k2_NoSorting k3_NoSorting k5_NoSorting : Option Value}
    {es_NoSorting : Array DictEntry} {x1_NoSorting : Value} {x2_NoSorting : Option Addr} {x3_NoSorting : Nat} {x4_NoSorting : Array (Option Value)} {y0_NoSorting : Value} {y1_NoSorting : Option Addr} {y2_NoSorting : ClassData} {y3_NoSorting : Array (Option Value)} {et_NoSorting : Array DictEntry} {z1_NoSorting : Value} {z2_NoSorting : Option Addr} {z3_NoSorting : Nat} {z4_NoSorting : Array (Option Value)}
    {N_NoSheet A_NoSheet : Addr} {nm_NoSheet q_NoSheet : Str} {bs_NoSheet : List Value} {hd_NoSheet : Bool} {sn_NoSheet : List Str} {sub_NoSheet : List Value} {ab_NoSheet : Bool} {col_NoSheet : Option Bool} {dd_NoSheet : Option Addr} {k0_NoSheet k1_NoSheet k2_NoSheet k3_NoSheet k5_NoSheet : Option Value}
    {es_NoSheet : Array DictEntry} {x1_NoSheet : Value} {x2_NoSheet : Option Addr} {x3_NoSheet : Nat} {x4_NoSheet : Array (Option Value)} {y0_NoSheet : Value} {y1_NoSheet : Option Addr} {y2_NoSheet : ClassData} {y3_NoSheet : Array (Option Value)} {et_NoSheet : Array DictEntry} {z1_NoSheet : Value} {z2_NoSheet : Option Addr} {z3_NoSheet : Nat} {z4_NoSheet : Array (Option Value)}
    {N_NoPath A_NoPath : Addr} {nm_NoPath q_NoPath : Str} {bs_NoPath : List Value} {hd_NoPath : Bool} {sn_NoPath : List Str} {sub_NoPath : List Value} {ab_NoPath : Bool} {col_NoPath : Option Bool} {dd_NoPath : Option Addr} {k0_NoPath k1_NoPath k2_NoPath k3_NoPath k5_NoPath : Option Value}
    {es_NoPath : Array DictEntry} {x1_NoPath : Value} {x2_NoPath : Option Addr} {x3_NoPath : Nat} {x4_NoPath : Array (Option Value)} {y0_NoPath : Value} {y1_NoPath : Option Addr} {y2_NoPath : ClassData} {y3_NoPath : Array (Option Value)} {et_NoPath : Array DictEntry} {z1_NoPath : Value} {z2_NoPath : Option Addr} {z3_NoPath : Nat} {z4_NoPath : Array (Option Value)}
    (a0 : PySem.W.nsIn K mainGlobals "is_whole" = some (some (.ref f0)))
    (l0 : K.lookup f0 = some ⟨oc0, od0, .func (PySem.W.fnOf "is_whole" "is_whole" (defArgs s_is_whole) (defBody s_is_whole) (defScope s_is_whole) .none kV0 dc0 pm0 an0 cd0 ct0), sl0⟩)
    (c0 : PySem.W.codeIn K cd0 "is_whole" = true)
    (k0 : PySem.W.keepIn K (.ref f0) = true)
    (a1 : PySem.W.nsIn K mainGlobals "is_number" = some (some (.ref f1)))
    (l1 : K.lookup f1 = some ⟨oc1, od1, .func (PySem.W.fnOf "is_number" "is_number" (defArgs s_is_number) (defBody s_is_number) (defScope s_is_number) .none kV1 dc1 pm1 an1 cd1 ct1), sl1⟩)
    (c1 : PySem.W.codeIn K cd1 "is_number" = true)
    (k1 : PySem.W.keepIn K (.ref f1) = true)
    (a2 : PySem.W.nsIn K mainGlobals "sorting_list" = some (some (.ref f2)))
    (l2 : K.lookup f2 = some ⟨oc2, od2, .func (PySem.W.fnOf "sorting_list" "sorting_list" (defArgs s_sorting_list) (defBody s_sorting_list) (defScope s_sorting_list) .none kV2 dc2 pm2 an2 cd2 ct2), sl2⟩)
    (c2 : PySem.W.codeIn K cd2 "sorting_list" = true)
    (k2 : PySem.W.keepIn K (.ref f2) = true)
    (a3 : PySem.W.nsIn K mainGlobals "group_list" = some (some (.ref f3)))
    (l3 : K.lookup f3 = some ⟨oc3, od3, .func (PySem.W.fnOf "group_list" "group_list" (defArgs s_group_list) (defBody s_group_list) (defScope s_group_list) .none kV3 dc3 pm3 an3 cd3 ct3), sl3⟩)
    (c3 : PySem.W.codeIn K cd3 "group_list" = true)
    (k3 : PySem.W.keepIn K (.ref f3) = true)
    (a4 : PySem.W.nsIn K mainGlobals "sheet_list" = some (some (.ref f4)))
    (l4 : K.lookup f4 = some ⟨oc4, od4, .func (PySem.W.fnOf "sheet_list" "sheet_list" (defArgs s_sheet_list) (defBody s_sheet_list) (defScope s_sheet_list) .none kV4 dc4 pm4 an4 cd4 ct4), sl4⟩)
    (c4 : PySem.W.codeIn K cd4 "sheet_list" = true)
    (k4 : PySem.W.keepIn K (.ref f4) = true)
    (a5 : PySem.W.nsIn K mainGlobals "groups" = some (some (.ref f5)))
    (l5 : K.lookup f5 = some ⟨oc5, od5, .func (PySem.W.fnOf "groups" "groups" (defArgs s_groups) (defBody s_groups) (defScope s_groups) .none kV5 dc5 pm5 an5 cd5 ct5), sl5⟩)
    (c5 : PySem.W.codeIn K cd5 "groups" = true)
    (k5 : PySem.W.keepIn K (.ref f5) = true)
    (a6 : PySem.W.nsIn K mainGlobals "groups_in" = some (some (.ref f6)))
    (l6 : K.lookup f6 = some ⟨oc6, od6, .func (PySem.W.fnOf "groups_in" "groups_in" (defArgs s_groups_in) (defBody s_groups_in) (defScope s_groups_in) .none kV6 dc6 pm6 an6 cd6 ct6), sl6⟩)
    (c6 : PySem.W.codeIn K cd6 "groups_in" = true)
    (k6 : PySem.W.keepIn K (.ref f6) = true)
    (a7 : PySem.W.nsIn K mainGlobals "sheets_of" = some (some (.ref f7)))
    (l7 : K.lookup f7 = some ⟨oc7, od7, .func (PySem.W.fnOf "sheets_of" "sheets_of" (defArgs s_sheets_of) (defBody s_sheets_of) (defScope s_sheets_of) .none kV7 dc7 pm7 an7 cd7 ct7), sl7⟩)
    (c7 : PySem.W.codeIn K cd7 "sheets_of" = true)
    (k7 : PySem.W.keepIn K (.ref f7) = true)
    (a8 : PySem.W.nsIn K mainGlobals "refuse_sheet" = some (some (.ref f8)))
    (l8 : K.lookup f8 = some ⟨oc8, od8, .func (PySem.W.fnOf "refuse_sheet" "refuse_sheet" (defArgs s_refuse_sheet) (defBody s_refuse_sheet) (defScope s_refuse_sheet) .none kV8 dc8 pm8 an8 cd8 ct8), sl8⟩)
    (c8 : PySem.W.codeIn K cd8 "refuse_sheet" = true)
    (k8 : PySem.W.keepIn K (.ref f8) = true)
    (a9 : PySem.W.nsIn K mainGlobals "path_of" = some (some (.ref f9)))
    (l9 : K.lookup f9 = some ⟨oc9, od9, .func (PySem.W.fnOf "path_of" "path_of" (defArgs s_path_of) (defBody s_path_of) (defScope s_path_of) .none kV9 dc9 pm9 an9 cd9 ct9), sl9⟩)
    (c9 : PySem.W.codeIn K cd9 "path_of" = true)
    (k9 : PySem.W.keepIn K (.ref f9) = true)
    (a10 : PySem.W.nsIn K mainGlobals "without" = some (some (.ref f10)))
    (l10 : K.lookup f10 = some ⟨oc10, od10, .func (PySem.W.fnOf "without" "without" (defArgs s_without) (defBody s_without) (defScope s_without) .none kV10 dc10 pm10 an10 cd10 ct10), sl10⟩)
    (c10 : PySem.W.codeIn K cd10 "without" = true)
    (k10 : PySem.W.keepIn K (.ref f10) = true)
    (a11 : PySem.W.nsIn K mainGlobals "taken" = some (some (.ref f11)))
    (l11 : K.lookup f11 = some ⟨oc11, od11, .func (PySem.W.fnOf "taken" "taken" (defArgs s_taken) (defBody s_taken) (defScope s_taken) .none kV11 dc11 pm11 an11 cd11 ct11), sl11⟩)
    (c11 : PySem.W.codeIn K cd11 "taken" = true)
    (k11 : PySem.W.keepIn K (.ref f11) = true)
    (a12 : PySem.W.nsIn K mainGlobals "laid" = some (some (.ref f12)))
    (l12 : K.lookup f12 = some ⟨oc12, od12, .func (PySem.W.fnOf "laid" "laid" (defArgs s_laid) (defBody s_laid) (defScope s_laid) .none kV12 dc12 pm12 an12 cd12 ct12), sl12⟩)
    (c12 : PySem.W.codeIn K cd12 "laid" = true)
    (k12 : PySem.W.keepIn K (.ref f12) = true)
    (a13 : PySem.W.nsIn K mainGlobals "is_path" = some (some (.ref f13)))
    (l13 : K.lookup f13 = some ⟨oc13, od13, .func (PySem.W.fnOf "is_path" "is_path" (defArgs s_is_path) (defBody s_is_path) (defScope s_is_path) .none kV13 dc13 pm13 an13 cd13 ct13), sl13⟩)
    (c13 : PySem.W.codeIn K cd13 "is_path" = true)
    (k13 : PySem.W.keepIn K (.ref f13) = true)
    (a14 : PySem.W.nsIn K mainGlobals "put_sheet" = some (some (.ref f14)))
    (l14 : K.lookup f14 = some ⟨oc14, od14, .func (PySem.W.fnOf "put_sheet" "put_sheet" (defArgs s_put_sheet) (defBody s_put_sheet) (defScope s_put_sheet) .none kV14 dc14 pm14 an14 cd14 ct14), sl14⟩)
    (c14 : PySem.W.codeIn K cd14 "put_sheet" = true)
    (k14 : PySem.W.keepIn K (.ref f14) = true)
    (a15 : PySem.W.nsIn K mainGlobals "new_group" = some (some (.ref f15)))
    (l15 : K.lookup f15 = some ⟨oc15, od15, .func (PySem.W.fnOf "new_group" "new_group" (defArgs s_new_group) (defBody s_new_group) (defScope s_new_group) .none kV15 dc15 pm15 an15 cd15 ct15), sl15⟩)
    (c15 : PySem.W.codeIn K cd15 "new_group" = true)
    (k15 : PySem.W.keepIn K (.ref f15) = true)
    (a16 : PySem.W.nsIn K mainGlobals "_law_cell_at" = some (some (.ref f16)))
    (l16 : K.lookup f16 = some ⟨oc16, od16, .func (PySem.W.fnOf "_law_cell_at" "_law_cell_at" (defArgs s_Lcell_at) (defBody s_Lcell_at) (defScope s_Lcell_at) .none kV16 dc16 pm16 an16 cd16 ct16), sl16⟩)
    (c16 : PySem.W.codeIn K cd16 "_law_cell_at" = true)
    (k16 : PySem.W.keepIn K (.ref f16) = true)
    (a17 : PySem.W.nsIn K mainGlobals "_law_drawn" = some (some (.ref f17)))
    (l17 : K.lookup f17 = some ⟨oc17, od17, .func (PySem.W.fnOf "_law_drawn" "_law_drawn" (defArgs s_Ldrawn) (defBody s_Ldrawn) (defScope s_Ldrawn) .none kV17 dc17 pm17 an17 cd17 ct17), sl17⟩)
    (c17 : PySem.W.codeIn K cd17 "_law_drawn" = true)
    (k17 : PySem.W.keepIn K (.ref f17) = true)
    (a18 : PySem.W.nsIn K mainGlobals "_law_sheet_by" = some (some (.ref f18)))
    (l18 : K.lookup f18 = some ⟨oc18, od18, .func (PySem.W.fnOf "_law_sheet_by" "_law_sheet_by" (defArgs s_Lsheet_by) (defBody s_Lsheet_by) (defScope s_Lsheet_by) .none kV18 dc18 pm18 an18 cd18 ct18), sl18⟩)
    (c18 : PySem.W.codeIn K cd18 "_law_sheet_by" = true)
    (k18 : PySem.W.keepIn K (.ref f18) = true)
    (a19 : PySem.W.nsIn K mainGlobals "_law_places" = some (some (.ref f19)))
    (l19 : K.lookup f19 = some ⟨oc19, od19, .func (PySem.W.fnOf "_law_places" "_law_places" (defArgs s_Lplaces) (defBody s_Lplaces) (defScope s_Lplaces) .none kV19 dc19 pm19 an19 cd19 ct19), sl19⟩)
    (c19 : PySem.W.codeIn K cd19 "_law_places" = true)
    (k19 : PySem.W.keepIn K (.ref f19) = true)
    (a20 : PySem.W.nsIn K mainGlobals "_law_share" = some (some (.ref f20)))
    (l20 : K.lookup f20 = some ⟨oc20, od20, .func (PySem.W.fnOf "_law_share" "_law_share" (defArgs s_Lshare) (defBody s_Lshare) (defScope s_Lshare) .none kV20 dc20 pm20 an20 cd20 ct20), sl20⟩)
    (c20 : PySem.W.codeIn K cd20 "_law_share" = true)
    (k20 : PySem.W.keepIn K (.ref f20) = true)
    (a21 : PySem.W.nsIn K mainGlobals "_law_alike" = some (some (.ref f21)))
    (l21 : K.lookup f21 = some ⟨oc21, od21, .func (PySem.W.fnOf "_law_alike" "_law_alike" (defArgs s_Lalike) (defBody s_Lalike) (defScope s_Lalike) .none kV21 dc21 pm21 an21 cd21 ct21), sl21⟩)
    (c21 : PySem.W.codeIn K cd21 "_law_alike" = true)
    (k21 : PySem.W.keepIn K (.ref f21) = true)
    (a22 : PySem.W.nsIn K mainGlobals "_law_refused" = some (some (.ref f22)))
    (l22 : K.lookup f22 = some ⟨oc22, od22, .func (PySem.W.fnOf "_law_refused" "_law_refused" (defArgs s_Lrefused) (defBody s_Lrefused) (defScope s_Lrefused) .none kV22 dc22 pm22 an22 cd22 ct22), sl22⟩)
    (c22 : PySem.W.codeIn K cd22 "_law_refused" = true)
    (k22 : PySem.W.keepIn K (.ref f22) = true)
    (a23 : PySem.W.nsIn K mainGlobals "_law_laid_by" = some (some (.ref f23)))
    (l23 : K.lookup f23 = some ⟨oc23, od23, .func (PySem.W.fnOf "_law_laid_by" "_law_laid_by" (defArgs s_Llaid_by) (defBody s_Llaid_by) (defScope s_Llaid_by) .none kV23 dc23 pm23 an23 cd23 ct23), sl23⟩)
    (c23 : PySem.W.codeIn K cd23 "_law_laid_by" = true)
    (k23 : PySem.W.keepIn K (.ref f23) = true)
    (a24 : PySem.W.nsIn K mainGlobals "_law_step" = some (some (.ref f24)))
    (l24 : K.lookup f24 = some ⟨oc24, od24, .func (PySem.W.fnOf "_law_step" "_law_step" (defArgs s_Lstep) (defBody s_Lstep) (defScope s_Lstep) .none kV24 dc24 pm24 an24 cd24 ct24), sl24⟩)
    (c24 : PySem.W.codeIn K cd24 "_law_step" = true)
    (k24 : PySem.W.keepIn K (.ref f24) = true)
    (a25 : PySem.W.nsIn K mainGlobals "_law_right" = some (some (.ref f25)))
    (l25 : K.lookup f25 = some ⟨oc25, od25, .func (PySem.W.fnOf "_law_right" "_law_right" (defArgs s_Lright) (defBody s_Lright) (defScope s_Lright) .none kV25 dc25 pm25 an25 cd25 ct25), sl25⟩)
    (c25 : PySem.W.codeIn K cd25 "_law_right" = true)
    (k25 : PySem.W.keepIn K (.ref f25) = true)
    (a26 : PySem.W.nsIn K mainGlobals "law" = some (some (.ref f26)))
    (l26 : K.lookup f26 = some ⟨oc26, od26, .func (PySem.W.fnOf "law" "law" (defArgs s_law) (defBody s_law) (defScope s_law) .none kV26 dc26 pm26 an26 cd26 ct26), sl26⟩)
    (c26 : PySem.W.codeIn K cd26 "law" = true)
    (k26 : PySem.W.keepIn K (.ref f26) = true)
    (cg_LAST_NUMBER : PySem.W.nsIn K mainGlobals "LAST_NUMBER" = some (some u_LAST_NUMBER))
    (cr_LAST_NUMBER : RelV (.int 1000000000) u_LAST_NUMBER)
    (cg_FORM_DEPTH : PySem.W.nsIn K mainGlobals "FORM_DEPTH" = some (some u_FORM_DEPTH))
    (cr_FORM_DEPTH : RelV (.int 3) u_FORM_DEPTH)
    (cg_NoSorting : PySem.W.nsIn K mainGlobals "NoSorting" = some (some (.ref c_NoSorting)))
    (cg_NoSheet : PySem.W.nsIn K mainGlobals "NoSheet" = some (some (.ref c_NoSheet)))
    (cg_NoPath : PySem.W.nsIn K mainGlobals "NoPath" = some (some (.ref c_NoPath)))
    (cg_RightError : PySem.W.nsIn K mainGlobals "RightError" = some (some (.ref c_RightError)))
    (xl_NoSorting : K.lookup c_NoSorting = some (excClassObj nm_NoSorting q_NoSorting c_NoSorting N_NoSorting bs_NoSorting (.ref A_NoSorting :: vmro) hd_NoSorting sn_NoSorting sub_NoSorting ab_NoSorting col_NoSorting dd_NoSorting k0_NoSorting k1_NoSorting k2_NoSorting k3_NoSorting k5_NoSorting "ValueError.__new__"))
    (xn_NoSorting : K.lookup N_NoSorting = some ⟨x1_NoSorting, x2_NoSorting, .dict es_NoSorting x3_NoSorting, x4_NoSorting⟩)
    (xs_NoSorting : strKeysB es_NoSorting = true)
    (xi_NoSorting : nsFind es_NoSorting "__init__" = none)
    (xa_NoSorting : K.lookup A_NoSorting = some { cls := y0_NoSorting, dict := y1_NoSorting, data := .cls y2_NoSorting, slots := y3_NoSorting })
    (xb_NoSorting : K.lookup y2_NoSorting.ns = some ⟨z1_NoSorting, z2_NoSorting, .dict et_NoSorting z3_NoSorting, z4_NoSorting⟩)
    (xt_NoSorting : strKeysB et_NoSorting = true)
    (xj_NoSorting : nsFind et_NoSorting "__init__" = none)
    (qcs_NoSorting : (PySem.W.clsIn K c_NoSorting).isSome = true)
    (qga_NoSorting : PySem.W.findIn K (.ref c_NoSorting) "__getattribute__" = some (some (.builtin "BaseException.__getattribute__")))
    (qgt_NoSorting : PySem.W.findIn K (.ref c_NoSorting) "__getattr__" = some none)
    (qca_NoSorting : PySem.W.findIn K (.ref c_NoSorting) "__class__" = some (some (.builtin "object.__class__")))
    (qgg_NoSorting : PySem.W.specialIn K (.builtin "object.__class__") "__get__" = some (some (.builtin "getset_descriptor.__get__")))
    (qtk_NoSorting : PySem.W.takesIn K (.builtin "object.__class__") = some true)
    (qmo_NoSorting : PySem.W.mroIn K c_NoSorting (.type "object") = some true)
    (qsb_NoSorting : PySem.W.subIn K (.ref c_NoSorting) (.type "BaseException") = some true)
    (e_NoSorting_RightError : PySem.W.exmOne K (.ref c_NoSorting) (.ref c_RightError) = some true)
    (xl_NoSheet : K.lookup c_NoSheet = some (excClassObj nm_NoSheet q_NoSheet c_NoSheet N_NoSheet bs_NoSheet (.ref A_NoSheet :: vmro) hd_NoSheet sn_NoSheet sub_NoSheet ab_NoSheet col_NoSheet dd_NoSheet k0_NoSheet k1_NoSheet k2_NoSheet k3_NoSheet k5_NoSheet "ValueError.__new__"))
    (xn_NoSheet : K.lookup N_NoSheet = some ⟨x1_NoSheet, x2_NoSheet, .dict es_NoSheet x3_NoSheet, x4_NoSheet⟩)
    (xs_NoSheet : strKeysB es_NoSheet = true)
    (xi_NoSheet : nsFind es_NoSheet "__init__" = none)
    (xa_NoSheet : K.lookup A_NoSheet = some { cls := y0_NoSheet, dict := y1_NoSheet, data := .cls y2_NoSheet, slots := y3_NoSheet })
    (xb_NoSheet : K.lookup y2_NoSheet.ns = some ⟨z1_NoSheet, z2_NoSheet, .dict et_NoSheet z3_NoSheet, z4_NoSheet⟩)
    (xt_NoSheet : strKeysB et_NoSheet = true)
    (xj_NoSheet : nsFind et_NoSheet "__init__" = none)
    (qcs_NoSheet : (PySem.W.clsIn K c_NoSheet).isSome = true)
    (qga_NoSheet : PySem.W.findIn K (.ref c_NoSheet) "__getattribute__" = some (some (.builtin "BaseException.__getattribute__")))
    (qgt_NoSheet : PySem.W.findIn K (.ref c_NoSheet) "__getattr__" = some none)
    (qca_NoSheet : PySem.W.findIn K (.ref c_NoSheet) "__class__" = some (some (.builtin "object.__class__")))
    (qgg_NoSheet : PySem.W.specialIn K (.builtin "object.__class__") "__get__" = some (some (.builtin "getset_descriptor.__get__")))
    (qtk_NoSheet : PySem.W.takesIn K (.builtin "object.__class__") = some true)
    (qmo_NoSheet : PySem.W.mroIn K c_NoSheet (.type "object") = some true)
    (qsb_NoSheet : PySem.W.subIn K (.ref c_NoSheet) (.type "BaseException") = some true)
    (e_NoSheet_RightError : PySem.W.exmOne K (.ref c_NoSheet) (.ref c_RightError) = some true)
    (xl_NoPath : K.lookup c_NoPath = some (excClassObj nm_NoPath q_NoPath c_NoPath N_NoPath bs_NoPath (.ref A_NoPath :: vmro) hd_NoPath sn_NoPath sub_NoPath ab_NoPath col_NoPath dd_NoPath k0_NoPath k1_NoPath k2_NoPath k3_NoPath k5_NoPath "ValueError.__new__"))
    (xn_NoPath : K.lookup N_NoPath = some ⟨x1_NoPath, x2_NoPath, .dict es_NoPath x3_NoPath, x4_NoPath⟩)
    (xs_NoPath : strKeysB es_NoPath = true)
    (xi_NoPath : nsFind es_NoPath "__init__" = none)
    (xa_NoPath : K.lookup A_NoPath = some { cls := y0_NoPath, dict := y1_NoPath, data := .cls y2_NoPath, slots := y3_NoPath })
    (xb_NoPath : K.lookup y2_NoPath.ns = some ⟨z1_NoPath, z2_NoPath, .dict et_NoPath z3_NoPath, z4_NoPath⟩)
    (xt_NoPath : strKeysB et_NoPath = true)
    (xj_NoPath : nsFind et_NoPath "__init__" = none)
    (qcs_NoPath : (PySem.W.clsIn K c_NoPath).isSome = true)
    (qga_NoPath : PySem.W.findIn K (.ref c_NoPath) "__getattribute__" = some (some (.builtin "BaseException.__getattribute__")))
    (qgt_NoPath : PySem.W.findIn K (.ref c_NoPath) "__getattr__" = some none)
    (qca_NoPath : PySem.W.findIn K (.ref c_NoPath) "__class__" = some (some (.builtin "object.__class__")))
    (qgg_NoPath : PySem.W.specialIn K (.builtin "object.__class__") "__get__" = some (some (.builtin "getset_descriptor.__get__")))
    (qtk_NoPath : PySem.W.takesIn K (.builtin "object.__class__") = some true)
    (qmo_NoPath : PySem.W.mroIn K c_NoPath (.type "object") = some true)
    (qsb_NoPath : PySem.W.subIn K (.ref c_NoPath) (.type "BaseException") = some true)
    (e_NoPath_RightError : PySem.W.exmOne K (.ref c_NoPath) (.ref c_RightError) = some true)
    (z_len : PySem.W.nsIn K mainGlobals "len" = some none)
    (z_isinstance : PySem.W.nsIn K mainGlobals "isinstance" = some none)
    (z_int : PySem.W.nsIn K mainGlobals "int" = some none)
    (z_bool : PySem.W.nsIn K mainGlobals "bool" = some none)
    (z_list : PySem.W.nsIn K mainGlobals "list" = some none)
    (z_tuple : PySem.W.nsIn K mainGlobals "tuple" = some none)
    (z_sorted : PySem.W.nsIn K mainGlobals "sorted" = some none)
    (z_range : PySem.W.nsIn K mainGlobals "range" = some none)
    (z_min : PySem.W.nsIn K mainGlobals "min" = some none)
    (z_enumerate : PySem.W.nsIn K mainGlobals "enumerate" = some none)
    (z_all : PySem.W.nsIn K mainGlobals "all" = some none)
    : ∃ fd : FuncData, (∀ (s : Shared) (v : Value), BindsTo s fd ⟨[v], []⟩ [("_law_script", v)]) ∧ ∀ base : Heap, K.In base → base.Ns mainGlobals mg → FnOk l.prog w K mg base CX0 13 fa fd ["_law_script"] (spLaw K) := by
  have e := hfa.symm.trans (PySem.W.mg_of X G a26)
  cases e
  have F0 := fun_mk (st := s_is_whole) l0 c0 k0
  have b0 := F0.binds (ps := ["thing"]) fun _ _ _ _ _ _ us hl => by
    obtain ⟨a0, us0, rfl, g0⟩ := lenS hl
    obtain rfl := len0 g0
    rfl
  have F1 := fun_mk (st := s_is_number) l1 c1 k1
  have b1 := F1.binds (ps := ["thing"]) fun _ _ _ _ _ _ us hl => by
    obtain ⟨a0, us0, rfl, g0⟩ := lenS hl
    obtain rfl := len0 g0
    rfl
  have F2 := fun_mk (st := s_sorting_list) l2 c2 k2
  have b2 := F2.binds (ps := ["sorting"]) fun _ _ _ _ _ _ us hl => by
    obtain ⟨a0, us0, rfl, g0⟩ := lenS hl
    obtain rfl := len0 g0
    rfl
  have F3 := fun_mk (st := s_group_list) l3 c3 k3
  have b3 := F3.binds (ps := ["group", "depth", "seen"]) fun _ _ _ _ _ _ us hl => by
    obtain ⟨a0, us0, rfl, g0⟩ := lenS hl
    obtain ⟨a1, us1, rfl, g1⟩ := lenS g0
    obtain ⟨a2, us2, rfl, g2⟩ := lenS g1
    obtain rfl := len0 g2
    rfl
  have F4 := fun_mk (st := s_sheet_list) l4 c4 k4
  have b4 := F4.binds (ps := ["sheets", "seen"]) fun _ _ _ _ _ _ us hl => by
    obtain ⟨a0, us0, rfl, g0⟩ := lenS hl
    obtain ⟨a1, us1, rfl, g1⟩ := lenS g0
    obtain rfl := len0 g1
    rfl
  have F5 := fun_mk (st := s_groups) l5 c5 k5
  have b5 := F5.binds (ps := ["sorting"]) fun _ _ _ _ _ _ us hl => by
    obtain ⟨a0, us0, rfl, g0⟩ := lenS hl
    obtain rfl := len0 g0
    rfl
  have F6 := fun_mk (st := s_groups_in) l6 c6 k6
  have b6 := F6.binds (ps := ["path", "parts"]) fun _ _ _ _ _ _ us hl => by
    obtain ⟨a0, us0, rfl, g0⟩ := lenS hl
    obtain ⟨a1, us1, rfl, g1⟩ := lenS g0
    obtain rfl := len0 g1
    rfl
  have F7 := fun_mk (st := s_sheets_of) l7 c7 k7
  have b7 := F7.binds (ps := ["told"]) fun _ _ _ _ _ _ us hl => by
    obtain ⟨a0, us0, rfl, g0⟩ := lenS hl
    obtain rfl := len0 g0
    rfl
  have F8 := fun_mk (st := s_refuse_sheet) l8 c8 k8
  have b8 := F8.binds (ps := ["sheet"]) fun _ _ _ _ _ _ us hl => by
    obtain ⟨a0, us0, rfl, g0⟩ := lenS hl
    obtain rfl := len0 g0
    rfl
  have F9 := fun_mk (st := s_path_of) l9 c9 k9
  have b9 := F9.binds (ps := ["sorting", "sheet"]) fun _ _ _ _ _ _ us hl => by
    obtain ⟨a0, us0, rfl, g0⟩ := lenS hl
    obtain ⟨a1, us1, rfl, g1⟩ := lenS g0
    obtain rfl := len0 g1
    rfl
  have F10 := fun_mk (st := s_without) l10 c10 k10
  have b10 := F10.binds (ps := ["parts", "sheet", "depth"]) fun _ _ _ _ _ _ us hl => by
    obtain ⟨a0, us0, rfl, g0⟩ := lenS hl
    obtain ⟨a1, us1, rfl, g1⟩ := lenS g0
    obtain ⟨a2, us2, rfl, g2⟩ := lenS g1
    obtain rfl := len0 g2
    rfl
  have F11 := fun_mk (st := s_taken) l11 c11 k11
  have b11 := F11.binds (ps := ["sorting", "sheet"]) fun _ _ _ _ _ _ us hl => by
    obtain ⟨a0, us0, rfl, g0⟩ := lenS hl
    obtain ⟨a1, us1, rfl, g1⟩ := lenS g0
    obtain rfl := len0 g1
    rfl
  have F12 := fun_mk (st := s_laid) l12 c12 k12
  have b12 := F12.binds (ps := ["sorting", "sheet", "path"]) fun _ _ _ _ _ _ us hl => by
    obtain ⟨a0, us0, rfl, g0⟩ := lenS hl
    obtain ⟨a1, us1, rfl, g1⟩ := lenS g0
    obtain ⟨a2, us2, rfl, g2⟩ := lenS g1
    obtain rfl := len0 g2
    rfl
  have F13 := fun_mk (st := s_is_path) l13 c13 k13
  have b13 := F13.binds (ps := ["thing"]) fun _ _ _ _ _ _ us hl => by
    obtain ⟨a0, us0, rfl, g0⟩ := lenS hl
    obtain rfl := len0 g0
    rfl
  have F14 := fun_mk (st := s_put_sheet) l14 c14 k14
  have b14 := F14.binds (ps := ["parts", "sheet", "path"]) fun _ _ _ _ _ _ us hl => by
    obtain ⟨a0, us0, rfl, g0⟩ := lenS hl
    obtain ⟨a1, us1, rfl, g1⟩ := lenS g0
    obtain ⟨a2, us2, rfl, g2⟩ := lenS g1
    obtain rfl := len0 g2
    rfl
  have F15 := fun_mk (st := s_new_group) l15 c15 k15
  have b15 := F15.binds (ps := ["sheet", "depth"]) fun _ _ _ _ _ _ us hl => by
    obtain ⟨a0, us0, rfl, g0⟩ := lenS hl
    obtain ⟨a1, us1, rfl, g1⟩ := lenS g0
    obtain rfl := len0 g1
    rfl
  have F16 := fun_mk (st := s_Lcell_at) l16 c16 k16
  have b16 := F16.binds (ps := ["_law_script", "_law_k"]) fun _ _ _ _ _ _ us hl => by
    obtain ⟨a0, us0, rfl, g0⟩ := lenS hl
    obtain ⟨a1, us1, rfl, g1⟩ := lenS g0
    obtain rfl := len0 g1
    rfl
  have F17 := fun_mk (st := s_Ldrawn) l17 c17 k17
  have b17 := F17.binds (ps := ["_law_script", "_law_k"]) fun _ _ _ _ _ _ us hl => by
    obtain ⟨a0, us0, rfl, g0⟩ := lenS hl
    obtain ⟨a1, us1, rfl, g1⟩ := lenS g0
    obtain rfl := len0 g1
    rfl
  have F18 := fun_mk (st := s_Lsheet_by) l18 c18 k18
  have b18 := F18.binds (ps := ["_law_number", "_law_form"]) fun _ _ _ _ _ _ us hl => by
    obtain ⟨a0, us0, rfl, g0⟩ := lenS hl
    obtain ⟨a1, us1, rfl, g1⟩ := lenS g0
    obtain rfl := len0 g1
    rfl
  have F19 := fun_mk (st := s_Lplaces) l19 c19 k19
  have b19 := F19.binds (ps := ["_law_sorting"]) fun _ _ _ _ _ _ us hl => by
    obtain ⟨a0, us0, rfl, g0⟩ := lenS hl
    obtain rfl := len0 g0
    rfl
  have F20 := fun_mk (st := s_Lshare) l20 c20 k20
  have b20 := F20.binds (ps := ["_law_one", "_law_other"]) fun _ _ _ _ _ _ us hl => by
    obtain ⟨a0, us0, rfl, g0⟩ := lenS hl
    obtain ⟨a1, us1, rfl, g1⟩ := lenS g0
    obtain rfl := len0 g1
    rfl
  have F21 := fun_mk (st := s_Lalike) l21 c21 k21
  have b21 := F21.binds (ps := ["_law_before", "_law_behind", "_law_sheet"]) fun _ _ _ _ _ _ us hl => by
    obtain ⟨a0, us0, rfl, g0⟩ := lenS hl
    obtain ⟨a1, us1, rfl, g1⟩ := lenS g0
    obtain ⟨a2, us2, rfl, g2⟩ := lenS g1
    obtain rfl := len0 g2
    rfl
  have F22 := fun_mk (st := s_Lrefused) l22 c22 k22
  have b22 := F22.binds (ps := ["_law_sorting", "_law_sheet", "_law_path"]) fun _ _ _ _ _ _ us hl => by
    obtain ⟨a0, us0, rfl, g0⟩ := lenS hl
    obtain ⟨a1, us1, rfl, g1⟩ := lenS g0
    obtain ⟨a2, us2, rfl, g2⟩ := lenS g1
    obtain rfl := len0 g2
    rfl
  have F23 := fun_mk (st := s_Llaid_by) l23 c23 k23
  have b23 := F23.binds (ps := ["_law_sorting", "_law_sheet", "_law_other", "_law_deep"]) fun _ _ _ _ _ _ us hl => by
    obtain ⟨a0, us0, rfl, g0⟩ := lenS hl
    obtain ⟨a1, us1, rfl, g1⟩ := lenS g0
    obtain ⟨a2, us2, rfl, g2⟩ := lenS g1
    obtain ⟨a3, us3, rfl, g3⟩ := lenS g2
    obtain rfl := len0 g3
    rfl
  have F24 := fun_mk (st := s_Lstep) l24 c24 k24
  have b24 := F24.binds (ps := ["_law_sorting", "_law_number", "_law_form"]) fun _ _ _ _ _ _ us hl => by
    obtain ⟨a0, us0, rfl, g0⟩ := lenS hl
    obtain ⟨a1, us1, rfl, g1⟩ := lenS g0
    obtain ⟨a2, us2, rfl, g2⟩ := lenS g1
    obtain rfl := len0 g2
    rfl
  have F25 := fun_mk (st := s_Lright) l25 c25 k25
  have b25 := F25.binds (ps := ["_law_before", "_law_behind", "_law_sheet", "_law_other", "_law_deep", "_law_lies"]) fun _ _ _ _ _ _ us hl => by
    obtain ⟨a0, us0, rfl, g0⟩ := lenS hl
    obtain ⟨a1, us1, rfl, g1⟩ := lenS g0
    obtain ⟨a2, us2, rfl, g2⟩ := lenS g1
    obtain ⟨a3, us3, rfl, g3⟩ := lenS g2
    obtain ⟨a4, us4, rfl, g4⟩ := lenS g3
    obtain ⟨a5, us5, rfl, g5⟩ := lenS g4
    obtain rfl := len0 g5
    rfl
  have F26 := fun_mk (st := s_law) l26 c26 k26
  have b26 := F26.binds (ps := ["_law_script"]) fun _ _ _ _ _ _ us hl => by
    obtain ⟨a0, us0, rfl, g0⟩ := lenS hl
    obtain rfl := len0 g0
    rfl
  have T : Txt w K mg ⟨f0, _, f1, _, f2, _, f3, _, f4, _, f5, _, f6, _, f7, _, f8, _, f9, _, f10, _, f11, _, f12, _, f13, _, f14, _, f15, _, f16, _, f17, _, f18, _, f19, _, f20, _, f21, _, f22, _, f23, _, f24, _, f25, _, fa, _, u_LAST_NUMBER, u_FORM_DEPTH, c_NoSorting, c_NoSheet, c_NoPath, c_RightError⟩ := ⟨⟨F0, PySem.W.mg_of X G a0, b0⟩, ⟨F1, PySem.W.mg_of X G a1, b1⟩, ⟨F2, PySem.W.mg_of X G a2, b2⟩, ⟨F3, PySem.W.mg_of X G a3, b3⟩, ⟨F4, PySem.W.mg_of X G a4, b4⟩, ⟨F5, PySem.W.mg_of X G a5, b5⟩, ⟨F6, PySem.W.mg_of X G a6, b6⟩, ⟨F7, PySem.W.mg_of X G a7, b7⟩, ⟨F8, PySem.W.mg_of X G a8, b8⟩, ⟨F9, PySem.W.mg_of X G a9, b9⟩, ⟨F10, PySem.W.mg_of X G a10, b10⟩, ⟨F11, PySem.W.mg_of X G a11, b11⟩, ⟨F12, PySem.W.mg_of X G a12, b12⟩, ⟨F13, PySem.W.mg_of X G a13, b13⟩, ⟨F14, PySem.W.mg_of X G a14, b14⟩, ⟨F15, PySem.W.mg_of X G a15, b15⟩, ⟨F16, PySem.W.mg_of X G a16, b16⟩, ⟨F17, PySem.W.mg_of X G a17, b17⟩, ⟨F18, PySem.W.mg_of X G a18, b18⟩, ⟨F19, PySem.W.mg_of X G a19, b19⟩, ⟨F20, PySem.W.mg_of X G a20, b20⟩, ⟨F21, PySem.W.mg_of X G a21, b21⟩, ⟨F22, PySem.W.mg_of X G a22, b22⟩, ⟨F23, PySem.W.mg_of X G a23, b23⟩, ⟨F24, PySem.W.mg_of X G a24, b24⟩, ⟨F25, PySem.W.mg_of X G a25, b25⟩, ⟨F26, PySem.W.mg_of X G a26, b26⟩, PySem.W.mg_of X G cg_LAST_NUMBER, cr_LAST_NUMBER, PySem.W.mg_of X G cg_FORM_DEPTH, cr_FORM_DEPTH, PySem.W.mg_of X G cg_NoSorting, PySem.W.mg_of X G cg_NoSheet, PySem.W.mg_of X G cg_NoPath, PySem.W.mg_of X G cg_RightError, XCls.mk2 xl_NoSorting xn_NoSorting xs_NoSorting xi_NoSorting xa_NoSorting xb_NoSorting xt_NoSorting xj_NoSorting, ⟨qcs_NoSorting, qga_NoSorting, qgt_NoSorting, qca_NoSorting, qgg_NoSorting, qtk_NoSorting, qmo_NoSorting, qsb_NoSorting⟩, e_NoSorting_RightError, XCls.mk2 xl_NoSheet xn_NoSheet xs_NoSheet xi_NoSheet xa_NoSheet xb_NoSheet xt_NoSheet xj_NoSheet, ⟨qcs_NoSheet, qga_NoSheet, qgt_NoSheet, qca_NoSheet, qgg_NoSheet, qtk_NoSheet, qmo_NoSheet, qsb_NoSheet⟩, e_NoSheet_RightError, XCls.mk2 xl_NoPath xn_NoPath xs_NoPath xi_NoPath xa_NoPath xb_NoPath xt_NoPath xj_NoPath, ⟨qcs_NoPath, qga_NoPath, qgt_NoPath, qca_NoPath, qgg_NoPath, qtk_NoPath, qmo_NoPath, qsb_NoPath⟩, e_NoPath_RightError, PySem.W.mg_none_of X G z_len, PySem.W.mg_none_of X G z_isinstance, PySem.W.mg_none_of X G z_int, PySem.W.mg_none_of X G z_bool, PySem.W.mg_none_of X G z_list, PySem.W.mg_none_of X G z_tuple, PySem.W.mg_none_of X G z_sorted, PySem.W.mg_none_of X G z_range, PySem.W.mg_none_of X G z_min, PySem.W.mg_none_of X G z_enumerate, PySem.W.mg_none_of X G z_all⟩
  exact ⟨_, fun s v => .of_eq rfl, fun base _ _ => ok_law T⟩
end My
namespace PySem.W.Fast
def tw4707259519447861973:=0
def tw11713730220095540368:=0
def tw1921071240846803237:=0
def tw15837076751732560526:=0
def tw17858959713757706752:=0
def tw3981598310307733573:=0
def tw12075668290733691298:=0
def tw16673555129822632153:=0
def tw16449658679483068851:=0
def tw15933421543898993838:=0
def tw15229756048510617284:=0
def tw4285358206784204351:=0
def tw14558519042010073587:=0
def tw1934755061767041908:=0
def tw2495620607641314417:=0
def tw13154957996381852774:=0
def tw9088856329948211922:=0
def tw4503950370948411341:=0
def tw10469710011606197598:=0
def tw5973907172509814643:=0
def tw6118272937792044853:=0
def tw12283720604366397562:=0
def tw11639518043851951323:=0
def tw9284169679743754630:=0
def tw11943630094141733892:=0
def tw1857145244261699708:=0
def tw11101292131031855940:=0
def tw93255688640537334:=0
def tw10055668604480539520:=0
def tw9198676073676501064:=0
def tw14146018225421362056:=0
def tw18152615287639723289:=0
def tw11582855968557195564:=0
def tw17976637358639285978:=0
def tw10050703682902003817:=0
def tw15957194997904702344:=0
def tw13046471133067721886:=0
def tw16297792318103897048:=0
def tw3007841411154069683:=0
def tw4567325828254556880:=0
def tw13943280513748991863:=0
def tw13873619725667851162:=0
def tw15977251136984501292:=0
def tw2080661501949104473:=0
def tw8098600415106271848:=0
def tw1714453217421976521:=0
def tw363719582076562619:=0
def tw4081133303617035067:=0
def tw17397905701940826691:=0
def tw1628075087955591311:=0
def tw6306503867207829377:=0
def tw2063275122997561750:=0
def tw6496312090884165526:=0
def tw486386801425277073:=0
def tw10183993687103170797:=0
def tw10958575704406319648:=0
def tw7785076077404626461:=0
def tw2465441016930258011:=0
def tw12938196470086855381:=0
def tw9493201641809445510:=0
def tw12348798858882346661:=0
def tw16430594167635290378:=0
def tw4828900034133037663:=0
def tw15303857522694451833:=0
def tw1712149742623897302:=0
def tw6333745895327409606:=0
def tw11075261840137223768:=0
def tw7967690219488851625:=0
def tw1179463566545599821:=0
def tw8641428756520744583:=0
def tw4289755535547451605:=0
def tw15999392899142728379:=0
def tw10252516998112022861:=0
def tw13868824247115150306:=0
def tw13582136765762039146:=0
def tw6134293359074382176:=0
def tw6374434624801005032:=0
def tw13237452540670608681:=0
def tw5250038856693655821:=0
def tw9579493749356689809:=0
def tw17313171758181560222:=0
def tw4704202631876354682:=0
def tw1132850147516568557:=0
def tw1512316328493981513:=0
def tw13866542277644527575:=0
def tw4931475041346475673:=0
def tw15613266739037001784:=0
def tw12045562960841454589:=0
def tw7216332428795505928:=0
def tw5959118707598965537:=0
def tw10409851506922103447:=0
def tw11858137633887401117:=0
def tw2851057132541714241:=0
def tw18446553940111205538:=0
def tw203099049448320907:=0
def tw15267633448550820425:=0
def tw4418454793476758584:=0
def tw9772998045521447349:=0
def tw13807580015421123012:=0
def tw15226596140100707717:=0
def tw10352062808256522762:=0
def tw3397125335064343098:=0
def tw14899402443140322626:=0
def tw18010131327007015604:=0
def tw9925167426107578774:=0
def tw393578496666798064:=0
def tw12914602881529305873:=0
def tw14475274710052702641:=0
def tw12637366988229263004:=0
def tw10170302156064628523:=0
def tw6299840621351907430:=0
def tw6528973642809911375:=0
def tw6039590009788107599:=0
def tw13128648445610422816:=0
def tw15024705370957966622:=0
def tw4422144535132362556:=0
def tw6948485350745842193:=0
def tw9692446159689750038:=0
def tw571070092470841760:=0
def tw1130371265389234844:=0
def tw16205655006732341513:=0
def tw15135029600144722230:=0
def tw272221525010609216:=0
def tw4216450592562597245:=0
def tw3426870353569771087:=0
def tw4478542806045277839:=0
def tw17849126541437843158:=0
def tw13073880495629194023:=0
def tw6140388044707226653:=0
def tw81584955886637613:=0
def tw4410594506113017212:=0
def tw11195035473918085755:=0
def tw6945343694740387354:=0
def tw413937888734484758:=0
def tw6287088584995782557:=0
def tw948910888984900673:=0
def tw14499402732834255203:=0
def tw8583280219480670736:=0
def tw18206840914217516754:=0
def tw12789748172623043451:=0
def tw5075199976302963004:=0
def tw1705329023313574774:=0
def tw15555292515130639499:=0
def tw15656351316815147287:=0
def tw14072555906854958329:=0
def tw4964567560242196627:=0
def tw3785849892565016155:=0
def tw5764901041630732635:=0
def tw3115413215013807134:=0
def tw14663039836753952096:=0
def tw13791383515160384191:=0
def tw8772738443126360150:=0
def tw18105642356080882555:=0
def tw18290597418028035960:=0
def tw12125085550698590861:=0
def tw7260667931395720446:=0
def tw8059990627325448513:=0
def tw12425998033887134325:=0
def tw1362332395049976204:=0
def tw5225902149482761991:=0
def tw12938728426464156666:=0
def tw225003001203358301:=0
def tw5528936065822220098:=0
def tw7112225702980761580:=0
def tw14480928906318871894:=0
def tw13805363856168776816:=0
def tw3316907490175325228:=0
def tw14144268231383466372:=0
def tw8518077446070877226:=0
def tw473553877791600627:=0
def tw79942686036304654:=0
def tw7385956212794320432:=0
def tw14486093943955228186:=0
def tw7116053408499665640:=0
def tw2293643008827218184:=0
def tw14124437800450680130:=0
def tw2920497143714195057:=0
def tw13487126085703709654:=0
def tw8935312743545873691:=0
def tw6438222814875718023:=0
def tw475440319599584473:=0
def tw10585812175199515583:=0
def tw18271561236620062801:=0
def tw15243388331954559569:=0
def tw5795108135596328396:=0
def tw12844484530996509148:=0
def tw13406822471480644593:=0
def tw12527955817901027437:=0
def tw8070275087373918541:=0
def tw782363903939296295:=0
def tw11958141105471651304:=0
def tw3075839445043898922:=0
def tw973800336344425168:=0
def tw12117263716061561677:=0
def tw13892773428589875546:=0
def tw1821082588842372405:=0
def tw4486234282903627239:=0
def tw7675061264209861641:=0
def tw17441584891159082109:=0
def tw6159645266366114715:=0
def tw14691385420578357724:=0
def tw14475890652564571562:=0
def tw15812076202340156828:=0
def tw12555584512134060211:=0
def tw14630793866115451228:=0
def tw1995860340690716334:=0
def tw8352363787971026341:=0
def tw853862121025751741:=0
def tw10883980234283875120:=0
def tw3028557963225787238:=0
def tw16828078222618463893:=0
def tw3129942329671313747:=0
def tw6359983517975166618:=0
def tw9067889315349195883:=0
def tw2265035047607464759:=0
def tw1419112604030750156:=0
def tw4613488644656752776:=0
def tw14592582880021445712:=0
def tw11411181340612707491:=0
def tw13647037375982442998:=0
def tw6219714030125804851:=0
def tw10989774824932648697:=0
def tw5839189943668481046:=0
def tw7061282640389062794:=0
def tw10620843162491205993:=0
def tw4767767762938533289:=0
def tw16095538278212186420:=0
def tw1422121003003513563:=0
def tw4137533315464181170:=0
def tw16114173470278503945:=0
def tw5044422200187095144:=0
def tw6970961419841466063:=0
def tw7289661446925937925:=0
def tw18145068202567782767:=0
def tw10226396755689009906:=0
def tw5240876924764248700:=0
def tw2607686218845171465:=0
def tw9277821573750812162:=0
def tw2814327954095339066:=0
def tw6230229639582782683:=0
def tw12715677318894277311:=0
def tw86325666664982550:=0
def tw14967029853712392533:=0
def tw8987517846337211735:=0
def tw3159595718178970373:=0
def tw4130130267314004729:=0
def tw12131202374038302328:=0
def tw10848995414948472823:=0
def tw14748635725267110568:=0
def tw8154640868209225747:=0
def tw8170417278253633152:=0
def tw8725897006999887846:=0
def tw9002217207739699496:=0
def tw6835190815520788006:=0
def tw142045678220952750:=0
def tw3762925777203063903:=0
def tw16444068838930545446:=0
def tw15656056690963793451:=0
def tw12840504498340410652:=0
def tw4272422589360530550:=0
def tw6620902178502350339:=0
def tw14978597572393850280:=0
def tw7274102543788278006:=0
def tw18024584223290122415:=0
def tw13173994613361439912:=0
end PySem.W.Fast
open PySem PySem.W PyProof.Rows
set_option maxRecDepth 100000 in
set_option maxHeartbeats 0 in
theorem PySem.Challenge.cw_rightname_k47_whole_lays_and_takes_holds : PySem.Challenge.rw_rightname_k47_whole_lays_and_takes.Holds := by
  w_on; o_law; k_head; (case hw => w_witness2)
  k_fill
  refine L2.walk_ofK (l := PySem.Challenge.rw_rightname_k47_whole_lays_and_takes) (n := 63) (k := 13) (x := "_law_script") (CX := L2.CX0) (sp := My.spLaw) rfl (by decide) rfl ⟨rfl, by decide, by decide⟩ (fun w h Y => PySem.W.kIn_of Y) ?F ?S ?C
  case F =>
    intro w mg fa h KX G hmg
    refine' My.all_mk KX G hmg ?pa0 ?pl0 ?pc0 ?pk0 ?pa1 ?pl1 ?pc1 ?pk1 ?pa2 ?pl2 ?pc2 ?pk2 ?pa3 ?pl3 ?pc3 ?pk3 ?pa4 ?pl4 ?pc4 ?pk4 ?pa5 ?pl5 ?pc5 ?pk5 ?pa6 ?pl6 ?pc6 ?pk6 ?pa7 ?pl7 ?pc7 ?pk7 ?pa8 ?pl8 ?pc8 ?pk8 ?pa9 ?pl9 ?pc9 ?pk9 ?pa10 ?pl10 ?pc10 ?pk10 ?pa11 ?pl11 ?pc11 ?pk11 ?pa12 ?pl12 ?pc12 ?pk12 ?pa13 ?pl13 ?pc13 ?pk13 ?pa14 ?pl14 ?pc14 ?pk14 ?pa15 ?pl15 ?pc15 ?pk15 ?pa16 ?pl16 ?pc16 ?pk16 ?pa17 ?pl17 ?pc17 ?pk17 ?pa18 ?pl18 ?pc18 ?pk18 ?pa19 ?pl19 ?pc19 ?pk19 ?pa20 ?pl20 ?pc20 ?pk20 ?pa21 ?pl21 ?pc21 ?pk21 ?pa22 ?pl22 ?pc22 ?pk22 ?pa23 ?pl23 ?pc23 ?pk23 ?pa24 ?pl24 ?pc24 ?pk24 ?pa25 ?pl25 ?pc25 ?pk25 ?pa26 ?pl26 ?pc26 ?pk26 ?pcg_LAST_NUMBER ?pcr_LAST_NUMBER ?pcg_FORM_DEPTH ?pcr_FORM_DEPTH ?pcg_NoSorting ?pcg_NoSheet ?pcg_NoPath ?pcg_RightError ?pxl_NoSorting ?pxn_NoSorting ?pxs_NoSorting ?pxi_NoSorting ?pxa_NoSorting ?pxb_NoSorting ?pxt_NoSorting ?pxj_NoSorting ?pqcs_NoSorting ?pqga_NoSorting ?pqgt_NoSorting ?pqca_NoSorting ?pqgg_NoSorting ?pqtk_NoSorting ?pqmo_NoSorting ?pqsb_NoSorting ?pe_NoSorting_RightError ?pxl_NoSheet ?pxn_NoSheet ?pxs_NoSheet ?pxi_NoSheet ?pxa_NoSheet ?pxb_NoSheet ?pxt_NoSheet ?pxj_NoSheet ?pqcs_NoSheet ?pqga_NoSheet ?pqgt_NoSheet ?pqca_NoSheet ?pqgg_NoSheet ?pqtk_NoSheet ?pqmo_NoSheet ?pqsb_NoSheet ?pe_NoSheet_RightError ?pxl_NoPath ?pxn_NoPath ?pxs_NoPath ?pxi_NoPath ?pxa_NoPath ?pxb_NoPath ?pxt_NoPath ?pxj_NoPath ?pqcs_NoPath ?pqga_NoPath ?pqgt_NoPath ?pqca_NoPath ?pqgg_NoPath ?pqtk_NoPath ?pqmo_NoPath ?pqsb_NoPath ?pe_NoPath_RightError ?pz_len ?pz_isinstance ?pz_int ?pz_bool ?pz_list ?pz_tuple ?pz_sorted ?pz_range ?pz_min ?pz_enumerate ?pz_all
    (case pa0 => k_is)
    (case pl0 => k_is)
    (case pc0 => k_is)
    (case pk0 => k_is)
    (case pa1 => k_is)
    (case pl1 => k_is)
    (case pc1 => k_is)
    (case pk1 => k_is)
    (case pa2 => k_is)
    (case pl2 => k_is)
    (case pc2 => k_is)
    (case pk2 => k_is)
    (case pa3 => k_is)
    (case pl3 => k_is)
    (case pc3 => k_is)
    (case pk3 => k_is)
    (case pa4 => k_is)
    (case pl4 => k_is)
    (case pc4 => k_is)
    (case pk4 => k_is)
    (case pa5 => k_is)
    (case pl5 => k_is)
    (case pc5 => k_is)
    (case pk5 => k_is)
    (case pa6 => k_is)
    (case pl6 => k_is)
    (case pc6 => k_is)
    (case pk6 => k_is)
    (case pa7 => k_is)
    (case pl7 => k_is)
    (case pc7 => k_is)
    (case pk7 => k_is)
    (case pa8 => k_is)
    (case pl8 => k_is)
    (case pc8 => k_is)
    (case pk8 => k_is)
    (case pa9 => k_is)
    (case pl9 => k_is)
    (case pc9 => k_is)
    (case pk9 => k_is)
    (case pa10 => k_is)
    (case pl10 => k_is)
    (case pc10 => k_is)
    (case pk10 => k_is)
    (case pa11 => k_is)
    (case pl11 => k_is)
    (case pc11 => k_is)
    (case pk11 => k_is)
    (case pa12 => k_is)
    (case pl12 => k_is)
    (case pc12 => k_is)
    (case pk12 => k_is)
    (case pa13 => k_is)
    (case pl13 => k_is)
    (case pc13 => k_is)
    (case pk13 => k_is)
    (case pa14 => k_is)
    (case pl14 => k_is)
    (case pc14 => k_is)
    (case pk14 => k_is)
    (case pa15 => k_is)
    (case pl15 => k_is)
    (case pc15 => k_is)
    (case pk15 => k_is)
    (case pa16 => k_is)
    (case pl16 => k_is)
    (case pc16 => k_is)
    (case pk16 => k_is)
    (case pa17 => k_is)
    (case pl17 => k_is)
    (case pc17 => k_is)
    (case pk17 => k_is)
    (case pa18 => k_is)
    (case pl18 => k_is)
    (case pc18 => k_is)
    (case pk18 => k_is)
    (case pa19 => k_is)
    (case pl19 => k_is)
    (case pc19 => k_is)
    (case pk19 => k_is)
    (case pa20 => k_is)
    (case pl20 => k_is)
    (case pc20 => k_is)
    (case pk20 => k_is)
    (case pa21 => k_is)
    (case pl21 => k_is)
    (case pc21 => k_is)
    (case pk21 => k_is)
    (case pa22 => k_is)
    (case pl22 => k_is)
    (case pc22 => k_is)
    (case pk22 => k_is)
    (case pa23 => k_is)
    (case pl23 => k_is)
    (case pc23 => k_is)
    (case pk23 => k_is)
    (case pa24 => k_is)
    (case pl24 => k_is)
    (case pc24 => k_is)
    (case pk24 => k_is)
    (case pa25 => k_is)
    (case pl25 => k_is)
    (case pc25 => k_is)
    (case pk25 => k_is)
    (case pa26 => k_is)
    (case pl26 => k_is)
    (case pc26 => k_is)
    (case pk26 => k_is)
    (case pcg_LAST_NUMBER => k_is)
    (case pcr_LAST_NUMBER => first | exact L2.rel_int | exact L2.rel_str | exact rfl)
    (case pcg_FORM_DEPTH => k_is)
    (case pcr_FORM_DEPTH => first | exact L2.rel_int | exact L2.rel_str | exact rfl)
    (case pcg_NoSorting => k_is)
    (case pcg_NoSheet => k_is)
    (case pcg_NoPath => k_is)
    (case pcg_RightError => k_is)
    (case pxl_NoSorting => k_is)
    (case pxn_NoSorting => k_is)
    (case pxs_NoSorting => kernel_rfl)
    (case pxi_NoSorting => kernel_rfl)
    (case pxa_NoSorting => k_is)
    (case pxb_NoSorting => k_is)
    (case pxt_NoSorting => kernel_rfl)
    (case pxj_NoSorting => kernel_rfl)
    (case pqcs_NoSorting => kernel_rfl)
    (case pqga_NoSorting => k_is)
    (case pqgt_NoSorting => k_is)
    (case pqca_NoSorting => k_is)
    (case pqgg_NoSorting => k_is)
    (case pqtk_NoSorting => k_is)
    (case pqmo_NoSorting => k_is)
    (case pqsb_NoSorting => k_is)
    (case pe_NoSorting_RightError => kernel_rfl)
    (case pxl_NoSheet => k_is)
    (case pxn_NoSheet => k_is)
    (case pxs_NoSheet => kernel_rfl)
    (case pxi_NoSheet => kernel_rfl)
    (case pxa_NoSheet => k_is)
    (case pxb_NoSheet => k_is)
    (case pxt_NoSheet => kernel_rfl)
    (case pxj_NoSheet => kernel_rfl)
    (case pqcs_NoSheet => kernel_rfl)
    (case pqga_NoSheet => k_is)
    (case pqgt_NoSheet => k_is)
    (case pqca_NoSheet => k_is)
    (case pqgg_NoSheet => k_is)
    (case pqtk_NoSheet => k_is)
    (case pqmo_NoSheet => k_is)
    (case pqsb_NoSheet => k_is)
    (case pe_NoSheet_RightError => kernel_rfl)
    (case pxl_NoPath => k_is)
    (case pxn_NoPath => k_is)
    (case pxs_NoPath => kernel_rfl)
    (case pxi_NoPath => kernel_rfl)
    (case pxa_NoPath => k_is)
    (case pxb_NoPath => k_is)
    (case pxt_NoPath => kernel_rfl)
    (case pxj_NoPath => kernel_rfl)
    (case pqcs_NoPath => kernel_rfl)
    (case pqga_NoPath => k_is)
    (case pqgt_NoPath => k_is)
    (case pqca_NoPath => k_is)
    (case pqgg_NoPath => k_is)
    (case pqtk_NoPath => k_is)
    (case pqmo_NoPath => k_is)
    (case pqsb_NoPath => k_is)
    (case pe_NoPath_RightError => kernel_rfl)
    (case pz_len => k_is)
    (case pz_isinstance => k_is)
    (case pz_int => k_is)
    (case pz_bool => k_is)
    (case pz_list => k_is)
    (case pz_tuple => k_is)
    (case pz_sorted => k_is)
    (case pz_range => k_is)
    (case pz_min => k_is)
    (case pz_enumerate => k_is)
    (case pz_all => k_is)
  case S => exact fun K H a ns hl hO hS => ⟨a, ns, rfl, hS, hl, fun _ => rfl⟩
  case C => exact fun _ _ _ _ z => z
#print axioms PySem.Challenge.cw_rightname_k47_whole_lays_and_takes_holds
