import PyProof.Rows.All
import Wide.All
import OpenK.AllK
import Wide.FinOn
import Lean
import PyProof.EqAt
import PyProof.EqKinds
import PyProof.TupleCall
import PySem.Challenge.RW_rightname_k18_whole_unlike_names
set_option Elab.async false
set_option linter.all false
set_option maxRecDepth 100000
namespace L2
open PySem PySem.Spec PyProof.Rows
abbrev Key := Sum Int Str
def keyIs : Key → Value → Bool
  | .inl k, v => Value.isInt k v
  | .inr x, v => Value.isStrOf x v
def keyH (w : World) : Key → Int
  | .inl k => hashInt k
  | .inr x => hashStr w x
theorem keyIs_shape : ∀ {k : Key} {v : Value}, keyIs k v = true → (∃ i t, k = Sum.inl i ∧ v = Value.int i t) ∨ (∃ x t, k = Sum.inr x ∧ v = Value.str x t)
  | .inl i, v, h => by
    obtain ⟨t, e⟩ := Value.isInt_shape (k := i) (v := v) h
    exact .inl ⟨i, t, rfl, e⟩
  | .inr x, v, h => by
    obtain ⟨t, e⟩ := Value.isStrOf_shape (x := x) (v := v) h
    exact .inr ⟨x, t, rfl, e⟩
theorem keyIs_int (i : Int) (t : Tok) : keyIs (.inl i) (.int i t) = true := by simp [keyIs, Value.isInt]
theorem keyIs_str (x : Str) (t : Tok) : keyIs (.inr x) (.str x t) = true := by simp [keyIs, Value.isStrOf]
theorem key_ll (a b : Int) : decide ((Sum.inl a : Key) = Sum.inl b) = (a == b) := by
  by_cases e : a = b
  · subst e; simp
  · have h : ¬ (Sum.inl a : Key) = Sum.inl b := fun q => e (Sum.inl.inj q)
    rw [decide_eq_false h]
    exact (beq_eq_false_iff_ne.mpr e).symm
theorem key_rr (a b : Str) : decide ((Sum.inr a : Key) = Sum.inr b) = decide (a = b) := by
  by_cases e : a = b
  · subst e; simp
  · have h : ¬ (Sum.inr a : Key) = Sum.inr b := fun q => e (Sum.inr.inj q)
    rw [decide_eq_false h, decide_eq_false e]
theorem key_lr (a : Int) (b : Str) : decide ((Sum.inl a : Key) = Sum.inr b) = false := decide_eq_false (fun q => nomatch q)
theorem key_rl (a : Str) (b : Int) : decide ((Sum.inr a : Key) = Sum.inl b) = false := decide_eq_false (fun q => nomatch q)
def mixKind (prog : Program) (w : World) : PySem.KeyKind prog w Key where
  is := keyIs
  hash := keyH w
  inj := fun v a b ha hb => by
    rcases keyIs_shape ha with ⟨i, t, rfl, rfl⟩ | ⟨x, t, rfl, rfl⟩
    · rcases keyIs_shape hb with ⟨j, u, rfl, e⟩ | ⟨y, u, rfl, e⟩
      · injection e with e1 _; rw [e1]
      · exact nomatch e
    · rcases keyIs_shape hb with ⟨j, u, rfl, e⟩ | ⟨y, u, rfl, e⟩
      · exact nomatch e
      · injection e with e1 _; rw [e1]
  byValue := fun k v h => by
    rcases keyIs_shape h with ⟨i, t, rfl, rfl⟩ | ⟨x, t, rfl, rfl⟩ <;> rfl
  pyHash := fun hv h => by
    rcases keyIs_shape hv with ⟨i, t, rfl, rfl⟩ | ⟨x, t, rfl, rfl⟩
    · exact wpAny_pyHash_int h
    · exact wpAny_pyHash_str h
  eqBool := fun hu hv h => by
    rcases keyIs_shape hu with ⟨i, t, rfl, rfl⟩ | ⟨x, t, rfl, rfl⟩
    · rcases keyIs_shape hv with ⟨j, u, rfl, rfl⟩ | ⟨y, u, rfl, rfl⟩
      · rw [key_ll] at h; exact wpAny_eqBool_int h
      · rw [key_lr] at h; exact SeqAt.EqAt.int_str i t y u _ _ _ _ h
    · rcases keyIs_shape hv with ⟨j, u, rfl, rfl⟩ | ⟨y, u, rfl, rfl⟩
      · rw [key_rl] at h; exact SeqAt.EqAt.str_int x t j u _ _ _ _ h
      · rw [key_rr] at h; exact wpAny_eqBool_str h
  «strs» := fun k x t v h => by
    rcases keyIs_shape h with ⟨i, u, rfl, e⟩ | ⟨y, u, rfl, e⟩
    · exact nomatch e
    · injection e with e1 _
      subst e1
      cases v <;> rfl
theorem mixKind_int (prog : Program) (w : World) (i : Int) (t : Tok) : (mixKind prog w).is (.inl i) (.int i t) = true := keyIs_int i t
theorem mixKind_str (prog : Program) (w : World) (x : Str) (t : Tok) : (mixKind prog w).is (.inr x) (.str x t) = true := keyIs_str x t
end L2
namespace L2
open PySem PySem.Spec PyProof.Rows
inductive V where
  | non | bl (b : Bool) | int (i : Int) | str (x : Str) | byt (b : Array UInt8) | flt (b : UInt64) | ref (a : Addr) | ty (n : String)
  deriving DecidableEq
def RelV : V → Value → Prop
  | .non, u => u = Value.none
  | .bl b, u => u = Value.bool b
  | .int i, u => ∃ t, u = Value.int i t
  | .str x, u => ∃ t, u = Value.str x t
  | .byt b, u => ∃ t, u = Value.bytes b t
  | .flt b, u => ∃ t, u = Value.float b t
  | .ref a, u => u = Value.ref a
  | .ty n, u => u = Value.type n
abbrev Vals : List V → List Value → Prop := Paired RelV
theorem Vals.length {xs : List V} {us : List Value} (r : Vals xs us) : xs.length = us.length := Paired.length r
theorem Vals.get : ∀ {xs : List V} {us : List Value} {i : Nat} {x : V}, Vals xs us → xs[i]? = some x → ∃ u, us[i]? = some u ∧ RelV x u
  | _, _, _, _, .nil, e => by simp at e
  | _, _, 0, _, .cons r _, e => by simp at e; subst e; exact ⟨_, rfl, r⟩
  | _, _, i + 1, x, .cons _ t, e => by
    obtain ⟨u, h1, h2⟩ := Vals.get (i := i) (x := x) t (by simpa using e)
    exact ⟨u, by simpa using h1, h2⟩
theorem Vals.set {x : V} {u : Value} (r : RelV x u) : ∀ {xs : List V} {us : List Value} (i : Nat), Vals xs us → Vals (xs.set i x) (us.set i u)
  | _, _, _, .nil => .nil
  | _, _, 0, .cons _ t => .cons r t
  | _, _, i + 1, .cons q t => .cons q (Vals.set r i t)
theorem Vals.append : ∀ {xs ys : List V} {us ws : List Value}, Vals xs us → Vals ys ws → Vals (xs ++ ys) (us ++ ws)
  | _, _, _, _, .nil, s => s
  | _, _, _, _, .cons r t, s => .cons r (Vals.append t s)
theorem Vals.take : ∀ {xs : List V} {us : List Value} (n : Nat), Vals xs us → Vals (xs.take n) (us.take n)
  | _, _, 0, _ => .nil
  | _, _, _ + 1, .nil => .nil
  | _, _, n + 1, .cons r t => .cons r (Vals.take n t)
theorem Vals.drop : ∀ {xs : List V} {us : List Value} (n : Nat), Vals xs us → Vals (xs.drop n) (us.drop n)
  | _, _, 0, r => r
  | _, _, _ + 1, .nil => .nil
  | _, _, n + 1, .cons _ t => Vals.drop n t
theorem Vals.none_of : ∀ {xs : List V} {us : List Value} {i : Nat}, Vals xs us → xs[i]? = none → us[i]? = none := fun {xs us i} r e => by
  have h1 := r.length
  have h2 : xs.length ≤ i := List.getElem?_eq_none_iff.mp e
  exact List.getElem?_eq_none_iff.mpr (by omega)
def RelO : Option V → Option Value → Prop
  | some v, some u => RelV v u
  | none, none => True
  | _, _ => False
def KV {κ : Type} : List (κ × V) → List (κ × Value) → Prop := Paired fun (p : κ × V) (q : κ × Value) => p.1 = q.1 ∧ RelV p.2 q.2
def kV : Key → V
  | .inl i => .int i
  | .inr x => .str x
inductive HO where
    | lst (xs : List V)
    | tup (xs : List V)
    | dK (kvs : List (Key × V)) | dT (kvs : List (List Key × V))
    | set (S : Int → Bool) (n : Nat)
    | ins (C dx : Addr) (fs : List (Str × V))
    | own (x : Addr)
    | xd (fs : List (Str × V))
    | met (f x : Addr)
    | rng (lo hi : Int)
    | frz (o : Obj) (u : HO)
    | tbl (ps : Array Value)
    | ext (φ : Heap → Prop)
abbrev Hp := Addr → Option HO
def upd (H : Hp) (a : Addr) (o : HO) : Hp := fun b => if b = a then some o else H b
theorem upd_same {H : Hp} {a : Addr} {o : HO} : upd H a o a = some o := by unfold upd; rw [if_pos rfl]
theorem upd_ne {H : Hp} {a b : Addr} {o : HO} (h : b ≠ a) : upd H a o b = H b := by unfold upd; rw [if_neg h]
theorem upd_upd {H : Hp} {a : Addr} {o u : HO} : upd (upd H a o) a u = upd H a u := by
  funext b; unfold upd; split <;> rfl
theorem ne_of {H : Hp} {a b : Addr} {o u : HO} (h : H a = some o) (h' : H b = some u) (d : o ≠ u) : a ≠ b := by
  intro e; subst e; rw [h] at h'; exact d (Option.some.inj h')
theorem ne_of_none {H : Hp} {a b : Addr} {o : HO} (h : H a = some o) (h' : H b = none) : a ≠ b := by
  intro e; subst e; rw [h] at h'; cases h'
section
variable (P : Program) (w : World)
def ObjOk (H : Hp) (h : Heap) (a : Addr) : HO → Prop
  | .lst xs => xs.length ≤ sizeLine ∧ ∃ (its : List Value) (n : Nat), Vals xs its ∧ h.get? a = some { cls := .type "list", data := .seq its.toArray n }
  | .tup xs => xs.length ≤ sizeLine ∧ ∃ its : List Value, Vals xs its ∧ IsTup h a its.toArray
  | .dK kvs => kvs.length ≤ sizeLine ∧ (a == sysModules) = false ∧ ∃ vs, KV kvs vs ∧ h.DictOf (mixKind P w) a vs
  | .dT kvs => kvs.length ≤ sizeLine ∧ (a == sysModules) = false ∧ ∃ xs : List (List Key × Addr × Value),
      Paired (fun (p : List Key × V) (q : List Key × Addr × Value) => p.1 = q.1 ∧ H q.2.1 = some (.tup (p.1.map kV)) ∧ RelV p.2 q.2.2) kvs xs ∧
      ∃ o es ep, h.get? a = some o ∧ o.ExactDict ∧ o.data = .dict es ep ∧ es.toList = xs.map (entryOfKey (tupleKind (mixKind P w))) ∧ (xs.map (·.1)).Nodup
  | .set S n => h.SetOf (intKind P w) a S n
  | .ins C dx fs => H dx = some (.own a) ∧ fs.length ≤ 1000 ∧ dx ≠ a ∧ h.get? a = some (PySem.W.instObj C dx) ∧
      ∃ mA, h.Ns1 dx mA ∧ (∀ f, RelO (fs.lookup f) (mA f)) ∧ PySem.Within mA (fs.map (·.1))
  | .own _ => ∃ o, h.get? a = some o
  | .xd fs => ∃ mA, h.Ns1 a mA ∧ ∀ f, RelO (fs.lookup f) (mA f)
  | .rng lo hi => ∃ t u v, h.get? a = some { cls := .type "range", data := .fields #[.int lo t, .int hi u, .int 1 v] }
  | .frz o u => h.get? a = some o ∧ ObjOk H h a u
  | .tbl ps => h.get? a = some { cls := .none, data := .fields ps }
  | .met f x => h.get? a = some (PySem.W.methodObj (.ref f) (.ref x))
  | .ext φ => φ h ∧ (∃ o, h.get? a = some o) ∧ ∀ h1 h2 : Heap, φ h1 → (∀ o, h1.get? a = some o → h2.get? a = some o) → φ h2
def HOk (H : Hp) (h : Heap) : Prop := ∀ a o, H a = some o → ObjOk P w H h a o
end
section
variable {P : Program} {w : World} {H H' : Hp} {h h' : Heap} {a : Addr} {o : HO}
theorem ObjOk.lt (x : ObjOk P w H h a o) : a < h.objs.size := by
  cases o with
  | lst xs => obtain ⟨_, _, _, _, e⟩ := x; exact Heap.lt_size e
  | tup xs => obtain ⟨_, _, _, p⟩ := x; exact p.lt
  | dK kvs => obtain ⟨_, _, _, _, o, _, _, e, _⟩ := x; exact Heap.lt_size e
  | dT kvs => obtain ⟨_, _, _, _, o, _, _, e, _⟩ := x; exact Heap.lt_size e
  | set S n => obtain ⟨o, _, _, _, e, _⟩ := x; exact Heap.lt_size e
  | ins C dx fs => obtain ⟨_, _, _, e, _⟩ := x; exact Heap.lt_size e
  | own y => obtain ⟨_, e⟩ := x; exact Heap.lt_size e
  | xd fs => obtain ⟨_, ⟨_, _, _, e, _⟩, _⟩ := x; exact Heap.lt_size e
  | rng lo hi => obtain ⟨_, _, _, e⟩ := x; exact Heap.lt_size e
  | frz ob u => obtain ⟨e, _⟩ := x; exact Heap.lt_size e
  | tbl ps => exact Heap.lt_size (show h.get? a = some _ from x)
  | met f y => exact Heap.lt_size (show h.get? a = some _ from x)
  | ext φ => obtain ⟨_, ⟨_, e⟩, _⟩ := x; exact Heap.lt_size e
theorem Paired.mapP {α β : Type} {F G : α → β → Prop} : ∀ {l₁ : List α} {l₂ : List β}, Paired F l₁ l₂ → (∀ a b, F a b → G a b) → Paired G l₁ l₂
  | _, _, .nil, _ => .nil
  | _, _, .cons r t, f => .cons (f _ _ r) (Paired.mapP t f)
theorem ObjOk.stay (x : ObjOk P w H h a o) (k : ∀ b u, (b = a ∨ H b = some (.own a)) → h.get? b = some u → h'.get? b = some u)
    (ho : ∀ b, H b = some (.own a) → H' b = some (.own a)) (ht : ∀ b xs, H b = some (.tup xs) → H' b = some (.tup xs)) : ObjOk P w H' h' a o := by
  induction o with
  | lst xs => obtain ⟨z, its, n, r, e⟩ := x; exact ⟨z, its, n, r, k _ _ (.inl rfl) e⟩
  | tup xs => obtain ⟨z, its, r, ob, e, c⟩ := x; exact ⟨z, its, r, ob, k _ _ (.inl rfl) e, c⟩
  | dK kvs => obtain ⟨z, y, vs, r, ob, es, ep, e, c⟩ := x; exact ⟨z, y, vs, r, ob, es, ep, k _ _ (.inl rfl) e, c⟩
  | dT kvs =>
    obtain ⟨z, y, xs, r, ob, es, ep, e, c⟩ := x
    exact ⟨z, y, xs, Paired.mapP r fun p q z => ⟨z.1, ht _ _ z.2.1, z.2.2⟩, ob, es, ep, k _ _ (.inl rfl) e, c⟩
  | set S n => obtain ⟨ob, es, ep, t, e, c⟩ := x; exact ⟨ob, es, ep, t, k _ _ (.inl rfl) e, c⟩
  | ins C dx fs =>
    obtain ⟨d, z, ne, e, mA, ⟨od, es, ep, e2, c⟩, r⟩ := x
    exact ⟨ho _ d, z, ne, k _ _ (.inl rfl) e, mA, ⟨od, es, ep, k _ _ (.inr d) e2, c⟩, r⟩
  | own y => obtain ⟨ob, e⟩ := x; exact ⟨ob, k _ _ (.inl rfl) e⟩
  | xd fs => obtain ⟨mA, ⟨od, es, ep, e, c⟩, r⟩ := x; exact ⟨mA, ⟨od, es, ep, k _ _ (.inl rfl) e, c⟩, r⟩
  | rng lo hi => obtain ⟨t, u, v, e⟩ := x; exact ⟨t, u, v, k _ _ (.inl rfl) e⟩
  | frz ob u ih => obtain ⟨e, q⟩ := x; exact ⟨k _ _ (.inl rfl) e, ih q⟩
  | tbl ps =>
    have e : h.get? a = some { cls := .none, data := .fields ps } := x
    show h'.get? a = some { cls := .none, data := .fields ps }
    exact k a _ (.inl rfl) e
  | met f y =>
    have e : h.get? a = some (PySem.W.methodObj (.ref f) (.ref y)) := x
    show h'.get? a = some (PySem.W.methodObj (.ref f) (.ref y))
    exact k a _ (.inl rfl) e
  | ext φ => obtain ⟨p, ⟨o, e⟩, st⟩ := x; exact ⟨st _ _ p fun o q => k _ _ (.inl rfl) q, ⟨o, k _ _ (.inl rfl) e⟩, st⟩
theorem HOk.lt (x : HOk P w H h) (e : H a = some o) : a < h.objs.size := (x a o e).lt
theorem HOk.fresh (x : HOk P w H h) (e : h.objs.size ≤ a) : H a = none := by
  cases q : H a with
  | none => rfl
  | some u => exact absurd (Nat.lt_of_lt_of_le (x.lt q) e) (Nat.lt_irrefl _)
theorem HOk.kept (x : HOk P w H h) (k : ∀ b u, h.get? b = some u → h'.get? b = some u) : HOk P w H h' := fun a o e =>
  (x a o e).stay (fun b u _ q => k b u q) (fun _ q => q) fun _ _ q => q
theorem HOk.laid (x : HOk P w H h) (k : ∀ b u, h.get? b = some u → h'.get? b = some u) (hp : h.objs.size ≤ a) (new : ObjOk P w (upd H a o) h' a o) : HOk P w (upd H a o) h' := fun b u e => by
  have hn := x.fresh hp
  by_cases hb : b = a
  · subst hb; rw [upd_same] at e; cases e; exact new
  · rw [upd_ne hb] at e
    exact (x b u e).stay (fun c v _ q => k c v q) (fun c q => by rw [upd_ne (ne_of_none q hn)]; exact q) fun c xs q => by rw [upd_ne (ne_of_none q hn)]; exact q
end
def Rd (H : Hp) (a : Addr) (u : HO) : Prop := H a = some u ∨ ∃ o, H a = some (.frz o u)
theorem Rd.of {H : Hp} {a : Addr} {u : HO} (h : H a = some u) : Rd H a u := .inl h
theorem Rd.ok {P : Program} {w : World} {H : Hp} {h : Heap} {a : Addr} {u : HO} (r : Rd H a u) (x : HOk P w H h) : ObjOk P w H h a u := by
  rcases r with r | ⟨o, r⟩
  · exact x a u r
  · obtain ⟨_, q⟩ := x a _ r
    exact q
def Mut : Option HO → Prop
  | some (.lst _) => True
  | some (.dK _) => True
  | some (.dT _) => True
  | some (.set _ _) => True
  | some (.ins _ _ _) => True
  | some (.ext _) => True
  | _ => False
section
variable {P : Program} {w : World} {H : Hp} {h h' : Heap} {x e : Addr} {o' : HO}
theorem HOk.write (ok : HOk P w H h) (mu : Mut (H x)) (he : e = x ∨ H e = some (.own x)) (k : ∀ b u, b ≠ e → h.get? b = some u → h'.get? b = some u) (heo : ∃ u, h'.get? e = some u)
    (new : ObjOk P w (upd H x o') h' x o') : HOk P w (upd H x o') h' := fun b u q => by
  have nown : ∀ c y, H c = some (.own y) → c ≠ x := fun c y r z => by subst z; rw [r] at mu; exact mu
  have ntup : ∀ c xs, H c = some (.tup xs) → c ≠ x := fun c xs r z => by subst z; rw [r] at mu; exact mu
  by_cases hb : b = x
  · subst hb; rw [upd_same] at q; cases q; exact new
  · rw [upd_ne hb] at q
    by_cases hbe : b = e
    · have q' : H b = some (.own x) := by
        rcases he with z | z
        · exact absurd (hbe.trans z) hb
        · rw [hbe]; exact z
      rw [q] at q'; cases q'
      obtain ⟨v, hv⟩ := heo
      exact ⟨v, by rw [hbe]; exact hv⟩
    · refine (ok b u q).stay (fun c v hc r => k c v ?_ r) (fun c r => by rw [upd_ne (nown c b r)]; exact r) fun c xs r => by rw [upd_ne (ntup c xs r)]; exact r
      rcases hc with rfl | hc
      · exact hbe
      · rintro rfl
        rcases he with z | z
        · exact nown c b hc z
        · rw [hc] at z; cases z; exact hb rfl
end
structure Un (fs ex : List Addr) (H H' : Hp) (h h' : Heap) : Prop where
  keep : ∀ b o, h.get? b = some o → H b = none → b ∉ fs → b ∉ ex → h'.get? b = some o
  slot : ∀ b o, h.get? b = some o → H b = none → b ∈ fs → b ∉ ex → ∃ sl, h'.get? b = some { o with slots := sl }
  free : ∀ b o, h.get? b = some o → H b = none → b ∉ ex → H' b = none
  there : ∀ b o, h.get? b = some o → b ∉ ex → ∃ o', h'.get? b = some o'
  tups : ∀ b xs, H b = some (.tup xs) → H' b = some (.tup xs)
  frzs : ∀ b o u, H b = some (.frz o u) → H' b = some (.frz o u)
  tbls : ∀ b ps, H b = some (.tbl ps) → ∃ more, H' b = some (.tbl (ps ++ more))
section
variable {fs fs' ex ex' : List Addr} {H H1 H2 : Hp} {h h1 h2 h' : Heap} {a x e : Addr} {o : HO}
theorem Un.any (u : Un fs ex H H1 h h1) {b : Addr} {ob : Obj} (q : h.get? b = some ob) (n : H b = none) (hx : b ∉ ex) : ∃ sl, h1.get? b = some { ob with slots := sl } := by
  by_cases hb : b ∈ fs
  · exact u.slot b ob q n hb hx
  · exact ⟨ob.slots, u.keep b ob q n hb hx⟩
theorem Un.trans (a : Un fs ex H H1 h h1) (b : Un fs ex H1 H2 h1 h2) : Un fs ex H H2 h h2 where
  keep := fun c ob q n hc hx => b.keep c ob (a.keep c ob q n hc hx) (a.free c ob q n hx) hc hx
  slot := fun c ob q n hc hx => by
    obtain ⟨sl, e1⟩ := a.slot c ob q n hc hx
    obtain ⟨sl', e2⟩ := b.slot c _ e1 (a.free c ob q n hx) hc hx
    exact ⟨sl', e2⟩
  free := fun c ob q n hx => by
    obtain ⟨o', e1⟩ := a.there c ob q hx
    exact b.free c o' e1 (a.free c ob q n hx) hx
  there := fun c ob q hx => by
    obtain ⟨o', e1⟩ := a.there c ob q hx
    exact b.there c o' e1 hx
  tups := fun c xs q => b.tups c xs (a.tups c xs q)
  frzs := fun c ob xs q => b.frzs c ob xs (a.frzs c ob xs q)
  tbls := fun c ps q => by
    obtain ⟨m1, e1⟩ := a.tbls c ps q
    obtain ⟨m2, e2⟩ := b.tbls c _ e1
    exact ⟨m1 ++ m2, by rw [e2, Array.append_assoc]⟩
theorem Un.kept (k : ∀ b u, h.get? b = some u → h'.get? b = some u) : Un fs ex H H h h' :=
  ⟨fun b ob q _ _ _ => k b ob q, fun b ob q _ _ _ => ⟨ob.slots, k b ob q⟩, fun _ _ _ n _ => n, fun b ob q _ => ⟨ob, k b ob q⟩, fun _ _ q => q, fun _ _ _ q => q, fun _ ps q => ⟨#[], by rw [q]; simp⟩⟩
theorem Un.refl : Un fs ex H H h h := Un.kept fun _ _ q => q
theorem Un.laid (k : ∀ b u, h.get? b = some u → h'.get? b = some u) (hp : h.objs.size ≤ a) (hn : H a = none) : Un fs ex H (upd H a o) h h' where
  keep := fun b u q _ _ _ => k b u q
  slot := fun b u q _ _ _ => ⟨u.slots, k b u q⟩
  free := fun b u q n _ => by rw [upd_ne (Nat.ne_of_lt (Nat.lt_of_lt_of_le (Heap.lt_size q) hp))]; exact n
  there := fun b u q _ => ⟨u, k b u q⟩
  tups := fun b xs q => by rw [upd_ne (ne_of_none q hn)]; exact q
  frzs := fun b u xs q => by rw [upd_ne (ne_of_none q hn)]; exact q
  tbls := fun b ps q => ⟨#[], by rw [upd_ne (ne_of_none q hn), q]; simp⟩
theorem Un.write (mu : Mut (H x)) (he : e = x ∨ H e = some (.own x)) (k : ∀ b u, b ≠ e → h.get? b = some u → h'.get? b = some u) (heo : ∃ u, h'.get? e = some u) : Un fs ex H (upd H x o) h h' := by
  have hx : ∀ b, H b = none → b ≠ x := fun b n z => by subst z; rw [n] at mu; exact mu
  have hb : ∀ b, H b = none → b ≠ e := fun b n z => by
    subst z
    rcases he with r | r
    · exact hx b n r
    · rw [n] at r; cases r
  have hm : ∀ b u, H b = some u → ¬ Mut (some u) → b ≠ x := fun b u q nm z => by subst z; rw [q] at mu; exact nm mu
  refine ⟨fun b u q n _ _ => k b u (hb b n) q, fun b u q n _ _ => ⟨u.slots, k b u (hb b n) q⟩, fun b u q n _ => by rw [upd_ne (hx b n)]; exact n, fun b u q _ => ?_,
    fun b xs q => by rw [upd_ne (hm b _ q fun z => z)]; exact q, fun b u xs q => by rw [upd_ne (hm b _ q fun z => z)]; exact q, fun b ps q => ⟨#[], by rw [upd_ne (hm b _ q fun z => z), q]; simp⟩⟩
  by_cases hbe : b = e
  · subst hbe; exact heo
  · exact ⟨u, k b u hbe q⟩
theorem Un.mono (u : Un fs ex H H1 h h1) (hs : ∀ b ∈ fs, b ∈ fs') (hx : ∀ b ∈ ex, b ∈ ex') : Un fs' ex' H H1 h h1 :=
  ⟨fun b ob q n hb he => u.keep b ob q n (fun z => hb (hs b z)) fun z => he (hx b z), fun _ _ q n _ he => u.any q n fun z => he (hx _ z), fun b ob q n he => u.free b ob q n fun z => he (hx b z), fun b ob q he => u.there b ob q fun z => he (hx b z), u.tups, u.frzs, u.tbls⟩
end
def trk (h : Heap) (H : Hp) : List Addr := (List.range h.objs.size).filter fun a => (H a).isSome
def hidT (h : Heap) (H : Hp) : Heap := PySem.W.hideAll h (trk h H)
theorem hidT_size (h : Heap) (H : Hp) : (hidT h H).objs.size = h.objs.size := PySem.W.hideAll_size _ _
theorem hidT_get {h : Heap} {H : Hp} {b : Addr} {o : Obj} (e : h.get? b = some o) (n : H b = none) : (hidT h H).get? b = some o :=
  PySem.W.hideAll_get _ e fun hm => by
    have q : (H b).isSome = true := (List.mem_filter.mp hm).2
    rw [n] at q; simp at q
theorem of_hidT {h : Heap} {H : Hp} {b : Addr} {o : Obj} (e : (hidT h H).get? b = some o) : h.get? b = some o ∧ H b = none := by
  have e' : h.get? b = some o := PySem.W.of_hideAll (trk h H) e
  refine ⟨e', ?_⟩
  cases q : H b with
  | none => rfl
  | some x =>
    have hm : b ∈ trk h H := List.mem_filter.mpr ⟨List.mem_range.mpr (Heap.lt_size e'), by simp [q]⟩
    have z : (hidT h H).get? b = none := PySem.W.hideAll_none (trk h H) hm
    rw [z] at e; cases e
def allNews (g h : Heap) (L : Addr) : List (Addr × Obj) := (List.range h.objs.size).filterMap fun a => if a = L ∨ (g.get? a).isSome = true then none else (h.get? a).map fun o => (a, o)
def rest (g h : Heap) (L d : Addr) : List (Addr × Obj) := (allNews g h L).filter fun p => decide (p.1 ≠ d)
end L2
namespace L2
open PySem PySem.Spec PyProof.Rows
structure Mod (K : PySem.W.Frag) (mg : Str → Option Value) (base : Heap) : Prop where
  kin : K.In base
  glob : base.Ns mainGlobals mg
  blt : ∃ mb, base.Ns builtinsNs mb ∧ ∀ x : Str, x ≠ "__name__" → mb x = bootBuiltins x
  nolimit : base.NoLimit
/- the context: a def's body (or a comprehension's block) running. base: fixed through the whole law; s₀, H₀: the entry; outer: the frames whose slots others may change (a def's callers); stack: all frames that run;
   ex: iterators that were made ahead of the entry and are walked here (a comprehension's); fn: the names whose cells were made at the entry (a def: all; a comprehension's block: its own); calm: not within an except suite; pn: pins that every state bears; xe: what is wanted of an exception that leaves the code -/
set_option genInjectivity false in
set_option genSizeOfSpec false in
set_option genSizeOf false in
structure Cx where
  prog : Program
  w : World
  K : PySem.W.Frag
  mg : Str → Option Value
  base : Heap
  A : Around
  N : List Str
  s₀ : Shared
  H₀ : Hp
  env : Env
  outer : List Env
  stack : List Env
  ex : List Addr
  fn : Str → Bool
  calm : Bool
  pn : List (Addr × Obj)
  xe : Value → Shared → Prop
def frs (l : List Env) : List Addr := l.filterMap (·.frame)
abbrev Cx.fs (X : Cx) : List Addr := frs X.outer
def Vis (sc : Scope) (x : Str) : Prop := sc.names.lookup x = some .local ∨ sc.names.lookup x = some .cell ∨ sc.names.lookup x = some .free
def Loc (sc : Scope) (x : Str) : Prop := sc.names.lookup x = some .local ∨ sc.names.lookup x = some .cell
def Look (env : Env) (h : Heap) (m : Str → Option Value) (x : Str) (u : Value) : Prop :=
  (env.kindOf x = some .local ∧ m x = some u) ∨ ((env.kindOf x = some .cell ∨ env.kindOf x = some .free) ∧ ∃ c, env.cells.lookup x = some c ∧ h.IsCell c (some u))
structure Cx.Ok (X : Cx) : Prop where
  mod : Mod X.K X.mg X.base
  kind : X.env.scope.kind = .function
  glob : X.env.globals = mainGlobals
  blt : X.env.builtins = builtinsNs
  above : X.s₀.heap.objs.size ≤ X.env.locals
  inj : ∀ x y c, X.env.cells.lookup x = some c → X.env.cells.lookup y = some c → x = y
  has : ∀ x, (X.env.kindOf x = some .cell ∨ X.env.kindOf x = some .free) → ∃ c, X.env.cells.lookup x = some c
  cab : ∀ x c, X.fn x = true → X.env.cells.lookup x = some c → X.s₀.heap.objs.size ≤ c
  hd : X.calm = true → X.A.handled = none
  frames : X.A.frames = some X.stack
  stk : X.stack = X.outer ∨ (X.stack = X.env :: X.outer ∧ X.env.frame = some X.env.locals)
  exf : ∀ b ∈ X.ex, b ≠ X.env.locals ∧ ∀ x c, X.env.cells.lookup x = some c → c ≠ b
  bs : ∀ b o, X.base.get? b = some o → X.s₀.heap.get? b = some o ∧ X.H₀ b = none
  bsz : X.base.objs.size ≤ X.s₀.heap.objs.size
  noex : ∀ b o, X.base.get? b = some o → b ∉ X.ex
  exfs : ∀ b ∈ X.ex, b ∉ X.fs
  funs : X.s₀.heap.FunFrames X.base X.outer
  frf : ∀ b ∈ X.fs, X.H₀ b = none
structure Inv (X : Cx) (pins : List (Addr × Obj)) (σ : List (Option V)) (H : Hp) (s : Shared) : Prop where
  ok : X.Ok
  os : s.os = X.s₀.os
  bare : AllBare s.gens
  base : Un X.fs X.ex X.H₀ H X.s₀.heap s.heap
  loc : ∃ m, s.heap.Ns X.env.locals m ∧ ∀ (i : Nat) (x : Str) (v : V), X.N[i]? = some x → σ[i]? = some (some v) → Vis X.env.scope x → ∃ u, RelV v u ∧ Look X.env s.heap m x u
  cell : ∀ x c, X.env.cells.lookup x = some c → ∃ v, s.heap.IsCell c v
  free : H X.env.locals = none
  freeC : ∀ x c, X.env.cells.lookup x = some c → H c = none
  pin : ∀ p ∈ X.pn ++ pins, s.heap.get? p.1 = some p.2 ∧ H p.1 = none ∧ p.1 ≠ X.env.locals ∧ p.1 ∉ X.fs ∧ ∀ v, p.2.data ≠ .cell v
  hok : HOk X.prog X.w H s.heap
  len : σ.length = X.N.length
section
variable {X : Cx} {pins : List (Addr × Obj)} {σ : List (Option V)} {H H' : Hp} {s : Shared} {h' : Heap}
theorem Cx.Ok.nofr (ok : X.Ok) {b : Addr} {o : Obj} (e : X.base.get? b = some o) : b ∉ X.fs := fun hb => by
  have := (ok.funs.mem hb).1
  rw [e] at this; cases this
theorem Inv.bs (I : Inv X pins σ H s) : ∀ b o, X.base.get? b = some o → s.heap.get? b = some o ∧ H b = none := fun b o e =>
  ⟨I.base.keep b o (I.ok.bs b o e).1 (I.ok.bs b o e).2 (I.ok.nofr e) (I.ok.noex b o e), I.base.free b o (I.ok.bs b o e).1 (I.ok.bs b o e).2 (I.ok.noex b o e)⟩
theorem Inv.bk (I : Inv X pins σ H s) : ∀ b o, X.base.get? b = some o → s.heap.get? b = some o := fun b o e => (I.bs b o e).1
theorem Inv.mod (I : Inv X pins σ H s) : Mod X.K X.mg X.base := I.ok.mod
theorem Inv.kIn (I : Inv X pins σ H s) : X.K.In s.heap := I.ok.mod.kin.keeps I.bk
theorem Inv.nolimit (I : Inv X pins σ H s) : s.heap.NoLimit := I.ok.mod.nolimit.keeps I.bk
theorem Inv.lt (I : Inv X pins σ H s) : X.env.locals < s.heap.objs.size := let ⟨_, hn, _⟩ := I.loc; hn.lt
theorem Inv.sz (I : Inv X pins σ H s) : X.s₀.heap.objs.size ≤ s.heap.objs.size := Nat.le_trans I.ok.above (Nat.le_of_lt I.lt)
theorem Inv.nofs (I : Inv X pins σ H s) {a : Addr} (h : s.heap.objs.size ≤ a) : a ∉ X.fs := fun hb => by
  obtain ⟨_, o, ho, _⟩ := I.ok.funs.mem hb
  exact absurd (Nat.lt_of_lt_of_le (Heap.lt_size ho) (Nat.le_trans I.sz h)) (Nat.lt_irrefl _)
theorem Inv.cne (I : Inv X pins σ H s) : ∀ x c, X.env.cells.lookup x = some c → c ≠ X.env.locals := fun x c e z => by
  obtain ⟨v, o, ho, hd⟩ := I.cell x c e
  obtain ⟨m, ⟨o', es, ep, ho', hd', _⟩, _⟩ := I.loc
  rw [z, ho'] at ho; cases ho; rw [hd'] at hd; cases hd
theorem Inv.funs (I : Inv X pins σ H s) : s.heap.FunFrames X.base X.outer := by
  have all : ∀ (l : List Env), (∀ b ∈ frs l, b ∈ X.fs) → X.s₀.heap.FunFrames X.base l → s.heap.FunFrames X.base l := by
    intro l
    induction l with
    | nil => intro _ _; trivial
    | cons env r ih =>
      intro hs hl
      obtain ⟨hk, ⟨L, o, hf, hn, ho, hd⟩, hr⟩ := hl
      have hL : L ∈ X.fs := hs L (by unfold frs; rw [List.filterMap_cons, hf]; exact List.mem_cons_self)
      obtain ⟨sl, e⟩ := I.base.slot L o ho (I.ok.frf L hL) hL fun z => I.ok.exfs L z hL
      exact ⟨hk, ⟨L, _, hf, hn, e, hd⟩, ih (fun b hb => hs b (by unfold frs; rw [List.filterMap_cons, hf]; exact List.mem_cons_of_mem _ hb)) hr⟩
  exact all X.outer (fun _ hb => hb) I.ok.funs
theorem Inv.stack (I : Inv X pins σ H s) : s.heap.FunFrames X.base X.stack := by
  rcases I.ok.stk with e | ⟨e, hf⟩
  · rw [e]; exact I.funs
  · rw [e]
    obtain ⟨m, hn, _⟩ := I.loc
    refine .cons (by rw [I.ok.kind]; decide) hf hn ?_ I.funs
    exact Heap.get?_none_of_le (Nat.le_trans I.ok.bsz I.ok.above)
theorem Inv.stkSub (I : Inv X pins σ H s) : ∀ b ∈ frs X.stack, b ∈ X.env.locals :: X.fs := fun b hb => by
  rcases I.ok.stk with e | ⟨e, hf⟩
  · rw [e] at hb; exact List.mem_cons_of_mem _ hb
  · rw [e] at hb
    unfold frs at hb
    rw [List.filterMap_cons, hf] at hb
    exact hb
theorem Inv.stkFree (I : Inv X pins σ H s) : ∀ b ∈ frs X.stack, H b = none := fun b hb => by
  rcases List.mem_cons.mp (I.stkSub b hb) with e | hb
  · rw [e]; exact I.free
  · obtain ⟨_, o, ho, _⟩ := I.ok.funs.mem hb
    exact I.base.free b o ho (I.ok.frf b hb) fun z => I.ok.exfs b z hb
theorem Inv.step {g' : Array GenState} {t' : Nat} {d' : Drawn} {ch : List Addr} (I : Inv X pins σ H s)
    (hch : ∀ b ∈ ch, (b ∈ X.ex ∨ X.s₀.heap.objs.size ≤ b) ∧ b ≠ X.env.locals ∧ (∀ x c, X.env.cells.lookup x = some c → c ≠ b) ∧ ∀ p ∈ X.pn ++ pins, p.1 ≠ b)
    (keep : ∀ b o, b ≠ X.env.locals → b ∉ X.fs → b ∉ ch → s.heap.get? b = some o → H b = none → h'.get? b = some o)
    (slot : ∀ b o, b ≠ X.env.locals → b ∈ X.fs → b ∉ ch → s.heap.get? b = some o → H b = none → ∃ sl, h'.get? b = some { o with slots := sl }) (free : ∀ b o, b ∉ ch → s.heap.get? b = some o → H b = none → H' b = none)
    (there : ∀ b o, b ∉ ch → s.heap.get? b = some o → ∃ o', h'.get? b = some o')
    (tups : ∀ b xs, H b = some (.tup xs) → H' b = some (.tup xs)) (frzs : ∀ b o u, H b = some (.frz o u) → H' b = some (.frz o u)) (tbls : ∀ b ps, H b = some (.tbl ps) → ∃ more, H' b = some (.tbl (ps ++ more)))
    (ns : ∀ m, s.heap.Ns X.env.locals m → h'.Ns X.env.locals m) (hok : HOk X.prog X.w H' h') (hg : AllBare g') :
    Inv X pins σ H' { s with heap := h', gens := g', drawn := d', toks := t' } := by
  have neL : ∀ b o, X.s₀.heap.get? b = some o → b ≠ X.env.locals := fun b o e => Nat.ne_of_lt (Nat.lt_of_lt_of_le (Heap.lt_size e) I.ok.above)
  have neC : ∀ b o, X.s₀.heap.get? b = some o → b ∉ X.ex → b ∉ ch := fun b o e hx hb => by
    rcases (hch b hb).1 with z | z
    · exact hx z
    · exact absurd (Nat.lt_of_lt_of_le (Heap.lt_size e) z) (Nat.lt_irrefl _)
  have cellK : ∀ x c, X.env.cells.lookup x = some c → ∀ v, s.heap.IsCell c v → h'.IsCell c v := fun x c e v ⟨o, ho, hd⟩ => by
    have nch : c ∉ ch := fun z => (hch c z).2.2.1 x c e rfl
    by_cases hc : c ∈ X.fs
    · obtain ⟨sl, q⟩ := slot c o (I.cne x c e) hc nch ho (I.freeC x c e)
      exact ⟨_, q, hd⟩
    · exact ⟨o, keep c o (I.cne x c e) hc nch ho (I.freeC x c e), hd⟩
  refine ⟨I.ok, I.os, hg, ⟨fun b o e n hb hx => ?_, fun b o e n hb hx => ?_, fun b o e n hx => ?_, fun b o e hx => ?_, fun b xs e => tups b xs (I.base.tups b xs e), fun b o xs e => frzs b o xs (I.base.frzs b o xs e), fun b ps e => ?_⟩, ?_, fun x c e => ?_, ?_, fun x c e => ?_, fun p hp => ?_, hok, I.len⟩
  · exact keep b o (neL b o e) hb (neC b o e hx) (I.base.keep b o e n hb hx) (I.base.free b o e n hx)
  · obtain ⟨sl, e1⟩ := I.base.slot b o e n hb hx
    obtain ⟨sl', e2⟩ := slot b _ (neL b o e) hb (neC b o e hx) e1 (I.base.free b o e n hx)
    exact ⟨sl', e2⟩
  · obtain ⟨o', e1⟩ := I.base.there b o e hx
    exact free b o' (neC b o e hx) e1 (I.base.free b o e n hx)
  · obtain ⟨o', e1⟩ := I.base.there b o e hx
    exact there b o' (neC b o e hx) e1
  · obtain ⟨m1, e1⟩ := I.base.tbls b ps e
    obtain ⟨m2, e2⟩ := tbls b _ e1
    exact ⟨m1 ++ m2, by rw [e2, Array.append_assoc]⟩
  · obtain ⟨m, hn, hl⟩ := I.loc
    refine ⟨m, ns m hn, fun i x v e1 e2 e3 => ?_⟩
    obtain ⟨u, r, l⟩ := hl i x v e1 e2 e3
    refine ⟨u, r, ?_⟩
    rcases l with l | ⟨k, c, e, z⟩
    · exact .inl l
    · exact .inr ⟨k, c, e, cellK x c e _ z⟩
  · obtain ⟨v, z⟩ := I.cell x c e
    exact ⟨v, cellK x c e v z⟩
  · obtain ⟨m, ⟨o, _, _, ho, _⟩, _⟩ := I.loc
    exact free _ o (fun z => (hch _ z).2.1 rfl) ho I.free
  · obtain ⟨v, o, ho, hd⟩ := I.cell x c e
    exact free c o (fun z => (hch c z).2.2.1 x c e rfl) ho (I.freeC x c e)
  · obtain ⟨e, n, ne, nf, d⟩ := I.pin p hp
    have nch : p.1 ∉ ch := fun z => (hch p.1 z).2.2.2 p hp rfl
    exact ⟨keep p.1 p.2 ne nf nch e n, free p.1 p.2 nch e n, ne, nf, d⟩
theorem Inv.un {t' : Nat} (I : Inv X pins σ H s) (u : Un X.fs [] H H' s.heap h') (hok : HOk X.prog X.w H' h') : Inv X pins σ H' { s with heap := h', toks := t' } := by
  obtain ⟨m, ⟨o, es, ep, ho, r⟩, _⟩ := id I.loc
  obtain ⟨sl, hL⟩ := u.any ho I.free (by simp)
  exact I.step (g' := s.gens) (d' := s.drawn) (ch := []) (fun _ z => nomatch z) (fun b o _ hb _ e n => u.keep b o e n hb (by simp)) (fun b o _ hb _ e n => u.slot b o e n hb (by simp)) (fun b o _ e n => u.free b o e n (by simp)) (fun b o _ e => u.there b o e (by simp)) u.tups u.frzs u.tbls (fun m' hm => by
    obtain ⟨o', es', ep', ho', r'⟩ := hm
    rw [ho] at ho'; cases ho'
    exact ⟨_, es', ep', hL, r'⟩) hok I.bare
theorem Inv.call {g' : Array GenState} {t' : Nat} {d' : Drawn} {ch : List Addr} (I : Inv X pins σ H s) (u : Un (frs X.stack) ch H H' s.heap h') (hok : HOk X.prog X.w H' h') (hg : AllBare g')
    (hch : ∀ b ∈ ch, (b ∈ X.ex ∨ X.s₀.heap.objs.size ≤ b) ∧ b ≠ X.env.locals ∧ (∀ x c, X.env.cells.lookup x = some c → c ≠ b) ∧ ∀ p ∈ X.pn ++ pins, p.1 ≠ b) :
    Inv X pins σ H' { s with heap := h', gens := g', drawn := d', toks := t' } := by
  obtain ⟨m, ⟨o, es, ep, ho, r⟩, _⟩ := id I.loc
  obtain ⟨sl, hL⟩ := u.any ho I.free fun z => (hch _ z).2.1 rfl
  exact I.step (ch := ch) hch (fun b o hL hb hc e n => u.keep b o e n (fun z => (List.mem_cons.mp (I.stkSub b z)).elim hL hb) hc) (fun b o _ _ hc e n => u.any e n hc) (fun b o hc e n => u.free b o e n hc) (fun b o hc e => u.there b o e hc) u.tups u.frzs u.tbls (fun m' hm => by
    obtain ⟨o', es', ep', ho', r'⟩ := hm
    rw [ho] at ho'; cases ho'
    exact ⟨_, es', ep', hL, r'⟩) hok hg
theorem Inv.turned {t' : Nat} {it : Addr} (I : Inv X pins σ H s) (k : ∀ b o, b ≠ it → s.heap.get? b = some o → h'.get? b = some o) (hn : H it = none) (hL : it ≠ X.env.locals)
    (h1 : it ∈ X.ex ∨ X.s₀.heap.objs.size ≤ it) (h2 : ∀ x c, X.env.cells.lookup x = some c → c ≠ it) (h3 : ∀ p ∈ X.pn ++ pins, p.1 ≠ it) : Inv X pins σ H { s with heap := h', toks := t' } := by
  have nit : ∀ b u, H b = some u → b ≠ it := fun b u e z => by rw [z, hn] at e; cases e
  refine I.step (g' := s.gens) (d' := s.drawn) (ch := [it]) (fun b hb => ?_) (fun b o _ _ hc e _ => k b o (fun z => hc (by simp [z])) e) (fun b o _ _ hc e _ => ⟨o.slots, k b o (fun z => hc (by simp [z])) e⟩) (fun _ _ _ _ n => n)
    (fun b o hc e => ⟨o, k b o (fun z => hc (by simp [z])) e⟩) (fun _ _ e => e) (fun _ _ _ e => e) (fun b ps e => ⟨#[], by rw [e]; simp⟩) (fun m hm => ?_) (fun b u e => ?_) I.bare
  · have e : b = it := by simpa using hb
    subst e
    exact ⟨h1, hL, h2, h3⟩
  · obtain ⟨o, es, ep, ho, r⟩ := hm
    exact ⟨o, es, ep, k _ o (Ne.symm hL) ho, r⟩
  · refine (I.hok b u e).stay (fun c v hc q => k c v ?_ q) (fun _ q => q) fun _ _ q => q
    rcases hc with z | z
    · rw [z]; exact nit b u e
    · exact nit c _ z
theorem Inv.tok (I : Inv X pins σ H s) (t : Nat) : Inv X pins σ H { s with toks := t } := I.un (h' := s.heap) (t' := t) Un.refl I.hok
theorem Inv.kept {t' : Nat} (I : Inv X pins σ H s) (k : ∀ b u, s.heap.get? b = some u → h'.get? b = some u) : Inv X pins σ H { s with heap := h', toks := t' } := I.un (Un.kept k) (I.hok.kept k)
theorem Inv.laid {a : Addr} {o : HO} {t' : Nat} (I : Inv X pins σ H s) (k : ∀ b u, s.heap.get? b = some u → h'.get? b = some u) (hp : s.heap.objs.size ≤ a) (new : ObjOk X.prog X.w (upd H a o) h' a o) :
    Inv X pins σ (upd H a o) { s with heap := h', toks := t' } := I.un (Un.laid k hp (I.hok.fresh hp)) (I.hok.laid k hp new)
theorem Inv.write {x e : Addr} {o : HO} {t' : Nat} (I : Inv X pins σ H s) (mu : Mut (H x)) (he : e = x ∨ H e = some (.own x)) (k : ∀ b u, b ≠ e → s.heap.get? b = some u → h'.get? b = some u) (heo : ∃ u, h'.get? e = some u)
    (new : ObjOk X.prog X.w (upd H x o) h' x o) : Inv X pins σ (upd H x o) { s with heap := h', toks := t' } := I.un (Un.write mu he k heo) (I.hok.write mu he k heo new)
theorem Inv.pins_of {pins' : List (Addr × Obj)} (I : Inv X pins σ H s) (h : ∀ p ∈ pins', s.heap.get? p.1 = some p.2 ∧ H p.1 = none ∧ p.1 ≠ X.env.locals ∧ p.1 ∉ X.fs ∧ ∀ v, p.2.data ≠ .cell v) : Inv X pins' σ H s :=
  ⟨I.ok, I.os, I.bare, I.base, I.loc, I.cell, I.free, I.freeC, fun p hp => (List.mem_append.mp hp).elim (fun z => I.pin p (List.mem_append_left _ z)) (h p), I.hok, I.len⟩
theorem nodup_ix {N : List Str} (hN : N.Nodup) {i j : Nat} {x : Str} (a : N[i]? = some x) (b : N[j]? = some x) : i = j := by
  obtain ⟨h1, e1⟩ := List.getElem?_eq_some_iff.mp a
  obtain ⟨h2, e2⟩ := List.getElem?_eq_some_iff.mp b
  exact (List.getElem_inj hN).mp (e1.trans e2.symm)
theorem store_ok2 {M : Model} {A : Around} {E : Value → Shared → Prop} {i : Nat} {x : Str} {v : V} {u : Value} {Q : Unit → Shared → Prop} (I : Inv X pins σ H s) (hN : X.N.Nodup) (hi : X.N[i]? = some x) (hx : Loc X.env.scope x) (r : RelV v u)
    (h : ∀ s', Inv X pins (σ.set i (some v)) H s' → (∃ a, Heap.SameBut a s.heap s'.heap ∧ (a = X.env.locals ∨ X.env.cells.lookup x = some a)) → Q () s') (hf : X.fn x = true ∨ X.env.scope.names.lookup x = some .local := by first | exact .inl rfl | exact .inr rfl | assumption) : wpAny M A (storeName X.env x u) Q E s := by
  obtain ⟨m, hn, hl⟩ := id I.loc
  have hcls : (X.env.scope.kind == .class || (X.env.scope.kind == .module && X.env.locals != X.env.globals)) = false := by rw [I.ok.kind]; rfl
  have hiσ : i < σ.length := by rw [I.len]; exact (List.getElem?_eq_some_iff.mp hi).1
  have cne := I.cne
  have tracked : ∀ {a : Addr} {h' : Heap}, (∃ o, s.heap.get? a = some o ∧ H a = none) → Heap.SameBut a s.heap h' → HOk X.prog X.w H h' := fun {a h'} ha hs b ob e => by
    obtain ⟨_, _, hfree⟩ := ha
    refine (I.hok b ob e).stay (fun c w' hc q => (hs.2 c ?_).trans q) (fun _ q => q) fun _ _ q => q
    rintro rfl
    rcases hc with rfl | hc
    · rw [hfree] at e; cases e
    · rw [hfree] at hc; cases hc
  rcases hx with hk | hk
  · refine wpAny_storeName_local hk hn (fun h' hn' hs => ?_) hcls
    obtain ⟨oL, _, _, hoL, _⟩ := id hn
    refine h _ ⟨I.ok, I.os, I.bare, ⟨fun b o e n hb hx => ?_, fun b o e n hb hx => ?_, I.base.free, fun b o e hx => ?_, I.base.tups, I.base.frzs, I.base.tbls⟩, ⟨_, hn', fun j y v' e1 e2 e3 => ?_⟩, fun y c e => ?_, I.free, I.freeC, fun p hp => ?_, tracked ⟨oL, hoL, I.free⟩ hs, by simpa using I.len⟩ ⟨_, hs, .inl rfl⟩
    · exact (hs.2 b (Nat.ne_of_lt (Nat.lt_of_lt_of_le (Heap.lt_size e) I.ok.above))).trans (I.base.keep b o e n hb hx)
    · obtain ⟨sl, e1⟩ := I.base.slot b o e n hb hx
      exact ⟨sl, (hs.2 b (Nat.ne_of_lt (Nat.lt_of_lt_of_le (Heap.lt_size e) I.ok.above))).trans e1⟩
    · obtain ⟨o', e1⟩ := I.base.there b o e hx
      exact ⟨o', (hs.2 b (Nat.ne_of_lt (Nat.lt_of_lt_of_le (Heap.lt_size e) I.ok.above))).trans e1⟩
    · by_cases hj : j = i
      · subst hj
        rw [hi] at e1; cases e1
        rw [List.getElem?_set_self hiσ] at e2
        cases e2
        exact ⟨u, r, .inl ⟨hk, by simp⟩⟩
      · rw [List.getElem?_set_ne (Ne.symm hj)] at e2
        obtain ⟨u', r', q⟩ := hl j y v' e1 e2 e3
        refine ⟨u', r', ?_⟩
        rcases q with ⟨k, e⟩ | ⟨k, c, e, z⟩
        · refine .inl ⟨k, ?_⟩
          have : y ≠ x := fun e => hj (nodup_ix hN e1 (e ▸ hi))
          simp [this, e]
        · exact .inr ⟨k, c, e, z.sameBut hs (cne y c e)⟩
    · obtain ⟨w', z⟩ := I.cell y c e
      exact ⟨w', z.sameBut hs (cne y c e)⟩
    · obtain ⟨e, n, ne, nf, d⟩ := I.pin p hp
      exact ⟨(hs.2 p.1 ne).trans e, n, ne, nf, d⟩
  · have hfn : X.fn x = true := by
      rcases hf with z | z
      · exact z
      · rw [z] at hk; cases hk
    obtain ⟨c, hc⟩ := I.ok.has x (.inl hk)
    obtain ⟨w', z⟩ := I.cell x c hc
    refine wpAny_storeName_cell I.ok.kind hk hc z (fun h' hc' hs => ?_)
    obtain ⟨oc, hoc, hocd⟩ := id z
    refine h { s with heap := h' } ⟨I.ok, I.os, I.bare, ⟨fun b o e n hb hx => ?_, fun b o e n hb hx => ?_, I.base.free, fun b o e hx => ?_, I.base.tups, I.base.frzs, I.base.tbls⟩, ⟨m, hn.sameBut hs (Ne.symm (cne x c hc)), fun j y v' e1 e2 e3 => ?_⟩, fun y c' e => ?_, I.free, I.freeC, fun p hp => ?_, tracked ⟨oc, hoc, I.freeC x c hc⟩ hs, by simpa using I.len⟩ ⟨c, hs, .inr hc⟩
    · exact (hs.2 b (Nat.ne_of_lt (Nat.lt_of_lt_of_le (Heap.lt_size e) (I.ok.cab x c hfn hc)))).trans (I.base.keep b o e n hb hx)
    · obtain ⟨sl, e1⟩ := I.base.slot b o e n hb hx
      exact ⟨sl, (hs.2 b (Nat.ne_of_lt (Nat.lt_of_lt_of_le (Heap.lt_size e) (I.ok.cab x c hfn hc)))).trans e1⟩
    · obtain ⟨o', e1⟩ := I.base.there b o e hx
      exact ⟨o', (hs.2 b (Nat.ne_of_lt (Nat.lt_of_lt_of_le (Heap.lt_size e) (I.ok.cab x c hfn hc)))).trans e1⟩
    · by_cases hj : j = i
      · subst hj
        rw [hi] at e1; cases e1
        rw [List.getElem?_set_self hiσ] at e2
        cases e2
        exact ⟨u, r, .inr ⟨.inl hk, c, hc, hc'⟩⟩
      · rw [List.getElem?_set_ne (Ne.symm hj)] at e2
        obtain ⟨u', r', q⟩ := hl j y v' e1 e2 e3
        refine ⟨u', r', ?_⟩
        rcases q with q | ⟨k, c', e, z'⟩
        · exact .inl q
        · refine .inr ⟨k, c', e, z'.sameBut hs ?_⟩
          rintro rfl
          exact hj (nodup_ix hN e1 (I.ok.inj _ _ _ e hc ▸ hi))
    · by_cases hcc : c' = c
      · subst hcc; exact ⟨_, hc'⟩
      · obtain ⟨w2, z2⟩ := I.cell y c' e
        exact ⟨w2, z2.sameBut hs hcc⟩
    · obtain ⟨e, n, ne, nf, d⟩ := I.pin p hp
      refine ⟨(hs.2 p.1 ?_).trans e, n, ne, nf, d⟩
      intro q
      rw [q, hoc] at e
      have q' : oc = p.2 := Option.some.inj e
      exact d w' (by rw [← q']; exact hocd)
theorem store_ok {M : Model} {A : Around} {E : Value → Shared → Prop} {i : Nat} {x : Str} {v : V} {u : Value} {Q : Unit → Shared → Prop} (I : Inv X pins σ H s) (hN : X.N.Nodup) (hi : X.N[i]? = some x) (hx : Loc X.env.scope x) (r : RelV v u)
    (h : ∀ s', Inv X pins (σ.set i (some v)) H s' → Q () s') (hf : X.fn x = true ∨ X.env.scope.names.lookup x = some .local := by first | exact .inl rfl | exact .inr rfl | assumption) : wpAny M A (storeName X.env x u) Q E s :=
  store_ok2 I hN hi hx r (fun s' I' _ => h s' I') hf
theorem Inv.call' {s' : Shared} {ch : List Addr} (I : Inv X pins σ H s) (ho : s'.os = s.os) (u : Un (frs X.stack) ch H H' s.heap s'.heap) (hok : HOk X.prog X.w H' s'.heap) (hg : AllBare s'.gens)
    (hch : ∀ b ∈ ch, (b ∈ X.ex ∨ X.s₀.heap.objs.size ≤ b) ∧ b ≠ X.env.locals ∧ (∀ x c, X.env.cells.lookup x = some c → c ≠ b) ∧ ∀ p ∈ X.pn ++ pins, p.1 ≠ b) : Inv X pins σ H' s' := by
  obtain ⟨h', g', d', t', o'⟩ := s'
  have e : o' = s.os := ho
  subst e
  exact I.call (g' := g') (t' := t') (d' := d') u hok hg hch
end
abbrev XK := Value → Option Addr → Hp → Prop
abbrev St := List (Option V)
abbrev VK := V → Hp → Prop
abbrev TE := St → Hp → VK → Prop
abbrev TT := St → Hp → (Bool → Hp → Prop) → Prop
abbrev TA := St → Hp → (List V → Hp → Prop) → Prop
/- what is wanted behind a statement -/
set_option genInjectivity false in
set_option genSizeOfSpec false in
set_option genSizeOf false in
structure Ends where
  nx : St → Hp → Prop
  rt : VK
  bk : St → Hp → Prop := fun _ _ => False
  ct : St → Hp → Prop := fun _ _ => False
abbrev TS := Ends → St → Hp → Prop
def EP (X : Cx) (pins : List (Addr × Obj)) (σ : St) (Q : VK) (u : Value) (s' : Shared) : Prop := ∃ v H', Inv X pins σ H' s' ∧ RelV v u ∧ Q v H'
def TP (X : Cx) (pins : List (Addr × Obj)) (σ : St) (Q : Bool → Hp → Prop) (b : Bool) (s' : Shared) : Prop := ∃ H', Inv X pins σ H' s' ∧ Q b H'
def AP (X : Cx) (pins : List (Addr × Obj)) (σ : St) (Q : List V → Hp → Prop) (us : List Value) (s' : Shared) : Prop := ∃ vs H', Inv X pins σ H' s' ∧ Vals vs us ∧ Q vs H'
def SP (X : Cx) (pins : List (Addr × Obj)) (D : Ends) (f : Flow) (s' : Shared) : Prop :=
  match f with
  | .next => ∃ σ' H', Inv X pins σ' H' s' ∧ D.nx σ' H'
  | .brk => ∃ σ' H', Inv X pins σ' H' s' ∧ D.bk σ' H'
  | .cont => ∃ σ' H', Inv X pins σ' H' s' ∧ D.ct σ' H'
  | .ret u => ∃ v σ' H', Inv X pins σ' H' s' ∧ RelV v u ∧ D.rt v H'
@[irreducible] def PE (X : Cx) (e : Expr) (t : TE) : Prop :=
  ∀ (pins : List (Addr × Obj)) (s : Shared) (σ : St) (H : Hp) (Q : VK), Inv X pins σ H s → t σ H Q → wpAny (model X.prog X.w) X.A (eval e X.env) (EP X pins σ Q) X.xe s
@[irreducible] def PT (X : Cx) (e : Expr) (t : TT) : Prop :=
  ∀ (pins : List (Addr × Obj)) (s : Shared) (σ : St) (H : Hp) (Q : Bool → Hp → Prop), Inv X pins σ H s → t σ H Q → wpAny (model X.prog X.w) X.A (isTrue e X.env (eval e X.env)) (TP X pins σ Q) X.xe s
@[irreducible] def PW (X : Cx) (e : Expr) (t : TT) : Prop :=
  ∀ (whole : Sem Value) (pins : List (Addr × Obj)) (s : Shared) (σ : St) (H : Hp) (Q : Bool → Hp → Prop), Inv X pins σ H s → t σ H Q → wpAny (model X.prog X.w) X.A (isTrue e X.env whole) (TP X pins σ Q) X.xe s
theorem PW.pt {X : Cx} {e : Expr} {t : TT} (h : PW X e t) : PT X e t := by
  first
  | exact (h _)
  | (unfold PT at *; unfold PW at *; exact (h _))
@[irreducible] def PA (X : Cx) (es : List Expr) (t : TA) : Prop :=
  ∀ (pos : Pos) (pins : List (Addr × Obj)) (s : Shared) (σ : St) (H : Hp) (Q : List V → Hp → Prop), Inv X pins σ H s → t σ H Q → wpAny (model X.prog X.w) X.A (spliced (backTo pos (starEach es X.env))) (AP X pins σ Q) X.xe s
@[irreducible] def PS (X : Cx) (st : Stmt) (t : TS) : Prop :=
  ∀ (pins : List (Addr × Obj)) (s : Shared) (σ : St) (H : Hp) (D : Ends), Inv X pins σ H s → t D σ H → wpAny (model X.prog X.w) X.A (exec st X.env) (SP X pins D) X.xe s
@[irreducible] def PSs (X : Cx) (st : List Stmt) (t : TS) : Prop :=
  ∀ (pins : List (Addr × Obj)) (s : Shared) (σ : St) (H : Hp) (D : Ends), Inv X pins σ H s → t D σ H → wpAny (model X.prog X.w) X.A (execs st X.env) (SP X pins D) X.xe s
theorem thn {α : Type} {t : Sem α} {Q Q' : α → Shared → Prop} {M : Model} {A : Around} {E : Value → Shared → Prop} {s : Shared} (h : wpAny M A t Q E s) (hQ : ∀ a s, Q a s → Q' a s) : wpAny M A t Q' E s := wpAny_mono h hQ fun _ _ x => x
end L2
namespace L2
open PySem PySem.Spec PyProof.Rows
section
variable {X : Cx}
def tVar (i : Nat) : TE := fun σ H Q => ∃ v, σ[i]? = some (some v) ∧ Q v H
def tC (v : V) : TE := fun _ H Q => Q v H
theorem pe_var {i : Nat} {x : Str} {pos : Pos} (hN : X.N[i]? = some x) (hv : Vis X.env.scope x) (hd : (x == ("__debug__" : Str)) = false := by decide) (hcd : (x == ("__classdict__" : Str)) = false := by decide) : PE X (.Name x pos) (tVar i) := by
  unfold PE at *
  exact by
    intro pins s σ H Q I h
    obtain ⟨v, e, h⟩ := h
    obtain ⟨m, hn, hl⟩ := I.loc
    obtain ⟨u, r, l⟩ := hl i x v hN e hv
    have fin : EP X pins σ Q u s := ⟨v, H, I, r, h⟩
    rcases l with ⟨hk, hm⟩ | ⟨hk, c, hc, hcell⟩
    · exact wpAny_Name (wpAny_loadName_local I.ok.kind hk hn hm fin) hd
    · rcases hk with hk | hk
      · exact wpAny_Name (wpAny_loadName_cell I.ok.kind hk hc hcell fin) hd
      · exact wpAny_Name (wpAny_loadName_free I.ok.kind hk hc hcell fin hcd) hd
theorem pe_int {i j pos} : PE X (.Constant (.int i) j pos) (tC (.int i)) := by
  first
  | exact (fun _ _ _ H _ I h => wpAny_Constant_int ⟨.int i, H, I.tok _, ⟨_, rfl⟩, h⟩)
  | (unfold PE at *; exact (fun _ _ _ H _ I h => wpAny_Constant_int ⟨.int i, H, I.tok _, ⟨_, rfl⟩, h⟩))
theorem pe_bl {b j pos} : PE X (.Constant (.bool b) j pos) (tC (.bl b)) := by
  first
  | exact (fun _ _ _ H _ I h => Constant_bool ⟨.bl b, H, I, rfl, h⟩)
  | (unfold PE at *; exact (fun _ _ _ H _ I h => Constant_bool ⟨.bl b, H, I, rfl, h⟩))
theorem pe_non {j pos} : PE X (.Constant .none j pos) (tC .non) := by
  first
  | exact (fun _ _ _ H _ I h => Constant_none ⟨.non, H, I, rfl, h⟩)
  | (unfold PE at *; exact (fun _ _ _ H _ I h => Constant_none ⟨.non, H, I, rfl, h⟩))
theorem pe_str {x j pos} : PE X (.Constant (.str x) j pos) (tC (.str x)) := by
  first
  | exact (fun _ _ _ H _ I h => Calls.Constant_str ⟨.str x, H, I.tok _, ⟨_, rfl⟩, h⟩)
  | (unfold PE at *; exact (fun _ _ _ H _ I h => Calls.Constant_str ⟨.str x, H, I.tok _, ⟨_, rfl⟩, h⟩))
def Gl (X : Cx) (x : Str) : Prop := X.env.kindOf x = some .globalImplicit
theorem ld_glob {E : Value → Shared → Prop} {pins : List (Addr × Obj)} {s : Shared} {σ : St} {H : Hp} {x : Str} {u : Value} {pos : Pos} {Q : Value → Shared → Prop} (I : Inv X pins σ H s) (hg : Gl X x) (hm : X.mg x = some u) (h : Q u s)
    (hd : (x == ("__debug__" : Str)) = false := by decide) : wpAny (model X.prog X.w) X.A (eval (.Name x pos) X.env) Q E s :=
  Calls.Name_function_global I.ok.kind hg (Calls.loadGlobal_global (by rw [I.ok.glob]; exact I.mod.glob.keeps I.bk) hm h) hd
theorem ld_blt {E : Value → Shared → Prop} {pins : List (Addr × Obj)} {s : Shared} {σ : St} {H : Hp} {x : Str} {u : Value} {pos : Pos} {Q : Value → Shared → Prop} (I : Inv X pins σ H s) (hg : Gl X x) (hm : X.mg x = none) (hv : bootBuiltins x = some u) (h : Q u s)
    (hn : x ≠ "__name__" := by decide) (hd : (x == ("__debug__" : Str)) = false := by decide) : wpAny (model X.prog X.w) X.A (eval (.Name x pos) X.env) Q E s := by
  obtain ⟨mb, h1, h2⟩ := I.mod.blt
  exact Calls.Name_function_global I.ok.kind hg (Calls.loadGlobal_builtin (by rw [I.ok.glob]; exact I.mod.glob.keeps I.bk) hm (by rw [I.ok.blt]; exact h1.keeps I.bk) ((h2 x hn).trans hv) h) hd
theorem pe_glob {x : Str} {v : V} {u : Value} {pos : Pos} (hg : Gl X x) (hm : X.mg x = some u) (r : RelV v u) (hd : (x == ("__debug__" : Str)) = false := by decide) : PE X (.Name x pos) (tC v) := by
  first
  | exact (fun _ _ _ H _ I h => ld_glob I hg hm ⟨v, H, I, r, h⟩ hd)
  | (unfold PE at *; exact (fun _ _ _ H _ I h => ld_glob I hg hm ⟨v, H, I, r, h⟩ hd))
theorem pe_bltn {x : Str} {v : V} {u : Value} {pos : Pos} (hg : Gl X x) (hm : X.mg x = none) (hv : bootBuiltins x = some u) (r : RelV v u) (hn : x ≠ "__name__" := by decide) (hd : (x == ("__debug__" : Str)) = false := by decide) : PE X (.Name x pos) (tC v) := by
  first
  | exact (fun _ _ _ H _ I h => ld_blt I hg hm hv ⟨v, H, I, r, h⟩ hn hd)
  | (unfold PE at *; exact (fun _ _ _ H _ I h => ld_blt I hg hm hv ⟨v, H, I, r, h⟩ hn hd))
variable {a b : Expr} {ta tb : TE} {pos : Pos}
@[irreducible] def PC (X : Cx) (op : CmpOp) (a b : Expr) (t : TE) : Prop :=
  ∀ (pins : List (Addr × Obj)) (s : Shared) (σ : St) (H : Hp) (Q : VK), Inv X pins σ H s → t σ H Q →
    wpAny (model X.prog X.w) X.A (eval a X.env) (fun v s₁ => wpAny (model X.prog X.w) X.A (eval b X.env) (fun u s₂ => wpAny (model X.prog X.w) X.A (compareOp op v u) (EP X pins σ Q) X.xe s₂) X.xe s₁) X.xe s
theorem nobehind (b : Expr) {op : CmpOp} (h : op ≠ .In) (h2 : op ≠ .NotIn) : behindInMarks op b = false := by
  have e1 : (op == CmpOp.In) = false := by cases op <;> first | rfl | exact absurd rfl h
  have e2 : (op == CmpOp.NotIn) = false := by cases op <;> first | rfl | exact absurd rfl h2
  cases b <;> simp [behindInMarks, e1, e2]
def tIsN (ta : TE) : TE := fun σ H Q => ta σ H fun x H1 => Q (.bl (decide (x = .non))) H1
def tNotN (ta : TE) : TE := fun σ H Q => ta σ H fun x H1 => Q (.bl (!decide (x = .non))) H1
theorem RelV.none_iff {x : V} {v : Value} (r : RelV x v) : (v == Value.none) = decide (x = .non) := by
  cases x with
  | non => cases r; rfl
  | bl _ => cases r; rfl
  | int _ => obtain ⟨t, rfl⟩ := r; rfl
  | str _ => obtain ⟨t, rfl⟩ := r; rfl
  | byt _ => obtain ⟨t, rfl⟩ := r; rfl
  | flt _ => obtain ⟨t, rfl⟩ := r; rfl
  | ref _ => cases r; rfl
  | ty _ => cases r; rfl
theorem pc_isN {j pos'} (ha : PE X a ta) : PC X .Is a (.Constant .none j pos') (tIsN ta) := by
  unfold PE at *; unfold PC at *
  exact by
    intro pins s σ H Q I h
    refine thn (ha pins s σ H _ I h) fun v s1 ⟨x, H1, I1, r1, q1⟩ => ?_
    exact Constant_none (is_none_gen ⟨.bl _, H1, I1, by rw [r1.none_iff]; rfl, q1⟩)
theorem pc_notN {j pos'} (ha : PE X a ta) : PC X .IsNot a (.Constant .none j pos') (tNotN ta) := by
  unfold PE at *; unfold PC at *
  exact by
    intro pins s σ H Q I h
    refine thn (ha pins s σ H _ I h) fun v s1 ⟨x, H1, I1, r1, q1⟩ => ?_
    exact Constant_none (isnot_none_gen ⟨.bl _, H1, I1, by rw [r1.none_iff]; rfl, q1⟩)
def tB (t : TE) : TT := fun σ H Q => t σ H fun x H1 => ∃ c, x = .bl c ∧ Q c H1
theorem pe_cmp {op : CmpOp} {t : TE} (h : PC X op a b t) (h1 : behindInMarks op b = false := by first | exact nobehind _ (by decide) (by decide) | rfl) : PE X (.Compare a [op] [b] pos) t := by
  first
  | exact (fun pins s σ H Q I hw => wpAny_Compare1 (h pins s σ H Q I hw) h1)
  | (unfold PE at *; unfold PC at *; exact (fun pins s σ H Q I hw => wpAny_Compare1 (h pins s σ H Q I hw) h1))
theorem pt_cmp {op : CmpOp} {t : TE} (h : PC X op a b t) (h1 : behindInMarks op b = false := by first | exact nobehind _ (by decide) (by decide) | rfl) : PT X (.Compare a [op] [b] pos) (tB t) := by
  unfold PT at *; unfold PC at *
  exact by
    intro pins s σ H Q I hw
    refine wpAny_isTrue_Compare1 (thn (h pins s σ H _ I hw) fun v s1 h1 => thn h1 fun u s2 h2 => thn h2 fun c s3 ⟨x, H1, I1, r1, q1⟩ => ?_) h1
    obtain ⟨d, rfl, q⟩ := q1
    cases r1
    exact wpAny_truthy_bool ⟨H1, I1, q⟩
theorem pt_val {e : Expr} {t : TE} (h : PE X e t) (he : ∀ whole, isTrue e X.env whole = (do let v ← whole; standAt e.pos; holding [v] (truthy v)) := by intro _; rfl) : PT X e (tB t) := by
  unfold PE at *; unfold PT at *
  exact by
    intro pins s σ H Q I hw
    refine isTrue_plain (thn (h pins s σ H _ I hw) fun v s1 ⟨x, H1, I1, r1, q1⟩ => ?_) (he _)
    obtain ⟨d, rfl, q⟩ := q1
    cases r1
    exact wpAny_truthy_bool ⟨H1, I1, q⟩
variable {tA tB' : TT} {rest : List Expr}
def tAnd (t u : TT) : TT := fun σ H Q => t σ H fun c H1 => if c = true then u σ H1 Q else Q false H1
def tOr (t u : TT) : TT := fun σ H Q => t σ H fun c H1 => if c = true then Q true H1 else u σ H1 Q
def tNot (t : TT) : TT := fun σ H Q => t σ H fun c H1 => Q (!c) H1
theorem pw_and1 (ha : PT X a tA) : PW X (.BoolOp .And [a] pos) tA := by
  unfold PT at *; unfold PW at *
  exact by
    intro wh pins s σ H Q I h
    refine isTrue_and (thn (ha pins s σ H Q I h) fun c s1 e => ?_)
    cases c with
    | true => exact isTrue_and_nil e
    | false => exact e
theorem pw_or1 (ha : PT X a tA) : PW X (.BoolOp .Or [a] pos) tA := by
  unfold PT at *; unfold PW at *
  exact by
    intro wh pins s σ H Q I h
    refine isTrue_or (thn (ha pins s σ H Q I h) fun c s1 e => ?_)
    cases c with
    | false => exact isTrue_or_nil e
    | true => exact e
theorem pw_and (ha : PT X a tA) (hb : PW X (.BoolOp .And (b :: rest) pos) tB') : PW X (.BoolOp .And (a :: b :: rest) pos) (tAnd tA tB') := by
  unfold PT at *; unfold PW at *
  exact by
    intro wh pins s σ H Q I h
    refine isTrue_and (thn (ha pins s σ H _ I h) fun c s1 ⟨H1, I1, q1⟩ => ?_)
    cases c with
    | true => exact hb wh pins s1 σ H1 Q I1 q1
    | false => exact ⟨H1, I1, q1⟩
theorem pw_or (ha : PT X a tA) (hb : PW X (.BoolOp .Or (b :: rest) pos) tB') : PW X (.BoolOp .Or (a :: b :: rest) pos) (tOr tA tB') := by
  unfold PT at *; unfold PW at *
  exact by
    intro wh pins s σ H Q I h
    refine isTrue_or (thn (ha pins s σ H _ I h) fun c s1 ⟨H1, I1, q1⟩ => ?_)
    cases c with
    | true => exact ⟨H1, I1, q1⟩
    | false => exact hb wh pins s1 σ H1 Q I1 q1
theorem pt_not (ha : PT X a tA) : PT X (.UnaryOp .Not a pos) (tNot tA) := by
  unfold PT at *
  exact by
    intro pins s σ H Q I h
    exact isTrue_not (ha pins s σ H (fun c H1 => Q (!c) H1) I h)
def tAndV (ta tb : TE) : TE := fun σ H Q => ta σ H fun x H1 => ∃ c, x = .bl c ∧ if c = true then tb σ H1 Q else Q (.bl false) H1
def tOrV (ta tb : TE) : TE := fun σ H Q => ta σ H fun x H1 => ∃ c, x = .bl c ∧ if c = true then Q (.bl true) H1 else tb σ H1 Q
def tNotV (ta : TE) : TE := fun σ H Q => ta σ H fun x H1 => ∃ c, x = .bl c ∧ Q (.bl (!c)) H1
theorem pe_one {op} {t : TE} (h : PE X a t) : PE X (.BoolOp op [a] pos) t := by
  first
  | exact (fun pins s σ H Q I hw => BoolOp_one (h pins s σ H Q I hw))
  | (unfold PE at *; exact (fun pins s σ H Q I hw => BoolOp_one (h pins s σ H Q I hw)))
theorem pe_and (ha : PE X a ta) (hb : PE X (.BoolOp .And (b :: rest) pos) tb) : PE X (.BoolOp .And (a :: b :: rest) pos) (tAndV ta tb) := by
  unfold PE at *
  exact by
    intro pins s σ H Q I h
    refine BoolOp_and (thn (ha pins s σ H _ I h) fun v s1 ⟨x, H1, I1, r1, q1⟩ => ?_)
    obtain ⟨c, rfl, q1⟩ := q1
    cases r1
    refine wpAny_truthy_bool ?_
    cases c with
    | true => exact hb pins s1 σ H1 Q I1 q1
    | false => exact ⟨.bl false, H1, I1, rfl, q1⟩
theorem pe_or (ha : PE X a ta) (hb : PE X (.BoolOp .Or (b :: rest) pos) tb) : PE X (.BoolOp .Or (a :: b :: rest) pos) (tOrV ta tb) := by
  unfold PE at *
  exact by
    intro pins s σ H Q I h
    refine BoolOp_or (thn (ha pins s σ H _ I h) fun v s1 ⟨x, H1, I1, r1, q1⟩ => ?_)
    obtain ⟨c, rfl, q1⟩ := q1
    cases r1
    refine wpAny_truthy_bool ?_
    cases c with
    | false => exact hb pins s1 σ H1 Q I1 q1
    | true => exact ⟨.bl true, H1, I1, rfl, q1⟩
theorem pe_not (ha : PE X a ta) : PE X (.UnaryOp .Not a pos) (tNotV ta) := by
  unfold PE at *
  exact by
    intro pins s σ H Q I h
    refine UnaryOp_ (thn (ha pins s σ H _ I h) fun v s1 ⟨x, H1, I1, r1, q1⟩ => ?_)
    obtain ⟨c, rfl, q1⟩ := q1
    cases r1
    exact not_of (wpAny_truthy_bool ⟨.bl (!c), H1, I1, rfl, q1⟩)
def tIf (t : TT) (ta tb : TE) : TE := fun σ H Q => t σ H fun c H1 => if c = true then ta σ H1 Q else tb σ H1 Q
theorem pe_ifExp {c : Expr} (hc : PT X c tA) (ha : PE X a ta) (hb : PE X b tb) : PE X (.IfExp c a b pos) (tIf tA ta tb) := by
  unfold PE at *; unfold PT at *
  exact by
    intro pins s σ H Q I h
    refine wpAny_IfExp (thn (hc pins s σ H _ I h) fun d s1 ⟨H1, I1, q1⟩ => ?_)
    cases d with
    | true => exact ha pins s1 σ H1 Q I1 q1
    | false => exact hb pins s1 σ H1 Q I1 q1
end
end L2
namespace L2
open PySem PySem.Spec PyProof.Rows
def SqL (K : PySem.W.Frag) (H : Hp) (a : Addr) (xs : List V) : Prop :=
  Rd H a (.lst xs) ∨
    ∃ (o : Obj) (its : Array Value) (n : Nat), K.lookup a = some o ∧ o.cls = .type "list" ∧ o.dict = none ∧ o.data = .seq its n ∧ its.size ≤ sizeLine ∧ Vals xs its.toList
def SqT (K : PySem.W.Frag) (H : Hp) (a : Addr) (xs : List V) : Prop :=
  Rd H a (.tup xs) ∨
    ∃ (o : Obj) (its : Array Value) (n : Nat), K.lookup a = some o ∧ o.cls = .type "tuple" ∧ o.data = .seq its n ∧ its.size ≤ sizeLine ∧ Vals xs its.toList
def absV : Value → Option V
  | .none => some .non
  | .bool b => some (.bl b)
  | .int i _ => some (.int i)
  | .str x _ => some (.str x)
  | .bytes b _ => some (.byt b)
  | .float b _ => some (.flt b)
  | .ref a => some (.ref a)
  | .type n => some (.ty n)
  | _ => none
theorem RelV.abs {x : V} {u : Value} (r : RelV x u) : absV u = some x := by
  cases x with
  | non => cases r; rfl
  | bl _ => cases r; rfl
  | int _ => obtain ⟨t, rfl⟩ := r; rfl
  | str _ => obtain ⟨t, rfl⟩ := r; rfl
  | byt _ => obtain ⟨t, rfl⟩ := r; rfl
  | flt _ => obtain ⟨t, rfl⟩ := r; rfl
  | ref _ => cases r; rfl
  | ty _ => cases r; rfl
theorem RelV.inj {x y : V} {u : Value} (r : RelV x u) (q : RelV y u) : x = y := Option.some.inj (r.abs.symm.trans q.abs)
theorem Vals.inj : ∀ {xs ys : List V} {us : List Value}, Vals xs us → Vals ys us → xs = ys
  | _, _, _, .nil, .nil => rfl
  | _, _, _, .cons r t, .cons r' t' => by rw [r.inj r', Vals.inj t t']
section
variable {X : Cx} {pins : List (Addr × Obj)} {σ : St} {H : Hp} {s : Shared} {a : Addr} {xs ys : List V}
theorem SqL.of {K : PySem.W.Frag} (h : H a = some (.lst xs)) : SqL K H a xs := .inl (.inl h)
theorem SqT.of {K : PySem.W.Frag} (h : H a = some (.tup xs)) : SqT K H a xs := .inl (.inl h)
theorem Inv.list (I : Inv X pins σ H s) (h : SqL X.K H a xs) : ∃ its : List Value, Vals xs its ∧ PlainL s.heap a its.toArray ∧ xs.length ≤ sizeLine := by
  rcases h with h | ⟨o, its, n, hk, hc, hd, hs, hz, r⟩
  · obtain ⟨z, its, n, r, e⟩ := h.ok I.hok
    exact ⟨its, r, ⟨_, n, e, rfl, rfl, rfl⟩, z⟩
  · refine ⟨its.toList, r, ⟨o, n, I.kIn a o hk, hc, hd, by simpa using hs⟩, ?_⟩
    have e := r.length
    simp only [Array.length_toList] at e
    omega
theorem Inv.tuple (I : Inv X pins σ H s) (h : SqT X.K H a xs) : ∃ its : List Value, Vals xs its ∧ IsTup s.heap a its.toArray ∧ xs.length ≤ sizeLine := by
  rcases h with h | ⟨o, its, n, hk, hc, hs, hz, r⟩
  · obtain ⟨z, its, r, p⟩ := h.ok I.hok
    exact ⟨its, r, p, z⟩
  · refine ⟨its.toList, r, ⟨o, I.kIn a o hk, hc, n, by simpa using hs⟩, ?_⟩
    have e := r.length
    simp only [Array.length_toList] at e
    omega
theorem Inv.list_inj (I : Inv X pins σ H s) (h : SqL X.K H a xs) (h' : SqL X.K H a ys) : xs = ys := by
  obtain ⟨its, r, ⟨o, n, e, _, _, d⟩, _⟩ := I.list h
  obtain ⟨its', r', ⟨o', n', e', _, _, d'⟩, _⟩ := I.list h'
  rw [e] at e'; cases e'
  rw [d] at d'
  injection d' with d1 _
  have : its = its' := by simpa using congrArg Array.toList d1
  subst this
  exact r.inj r'
theorem Inv.tuple_inj (I : Inv X pins σ H s) (h : SqT X.K H a xs) (h' : SqT X.K H a ys) : xs = ys := by
  obtain ⟨its, r, ⟨o, e, _, n, d⟩, _⟩ := I.tuple h
  obtain ⟨its', r', ⟨o', e', _, n', d'⟩, _⟩ := I.tuple h'
  rw [e] at e'; cases e'
  rw [d] at d'
  injection d' with d1 _
  have : its = its' := by simpa using congrArg Array.toList d1
  subst this
  exact r.inj r'
end
abbrev Cx.wish (X : Cx) (E : Value → Shared → Prop) : Cx := { X with xe := E }
abbrev Cx.nox (X : Cx) : Cx := X.wish fun _ _ => False
theorem Cx.Ok.wish {X : Cx} (ok : X.Ok) (E : Value → Shared → Prop) : (X.wish E).Ok :=
  ⟨ok.mod, ok.kind, ok.glob, ok.blt, ok.above, ok.inj, ok.has, ok.cab, ok.hd, ok.frames, ok.stk, ok.exf, ok.bs, ok.bsz, ok.noex, ok.exfs, ok.funs, ok.frf⟩
theorem Cx.Ok.unwish {X : Cx} {E : Value → Shared → Prop} (ok : (X.wish E).Ok) : X.Ok :=
  ⟨ok.mod, ok.kind, ok.glob, ok.blt, ok.above, ok.inj, ok.has, ok.cab, ok.hd, ok.frames, ok.stk, ok.exf, ok.bs, ok.bsz, ok.noex, ok.exfs, ok.funs, ok.frf⟩
section
variable {X : Cx} {pins : List (Addr × Obj)} {σ : St} {H : Hp} {s : Shared} {E : Value → Shared → Prop}
theorem Inv.wish (I : Inv X pins σ H s) (E : Value → Shared → Prop) : Inv (X.wish E) pins σ H s := ⟨I.ok.wish E, I.os, I.bare, I.base, I.loc, I.cell, I.free, I.freeC, I.pin, I.hok, I.len⟩
theorem Inv.unwish (I : Inv (X.wish E) pins σ H s) : Inv X pins σ H s := ⟨I.ok.unwish, I.os, I.bare, I.base, I.loc, I.cell, I.free, I.freeC, I.pin, I.hok, I.len⟩
theorem SP.unwish {D : Ends} {f : Flow} {s' : Shared} (h : SP (X.wish E) pins D f s') : SP X pins D f s' := by
  cases f with
  | next => obtain ⟨σ', H', I, q⟩ := h; exact ⟨σ', H', I.unwish, q⟩
  | brk => obtain ⟨σ', H', I, q⟩ := h; exact ⟨σ', H', I.unwish, q⟩
  | cont => obtain ⟨σ', H', I, q⟩ := h; exact ⟨σ', H', I.unwish, q⟩
  | ret u => obtain ⟨v, σ', H', I, r, q⟩ := h; exact ⟨v, σ', H', I.unwish, r, q⟩
theorem PE.nox {e : Expr} {t : TE} (h : PE X.nox e t) : PE X e t := by
  unfold PE at *
  exact (fun pins s σ H Q I hw =>
    wpAny_mono (h pins s σ H Q (I.wish _) hw) (fun _ _ ⟨v, H', I', r, q⟩ => ⟨v, H', I'.unwish, r, q⟩) fun _ _ z => False.elim z)
theorem PT.nox {e : Expr} {t : TT} (h : PT X.nox e t) : PT X e t := by
  unfold PT at *
  exact (fun pins s σ H Q I hw =>
    wpAny_mono (h pins s σ H Q (I.wish _) hw) (fun _ _ ⟨H', I', q⟩ => ⟨H', I'.unwish, q⟩) fun _ _ z => False.elim z)
theorem PSs.nox {st : List Stmt} {t : TS} (h : PSs X.nox st t) : PSs X st t := by
  unfold PSs at *
  exact (fun pins s σ H D I hw =>
    wpAny_mono (h pins s σ H D (I.wish _) hw) (fun _ _ q => q.unwish) fun _ _ z => False.elim z)
end
section
variable {X : Cx} {st : Stmt} {rest : List Stmt} {t u : TS} {e : Expr} {te : TE} {pos : Pos}
def tNext : TS := fun D σ H => D.nx σ H
def tSeq (t u : TS) : TS := fun D σ H => t { D with nx := u D } σ H
theorem pss_nil : PSs X [] tNext := by
  first
  | exact (fun _ _ σ H _ I h => wpAny_execs_nil ⟨σ, H, I, h⟩)
  | (unfold PSs at *; exact (fun _ _ σ H _ I h => wpAny_execs_nil ⟨σ, H, I, h⟩))
theorem pss_cons (h1 : PS X st t) (h2 : PSs X rest u) : PSs X (st :: rest) (tSeq t u) := by
  unfold PS at *; unfold PSs at *
  exact by
    intro pins s σ H D I h
    refine wpAny_execs_cons (thn (h1 pins s σ H { D with nx := u D } I h) fun f s1 q => ?_)
    cases f with
    | next =>
      obtain ⟨σ', H', I', q⟩ := q
      exact h2 pins s1 σ' H' D I' q
    | ret v => exact q
    | brk => exact q
    | cont => exact q
theorem pss_one (h1 : PS X st t) : PSs X [st] t := by
  unfold PS at *; unfold PSs at *
  exact by
    intro pins s σ H D I h
    refine wpAny_execs_cons (thn (h1 pins s σ H D I h) fun f s1 q => ?_)
    cases f with
    | next => exact wpAny_execs_nil q
    | ret v => exact q
    | brk => exact q
    | cont => exact q
theorem Inv.quiet {pins : List (Addr × Obj)} {σ : St} {H : Hp} {s : Shared} (I : Inv X pins σ H s) : interactive X.env = false := by simp [interactive, I.ok.kind]
def tDrop (te : TE) : TS := fun D σ H => te σ H fun _ H1 => D.nx σ H1
theorem ps_expr (he : PE X e te) (hs : swapsWith e none pos.line X.env = pure false := by rfl) : PS X (.Expr e pos) (tDrop te) := by
  unfold PE at *; unfold PS at *
  exact by
    intro pins s σ H D I h
    exact wpAny_Expr_any (thn (he pins s σ H _ I h) fun v s1 ⟨x, H1, I1, r1, q1⟩ => ⟨σ, H1, I1, q1⟩) I.quiet hs
def tRet (te : TE) : TS := fun D σ H => te σ H D.rt
theorem ps_ret (he : PE X e te) : PS X (.Return (some e) pos) (tRet te) := by
  unfold PE at *; unfold PS at *
  exact by
    intro pins s σ H D I h
    exact wpAny_Return_some (thn (he pins s σ H _ I h) fun v s1 ⟨x, H1, I1, r1, q1⟩ => ⟨x, σ, H1, I1, r1, q1⟩)
def tIfS (c : TT) (t u : TS) : TS := fun D σ H => c σ H fun b H1 => if b = true then t D σ H1 else u D σ H1
theorem ps_if {c : Expr} {a b : List Stmt} {tc : TT} (hc : PT X c tc) (ha : PSs X a t) (hb : PSs X b u) : PS X (.If c a b pos) (tIfS tc t u) := by
  unfold PT at *; unfold PS at *; unfold PSs at *
  exact by
    intro pins s σ H D I h
    refine wpAny_If (thn (hc pins s σ H _ I h) fun d s1 ⟨H1, I1, q1⟩ => ?_)
    cases d with
    | true => exact ha pins s1 σ H1 D I1 q1
    | false => exact hb pins s1 σ H1 D I1 q1
def tNever : TS := fun _ _ _ => False
theorem ps_never : PS X st tNever := by
  first
  | exact (fun _ _ _ _ _ _ h => h.elim)
  | (unfold PS at *; exact (fun _ _ _ _ _ _ h => h.elim))
end
abbrev TG := V → St → Hp → (St → Hp → Prop) → Prop
abbrev TGs := List V → St → Hp → (St → Hp → Prop) → Prop
@[irreducible] def PG (X : Cx) (target : Expr) (t : TG) : Prop :=
  ∀ (pins : List (Addr × Obj)) (s : Shared) (σ : St) (H : Hp) (v : V) (u : Value) (Q : St → Hp → Prop), Inv X pins σ H s → RelV v u → t v σ H Q →
    wpAny (model X.prog X.w) X.A (assign target X.env u) (fun _ s' => ∃ σ' H', Inv X pins σ' H' s' ∧ Q σ' H') X.xe s
@[irreducible] def PGs (X : Cx) (ts : List Expr) (t : TGs) : Prop :=
  ∀ (pins : List (Addr × Obj)) (s : Shared) (σ : St) (H : Hp) (vs : List V) (us : List Value) (Q : St → Hp → Prop), Inv X pins σ H s → Vals vs us → t vs σ H Q →
    wpAny (model X.prog X.w) X.A (assignInOrder ((assignEach ts X.env).map (·.2)) us) (fun _ s' => ∃ σ' H', Inv X pins σ' H' s' ∧ Q σ' H') X.xe s
abbrev TSet := V → V → V → Hp → (Hp → Prop) → Prop
@[irreducible] def PSet (X : Cx) (t : TSet) : Prop :=
  ∀ (pins : List (Addr × Obj)) (s : Shared) (σ : St) (H : Hp) (o i v : V) (ov iv u : Value) (Q : Hp → Prop), Inv X pins σ H s → RelV o ov → RelV i iv → RelV v u → t o i v H Q →
    wpAny (model X.prog X.w) X.A (setItem ov iv u) (fun _ s' => ∃ H', Inv X pins σ H' s' ∧ Q H') X.xe s
section
variable {X : Cx} {pos : Pos}
def gName (i : Nat) : TG := fun v σ H Q => Q (σ.set i (some v)) H
theorem pg_name {i : Nat} {x : Str} (hN : X.N.Nodup) (hi : X.N[i]? = some x) (hx : Loc X.env.scope x) (hf : X.fn x = true ∨ X.env.scope.names.lookup x = some .local := by first | exact .inl rfl | exact .inr rfl | assumption) : PG X (.Name x pos) (gName i) := by
  unfold PG at *
  exact by
    intro pins s σ H v u Q I r h
    exact wpAny_assign_Name (store_ok I hN hi hx r (fun s' I' => ⟨_, H, I', h⟩) hf)
def gNil : TGs := fun vs σ H Q => vs = [] ∧ Q σ H
def gCons (t : TG) (u : TGs) : TGs := fun vs σ H Q => ∃ v r, vs = v :: r ∧ t v σ H fun σ' H' => u r σ' H' Q
theorem pgs_nil : PGs X [] gNil := by
  unfold PGs at *
  exact by
    intro pins s σ H vs us Q I r h
    obtain ⟨e, h⟩ := h
    subst e
    cases r
    exact assignInOrder_nil ⟨σ, H, I, h⟩
theorem pgs_cons {e : Expr} {es : List Expr} {t : TG} {u : TGs} (h1 : PG X e t) (h2 : PGs X es u)
    (hs : (assignEach (e :: es) X.env).map (·.2) = assign e X.env :: (assignEach es X.env).map (·.2) := by rfl) : PGs X (e :: es) (gCons t u) := by
  unfold PG at *; unfold PGs at *
  exact by
    intro pins s σ H vs us Q I r h
    obtain ⟨v, vr, e1, h⟩ := h
    subst e1
    cases r with
    | cons r rr =>
      rw [hs]
      refine assignInOrder_cons (thn (h1 pins s σ H _ _ _ I r h) fun _ s1 ⟨σ1, H1, I1, q1⟩ => ?_)
      exact h2 pins s1 σ1 H1 _ _ Q I1 rr q1
def gTup (K : PySem.W.Frag) (n : Nat) (t : TGs) : TG := fun v σ H Q => ∃ a xs, v = .ref a ∧ SqT K H a xs ∧ xs.length = n ∧ t xs σ H Q
theorem pg_tup {es : List Expr} {k : Nat} {t : TGs} {n : Nat} (hc : X.calm = true) (h : PGs X es t)
    (hn : (assignEach es X.env).length = n := by rfl) (hst : (assignEach es X.env).findIdx? (·.1) = none := by rfl) : PG X (.Tuple es k pos) (gTup X.K n t) := by
  unfold PG at *; unfold PGs at *
  exact by
    intro pins s σ H v u Q I r hw
    obtain ⟨a, xs, e1, hq, hl, hw⟩ := hw
    subst e1
    cases r
    obtain ⟨its, rv, ht, hz⟩ := I.tuple hq
    refine assign_Tuple_tuple (I.ok.hd hc) ht (by simp [hn, ← hl, rv.length]) hst fun h' hx => ?_
    have I1 : Inv X pins σ H { s with heap := h' } := I.kept (t' := s.toks) fun b o e => hx b o (Nat.ne_of_lt (Heap.lt_size e)) e
    exact h pins _ σ H xs _ Q I1 (by simpa using rv) hw
def gSub (to ti : TE) (t : TSet) : TG := fun v σ H Q => to σ H fun o H1 => ti σ H1 fun i H2 => t o i v H2 fun H3 => Q σ H3
theorem pg_sub {o i : Expr} {to ti : TE} {t : TSet} (ho : PE X o to) (hi : PE X i ti) (hs : PSet X t)
    (ha : ∀ v, assign (.Subscript o i pos) X.env v = (do
      let ov ← holding [v] (eval o X.env)
      let iv ← holding [v, ov] (eval i X.env)
      standAt pos
      holding [v, ov, iv] (setItem ov iv v)
      release [v, ov, iv] []) := by intro _; rfl) : PG X (.Subscript o i pos) (gSub to ti t) := by
  unfold PE at *; unfold PG at *; unfold PSet at *
  exact by
    intro pins s σ H v u Q I r h
    rw [ha]
    refine wpAny_bind (wpAny_holding (thn (ho pins s σ H _ I h) fun ov s1 ⟨x, H1, I1, r1, q1⟩ => ?_))
    refine wpAny_bind (wpAny_holding (thn (hi pins s1 σ H1 _ I1 q1) fun iv s2 ⟨y, H2, I2, r2, q2⟩ => ?_))
    refine wpAny_bind (wpAny_standAt (wpAny_bind (wpAny_holding (thn (hs pins s2 σ H2 x y v ov iv u _ I2 r1 r2 r q2) fun _ s3 ⟨H3, I3, q3⟩ => ?_))))
    exact wpAny_release ⟨σ, H3, I3, q3⟩
def tAsg (te : TE) (g : TG) : TS := fun D σ H => te σ H fun x H1 => g x σ H1 D.nx
theorem ps_asg {tg e : Expr} {te : TE} {g : TG} (he : PE X e te) (hg : PG X tg g) (hs : swapsWithSole [tg] e pos.line X.env = pure false := by rfl) (hw : swappedStores [tg] e X.env = pure none := by rfl)
    (h1 : (assignEach [tg] X.env).map (·.2) = [assign tg X.env] := by rfl) : PS X (.Assign [tg] e pos) (tAsg te g) := by
  unfold PE at *; unfold PS at *; unfold PG at *
  exact by
    intro pins s σ H D I h
    refine wpAny_Assign_stores (thn (he pins s σ H _ I h) fun v s1 ⟨x, H1, I1, r1, q1⟩ => ?_) hs hw
    rw [h1]
    exact thn (hg pins s1 σ H1 x v _ I1 r1 q1) fun _ s2 q => q
theorem ps_set {i : Nat} {x : Str} {e : Expr} {te : TE} {pos' : Pos} (hN : X.N.Nodup) (hi : X.N[i]? = some x) (hx : Loc X.env.scope x) (he : PE X e te) (hs : swapsWith e (some (.Name x pos')) pos.line X.env = pure false := by rfl) (hf : X.fn x = true ∨ X.env.scope.names.lookup x = some .local := by first | exact .inl rfl | exact .inr rfl | assumption) :
    PS X (.Assign [.Name x pos'] e pos) (tAsg te (gName i)) := by
  unfold PE at *; unfold PS at *
  exact by
    intro pins s σ H D I h
    refine wpAny_Assign_Name (thn (he pins s σ H _ I h) fun v s1 ⟨y, H1, I1, r1, q1⟩ => ?_) hs
    exact store_ok I1 hN hi hx r1 (fun s2 I2 => ⟨_, H1, I2, q1⟩) hf
end
section
variable {X : Cx} {pos : Pos}
def tWhile (c : TT) (tb : TS) : TS := fun D σ H => ∃ W : Nat → St → Hp → Prop, (∃ m, W m σ H) ∧ ∀ m σ H, W m σ H →
  c σ H fun b H1 => if b = true then ∃ N : St → Hp → Prop, (∀ σ' H', N σ' H' → ∃ m', m' < m ∧ W m' σ' H') ∧ tb { D with nx := N, ct := N, bk := D.nx } σ H1 else D.nx σ H1
theorem ps_while {c : Expr} {body : List Stmt} {tc : TT} {tb : TS} (hp : PassesOwn (model X.prog X.w) X.A X.env X.xe) (hc : PT X c tc) (hb : PSs X body tb) : PS X (.While c body [] pos) (tWhile tc tb) := by
  unfold PT at *; unfold PS at *; unfold PSs at *
  exact by
    intro pins s σ H D I h
    obtain ⟨W, ⟨m0, w0⟩, turn⟩ := h
    refine wpAny_While (codeAny_whileLoop (fun n s' => ∃ σ' H', Inv X pins σ' H' s' ∧ W n σ' H') ?_ m0 ⟨σ, H, I, w0⟩)
    rintro n s1 ⟨σ1, H1, I1, w1⟩
    refine wpAny_passesOwn hp (thn (hc pins s1 σ1 H1 _ I1 (turn n σ1 H1 w1)) fun b s2 ⟨H2, I2, q2⟩ => ?_)
    cases b with
    | true =>
      obtain ⟨N, hN, q2⟩ := q2
      rw [if_pos rfl]
      refine wpAny_passesOwn hp (thn (hb pins s2 σ1 H2 _ I2 q2) fun f s3 q3 => ?_)
      cases f with
      | next =>
        obtain ⟨σ3, H3, I3, n3⟩ := q3
        obtain ⟨m', hm, w3⟩ := hN σ3 H3 n3
        exact ⟨m', hm, σ3, H3, I3, w3⟩
      | cont =>
        obtain ⟨σ3, H3, I3, n3⟩ := q3
        obtain ⟨m', hm, w3⟩ := hN σ3 H3 n3
        exact ⟨m', hm, σ3, H3, I3, w3⟩
      | brk => exact q3
      | ret v => exact q3
    | false =>
      rw [if_neg Bool.false_ne_true]
      exact wpAny_execs_nil ⟨σ1, H2, I2, q2⟩
end
/- at turn i: it yields x (the heap may grow), or it stops -/
set_option genInjectivity false in
set_option genSizeOfSpec false in
set_option genSizeOf false in
structure It where
  go : Nat → Hp → Prop
  yld : Nat → Hp → V → Hp → Prop
  stop : Nat → Hp → Prop
def FpOk (X : Cx) (pins : List (Addr × Obj)) (H : Hp) (b : Addr) : Prop :=
  H b = none ∧ b ≠ X.env.locals ∧ b ∉ X.fs ∧ (b ∈ X.ex ∨ X.s₀.heap.objs.size ≤ b) ∧ (∀ x c, X.env.cells.lookup x = some c → c ≠ b) ∧ ∀ p ∈ X.pn ++ pins, p.1 ≠ b
theorem Inv.fpOk {X : Cx} {pins : List (Addr × Obj)} {σ : St} {H H' : Hp} {s : Shared} {b : Addr} (I : Inv X pins σ H s) (hb : s.heap.objs.size ≤ b) (hn : H' b = none) : FpOk X pins H' b := by
  refine ⟨hn, Nat.ne_of_gt (Nat.lt_of_lt_of_le I.lt hb), I.nofs hb, .inr (Nat.le_trans I.sz hb), fun x c e z => ?_, fun p hp z => ?_⟩
  · obtain ⟨v, q⟩ := I.cell x c e
    exact absurd (Nat.lt_of_lt_of_le q.lt (by rw [z]; exact hb)) (Nat.lt_irrefl _)
  · exact absurd (Nat.lt_of_lt_of_le (Heap.lt_size (I.pin p hp).1) (by rw [z]; exact hb)) (Nat.lt_irrefl _)
structure Turn (P : Program) (w : World) (K : PySem.W.Frag) (tg : Expr) (J : It) (fp : List Addr) (it : Addr) (tn : Nat → Heap → Prop) : Prop where
  mem : it ∈ fp
  obj : ∀ i h, tn i h → ∀ b ∈ fp, ∃ o, h.get? b = some o ∧ ∀ v, o.data ≠ .cell v
  keep : ∀ i h h', tn i h → (∀ b ∈ fp, ∀ o, h.get? b = some o → h'.get? b = some o) → tn i h'
  item : ∀ (X : Cx), X.prog = P → X.w = w → X.K = K → X.calm = true → ∀ (i : Nat) (pins : List (Addr × Obj)) (s : Shared) (σ : St) (H : Hp) (E : Value → Shared → Prop), Inv X pins σ H s → (∀ b ∈ fp, FpOk X pins H b) → tn i s.heap → J.go i H →
    wpAny (model P w) X.A (pyNext (.ref it)) (fun r s1 => ∃ u, r = some u ∧
      wpAny (model P w) X.A (letOwnedTupleGo tg (.ref it) u) (fun _ s2 => ∃ x H', Inv X pins σ H' s2 ∧ RelV x u ∧ J.yld i H x H' ∧ tn (i + 1) s2.heap ∧ ∀ b ∈ fp, H' b = none) E s1) E s
  done : ∀ (X : Cx), X.prog = P → X.w = w → X.K = K → X.calm = true → ∀ (i : Nat) (pins : List (Addr × Obj)) (s : Shared) (σ : St) (H : Hp) (E : Value → Shared → Prop), Inv X pins σ H s → (∀ b ∈ fp, FpOk X pins H b) → tn i s.heap → J.stop i H →
    wpAny (model P w) X.A (pyNext (.ref it)) (fun r s1 => r = none ∧ Inv X pins σ H s1) E s
  self : ∀ (A : Around) (i : Nat) (s : Shared) (Q : Value → Shared → Prop) (E : Value → Shared → Prop), tn i s.heap → Q (.ref it) s → wpAny (model P w) A (pyIter (.ref it)) Q E s
abbrev TI := St → Hp → (It → Hp → Prop) → Prop
def PIE (X : Cx) (pins : List (Addr × Obj)) (σ : St) (tg : Expr) (R : It → Hp → Prop) (itv : Value) (s2 : Shared) : Prop :=
  ∃ (it : Addr) (fp : List Addr) (tn : Nat → Heap → Prop) (J : It) (H' : Hp), itv = .ref it ∧ Inv X pins σ H' s2 ∧ Turn X.prog X.w X.K tg J fp it tn ∧ tn 0 s2.heap ∧ (∀ b ∈ fp, FpOk X pins H' b) ∧ R J H'
@[irreducible] def PI (X : Cx) (tg iter : Expr) (wi : TI) : Prop :=
  ∀ (pins : List (Addr × Obj)) (s : Shared) (σ : St) (H : Hp) (R : It → Hp → Prop), Inv X pins σ H s → wi σ H R →
    wpAny (model X.prog X.w) X.A (eval iter X.env) (fun v s1 => wpAny (model X.prog X.w) X.A (pyIter v) (PIE X pins σ tg R) X.xe s1) X.xe s
theorem go_of {M : Model} {A : Around} {E : Value → Shared → Prop} {s : Shared} {tg : Expr} {it : Addr} {u : Value} {o : Obj} {n : String} {vs : Array Value} {Q : Unit → Shared → Prop} (ho : s.heap.get? it = some o) (hc : o.cls = .type n) (hd : o.data = .fields vs)
    (hn : ["enumerate", "zip", "dict_itemiterator", "dict_reverseitemiterator", "odict_iterator", "itertools.zip_longest", "itertools.pairwise"].contains n = false) (hQ : Q () s) : wpAny M A (letOwnedTupleGo tg (.ref it) u) Q E s := by
  unfold letOwnedTupleGo
  cases tg <;> first
    | exact wpAny_pure hQ
    | (cases u <;> first
        | exact wpAny_pure hQ
        | (refine wpAny_bind (wpAny_load ho ?_)
           rw [hc, hd]
           show wpAny M A (if (["enumerate", "zip", "dict_itemiterator", "dict_reverseitemiterator", "odict_iterator", "itertools.zip_longest", "itertools.pairwise"].contains n && vs[0]? == some (rawInt _)) = true then _ else _) Q E s
           rw [if_neg (by intro h; rw [hn, Bool.false_and] at h; cases h)]
           exact wpAny_pure hQ))
def Itl (K : PySem.W.Frag) (a : Addr) : It :=
  ⟨fun i H => ∃ xs x, SqL K H a xs ∧ xs[i]? = some x, fun i H x H' => H' = H ∧ ∀ xs, SqL K H a xs → xs[i]? = some x, fun i H => ∃ xs, SqL K H a xs ∧ xs.length ≤ i⟩
def Itr (lo : Int) (n : Nat) : It := ⟨fun i _ => i < n, fun i H x H' => H' = H ∧ x = .int (lo + i), fun i _ => n ≤ i⟩
theorem turn_list {P : Program} {w : World} {K : PySem.W.Frag} {tg : Expr} (a it : Addr) : Turn P w K tg (Itl K a) [it] it (fun i h => h.IsListIter it a i) where
  mem := by simp
  obj := fun i h st b hb => by
    have e : b = it := by simpa using hb
    subst e
    obtain ⟨o, e, c, d⟩ := st
    exact ⟨o, e, fun v z => by rw [d] at z; cases z⟩
  keep := fun i h h' st k => st.at fun o e => k it (by simp) o e
  item := by
    intro X hP hw hK hc i pins s σ H E I hf st hg
    subst hP hw hK
    obtain ⟨xs, x, hq, hx⟩ := hg
    obtain ⟨its, rv, p, hz⟩ := I.list hq
    obtain ⟨u, hu, ru⟩ := rv.get hx
    obtain ⟨f0, f1, f2, f3, f4, f5⟩ := hf it (by simp)
    refine wpAny_pyNext_list_item st p.isList (x := u) (by simpa using hu) fun h' st' sb => ?_
    have I1 : Inv X pins σ H { s with heap := h' } := I.turned (t' := s.toks) (fun b o hb e => (sb.2 b hb).trans e) f0 f1 f3 f4 f5
    obtain ⟨o, e, c, d⟩ := id st'
    exact ⟨u, rfl, go_of (s := { s with heap := h' }) e c d (by decide) ⟨x, H, I1, ru, ⟨rfl, fun ys hy => by rw [I.list_inj hy hq]; exact hx⟩, st', fun b hb => (hf b hb).1⟩⟩
  done := by
    intro X hP hw hK hc i pins s σ H E I hf st hg
    subst hP hw hK
    obtain ⟨xs, hq, hx⟩ := hg
    obtain ⟨its, rv, p, hz⟩ := I.list hq
    obtain ⟨f0, f1, f2, f3, f4, f5⟩ := hf it (by simp)
    have hl := rv.length
    exact wpAny_pyNext_list_end (I.ok.hd hc) st p.isList (by simp; omega) fun h' eb => ⟨rfl, I.turned (t' := s.toks) (fun b o hb e => eb b o hb e) f0 f1 f3 f4 f5⟩
  self := fun _ _ _ _ _ st h => wpAny_pyIter_listiter st h
theorem turn_range {P : Program} {w : World} {K : PySem.W.Frag} {tg : Expr} (it : Addr) (lo : Int) (n : Nat) : Turn P w K tg (Itr lo n) [it] it (fun i h => IsRangeIter h it (lo + (i : Nat) * 1) ((n : Int) - (i : Nat)) 1) where
  mem := by simp
  obj := fun i h st b hb => by
    have e : b = it := by simpa using hb
    subst e
    exact ⟨_, st, fun v z => by
      have z' : Data.fields _ = Data.cell v := z
      cases z'⟩
  keep := fun i h h' st k => k it (by simp) _ st
  item := by
    intro X hP hw hK hc i pins s σ H E I hf st hg
    subst hP hw hK
    obtain ⟨f0, f1, f2, f3, f4, f5⟩ := hf it (by simp)
    have W := Walks.range (prog := X.prog) (w := X.w) (I.ok.hd hc) it lo 1 n
    refine W.item i s _ _ hg st fun v h' tk hv st' kk => ?_
    obtain ⟨t, rfl⟩ := hv
    have I1 : Inv X pins σ H { s with heap := h', toks := tk } := I.turned (fun b o hb e => kk b o (by simpa using hb) e) f0 f1 f3 f4 f5
    refine ⟨_, rfl, go_of (s := { s with heap := h', toks := tk }) (n := "range_iterator") st' rfl rfl (by decide) ⟨.int (lo + i), H, I1, ⟨t, ?_⟩, ⟨rfl, rfl⟩, st', fun b hb => (hf b hb).1⟩⟩
    rw [Int.mul_one]
  done := by
    intro X hP hw hK hc i pins s σ H E I hf st hg
    subst hP hw hK
    obtain ⟨f0, f1, f2, f3, f4, f5⟩ := hf it (by simp)
    exact wpAny_pyNext_range_end (I.ok.hd hc) st (by have : n ≤ i := hg; omega) fun h' eb => ⟨rfl, I.turned (t' := s.toks) (fun b o hb e => eb b o hb e) f0 f1 f3 f4 f5⟩
  self := fun _ _ _ _ _ st h => wpAny_pyIter_rangeiter st h
end L2
namespace L2
open PySem PySem.Spec PyProof.Rows
section
variable {X : Cx} {tg : Expr}
def iList (K : PySem.W.Frag) (tl : TE) : TI := fun σ H R => tl σ H fun x H1 => ∃ a, x = .ref a ∧ (∃ xs, SqL K H1 a xs) ∧ R (Itl K a) H1
theorem pi_list {l : Expr} {tl : TE} (hl : PE X l tl) : PI X tg l (iList X.K tl) := by
  unfold PE at *; unfold PI at *
  exact by
    intro pins s σ H R I h
    refine thn (hl pins s σ H _ I h) fun v s1 ⟨x, H1, I1, r1, q1⟩ => ?_
    obtain ⟨a, e, ⟨xs, hq⟩, q⟩ := q1
    subst e
    cases r1
    obtain ⟨its, rv, p, hz⟩ := I1.list hq
    refine wpAny_pyIter_list p.isList ?_
    refine ⟨s1.heap.objs.size, [s1.heap.objs.size], _, _, H1, rfl, I1.kept (t' := s1.toks) fun b o e => Heap.get?_push_of_some _ e, turn_list a _, ⟨_, Heap.get?_push_size _ rfl, rfl, rfl⟩, fun b hb => ?_, q⟩
    have e : b = s1.heap.objs.size := by simpa using hb
    subst e
    exact I1.fpOk (Nat.le_refl _) (I1.hok.fresh (Nat.le_refl _))
theorem range_it {pins : List (Addr × Obj)} {σ : St} {H : Hp} {s : Shared} {R : It → Hp → Prop} {E : Value → Shared → Prop} {lo hi : Int} {t u v : Tok} {tk : Nat} (I : Inv X pins σ H s) (h1 : -(2 ^ 62) ≤ lo) (h2 : lo < 2 ^ 62) (h3 : -(2 ^ 62) ≤ hi) (h4 : hi < 2 ^ 62)
    (q : R (Itr lo (hi - lo).toNat) H) : wpAny (model X.prog X.w) X.A (pyIter (.ref s.heap.objs.size)) (PIE X pins σ tg R) E { s with heap := s.heap.push { cls := .type "range", data := .fields #[.int lo t, .int hi u, .int 1 v] }, toks := tk } := by
  refine wpAny_pyIter_range (IsRange.new ..) (small_one h1 h2 h3 h4) ?_
  have I1 : Inv X pins σ H { s with heap := s.heap.push { cls := .type "range", data := .fields #[.int lo t, .int hi u, .int 1 v] }, toks := tk } := I.kept fun b o e => Heap.get?_push_of_some _ e
  refine ⟨(s.heap.push { cls := .type "range", data := .fields #[.int lo t, .int hi u, .int 1 v] }).objs.size, [(s.heap.push { cls := .type "range", data := .fields #[.int lo t, .int hi u, .int 1 v] }).objs.size], _, _, H, rfl,
    I1.kept (t' := tk) fun b o e => Heap.get?_push_of_some _ e, turn_range _ lo (hi - lo).toNat, ?_, fun b hb => ?_, q⟩
  · have e1 : lo + ((0 : Nat) : Int) * 1 = lo := by simp
    have e2 : (((hi - lo).toNat : Nat) : Int) - ((0 : Nat) : Int) = Builtin.Range.rangeSize lo hi 1 := by rw [rangeSize_one]; split <;> omega
    show IsRangeIter _ _ (lo + ((0 : Nat) : Int) * 1) ((((hi - lo).toNat : Nat) : Int) - ((0 : Nat) : Int)) 1
    rw [e1, e2]
    exact Heap.get?_push_size _ rfl
  · have e : b = (s.heap.push { cls := .type "range", data := .fields #[.int lo t, .int hi u, .int 1 v] }).objs.size := by simpa using hb
    subst e
    exact I1.fpOk (Nat.le_refl _) (I1.hok.fresh (Nat.le_refl _))
def iRng1 (ta : TA) : TI := fun σ H R => ta σ H fun vs H1 => ∃ j : Int, vs = [.int j] ∧ -(2 ^ 62) ≤ j ∧ j < 2 ^ 62 ∧ R (Itr 0 j.toNat) H1
def iRng2 (ta : TA) : TI := fun σ H R => ta σ H fun vs H1 => ∃ i j : Int, vs = [.int i, .int j] ∧ (-(2 ^ 62) ≤ i ∧ i < 2 ^ 62 ∧ -(2 ^ 62) ≤ j ∧ j < 2 ^ 62) ∧ R (Itr i (j - i).toNat) H1
theorem pi_range1 {a : Expr} {ta : TA} {p pos : Pos} (hg : Gl X "range") (hm : X.mg "range" = none) (ha : PA X [a] ta) (hs : starEach [a] X.env = [(false, eval a X.env)] := by rfl) : PI X tg (.Call (.Name "range" p) [a] [] pos) (iRng1 ta) := by
  unfold PA at *; unfold PI at *
  exact by
    intro pins s σ H R I h
    refine Call_ (ld_blt I hg hm boot_range (PyProof.Rows.callWith_type1 (thn (ha pos pins s σ H _ I h) fun us s1 ⟨vs, H1, I1, r1, q1⟩ => ?_) hs rfl))
    obtain ⟨j, e, q1, q2, q⟩ := q1
    subst e
    cases r1 with
    | cons r rr =>
      cases rr
      obtain ⟨t, rfl⟩ := r
      exact call_range_1 (range_it I1 (by omega) (by omega) q1 q2 (by simpa using q))
theorem pi_range2 {a b : Expr} {ta : TA} {p pos : Pos} (hg : Gl X "range") (hm : X.mg "range" = none) (ha : PA X [a, b] ta) (hs : starEach [a, b] X.env = [(false, eval a X.env), (false, eval b X.env)] := by rfl) (hs2 : starEach [b] X.env = [(false, eval b X.env)] := by rfl) :
    PI X tg (.Call (.Name "range" p) [a, b] [] pos) (iRng2 ta) := by
  unfold PA at *; unfold PI at *
  exact by
    intro pins s σ H R I h
    refine Call_ (ld_blt I hg hm boot_range (PyProof.Rows.callWith_type1 (thn (ha pos pins s σ H _ I h) fun us s1 ⟨vs, H1, I1, r1, q1⟩ => ?_) (by rw [hs, hs2]) (by rw [hs2]; rfl)))
    obtain ⟨i, j, e, ⟨q1, q2, q3, q4⟩, q⟩ := q1
    subst e
    cases r1 with
    | cons r rr =>
      cases rr with
      | cons r' rr =>
        cases rr
        obtain ⟨t, rfl⟩ := r
        obtain ⟨t', rfl⟩ := r'
        exact call_range_2 (range_it I1 q1 q2 q3 q4 q)
def tFor (wi : TI) (g : TG) (tb : TS) : TS := fun D σ H => wi σ H fun J H1 => ∃ W : Nat → Nat → St → Hp → Prop, (∃ m, W 0 m σ H1) ∧ ∀ i m σ H, W i m σ H →
  (J.stop i H ∧ D.nx σ H) ∨ (J.go i H ∧ ∃ N : St → Hp → Prop, (∀ σ' H', N σ' H' → ∃ m', m' < m ∧ W (i + 1) m' σ' H') ∧ ∀ x H', J.yld i H x H' → g x σ H' fun σ2 H2 => tb { D with nx := N, ct := N, bk := D.nx } σ2 H2)
def pinsAt (fp : List Addr) (h : Heap) : List (Addr × Obj) := fp.filterMap fun b => (h.get? b).map fun o => (b, o)
theorem mem_pinsAt {fp : List Addr} {h : Heap} {b : Addr} {o : Obj} (hb : b ∈ fp) (e : h.get? b = some o) : (b, o) ∈ pinsAt fp h := List.mem_filterMap.mpr ⟨b, hb, by rw [e]; rfl⟩
theorem of_pinsAt {fp : List Addr} {h : Heap} {p : Addr × Obj} (hp : p ∈ pinsAt fp h) : p.1 ∈ fp ∧ h.get? p.1 = some p.2 := by
  obtain ⟨b, hb, e⟩ := List.mem_filterMap.mp hp
  cases q : h.get? b with
  | none => rw [q] at e; cases e
  | some o =>
    rw [q] at e
    have e' : (b, o) = p := Option.some.inj e
    subst e'
    exact ⟨hb, q⟩
theorem Inv.pinned {pins : List (Addr × Obj)} {σ : St} {H : Hp} {s : Shared} {fp : List Addr} (I : Inv X pins σ H s) (hf : ∀ b ∈ fp, FpOk X pins H b) (ho : ∀ b ∈ fp, ∃ o, s.heap.get? b = some o ∧ ∀ v, o.data ≠ .cell v) : Inv X (pins ++ pinsAt fp s.heap) σ H s :=
  I.pins_of fun p hp => (List.mem_append.mp hp).elim (fun z => I.pin p (List.mem_append_right _ z)) fun z => by
    obtain ⟨hb, e⟩ := of_pinsAt z
    obtain ⟨f0, f1, f2, _⟩ := hf p.1 hb
    obtain ⟨o, e', d⟩ := ho p.1 hb
    rw [e] at e'; cases e'
    exact ⟨e, f0, f1, f2, d⟩
theorem Inv.unpinned {pins pl : List (Addr × Obj)} {σ : St} {H : Hp} {s : Shared} (I : Inv X (pins ++ pl) σ H s) : Inv X pins σ H s := I.pins_of fun p hp => I.pin p (List.mem_append_right _ (List.mem_append_left _ hp))
theorem ps_for {iter : Expr} {body : List Stmt} {wi : TI} {g : TG} {tb : TS} {pos : Pos} (hp : PassesOwn (model X.prog X.w) X.A X.env X.xe) (hc : X.calm = true) (hi : PI X tg iter wi) (hg : PG X tg g) (hb : PSs X body tb)
    (hs : ∀ x, foldedSetIterable iter X.env x = pure x := by intro _; rfl) : PS X (.For tg iter body [] pos) (tFor wi g tb) := by
  unfold PS at *; unfold PSs at *; unfold PG at *; unfold PI at *
  exact by
    intro pins s σ H D I h
    refine wpAny_For (thn (hi pins s σ H _ I h) fun v s1 h1 => thn h1 fun itv s2 h2 => ?_) hs
    obtain ⟨it, fp, tn, J, H2, e, I2, T, st2, f2, W, ⟨m0, w0⟩, turn⟩ := h2
    subst e
    -- what stays true of the iterator's objects through the loop
    have stat : ∀ {H' : Hp}, (∀ b ∈ fp, H' b = none) → ∀ b ∈ fp, FpOk X pins H' b := fun hn b hb => ⟨hn b hb, (f2 b hb).2⟩
    refine codeAny_forLoop_any (fun n s' => ∃ i σ' H', Inv X pins σ' H' s' ∧ tn i s'.heap ∧ (∀ b ∈ fp, H' b = none) ∧ W i n σ' H') ?_ m0 ⟨0, σ, H2, I2, st2, fun b hb => (f2 b hb).1, w0⟩
    rintro n s3 ⟨i, σ3, H3, I3, st3, fr3, w3⟩
    rcases turn i n σ3 H3 w3 with ⟨stop, qn⟩ | ⟨go, N, hN, step⟩
    · refine wpAny_passesOwn hp (thn (T.done X rfl rfl rfl hc i pins s3 σ3 H3 X.xe I3 (stat fr3) st3 stop) fun r s4 ⟨hr, I4⟩ => ?_)
      subst hr
      exact wpAny_execs_nil ⟨σ3, H3, I4, qn⟩
    · refine wpAny_passesOwn hp (thn (T.item X rfl rfl rfl hc i pins s3 σ3 H3 X.xe I3 (stat fr3) st3 go) fun r s4 ⟨u, hr, h4⟩ => ?_)
      subst hr
      refine wpAny_passesOwn hp (thn h4 fun _ s5 ⟨x, H5, I5, r5, y5, st5, fr5⟩ => ?_)
      have I5' := I5.pinned (stat fr5) (T.obj _ _ st5)
      refine wpAny_passesOwn hp (thn (hg _ s5 σ3 H5 x u _ I5' r5 (step x H5 y5)) fun _ s6 ⟨σ6, H6, I6, q6⟩ => ?_)
      refine wpAny_passesOwn hp (thn (hb _ s6 σ6 H6 _ I6 q6) fun f s7 q7 => ?_)
      have again : ∀ {σ7 : St} {H7 : Hp}, Inv X (pins ++ pinsAt fp s5.heap) σ7 H7 s7 → N σ7 H7 → ∃ m, m < n ∧ ∃ i σ' H', Inv X pins σ' H' s7 ∧ tn i s7.heap ∧ (∀ b ∈ fp, H' b = none) ∧ W i m σ' H' := fun {σ7 H7} I7 n7 => by
        obtain ⟨m', hm, w7⟩ := hN σ7 H7 n7
        refine ⟨m', hm, i + 1, σ7, H7, I7.unpinned, T.keep _ _ _ st5 fun b hb o e => (I7.pin (b, o) (List.mem_append_right _ (List.mem_append_right _ (mem_pinsAt hb e)))).1, fun b hb => ?_, w7⟩
        obtain ⟨o, e, d⟩ := T.obj _ _ st5 b hb
        exact (I7.pin (b, o) (List.mem_append_right _ (List.mem_append_right _ (mem_pinsAt hb e)))).2.1
      cases f with
      | next => obtain ⟨σ7, H7, I7, n7⟩ := q7; exact again I7 n7
      | cont => obtain ⟨σ7, H7, I7, n7⟩ := q7; exact again I7 n7
      | brk => obtain ⟨σ7, H7, I7, q7⟩ := q7; exact ⟨σ7, H7, I7.unpinned, q7⟩
      | ret v => obtain ⟨x7, σ7, H7, I7, r7, q7⟩ := q7; exact ⟨x7, σ7, H7, I7.unpinned, r7, q7⟩
end
theorem for_list {K : PySem.W.Frag} {a : Addr} {xs : List V} {g : TG} {tb : TS} {D : Ends} {σ : St} {H : Hp} (Pv : Nat → St → Hp → Prop) (h0 : Pv 0 σ H) (hl : ∀ i σ H, i ≤ xs.length → Pv i σ H → SqL K H a xs)
    (hs : ∀ i x σ H, xs[i]? = some x → Pv i σ H → g x σ H fun σ2 H2 => tb { D with nx := Pv (i + 1), ct := Pv (i + 1), bk := D.nx } σ2 H2) (hd : ∀ σ H, Pv xs.length σ H → D.nx σ H) :
    ∃ W : Nat → Nat → St → Hp → Prop, (∃ m, W 0 m σ H) ∧ ∀ i m σ H, W i m σ H →
      ((Itl K a).stop i H ∧ D.nx σ H) ∨ ((Itl K a).go i H ∧ ∃ N : St → Hp → Prop, (∀ σ' H', N σ' H' → ∃ m', m' < m ∧ W (i + 1) m' σ' H') ∧ ∀ x H', (Itl K a).yld i H x H' → g x σ H' fun σ2 H2 => tb { D with nx := N, ct := N, bk := D.nx } σ2 H2) := by
  refine ⟨fun i m σ H => m = xs.length - i ∧ i ≤ xs.length ∧ Pv i σ H, ⟨xs.length, by simp, Nat.zero_le _, h0⟩, ?_⟩
  rintro i m σ H ⟨rfl, hi, p⟩
  have q := hl i σ H hi p
  by_cases hlt : i < xs.length
  · refine .inr ⟨⟨xs, xs[i], q, by simp [hlt]⟩, Pv (i + 1), fun σ' H' p' => ⟨xs.length - (i + 1), by omega, rfl, hlt, p'⟩, fun x H' y => ?_⟩
    obtain ⟨e, y⟩ := y
    subst e
    exact hs i x σ _ (y xs q) p
  · have e : i = xs.length := by omega
    subst e
    exact .inl ⟨⟨xs, q, Nat.le_refl _⟩, hd σ H p⟩
theorem for_range {lo : Int} {n : Nat} {g : TG} {tb : TS} {D : Ends} {σ : St} {H : Hp} (Pv : Nat → St → Hp → Prop) (h0 : Pv 0 σ H)
    (hs : ∀ i σ H, i < n → Pv i σ H → g (.int (lo + i)) σ H fun σ2 H2 => tb { D with nx := Pv (i + 1), ct := Pv (i + 1), bk := D.nx } σ2 H2) (hd : ∀ σ H, Pv n σ H → D.nx σ H) :
    ∃ W : Nat → Nat → St → Hp → Prop, (∃ m, W 0 m σ H) ∧ ∀ i m σ H, W i m σ H →
      ((Itr lo n).stop i H ∧ D.nx σ H) ∨ ((Itr lo n).go i H ∧ ∃ N : St → Hp → Prop, (∀ σ' H', N σ' H' → ∃ m', m' < m ∧ W (i + 1) m' σ' H') ∧ ∀ x H', (Itr lo n).yld i H x H' → g x σ H' fun σ2 H2 => tb { D with nx := N, ct := N, bk := D.nx } σ2 H2) := by
  refine ⟨fun i m σ H => m = n - i ∧ i ≤ n ∧ Pv i σ H, ⟨n, by simp, Nat.zero_le _, h0⟩, ?_⟩
  rintro i m σ H ⟨rfl, hi, p⟩
  by_cases hlt : i < n
  · refine .inr ⟨hlt, Pv (i + 1), fun σ' H' p' => ⟨n - (i + 1), by omega, rfl, hlt, p'⟩, fun x H' y => ?_⟩
    obtain ⟨e, y⟩ := y
    subst e y
    exact hs i σ _ hlt p
  · have e : i = n := by omega
    subst e
    exact .inl ⟨Nat.le_refl _, hd σ H p⟩
end L2
namespace L2
open PySem PySem.Spec PyProof.Rows
abbrev R2 := V → V → Hp → VK → Prop
@[irreducible] def OpR (X : Cx) (f : Value → Value → Sem Value) (r : R2) : Prop :=
  ∀ (pins : List (Addr × Obj)) (s : Shared) (σ : St) (H : Hp) (x y : V) (v u : Value) (Q : VK), Inv X pins σ H s → RelV x v → RelV y u → r x y H Q →
    wpAny (model X.prog X.w) X.A (f v u) (EP X pins σ Q) X.xe s
@[irreducible] def UnR (X : Cx) (f : Value → Sem Value) (r : V → Hp → VK → Prop) : Prop :=
  ∀ (pins : List (Addr × Obj)) (s : Shared) (σ : St) (H : Hp) (x : V) (v : Value) (Q : VK), Inv X pins σ H s → RelV x v → r x H Q →
    wpAny (model X.prog X.w) X.A (f v) (EP X pins σ Q) X.xe s
@[irreducible] def CallR (X : Cx) (f : Value) (r : List V → Hp → VK → Prop) : Prop :=
  ∀ (pins : List (Addr × Obj)) (s : Shared) (σ : St) (H : Hp) (xs : List V) (us : List Value) (Q : VK), Inv X pins σ H s → Vals xs us → r xs H Q →
    wpAny (model X.prog X.w) X.A (call f us) (EP X pins σ Q) X.xe s
def tOp (r : R2) (ta tb : TE) : TE := fun σ H Q => ta σ H fun x H1 => tb σ H1 fun y H2 => r x y H2 Q
def tUn (r : V → Hp → VK → Prop) (ta : TE) : TE := fun σ H Q => ta σ H fun x H1 => r x H1 Q
def rI (C : Int → Int → Prop) (g : Int → Int → V) : R2 := fun x y H Q => ∃ i j, x = .int i ∧ y = .int j ∧ C i j ∧ Q (g i j) H
def rI0 (g : Int → Int → V) : R2 := fun x y H Q => ∃ i j, x = .int i ∧ y = .int j ∧ Q (g i j) H
def rU (g : Int → V) : V → Hp → VK → Prop := fun x H Q => ∃ i, x = .int i ∧ Q (g i) H
section
variable {X : Cx} {a b c : Expr} {ta tb tc : TE} {pos : Pos}
theorem binT (ha : PE X a ta) (hb : PE X b tb) {pins : List (Addr × Obj)} {s : Shared} {σ : St} {H : Hp} {R : V → V → Hp → Prop} (I : Inv X pins σ H s)
    (h : ta σ H fun x H1 => tb σ H1 fun y H2 => R x y H2) {Q : Value → Shared → Prop} {f : Value → Value → Sem Value}
    (hf : ∀ v u s2 x y H2, Inv X pins σ H2 s2 → RelV x v → RelV y u → R x y H2 → wpAny (model X.prog X.w) X.A (f v u) Q X.xe s2) :
    wpAny (model X.prog X.w) X.A (eval a X.env) (fun v s₁ => wpAny (model X.prog X.w) X.A (eval b X.env) (fun u s₂ => wpAny (model X.prog X.w) X.A (f v u) Q X.xe s₂) X.xe s₁) X.xe s := by
  unfold PE at *
  exact by
    refine thn (ha pins s σ H _ I h) fun v s1 ⟨x, H1, I1, r1, q1⟩ => ?_
    refine thn (hb pins s1 σ H1 _ I1 q1) fun u s2 ⟨y, H2, I2, r2, q2⟩ => ?_
    exact hf v u s2 x y H2 I2 r1 r2 q2
theorem pe_op {op : Operator} {r : R2} (ho : OpR X (binaryOp op) r) (ha : PE X a ta) (hb : PE X b tb) : PE X (.BinOp a op b pos) (tOp r ta tb) := by
  unfold PE; unfold OpR at ho
  exact by
    intro pins s σ H Q I h
    exact wpAny_BinOp (binT ha hb I h fun v u s2 x y H2 I2 rx ry q => ho pins s2 σ H2 x y v u Q I2 rx ry q)
theorem pe_un {op : UnaryOp} {r : V → Hp → VK → Prop} (ho : UnR X (unaryOp op) r) (ha : PE X a ta) : PE X (.UnaryOp op a pos) (tUn r ta) := by
  unfold PE at *; unfold UnR at *
  exact by
    intro pins s σ H Q I h
    exact UnaryOp_ (thn (ha pins s σ H _ I h) fun v s1 ⟨x, H1, I1, r1, q1⟩ => ho pins s1 σ H1 x v Q I1 r1 q1)
theorem opI {f : Value → Value → Sem Value} {C : Int → Int → Prop} {g : Int → Int → Int}
    (rule : ∀ (i j : Int) (t u : Tok) (s : Shared) (Q : Value → Shared → Prop) (E : Value → Shared → Prop), C i j → Q (.int (g i j) s.toks) { s with toks := s.toks + 1 } → wpAny (model X.prog X.w) X.A (f (.int i t) (.int j u)) Q E s) :
    OpR X f (rI C fun i j => .int (g i j)) := by
  unfold OpR at *
  exact by
    intro pins s σ H x y v u Q I rx ry h
    obtain ⟨i, j, rfl, rfl, hc, q⟩ := h
    obtain ⟨t, rfl⟩ := rx
    obtain ⟨t', rfl⟩ := ry
    exact rule i j t t' s _ _ hc ⟨.int (g i j), H, I.tok _, ⟨_, rfl⟩, q⟩
theorem opI0 {f : Value → Value → Sem Value} {g : Int → Int → Int}
    (rule : ∀ (i j : Int) (t u : Tok) (s : Shared) (Q : Value → Shared → Prop) (E : Value → Shared → Prop), Q (.int (g i j) s.toks) { s with toks := s.toks + 1 } → wpAny (model X.prog X.w) X.A (f (.int i t) (.int j u)) Q E s) :
    OpR X f (rI0 fun i j => .int (g i j)) := by
  unfold OpR at *
  exact by
    intro pins s σ H x y v u Q I rx ry h
    obtain ⟨i, j, rfl, rfl, q⟩ := h
    obtain ⟨t, rfl⟩ := rx
    obtain ⟨t', rfl⟩ := ry
    exact rule i j t t' s _ _ ⟨.int (g i j), H, I.tok _, ⟨_, rfl⟩, q⟩
theorem opB0 {f : Value → Value → Sem Value} {g : Int → Int → Bool}
    (rule : ∀ (i j : Int) (t u : Tok) (s : Shared) (Q : Value → Shared → Prop) (E : Value → Shared → Prop), Q (.bool (g i j)) s → wpAny (model X.prog X.w) X.A (f (.int i t) (.int j u)) Q E s) :
    OpR X f (rI0 fun i j => .bl (g i j)) := by
  unfold OpR at *
  exact by
    intro pins s σ H x y v u Q I rx ry h
    obtain ⟨i, j, rfl, rfl, q⟩ := h
    obtain ⟨t, rfl⟩ := rx
    obtain ⟨t', rfl⟩ := ry
    exact rule i j t t' s _ _ ⟨.bl (g i j), H, I, rfl, q⟩
def CDiv (i j : Int) : Prop := 0 < j ∧ j < 1073741824
def CPow (i j : Int) : Prop := 0 ≤ j ∧ j ≤ 1000000 ∧ i.natAbs < 2 ^ 64
def CMul (i j : Int) : Prop := (-(2 ^ 64) < i ∧ i < 2 ^ 64) ∨ (-(2 ^ 64) < j ∧ j < 2 ^ 64)
theorem CMul.ok {i j : Int} (h : CMul i j) : IntMulOk i j := by
  rcases h with ⟨h1, h2⟩ | ⟨h1, h2⟩
  · exact .of_left (intBits_le_64 h1 h2)
  · exact .of_right (intBits_le_64 h1 h2)
theorem op_add : OpR X (binaryOp .Add) (rI0 fun i j => .int (i + j)) := by
  first
  | exact (opI0 fun _ _ _ _ _ _ _ q => add_int q)
  | (unfold OpR at *; exact (opI0 fun _ _ _ _ _ _ _ q => add_int q))
theorem op_mul : OpR X (binaryOp .Mult) (rI CMul fun i j => .int (i * j)) := by
  first
  | exact (opI fun _ _ _ _ _ _ _ hc q => mul_int q hc.ok)
  | (unfold OpR at *; exact (opI fun _ _ _ _ _ _ _ hc q => mul_int q hc.ok))
theorem op_fdiv : OpR X (binaryOp .FloorDiv) (rI CDiv fun i j => .int (i / j)) := opI fun i j _ _ _ _ _ hc q => by
  have h1 : (0 : Int) < j := hc.1
  have h2 : j < 1073741824 := hc.2
  exact floordiv_int (by omega) (by rw [Int.fdiv_eq_ediv_of_nonneg i (by omega)]; exact q) (.inl (PyProof.noPylong_small (by omega)))
theorem op_mod : OpR X (binaryOp .Mod) (rI (fun _ j => 0 < j) fun i j => .int (i % j)) := opI fun i j _ _ _ _ _ hc q => by
  have h1 : (0 : Int) < j := hc
  exact mod_int' (by omega) (by rw [Int.fmod_eq_emod_of_nonneg i (by omega)]; exact q)
theorem op_pow : OpR X (binaryOp .Pow) (rI CPow fun i j => .int (i ^ j.toNat)) := by
  first
  | exact (opI fun _ _ _ _ _ _ _ hc q => pow_int_small hc.1 hc.2.1 hc.2.2 q)
  | (unfold OpR at *; exact (opI fun _ _ _ _ _ _ _ hc q => pow_int_small hc.1 hc.2.1 hc.2.2 q))
theorem unI {f : Value → Sem Value} {g : Int → Int}
    (rule : ∀ (i : Int) (t : Tok) (s : Shared) (Q : Value → Shared → Prop) (E : Value → Shared → Prop), Q (.int (g i) s.toks) { s with toks := s.toks + 1 } → wpAny (model X.prog X.w) X.A (f (.int i t)) Q E s) :
    UnR X f (rU fun i => .int (g i)) := by
  unfold UnR at *
  exact by
    intro pins s σ H x v Q I rx h
    obtain ⟨i, rfl, q⟩ := h
    obtain ⟨t, rfl⟩ := rx
    exact rule i t s _ _ ⟨.int (g i), H, I.tok _, ⟨_, rfl⟩, q⟩
theorem un_neg : UnR X (unaryOp .USub) (rU fun i => .int (-i)) := by
  first
  | exact (unI fun _ _ _ _ _ q => neg_int q)
  | (unfold UnR at *; exact (unI fun _ _ _ _ _ q => neg_int q))
end
def scal : V → V → Bool
  | .non, .non => true | .non, .int _ => true | .int _, .non => true | .non, .bl _ => true | .bl _, .non => true | .non, .str _ => true | .str _, .non => true
  | .int _, .int _ => true | .bl _, .bl _ => true | .str _, .str _ => true | .byt _, .byt _ => true
  | .int _, .str _ => true | .str _, .int _ => true | .bl _, .str _ => true | .str _, .bl _ => true
  | _, _ => false
def rEq : R2 := fun x y H Q => scal x y = true ∧ Q (.bl (decide (x = y))) H
def rNe : R2 := fun x y H Q => scal x y = true ∧ Q (.bl (!decide (x = y))) H
theorem dec_int {i j : Int} : decide (V.int i = V.int j) = (i == j) := by
  rw [Bool.eq_iff_iff]
  simp
theorem dec_bl {i j : Bool} : decide (V.bl i = V.bl j) = (i == j) := by
  rw [Bool.eq_iff_iff]
  simp
theorem dec_str {i j : Str} : decide (V.str i = V.str j) = (i == j) := by
  rw [Bool.eq_iff_iff]
  simp
theorem dec_byt {i j : Array UInt8} : decide (V.byt i = V.byt j) = (i.toList == j.toList) := by
  rw [Bool.eq_iff_iff]
  cases i
  cases j
  simp
section
variable {X : Cx} {a b c : Expr} {ta tb tc : TE} {pos : Pos}
theorem fin_bl {pins : List (Addr × Obj)} {σ : St} {H : Hp} {s : Shared} {Q : VK} {k k' : Bool} (I : Inv X pins σ H s) (q : Q (.bl k) H) (e : k = k') : EP X pins σ Q (.bool k') s := by
  subst e
  exact ⟨.bl k, H, I, rfl, q⟩
theorem op_eq : OpR X (compareOp .Eq) rEq := by
  unfold OpR at *
  exact by
    intro pins s σ H x y v u Q I rx ry h
    obtain ⟨hs, q⟩ := h
    cases x with
    | non =>
      cases rx
      cases y with
      | non => cases ry; exact PySem.EqNone.eq_none_none (fin_bl I q (by simp))
      | bl j => cases ry; exact PySem.EqNone.eq_none_bool (fin_bl I q (by simp))
      | int j => obtain ⟨t', rfl⟩ := ry; exact PySem.EqNone.eq_none_int (fin_bl I q (by simp))
      | str j => obtain ⟨t', rfl⟩ := ry; exact PySem.EqNone.eq_none_str (fin_bl I q (by simp))
      | _ => exact absurd (show false = true from hs) Bool.false_ne_true
    | bl i =>
      cases rx
      cases y with
      | non => cases ry; exact PySem.EqNone.eq_bool_none (fin_bl I q (by simp))
      | bl j => cases ry; exact eq_bool (fin_bl I q dec_bl)
      | str j => obtain ⟨t', rfl⟩ := ry; exact PySem.EqMixed.eq_bool_str (fin_bl I q (by simp))
      | _ => exact absurd (show false = true from hs) Bool.false_ne_true
    | int i =>
      obtain ⟨t, rfl⟩ := rx
      cases y with
      | non => cases ry; exact PySem.EqNone.eq_int_none (fin_bl I q (by simp))
      | int j => obtain ⟨t', rfl⟩ := ry; exact eq_int (fin_bl I q dec_int)
      | str j => obtain ⟨t', rfl⟩ := ry; exact PySem.EqMixed.eq_int_str (fin_bl I q (by simp))
      | _ => exact absurd (show false = true from hs) Bool.false_ne_true
    | str i =>
      obtain ⟨t, rfl⟩ := rx
      cases y with
      | non => cases ry; exact PySem.EqNone.eq_str_none (fin_bl I q (by simp))
      | bl j => cases ry; exact PySem.EqMixed.eq_str_bool (fin_bl I q (by simp))
      | int j => obtain ⟨t', rfl⟩ := ry; exact PySem.EqMixed.eq_str_int (fin_bl I q (by simp))
      | str j => obtain ⟨t', rfl⟩ := ry; exact eq_str (fin_bl I q dec_str)
      | _ => exact absurd (show false = true from hs) Bool.false_ne_true
    | byt i =>
      obtain ⟨t, rfl⟩ := rx
      cases y with
      | byt j => obtain ⟨t', rfl⟩ := ry; exact PySem.W.eq_bytes (fin_bl I q dec_byt)
      | _ => exact absurd (show false = true from hs) Bool.false_ne_true
    | _ => cases y <;> exact absurd (show false = true from hs) Bool.false_ne_true
theorem op_ne : OpR X (compareOp .NotEq) rNe := by
  unfold OpR at *
  exact by
    intro pins s σ H x y v u Q I rx ry h
    obtain ⟨hs, q⟩ := h
    cases x with
    | non =>
      cases rx
      cases y with
      | non => cases ry; exact PySem.EqNone.ne_none_none (fin_bl I q (by simp))
      | bl j => cases ry; exact PySem.EqNone.ne_none_bool (fin_bl I q (by simp))
      | int j => obtain ⟨t', rfl⟩ := ry; exact PySem.EqNone.ne_none_int (fin_bl I q (by simp))
      | str j => obtain ⟨t', rfl⟩ := ry; exact PySem.EqNone.ne_none_str (fin_bl I q (by simp))
      | _ => exact absurd (show false = true from hs) Bool.false_ne_true
    | bl i =>
      cases rx
      cases y with
      | non => cases ry; exact PySem.EqNone.ne_bool_none (fin_bl I q (by simp))
      | bl j => cases ry; exact ne_bool (fin_bl I q (congrArg not dec_bl))
      | str j => obtain ⟨t', rfl⟩ := ry; exact PySem.EqMixed.ne_bool_str (fin_bl I q (by simp))
      | _ => exact absurd (show false = true from hs) Bool.false_ne_true
    | int i =>
      obtain ⟨t, rfl⟩ := rx
      cases y with
      | non => cases ry; exact PySem.EqNone.ne_int_none (fin_bl I q (by simp))
      | int j => obtain ⟨t', rfl⟩ := ry; exact ne_int (fin_bl I q (congrArg not dec_int))
      | str j => obtain ⟨t', rfl⟩ := ry; exact PySem.EqMixed.ne_int_str (fin_bl I q (by simp))
      | _ => exact absurd (show false = true from hs) Bool.false_ne_true
    | str i =>
      obtain ⟨t, rfl⟩ := rx
      cases y with
      | non => cases ry; exact PySem.EqNone.ne_str_none (fin_bl I q (by simp))
      | bl j => cases ry; exact PySem.EqMixed.ne_str_bool (fin_bl I q (by simp))
      | int j => obtain ⟨t', rfl⟩ := ry; exact PySem.EqMixed.ne_str_int (fin_bl I q (by simp))
      | str j => obtain ⟨t', rfl⟩ := ry; exact ne_str (fin_bl I q (congrArg not dec_str))
      | _ => exact absurd (show false = true from hs) Bool.false_ne_true
    | byt i =>
      obtain ⟨t, rfl⟩ := rx
      cases y with
      | byt j => obtain ⟨t', rfl⟩ := ry; exact PySem.W.ne_bytes (fin_bl I q (congrArg not dec_byt))
      | _ => exact absurd (show false = true from hs) Bool.false_ne_true
    | _ => cases y <;> exact absurd (show false = true from hs) Bool.false_ne_true
theorem op_lt : OpR X (compareOp .Lt) (rI0 fun i j => .bl (decide (i < j))) := by
  first
  | exact (opB0 fun _ _ _ _ _ _ _ q => lt_int q)
  | (unfold OpR at *; exact (opB0 fun _ _ _ _ _ _ _ q => lt_int q))
theorem op_le : OpR X (compareOp .LtE) (rI0 fun i j => .bl (decide (i ≤ j))) := by
  first
  | exact (opB0 fun _ _ _ _ _ _ _ q => le_int q)
  | (unfold OpR at *; exact (opB0 fun _ _ _ _ _ _ _ q => le_int q))
theorem op_gt : OpR X (compareOp .Gt) (rI0 fun i j => .bl (decide (j < i))) := by
  first
  | exact (opB0 fun _ _ _ _ _ _ _ q => gt_int q)
  | (unfold OpR at *; exact (opB0 fun _ _ _ _ _ _ _ q => gt_int q))
theorem op_ge : OpR X (compareOp .GtE) (rI0 fun i j => .bl (decide (j ≤ i))) := by
  first
  | exact (opB0 fun _ _ _ _ _ _ _ q => ge_int q)
  | (unfold OpR at *; exact (opB0 fun _ _ _ _ _ _ _ q => ge_int q))
theorem OpR.or {f : Value → Value → Sem Value} {r r' : R2} (h : OpR X f r) (h' : OpR X f r') : OpR X f (fun x y H Q => r x y H Q ∨ r' x y H Q) := by
  unfold OpR at *
  exact by
    intro pins s σ H x y v u Q I rx ry q
    rcases q with q | q
    · exact h pins s σ H x y v u Q I rx ry q
    · exact h' pins s σ H x y v u Q I rx ry q
theorem nomark (b : Expr) {op : CmpOp} (h : op ≠ .In := by decide) (h2 : op ≠ .NotIn := by decide) : behindInMarks op b = false := by
  have e1 : (op == CmpOp.In) = false := by cases op <;> first | rfl | exact absurd rfl h
  have e2 : (op == CmpOp.NotIn) = false := by cases op <;> first | rfl | exact absurd rfl h2
  cases b <;> simp [behindInMarks, e1, e2]
theorem pe_cmpR {op : CmpOp} {r : R2} (ho : OpR X (compareOp op) r) (ha : PE X a ta) (hb : PE X b tb) (hm : behindInMarks op b = false) : PE X (.Compare a [op] [b] pos) (tOp r ta tb) := by
  unfold PE; unfold OpR at ho
  exact by
    intro pins s σ H Q I h
    exact wpAny_Compare1 (binT ha hb I h fun v u s2 x y H2 I2 rx ry q => ho pins s2 σ H2 x y v u Q I2 rx ry q) hm
def tTest (t : TE) : TT := fun σ H Q => t σ H fun x H' => ∃ k, x = .bl k ∧ Q k H'
theorem pt_cmpR {op : CmpOp} {r : R2} (ho : OpR X (compareOp op) r) (ha : PE X a ta) (hb : PE X b tb) (hm : behindInMarks op b = false) : PT X (.Compare a [op] [b] pos) (tTest (tOp r ta tb)) := by
  unfold PE at *; unfold PT at *; unfold OpR at *
  exact by
    intro pins s σ H Q I h
    refine wpAny_isTrue_Compare1 (thn (ha pins s σ H _ I h) fun v s1 ⟨x, H1, I1, r1, q1⟩ => thn (hb pins s1 σ H1 _ I1 q1) fun u s2 ⟨y, H2, I2, r2, q2⟩ =>
      thn (ho pins s2 σ H2 x y v u _ I2 r1 r2 q2) fun c s3 ⟨z, H3, I3, r3, k, e, q3⟩ => ?_) hm
    subst e
    cases r3
    exact wpAny_truthy_bool ⟨H3, I3, q3⟩
def tChain (r r' : R2) (ta tb tc : TE) : TE := fun σ H Q => ta σ H fun x H1 => tb σ H1 fun y H2 => r x y H2 fun z H3 => ∃ k, z = .bl k ∧
  (if k = true then tc σ H3 fun w' H4 => r' y w' H4 Q else Q (.bl false) H3)
theorem pe_chain {op op' : CmpOp} {r r' : R2} (ho : OpR X (compareOp op) r) (ho' : OpR X (compareOp op') r') (ha : PE X a ta) (hb : PE X b tb) (hc : PE X c tc)
    (hm : lastMarks [op, op'] [b, c] = false := by with_unfolding_all rfl) : PE X (.Compare a [op, op'] [b, c] pos) (tChain r r' ta tb tc) := by
  unfold PE at *; unfold OpR at *
  exact by
    intro pins s σ H Q I h
    refine Compare_chain (thn (ha pins s σ H _ I h) fun v s1 ⟨x, H1, I1, r1, q1⟩ => chain_link (thn (hb pins s1 σ H1 _ I1 q1) fun u s2 ⟨y, H2, I2, r2, q2⟩ =>
      thn (ho pins s2 σ H2 x y v u _ I2 r1 r2 q2) fun d s3 ⟨z, H3, I3, r3, k, e, q3⟩ => ?_)) hm
    subst e
    cases r3
    refine wpAny_truthy_bool ?_
    cases k with
    | false => exact ite_ff ⟨.bl false, H3, I3, rfl, q3⟩
    | true => exact ite_tt (chain_last (thn (hc pins s3 σ H3 _ I3 q3) fun w' s4 ⟨z', H4, I4, r4, q4⟩ => ho' pins s4 σ H4 y z' u w' Q I4 r2 r4 q4))
theorem pt_chain {op op' : CmpOp} {r r' : R2} (ho : OpR X (compareOp op) r) (ho' : OpR X (compareOp op') r') (ha : PE X a ta) (hb : PE X b tb) (hc : PE X c tc)
    (hm : lastMarks [op, op'] [b, c] = false := by with_unfolding_all rfl) : PT X (.Compare a [op, op'] [b, c] pos) (tTest (tChain r r' ta tb tc)) := by
  unfold PE at *; unfold PT at *; unfold OpR at *
  exact by
    intro pins s σ H Q I h
    refine isTrue_chain (thn (ha pins s σ H _ I h) fun v s1 ⟨x, H1, I1, r1, q1⟩ => test_link (thn (hb pins s1 σ H1 _ I1 q1) fun u s2 ⟨y, H2, I2, r2, q2⟩ =>
      thn (ho pins s2 σ H2 x y v u _ I2 r1 r2 q2) fun d s3 ⟨z, H3, I3, r3, k, e, q3⟩ => ?_)) hm
    subst e
    cases r3
    refine wpAny_truthy_bool ?_
    cases k with
    | false =>
      obtain ⟨k', e', q'⟩ := q3
      cases e'
      exact ite_ff ⟨H3, I3, q'⟩
    | true =>
      refine ite_tt (test_last (thn (hc pins s3 σ H3 _ I3 q3) fun w' s4 ⟨z', H4, I4, r4, q4⟩ => thn (ho' pins s4 σ H4 y z' u w' _ I4 r2 r4 q4) fun d' s5 ⟨z2, H5, I5, r5, k2, e2, q5⟩ => ?_))
      subst e2
      cases r5
      exact wpAny_truthy_bool ⟨H5, I5, q5⟩
theorem line63 : (sizeLine : Nat) < 2 ^ 63 := by rw [sizeLine_eq]; decide
theorem op_add_str : OpR X (binaryOp .Add) (fun x y H Q => ∃ i j, x = .str i ∧ y = .str j ∧ i.length + j.length ≤ sizeLine ∧ Q (.str (i ++ j)) H) := by
  unfold OpR at *
  exact by
    intro pins s σ H x y v u Q I rx ry h
    obtain ⟨i, j, rfl, rfl, hz, q⟩ := h
    obtain ⟨t, rfl⟩ := rx
    obtain ⟨t', rfl⟩ := ry
    exact add_str (fun t' tk => ⟨.str (i ++ j), H, I.tok _, ⟨_, rfl⟩, q⟩) hz
theorem vals1 {x : V} {us : List Value} (r : Vals [x] us) : ∃ u, us = [u] ∧ RelV x u := by
  cases r with
  | cons r1 r2 => cases r2; exact ⟨_, rfl, r1⟩
theorem vals2 {x y : V} {us : List Value} (r : Vals [x, y] us) : ∃ u w', us = [u, w'] ∧ RelV x u ∧ RelV y w' := by
  cases r with
  | cons r1 r2 =>
    cases r2 with
    | cons r3 r4 => cases r4; exact ⟨_, _, rfl, r1, r3⟩
theorem call_min2 (hc : X.calm = true) : CallR X (.builtin "min") (fun xs H Q => ∃ i j, xs = [.int i, .int j] ∧ Q (.int (if j < i then j else i)) H) := by
  unfold CallR at *
  exact by
    intro pins s σ H xs us Q I r h
    obtain ⟨i, j, rfl, q⟩ := h
    obtain ⟨u, w', rfl, ⟨t, rfl⟩, ⟨t', rfl⟩⟩ := vals2 r
    refine min_two_ints (I.ok.hd hc) fun h' tk k => ⟨_, H, I.kept k, ?_, q⟩
    by_cases hj : j < i
    · rw [if_pos hj, if_pos hj]; exact ⟨_, rfl⟩
    · rw [if_neg hj, if_neg hj]; exact ⟨_, rfl⟩
theorem call_int1 : CallR X (.type "int") (fun xs H Q => (∃ i, xs = [.int i] ∧ Q (.int i) H) ∨ ∃ k, xs = [.bl k] ∧ Q (.int (if k then 1 else 0)) H) := by
  unfold CallR at *
  exact by
    intro pins s σ H xs us Q I r h
    rcases h with ⟨i, rfl, q⟩ | ⟨k, rfl, q⟩
    · obtain ⟨u, rfl, t, rfl⟩ := vals1 r
      exact call_int_int ⟨.int i, H, I, ⟨_, rfl⟩, q⟩
    · obtain ⟨u, rfl, r1⟩ := vals1 r
      cases r1
      exact call_int_bool ⟨.int (if k then 1 else 0), H, I.tok _, ⟨_, rfl⟩, q⟩
end
end L2
namespace L2
open PySem PySem.Spec PyProof.Rows
structure ObjM (h : Heap) (x dx C : Addr) (mA : Str → Option Value) : Prop where
  obj : h.get? x = some (PySem.W.instObj C dx)
  ns : h.Ns1 dx mA
  ne : dx ≠ x
theorem lookIn_ns {h : Heap} {dx : Addr} {mA : Str → Option Value} (n : h.Ns1 dx mA) : ∃ od, h.get? dx = some od ∧ ∀ name, PySem.W.lookIn name od = some (mA name) := by
  obtain ⟨o, es, ep, ho, hd, hk, _, hm⟩ := n
  refine ⟨o, ho, fun name => ?_⟩
  have e := hm name
  unfold nsFind findBy at e
  rw [← Array.find?_toList] at e
  unfold PySem.W.lookIn
  rw [hd]
  dsimp only
  split
  · rename_i y q
    rw [q] at e
    exact congrArg some e
  · rename_i q
    rw [q] at e
    have a : es.toList.any (·.refKey) = false := by
      rw [List.any_eq_false]
      intro y hy
      obtain ⟨z, t, hkey⟩ := hk y (Array.mem_toList_iff.mp hy)
      simp [DictEntry.refKey, hkey]
    have a' : ¬ es.toList.any (·.refKey) = true := by rw [a]; exact Bool.false_ne_true
    rw [if_neg a']
    exact congrArg some e
theorem ObjM.look {h : Heap} {x dx C : Addr} {mA : Str → Option Value} (I : ObjM h x dx C mA) : ∃ od, PySem.W.InstAt h x (PySem.W.instObj C dx) C (some od) ∧ ∀ name, PySem.W.lookIn name od = some (mA name) :=
  let ⟨od, ho, hl⟩ := lookIn_ns I.ns
  ⟨od, ⟨I.obj, rfl, rfl, ho⟩, hl⟩
section
variable {prog : Program} {w : World} {A : Around} {E : Value → Shared → Prop} {s : Shared} {K : PySem.W.Frag} {x dx C f : Addr} {mA : Str → Option Value} {name : Str} {v : Value}
theorem get_map {expr : Bool} {Q : Value → Shared → Prop} (X : K.In s.heap) (I : ObjM s.heap x dx C mA) (hg : PySem.W.plainGet K C name = true) (hh : PySem.W.hasDictIn K C = true)
    (ha : PySem.W.findIn K (.ref C) name = some none) (hv : mA name = some v) (hv' : PySem.W.handedIn v = true) (h : Q v { s with toks := s.toks + 1 }) :
    wpAny (model prog w) A (getAttr (.ref x) name expr) Q E s := by
  obtain ⟨od, J, hl⟩ := I.look
  exact PySem.W.get_value X J (PySem.W.plainGet_of hg).1 (PySem.W.findObj_own hh ha rfl (by rw [hl, hv])) hv' h
theorem get_meth {pl : Sem Bool} {Q : Value × List Value → Shared → Prop} (X : K.In s.heap) (I : ObjM s.heap x dx C mA) (hg : PySem.W.plainGet K C name = true)
    (hf : PySem.W.findIn K (.ref C) name = some (some (.ref f))) (ht : PySem.W.isFn K (.ref f) = true) (hv : mA name = none) (h : Q (.ref f, [.ref x]) s) :
    wpAny (model prog w) A (getMethod (.ref x) name pl) Q E s := by
  obtain ⟨od, J, hl⟩ := I.look
  exact PySem.W.method_fn X J (PySem.W.plainGet_of hg).1 (PySem.W.plainGet_of hg).2 hf (beq_iff_eq.mp ht) (by show (PySem.W.lookIn name od).map (·.isSome) = some false; rw [hl, hv]; rfl) h
theorem set_map {ns : List Str} {Q : Unit → Shared → Prop} (X : K.In s.heap) (I : ObjM s.heap x dx C mA)
    (hs : PySem.W.findIn K (.ref C) "__setattr__" = some (some (.builtin "object.__setattr__"))) (hp : PySem.W.plainOver K C = true) (ht : PySem.W.takerIn K C name = some none) (hh : PySem.W.hasDictIn K C = true)
    (hw : PySem.Within mA ns) (hsz : ns.length ≤ sizeLine)
    (h : ∀ h', ObjM h' x dx C (fun y => if y = name then some v else mA y) → Heap.SameBut dx s.heap h' → Q () { s with heap := h', toks := s.toks + 2 }) :
    wpAny (model prog w) A (setAttr (.ref x) name v) Q E s := by
  obtain ⟨od, J, hl⟩ := I.look
  refine PySem.W.set_plain X J hs (PySem.W.osa_open (s := { s with toks := s.toks + 1 }) (r := none) X J hp ht fun b => ?_)
  obtain ⟨cd, hc, hd'⟩ := PySem.W.any_some hh
  have hx : s.heap.get? x = some ⟨.ref C, some dx, .plain, #[]⟩ := I.obj
  refine wpAny_bind (wpAny_pure (wpAny_bind (wpAny_bind (wpAny_loadPart hx (wpAny_bind (PySem.W.Looks.here (s := { s with toks := s.toks + 1 }) (PySem.W.looks_clsIn X hc) ?_))))))
  rw [hd']
  refine wpAny_pure (a := some dx) (wpAny_bind (wpAny_pure (wpAny_bind ?_)))
  refine wpAny_nsSet1 (s := { s with toks := s.toks + 1 }) I.ns fun h' hn2 hs2 => ?_
  obtain ⟨oD, esD, epD, hoD, hdD, hcD⟩ := hn2.count (PySem.Within.cons name v hw)
  refine wpAny_bind (wpAny_lookBehind hoD (by rw [hdD]; exact pastItsLine_dict (Nat.le_trans hcD (by rw [List.length_cons]; omega))) ?_)
  exact wpAny_pure (h _ ⟨(hs2.2 _ (Ne.symm I.ne)).trans I.obj, hn2, I.ne⟩ hs2)
theorem make_map {R : Result → Shared → Prop} {vs : List Value} {kw : List (Str × Value)} (X : K.In s.heap) (hm : PySem.W.makesIn K C = true)
    (hi : PySem.W.findIn K (.ref C) "__init__" = some (some (.ref f))) (hf : PySem.W.typeIn K (.ref f) = some (.type "function"))
    (h : codeAny (model prog w) (A.under (.builtin "type.__call__" ⟨.ref C :: vs, kw⟩)) (.call (.ref f) ⟨.ref (s.heap.objs.size + 1) :: vs, kw⟩) (PySem.W.InitBack (s.heap.objs.size + 1) R)
      { s with heap := (s.heap.push PySem.W.emptyDict).push (PySem.W.instObj C s.heap.objs.size) }) :
    codeAny (model prog w) A (.call (.ref C) ⟨vs, kw⟩) R s := by
  obtain ⟨hh, g, d, t, os⟩ := s
  exact PySem.W.make_core (PySem.W.makes_of X hm) (PySem.W.looks_findIn X hi) (fun self => PySem.W.bind_fn X self hf) (.inl rfl) h
end
def putF (f : Str) (v : V) : List (Str × V) → List (Str × V)
  | [] => [(f, v)]
  | (g, x) :: r => if g = f then (g, v) :: r else (g, x) :: putF f v r
theorem lookup_putF (f g : Str) (v : V) : ∀ fs : List (Str × V), (putF f v fs).lookup g = if g = f then some v else fs.lookup g
  | [] => by
    show List.lookup g [(f, v)] = _
    by_cases h : g = f
    · have hb : (g == f) = true := beq_iff_eq.mpr h
      simp only [List.lookup, hb, if_pos h]
    · have hb : (g == f) = false := beq_eq_false_iff_ne.mpr h
      simp only [List.lookup, hb, if_neg h]
  | (k, x) :: r => by
    have ih := lookup_putF f g v r
    rw [show putF f v ((k, x) :: r) = (if k = f then (k, v) :: r else (k, x) :: putF f v r) from rfl]
    by_cases hk : k = f
    · rw [if_pos hk]
      by_cases h : g = k
      · have hb : (g == k) = true := beq_iff_eq.mpr h
        simp only [List.lookup, hb, if_pos (h.trans hk)]
      · have hb : (g == k) = false := beq_eq_false_iff_ne.mpr h
        simp only [List.lookup, hb, if_neg (fun e : g = f => h (e.trans hk.symm))]
    · rw [if_neg hk]
      by_cases h : g = k
      · have hb : (g == k) = true := beq_iff_eq.mpr h
        simp only [List.lookup, hb, if_neg (fun e : g = f => hk (h.symm.trans e))]
      · have hb : (g == k) = false := beq_eq_false_iff_ne.mpr h
        simp only [List.lookup, hb]
        exact ih
theorem keys_putF (f : Str) (v : V) : ∀ fs : List (Str × V), f ∈ (putF f v fs).map (·.1) ∧ ∀ g, g ∈ fs.map (·.1) → g ∈ (putF f v fs).map (·.1)
  | [] => ⟨by simp [putF], fun g h => by simp at h⟩
  | (k, x) :: r => by
    obtain ⟨i1, i2⟩ := keys_putF f v r
    rw [show putF f v ((k, x) :: r) = (if k = f then (k, v) :: r else (k, x) :: putF f v r) from rfl]
    by_cases hk : k = f
    · rw [if_pos hk]
      subst hk
      exact ⟨by simp, fun g h => by simpa using h⟩
    · rw [if_neg hk]
      refine ⟨?_, fun g h => ?_⟩
      · rw [List.map_cons]
        exact List.mem_cons_of_mem _ i1
      · rw [List.map_cons] at h ⊢
        rcases List.mem_cons.mp h with e | e
        · exact List.mem_cons.mpr (.inl e)
        · exact List.mem_cons_of_mem _ (i2 g e)
theorem length_putF (f : Str) (v : V) : ∀ fs : List (Str × V), (putF f v fs).length ≤ fs.length + 1
  | [] => by simp [putF]
  | (k, x) :: r => by
    have ih := length_putF f v r
    rw [show putF f v ((k, x) :: r) = (if k = f then (k, v) :: r else (k, x) :: putF f v r) from rfl]
    by_cases hk : k = f
    · rw [if_pos hk, List.length_cons, List.length_cons]; omega
    · rw [if_neg hk, List.length_cons, List.length_cons]; omega
theorem RelO.some_of {v : V} {o : Option Value} (r : RelO (some v) o) : ∃ u, o = some u ∧ RelV v u := by
  cases o with
  | none => exact (show False from r).elim
  | some u => exact ⟨u, rfl, r⟩
theorem RelO.none_of {o : Option Value} (r : RelO none o) : o = none := by
  cases o with
  | none => rfl
  | some u => exact (show False from r).elim
theorem handed_of {v : V} {u : Value} (r : RelV v u) : PySem.W.handedIn u = true := by
  cases v with
  | non => cases (show u = Value.none from r); rfl
  | bl b => cases (show u = Value.bool b from r); rfl
  | int i => obtain ⟨t, e⟩ := (show ∃ t, u = Value.int i t from r); cases e; rfl
  | str x => obtain ⟨t, e⟩ := (show ∃ t, u = Value.str x t from r); cases e; rfl
  | byt b => obtain ⟨t, e⟩ := (show ∃ t, u = Value.bytes b t from r); cases e; rfl
  | flt b => obtain ⟨t, e⟩ := (show ∃ t, u = Value.float b t from r); cases e; rfl
  | ref a => cases (show u = Value.ref a from r); rfl
  | ty n => cases (show u = Value.type n from r); rfl
section
variable {P : Program} {w : World} {H H' : Hp} {h h' : Heap} {a C dx : Addr} {fs fs' : List (Str × V)}
theorem ins_get (hok : HOk P w H h) (e : H a = some (.ins C dx fs)) : ∃ mA, ObjM h a dx C mA ∧ (∀ f, RelO (fs.lookup f) (mA f)) ∧ PySem.Within mA (fs.map (·.1)) ∧ fs.length ≤ 1000 ∧ H dx = some (.own a) := by
  obtain ⟨d, z, ne, ob, mA, n, r, q⟩ := (show ObjOk P w H h a (.ins C dx fs) from hok a _ e)
  exact ⟨mA, ⟨ob, n, ne⟩, r, q, z, d⟩
end
structure Cls (K : PySem.W.Frag) (C : Addr) : Prop where
  pg : PySem.W.plainGet K C Str.empty = true
  hd : PySem.W.hasDictIn K C = true
  po : PySem.W.plainOver K C = true
  sa : PySem.W.findIn K (.ref C) "__setattr__" = some (some (.builtin "object.__setattr__"))
theorem Cls.get {K : PySem.W.Frag} {C : Addr} (c : Cls K C) (f : Str) : PySem.W.plainGet K C f = true := c.pg
def NoAttr (K : PySem.W.Frag) (C : Addr) (f : Str) : Prop := PySem.W.findIn K (.ref C) f = some none
theorem NoAttr.taker {K : PySem.W.Frag} {C : Addr} {f : Str} (n : NoAttr K C f) : PySem.W.takerIn K C f = some none := by
  unfold PySem.W.takerIn
  rw [show PySem.W.findIn K (.ref C) f = some none from n]
  rfl
structure Meth (K : PySem.W.Frag) (C : Addr) (m : Str) (f : Addr) : Prop where
  at_ : PySem.W.findIn K (.ref C) m = some (some (.ref f))
  fn : PySem.W.isFn K (.ref f) = true
  kp : PySem.W.keepIn K (.ref f) = true
section
variable {X : Cx} {pins : List (Addr × Obj)} {σ : St} {H : Hp} {s : Shared} {a C dx : Addr} {fs : List (Str × V)} {f : Str} {v : V} {A : Around} {E : Value → Shared → Prop}
theorem getattr_ok {b : Bool} {Q : Value → Shared → Prop} (I : Inv X pins σ H s) (e : H a = some (.ins C dx fs)) (c : Cls X.K C) (n : NoAttr X.K C f) (l : fs.lookup f = some v)
    (h : ∀ u s', Inv X pins σ H s' → RelV v u → Q u s') : wpAny (model X.prog X.w) A (getAttr (.ref a) f b) Q E s := by
  obtain ⟨mA, O, r, _, _, _⟩ := ins_get I.hok e
  obtain ⟨u, hu, ru⟩ := RelO.some_of (v := v) (o := mA f) (by rw [← l]; exact r f)
  exact get_map I.kIn O (c.get f) c.hd n hu (handed_of ru) (h u _ (I.tok _) ru)
theorem getmeth_ok {m : Str} {g : Addr} {pl : Sem Bool} {Q : Value × List Value → Shared → Prop} (I : Inv X pins σ H s) (e : H a = some (.ins C dx fs)) (c : Cls X.K C) (k : Meth X.K C m g) (l : fs.lookup m = none)
    (h : Q (.ref g, [.ref a]) s) : wpAny (model X.prog X.w) A (getMethod (.ref a) m pl) Q E s := by
  obtain ⟨mA, O, r, _, _, _⟩ := ins_get I.hok e
  have hn : mA m = none := RelO.none_of (by rw [← l]; exact r m)
  exact get_meth I.kIn O (c.get m) k.at_ k.fn hn h
theorem setattr_ok {y : V} {u : Value} {Q : Unit → Shared → Prop} (I : Inv X pins σ H s) (e : H a = some (.ins C dx fs)) (c : Cls X.K C) (n : NoAttr X.K C f) (hl : fs.length < 1000) (ry : RelV y u)
    (h : ∀ s', Inv X pins σ (upd H a (.ins C dx (putF f y fs))) s' → Q () s') : wpAny (model X.prog X.w) A (setAttr (.ref a) f u) Q E s := by
  obtain ⟨mA, O, r, wi, _, ho⟩ := ins_get I.hok e
  have hz : (fs.map (·.1)).length ≤ sizeLine := by rw [List.length_map, sizeLine_eq]; omega
  refine set_map I.kIn O c.sa c.po n.taker c.hd wi hz fun h' O' sb => h _ ?_
  have hd : ∃ o, h'.get? dx = some o := let ⟨o, _, _, e', _⟩ := O'.ns; ⟨o, e'⟩
  refine I.write (x := a) (e := dx) (by rw [e]; exact True.intro) (.inr ho) (fun b q hb z => (sb.2 b hb).trans z) hd ?_
  refine ⟨by rw [upd_ne O.ne]; exact ho, ?_, O.ne, O'.obj, _, O'.ns, fun g => ?_, fun g hg => ?_⟩
  · have := length_putF f y fs; omega
  · show RelO ((putF f y fs).lookup g) (if g = f then some u else mA g)
    rw [lookup_putF]
    by_cases q : g = f
    · rw [if_pos q, if_pos q]; exact ry
    · rw [if_neg q, if_neg q]; exact r g
  · by_cases q : g = f
    · rw [q]; exact (keys_putF f y fs).1
    · refine (keys_putF f y fs).2 g (wi g fun z => hg ?_)
      show (if g = f then some u else mA g) = none
      rw [if_neg q]; exact z
theorem Inv.made (I : Inv X pins σ H s) : Inv X pins σ (upd (upd H s.heap.objs.size (.own (s.heap.objs.size + 1))) (s.heap.objs.size + 1) (.ins C s.heap.objs.size []))
    { s with heap := (s.heap.push PySem.W.emptyDict).push (PySem.W.instObj C s.heap.objs.size) } := by
  have e1 : (s.heap.push PySem.W.emptyDict).get? s.heap.objs.size = some PySem.W.emptyDict := Heap.get?_push_size s.heap rfl
  have e2 : ((s.heap.push PySem.W.emptyDict).push (PySem.W.instObj C s.heap.objs.size)).get? (s.heap.objs.size + 1) = some (PySem.W.instObj C s.heap.objs.size) := by
    have := Heap.get?_push_size (s.heap.push PySem.W.emptyDict) (o := PySem.W.instObj C s.heap.objs.size) rfl
    rwa [Heap.size_push] at this
  have e3 : (s.heap.push PySem.W.emptyDict).Ns s.heap.objs.size (fun _ => none) := ⟨PySem.W.emptyDict, #[], _, e1, rfl, (fun e he => absurd he (by simp)), fun _ => rfl⟩
  have I1 := I.laid (a := s.heap.objs.size) (o := .own (s.heap.objs.size + 1)) (h' := s.heap.push PySem.W.emptyDict) (t' := s.toks) (fun b u q => Heap.get?_push_of_some _ q) (Nat.le_refl _) ⟨_, e1⟩
  refine I1.laid (a := s.heap.objs.size + 1) (o := .ins C s.heap.objs.size []) (t' := s.toks) (fun b u q => Heap.get?_push_of_some _ q) (Nat.le_of_eq (Heap.size_push _ _)) ?_
  have ne : s.heap.objs.size ≠ s.heap.objs.size + 1 := Nat.ne_of_lt (Nat.lt_succ_self _)
  refine ⟨by rw [upd_ne ne, upd_same], Nat.zero_le _, ne, e2, fun _ => none, (Heap.Ns1.of_empty e3).at fun o q => Heap.get?_push_of_some _ q, fun _ => True.intro, fun y hy => absurd rfl hy⟩
theorem attr_of {prog : Program} {w : World} {env : Env} {e : Expr} {f : Str} {pos : Pos} {s : Shared} {Q : Value → Shared → Prop} (hb : attributeBase e f env (eval e env) = eval e env)
    (h : wpAny (model prog w) A (eval e env) (fun o s₁ => wpAny (model prog w) A (getAttr o f true) Q E s₁) E s) : wpAny (model prog w) A (eval (.Attribute e f pos) env) Q E s :=
  Attribute_any_ h (by rw [arm_eval_Attribute, hb])
end
def tFld (K : PySem.W.Frag) (ta : TE) (f : Str) : TE := fun σ H Q => ta σ H fun x H1 => ∃ a C dx fs v, x = .ref a ∧ H1 a = some (.ins C dx fs) ∧ Cls K C ∧ NoAttr K C f ∧ fs.lookup f = some v ∧ Q v H1
def sFld (K : PySem.W.Frag) (ta tv : TE) (f : Str) : TS := fun D σ H => tv σ H fun y H1 => ta σ H1 fun x H2 => ∃ a C dx fs, x = .ref a ∧ H2 a = some (.ins C dx fs) ∧ Cls K C ∧ NoAttr K C f ∧ fs.length < 1000 ∧
  D.nx σ (upd H2 a (.ins C dx (putF f y fs)))
section
variable {X : Cx} {o e value : Expr} {f : Str} {pos pos' tpos : Pos} {ta tv : TE}
theorem pe_fld (he : PE X e ta) (hb : attributeBase e f X.env (eval e X.env) = eval e X.env) : PE X (.Attribute e f pos) (tFld X.K ta f) := by
  unfold PE at *
  exact by
    intro pins s σ H Q I h
    refine attr_of hb (thn (he pins s σ H _ I h) fun u s1 ⟨x, H1, I1, rx, a, C, dx, fs, v, ex, ea, c, n, l, q⟩ => ?_)
    subst ex
    obtain rfl : u = Value.ref a := rx
    exact getattr_ok I1 ea c n l fun u' s2 I2 ru => ⟨v, H1, I2, ru, q⟩
theorem ps_fld (ha : PE X o ta) (hv : PE X value tv) (hs : swapsWith value (some (.Attribute o f pos')) pos.line X.env = pure false) : PS X (.Assign [.Attribute o f pos'] value pos) (sFld X.K ta tv f) := by
  unfold PE at *; unfold PS at *
  exact by
    intro pins s σ H D I h
    refine plainObj_wpAny_Assign_Attribute (thn (hv pins s σ H _ I h) fun u s1 ⟨y, H1, I1, ry, q⟩ => thn (ha pins s1 σ H1 _ I1 q) fun ov s2 ⟨x, H2, I2, rx, a, C, dx, fs, ex, ea, c, n, l, q2⟩ => ?_) hs
    subst ex
    obtain rfl : ov = Value.ref a := rx
    exact setattr_ok I2 ea c n l ry fun s3 I3 => ⟨σ, _, I3, q2⟩
end
section
variable {X : Cx} {pins : List (Addr × Obj)} {σ : St} {H : Hp} {s : Shared} {A : Around} {E : Value → Shared → Prop} {Q : Value → Shared → Prop} {c : Value} {b : Bool}
inductive TyOf (K : PySem.W.Frag) (H : Hp) : V → Value → Prop where
  | non : TyOf K H .non (.type "NoneType")
  | bl (x : Bool) : TyOf K H (.bl x) (.type "bool")
  | int (i : Int) : TyOf K H (.int i) (.type "int")
  | str (x : Str) : TyOf K H (.str x) (.type "str")
  | flt (x : UInt64) : TyOf K H (.flt x) (.type "float")
  | lst {a : Addr} {xs : List V} (e : H a = some (.lst xs)) : TyOf K H (.ref a) (.type "list")
  | frz {a : Addr} {o : Obj} {xs : List V} (e : H a = some (.frz o (.lst xs))) : TyOf K H (.ref a) (.type "list")
  | tup {a : Addr} {xs : List V} (e : H a = some (.tup xs)) : TyOf K H (.ref a) (.type "tuple")
  | dK {a : Addr} {kvs : List (Key × V)} (e : H a = some (.dK kvs)) : TyOf K H (.ref a) (.type "dict")
  | dT {a : Addr} {kvs : List (List Key × V)} (e : H a = some (.dT kvs)) : TyOf K H (.ref a) (.type "dict")
  | ins {a C dx : Addr} {fs : List (Str × V)} (e : H a = some (.ins C dx fs)) (cl : Cls K C) (ha : PySem.W.findIn K (.ref C) "__class__" = some (some (.builtin "object.__class__")))
      (hn : PySem.W.specialIn K (.builtin "object.__class__") "__get__" = some (some (.builtin "getset_descriptor.__get__"))) (htk : PySem.W.takesIn K (.builtin "object.__class__") = some true)
      (hm : PySem.W.mroIn K C (.type "object") = some true) : TyOf K H (.ref a) (.ref C)
theorem isinst_ok {x : V} {u t : Value} (I : Inv X pins σ H s) (rx : RelV x u) (ty : TyOf X.K H x t) (e : PySem.W.kitOne X.K t c = some b) (h : ∀ tk, Q (.bool b) { s with toks := tk }) :
    wpAny (model X.prog X.w) A (call (.builtin "isinstance") [u, c]) Q E s := by
  cases ty with
  | non => cases (show u = Value.none from rx); exact PySem.W.kia_one PySem.W.kitx_none I.kIn True.intro e (fun z => nomatch z) h
  | bl y => cases (show u = Value.bool y from rx); exact PySem.W.kia_one PySem.W.kitx_bool I.kIn True.intro e (fun z => nomatch z) h
  | int i => obtain ⟨t, q⟩ := (show ∃ t, u = Value.int i t from rx); cases q; exact PySem.W.kia_one PySem.W.kitx_int I.kIn True.intro e (fun z => nomatch z) h
  | str y => obtain ⟨t, q⟩ := (show ∃ t, u = Value.str y t from rx); cases q; exact PySem.W.kia_one PySem.W.kitx_str I.kIn True.intro e (fun z => nomatch z) h
  | flt y => obtain ⟨t, q⟩ := (show ∃ t, u = Value.float y t from rx); cases q; exact PySem.W.kia_one PySem.W.kitx_float I.kIn True.intro e (fun z => nomatch z) h
  | @lst a xs ea =>
    cases (show u = Value.ref a from rx)
    obtain ⟨_, _, n, _, h1⟩ := (show ObjOk X.prog X.w H s.heap a (.lst xs) from I.hok a _ ea)
    exact PySem.W.kia_one PySem.W.kitx_list I.kIn ⟨_, h1, rfl⟩ e (fun z => nomatch z) h
  | @frz a ob xs ea =>
    cases (show u = Value.ref a from rx)
    obtain ⟨_, _, _, n, _, h1⟩ := (show ObjOk X.prog X.w H s.heap a (.frz ob (.lst xs)) from I.hok a _ ea)
    exact PySem.W.kia_one PySem.W.kitx_list I.kIn ⟨_, h1, rfl⟩ e (fun z => nomatch z) h
  | @tup a xs ea =>
    cases (show u = Value.ref a from rx)
    obtain ⟨_, _, _, p⟩ := (show ObjOk X.prog X.w H s.heap a (.tup xs) from I.hok a _ ea)
    obtain ⟨o, h1, h2, _⟩ := p
    exact PySem.W.kia_one PySem.W.kitx_tuple I.kIn ⟨o, h1, h2⟩ e (fun z => nomatch z) h
  | @dK a kvs ea =>
    cases (show u = Value.ref a from rx)
    obtain ⟨_, _, vs, _, p⟩ := (show ObjOk X.prog X.w H s.heap a (.dK kvs) from I.hok a _ ea)
    obtain ⟨o, es, ep, h1, h2, _⟩ := p
    exact PySem.W.kia_one PySem.W.kitx_dict I.kIn ⟨o, h1, h2.1⟩ e (fun z => nomatch z) h
  | @dT a kvs ea =>
    cases (show u = Value.ref a from rx)
    obtain ⟨_, _, xs, _, o, es, ep, h1, h2, _⟩ := (show ObjOk X.prog X.w H s.heap a (.dT kvs) from I.hok a _ ea)
    exact PySem.W.kia_one PySem.W.kitx_dict I.kIn ⟨o, h1, h2.1⟩ e (fun z => nomatch z) h
  | @ins a C dx fs ea cl ha hn htk hm =>
    cases (show u = Value.ref a from rx)
    obtain ⟨mA, O, _⟩ := ins_get I.hok ea
    obtain ⟨od, J, _⟩ := O.look
    exact PySem.W.kia_one (PySem.W.kitx_own (cl.get _) cl.hd ha hn htk hm) I.kIn J e (fun z => nomatch z) h
end
end L2
namespace L2
open PySem PySem.Spec PyProof.Rows
structure Room (k : Nat) (A : Around) : Prop where
  hd : A.handled = none
  dp : A.depth + 3 * k + 5 < recursionLimit
  un : A.units + 16 * k + 200 < cLine
theorem Room.mono {j k : Nat} {A : Around} (r : Room k A) (h : j ≤ k) : Room j A := ⟨r.hd, by have := r.dp; omega, by have := r.un; omega⟩
theorem Room.deeper {k : Nat} {A : Around} (r : Room (k + 1) A) (env : Env) : Room k (A.deeper env) :=
  ⟨r.hd, by have := r.dp; show A.depth + 1 + 3 * k + 5 < _; omega, by have := r.un; show A.units + 3 + 16 * k + 200 < _; omega⟩
theorem Room.in1 {k : Nat} {A : Around} (r : Room (k + 1) A) : Room k A.in1 :=
  ⟨r.hd, by have := r.dp; show A.depth + 3 * k + 5 < _; omega, by have := r.un; show A.units + 1 + 16 * k + 200 < _; omega⟩
theorem make_depth {A : Around} {C : Addr} {us : List Value} {kw : List (Str × Value)} : (A.under (.builtin "type.__call__" ⟨.ref C :: us, kw⟩)).depth = A.depth + 1 := by
  first | rfl | simp [Around.under, Code.weight, Code.isCreation, Code.isGuard, Code.isCaller, Code.frames, Code.isFrame, guardIds]
theorem make_units {A : Around} {C : Addr} {us : List Value} {kw : List (Str × Value)} : (A.under (.builtin "type.__call__" ⟨.ref C :: us, kw⟩)).units = A.units + 1 := by
  first | rfl | simp [Around.under, Code.cUnits, Code.frames, Code.isFrame]
theorem Room.make {k : Nat} {A : Around} (r : Room (k + 1) A) (C : Addr) (us : List Value) (kw : List (Str × Value)) : Room k (A.under (.builtin "type.__call__" ⟨.ref C :: us, kw⟩)) :=
  ⟨r.hd, by have := r.dp; rw [make_depth]; omega, by have := r.un; rw [make_units]; omega⟩
theorem Room.depth {k : Nat} {A : Around} (r : Room k A) : A.depth < recursionLimit := by have := r.dp; omega
theorem Room.units {k : Nat} {A : Around} (r : Room k A) : A.units + 64 < cLine := by have := r.un; omega
theorem Room.units0 {k : Nat} {A : Around} (r : Room k A) : A.units < cLine := by have := r.un; omega
def tNil : TA := fun _ H Q => Q [] H
def tCons (ta : TE) (tr : TA) : TA := fun σ H Q => ta σ H fun x H1 => tr σ H1 fun xs H2 => Q (x :: xs) H2
section
variable {X : Cx} {e : Expr} {es : List Expr} {te : TE} {t : TA} {pos : Pos}
theorem pa_nil : PA X [] tNil := by
  first
  | exact (fun _ _ _ _ H Q I h => Calls.spliced_nil ⟨[], H, I, .nil, h⟩)
  | (unfold PA at *; exact (fun _ _ _ _ H Q I h => Calls.spliced_nil ⟨[], H, I, .nil, h⟩))
theorem pa_cons (ha : PE X e te) (hr : PA X es t) (hs : starEach (e :: es) X.env = (false, eval e X.env) :: starEach es X.env := by rfl) : PA X (e :: es) (tCons te t) := by
  unfold PE at *; unfold PA at *
  exact by
    intro pos pins s σ H Q I h
    rw [hs]
    show wpAny _ _ (spliced ((false, eval e X.env) :: backTo pos (starEach es X.env))) _ _ s
    refine Calls.spliced_cons (thn (ha pins s σ H _ I h) fun u s1 ⟨x, H1, I1, r1, q1⟩ => ?_)
    exact thn (hr pos pins s1 σ H1 _ I1 q1) fun us s2 ⟨xs, H2, I2, r2, q2⟩ => ⟨x :: xs, H2, I2, .cons r1 r2, q2⟩
def tTup (t : TA) : TE := fun σ H Q => t σ H fun xs H1 => xs.length ≤ sizeLine ∧ ∀ p, H1 p = none → Q (.ref p) (upd H1 p (.tup xs))
def tLst (t : TA) : TE := fun σ H Q => t σ H fun xs H1 => xs.length ≤ sizeLine ∧ ∀ p, H1 p = none → Q (.ref p) (upd H1 p (.lst xs))
theorem pe_tup {x1} (h : PA X es t) : PE X (.Tuple es x1 pos) (tTup t) := by
  unfold PE at *; unfold PA at *
  exact by
    intro pins s σ H Q I hq
    refine wpAny_Tuple_spliced (thn (h pos pins s σ H _ I hq) fun us s1 ⟨xs, H1, I1, r, z, q⟩ => ⟨by rw [← r.length]; exact z, ?_⟩)
    have hf : H1 s1.heap.objs.size = none := I1.hok.fresh (Nat.le_refl _)
    refine ⟨.ref s1.heap.objs.size, upd H1 s1.heap.objs.size (.tup xs), I1.laid (t' := s1.toks) (fun b u e => Heap.get?_push_of_some _ e) (Nat.le_refl _) ?_, rfl, q _ hf⟩
    exact ⟨z, us, r, ⟨_, Heap.get?_push_size _ rfl, rfl, _, rfl⟩⟩
theorem pe_lst (h : PA X es t) : PE X (.List es pos) (tLst t) := by
  unfold PE at *; unfold PA at *
  exact by
    intro pins s σ H Q I hq
    refine wpAny_List_spliced (thn (h pos pins s σ H _ I hq) fun us s1 ⟨xs, H1, I1, r, z, q⟩ => ⟨by rw [← r.length]; exact z, ?_⟩)
    have hf : H1 s1.heap.objs.size = none := I1.hok.fresh (Nat.le_refl _)
    refine ⟨.ref s1.heap.objs.size, upd H1 s1.heap.objs.size (.lst xs), I1.laid (t' := s1.toks) (fun b u e => Heap.get?_push_of_some _ e) (Nat.le_refl _) ?_, rfl, q _ hf⟩
    exact ⟨z, us, 0, r, Heap.get?_push_size _ rfl⟩
end
abbrev Sp := List V → Hp → VK → XK → Prop
abbrev CXT := List Env → Hp → Shared → XK → Value → Shared → Prop
structure Env0 (P : Program) (w : World) (K : PySem.W.Frag) (mg : Str → Option Value) (base : Heap) (A : Around) (outer : List Env) (s : Shared) (H : Hp) : Prop where
  frames : A.frames = some outer
  mod : Mod K mg base
  bs : ∀ b o, base.get? b = some o → s.heap.get? b = some o ∧ H b = none
  bsz : base.objs.size ≤ s.heap.objs.size
  funs : s.heap.FunFrames base outer
  frf : ∀ b ∈ frs outer, H b = none
  hok : HOk P w H s.heap
  bare : AllBare s.gens
def CE (outer : List Env) (P : Program) (w : World) (H : Hp) (s : Shared) (Q : VK) (u : Value) (s' : Shared) : Prop :=
  ∃ v H', s'.os = s.os ∧ AllBare s'.gens ∧ Un (frs outer) [] H H' s.heap s'.heap ∧ HOk P w H' s'.heap ∧ RelV v u ∧ Q v H'
def CR (CX : CXT) (outer : List Env) (P : Program) (w : World) (H : Hp) (s : Shared) (Q : VK) (E : XK) (r : Result) (s' : Shared) : Prop :=
  match r with
  | .ok (.ret u) => CE outer P w H s Q u s'
  | .ok _ => False
  | .error e => CX outer H s E e s'
structure FnOk (P : Program) (w : World) (K : PySem.W.Frag) (mg : Str → Option Value) (base : Heap) (CX : CXT) (k : Nat) (f : Addr) (fd : FuncData) (ps : List Str) (sp : Sp) : Prop where
  len : ∀ vs H Q E, sp vs H Q E → vs.length = ps.length
  run : ∀ (A : Around) (outer : List Env) (s : Shared) (H : Hp) (args : Args) (us : List Value) (vs : List V) (Q : VK) (E : XK), Room k A → Env0 P w K mg base A outer s H → BindsTo s fd args (ps.zip us) → Vals vs us → sp vs H Q E →
    codeAny (model P w) A (.call (.ref f) args) (CR CX outer P w H s Q E) s
theorem FnOk.mono {P : Program} {w : World} {K : PySem.W.Frag} {mg : Str → Option Value} {base : Heap} {CX : CXT} {j k : Nat} {f : Addr} {fd : FuncData} {ps : List Str} {sp : Sp} (F : FnOk P w K mg base CX j f fd ps sp) (h : j ≤ k) :
    FnOk P w K mg base CX k f fd ps sp := ⟨F.len, fun A outer s H args us vs Q E hr => F.run A outer s H args us vs Q E (hr.mono h)⟩
theorem FnOk.imp {P : Program} {w : World} {K : PySem.W.Frag} {mg : Str → Option Value} {base : Heap} {CX : CXT} {k : Nat} {f : Addr} {fd : FuncData} {ps : List Str} {sp sp' : Sp} (F : FnOk P w K mg base CX k f fd ps sp)
    (h : ∀ vs H Q E, sp' vs H Q E → sp vs H Q E) : FnOk P w K mg base CX k f fd ps sp' :=
  ⟨fun vs H Q E q => F.len vs H Q E (h _ _ _ _ q), fun A outer s H args us vs Q E hr he hb hv hs => F.run A outer s H args us vs Q E hr he hb hv (h _ _ _ _ hs)⟩
theorem Env0.make {P : Program} {w : World} {K : PySem.W.Frag} {mg : Str → Option Value} {base : Heap} {A : Around} {outer : List Env} {s : Shared} {H : Hp} (e : Env0 P w K mg base A outer s H) (C : Addr) (us : List Value) (kw : List (Str × Value)) :
    Env0 P w K mg base (A.under (.builtin "type.__call__" ⟨.ref C :: us, kw⟩)) outer s H := ⟨by first | exact e.frames | (simpa [Around.under, Code.envs, Code.isFrame, pushEnvs] using e.frames), e.mod, e.bs, e.bsz, e.funs, e.frf, e.hok, e.bare⟩
theorem Env0.in1 {P : Program} {w : World} {K : PySem.W.Frag} {mg : Str → Option Value} {base : Heap} {A : Around} {outer : List Env} {s : Shared} {H : Hp} (e : Env0 P w K mg base A outer s H) :
    Env0 P w K mg base A.in1 outer s H := ⟨e.frames, e.mod, e.bs, e.bsz, e.funs, e.frf, e.hok, e.bare⟩
section
variable {X : Cx} {pins : List (Addr × Obj)} {σ : St} {H : Hp} {s s' : Shared}
theorem Inv.env0 (I : Inv X pins σ H s) : Env0 X.prog X.w X.K X.mg X.base X.A X.stack s H :=
  ⟨I.ok.frames, I.ok.mod, I.bs, Nat.le_trans I.ok.bsz I.sz, I.stack, I.stkFree, I.hok, I.bare⟩
theorem Inv.after {Q : VK} {u : Value} (I : Inv X pins σ H s) (h : CE X.stack X.prog X.w H s Q u s') : EP X pins σ Q u s' := by
  obtain ⟨v, H', os, bare, un, hok, r, q⟩ := h
  obtain ⟨hh, g, d, t, os'⟩ := s'
  obtain rfl : os' = s.os := os
  exact ⟨v, H', I.call (h' := hh) (g' := g) (d' := d) (t' := t) (ch := []) un hok bare (fun b z => absurd z (by simp)), r, q⟩
end
def tCall (sp : Sp) (dvs : List V) (E : XK) (t : TA) : TE := fun σ H Q => t σ H fun vs H1 => sp (vs ++ dvs) H1 Q E
def tMeth (C : Addr) (m : Str) (sp : Sp) (dvs : List V) (E : XK) (ta : TE) (t : TA) : TE := fun σ H Q => ta σ H fun x H1 => ∃ a dx fs, x = .ref a ∧ H1 a = some (.ins C dx fs) ∧ fs.lookup m = none ∧
  t σ H1 fun vs H2 => sp (x :: (vs ++ dvs)) H2 Q E
def tMake (C : Addr) (sp : Sp) (dvs : List V) (E : XK) (t : TA) : TE := fun σ H Q => t σ H fun vs H1 => ∀ x dx, H1 x = none → H1 dx = none → dx ≠ x →
  sp (.ref x :: (vs ++ dvs)) (upd (upd H1 dx (.own x)) x (.ins C dx [])) (fun v H2 => v = .non ∧ Q (.ref x) H2) E
def Binds (K : PySem.W.Frag) (fd : FuncData) (ps : List Str) (ds : List Value) : Prop :=
  ∀ (s : Shared) (us : List Value), K.In s.heap → (us ++ ds).length = ps.length → BindsTo s fd ⟨us, []⟩ (ps.zip (us ++ ds))
theorem Binds.all {K : PySem.W.Frag} {fd : FuncData} {ps : List Str} (h : ∀ us : List Value, us.length = ps.length → bindArgs fd ⟨us, []⟩ = pure (ps.zip us)) : Binds K fd ps [] := fun s us _ hl => by
  rw [List.append_nil] at hl ⊢
  exact .of_eq (h us hl)
def Passes (CX : CXT) (X : Cx) (E : XK) : Prop := ∀ (pins : List (Addr × Obj)) (σ : St) (H : Hp) (s : Shared) (e : Value) (s' : Shared), Inv X pins σ H s → CX X.stack H s E e s' → X.xe e s'
section
variable {X : Cx} {CX : CXT} {k : Nat} {f C : Addr} {fd : FuncData} {ps : List Str} {sp : Sp} {dvs : List V} {ds : List Value} {E : XK} {x m : Str} {p pos apos : Pos} {e o : Expr} {es : List Expr} {ta : TE} {t : TA}
theorem run_fn {pins : List (Addr × Obj)} {σ : St} {H : Hp} {s : Shared} {Q : VK} {us : List Value} {vs : List V} (F : FnOk X.prog X.w X.K X.mg X.base CX k f fd ps sp) (hr : Room k X.A) (hb : Binds X.K fd ps ds) (hd : Vals dvs ds) (hx : Passes CX X E)
    (I : Inv X pins σ H s) (r : Vals vs us) (h : sp (vs ++ dvs) H Q E) : wpAny (model X.prog X.w) X.A (call (.ref f) us) (EP X pins σ Q) X.xe s := by
  have r2 : Vals (vs ++ dvs) (us ++ ds) := r.append hd
  have hl : (us ++ ds).length = ps.length := by rw [← r2.length]; exact F.len _ _ _ _ h
  refine wpAny_call (codeAny_mono (F.run X.A X.stack s H ⟨us, []⟩ (us ++ ds) (vs ++ dvs) Q E hr I.env0 (hb s us I.kIn hl) r2 h) fun r s' hq => ?_)
  cases r with
  | error e => exact hx pins σ H s e s' I hq
  | ok fl =>
    cases fl with
    | ret u => exact I.after hq
    | next => exact False.elim hq
    | brk => exact False.elim hq
    | cont => exact False.elim hq
theorem pe_call (F : FnOk X.prog X.w X.K X.mg X.base CX k f fd ps sp) (hr : Room k X.A) (hg : Gl X x) (hm : X.mg x = some (.ref f)) (hk : PySem.W.keepIn X.K (.ref f) = true) (hb : Binds X.K fd ps ds) (hd : Vals dvs ds) (hx : Passes CX X E)
    (ha : PA X (e :: es) t) (hdb : (x == ("__debug__" : Str)) = false := by decide) (he : starEach (e :: es) X.env = (false, eval e X.env) :: starEach es X.env := by rfl) (hpl : (backTo pos (starEach es X.env)).any (·.1) = false := by rfl) :
    PE X (.Call (.Name x p) (e :: es) [] pos) (tCall sp dvs E t) := by
  unfold PE at *; unfold PA at *
  exact by
    intro pins s σ H Q I h
    refine wpAny_Call_Name_kw (ld_glob I hg hm ?_ hdb)
    refine PySem.W.callWith_K (h₀ := X.base) I.ok.mod.kin hk (thn (ha pos pins s σ H _ I h) fun us s1 ⟨vs, H1, I1, r, q⟩ => ⟨I1.kIn, ?_⟩) he hpl
    exact run_fn F hr hb hd hx I1 r q
theorem pe_meth {pl : Sem Bool} (he : PE X o ta) (c : Cls X.K C) (hm : Meth X.K C m f) (F : FnOk X.prog X.w X.K X.mg X.base CX k f fd ps sp) (hr : Room k X.A) (hb : Binds X.K fd ps ds) (hd : Vals dvs ds) (hx : Passes CX X E) (ha : PA X (e :: es) t)
    (hst : starEach (e :: es) X.env = (false, eval e X.env) :: starEach es X.env := by rfl) (hpl : (backTo pos (starEach es X.env)).any (·.1) = false := by rfl)
    (ht : eval (.Call (.Attribute o m apos) (e :: es) [] pos) X.env = (do
      let ov ← eval o X.env
      standAt apos.atName
      let (f, first) ← holding [ov] (getMethod ov m pl)
      callWith pos f first (backTo pos (starEach (e :: es) X.env)) (backToKw pos (keywordEach [] X.env))) := by rfl) :
    PE X (.Call (.Attribute o m apos) (e :: es) [] pos) (tMeth C m sp dvs E ta t) := by
  unfold PE at *; unfold PA at *
  exact by
    intro pins s σ H Q I h
    refine PySem.W.methodCall_KW (pl := pl) (thn (he pins s σ H _ I h) fun u s1 ⟨x, H1, I1, rx, a, dx, fs, ex, ea, l, q⟩ => ?_) ht
    subst ex
    obtain rfl : u = Value.ref a := rx
    refine getmeth_ok I1 ea c hm l ?_
    refine PySem.W.callWith_K (first := [.ref a]) (h₀ := X.base) I.ok.mod.kin hm.kp (thn (ha pos pins s1 σ H1 _ I1 q) fun us s2 ⟨vs, H2, I2, r, q2⟩ => ⟨I2.kIn, ?_⟩) hst hpl
    exact run_fn (us := .ref a :: us) (vs := .ref a :: vs) F hr hb hd hx I2 (.cons rfl r) q2
structure Mk (K : PySem.W.Frag) (C f : Addr) : Prop where
  makes : PySem.W.makesIn K C = true
  init : PySem.W.findIn K (.ref C) "__init__" = some (some (.ref f))
  fn : PySem.W.isFn K (.ref f) = true
  kp : PySem.W.keepIn K (.ref C) = true
theorem run_make {pins : List (Addr × Obj)} {σ : St} {H : Hp} {s : Shared} {Q : VK} {us : List Value} {vs : List V} (M : Mk X.K C f) (F : FnOk X.prog X.w X.K X.mg X.base CX k f fd ps sp) (hr : Room (k + 1) X.A) (hb : Binds X.K fd ps ds) (hd : Vals dvs ds)
    (hx : Passes CX X E) (I : Inv X pins σ H s) (r : Vals vs us)
    (h : ∀ x dx, H x = none → H dx = none → dx ≠ x → sp (.ref x :: (vs ++ dvs)) (upd (upd H dx (.own x)) x (.ins C dx [])) (fun v H2 => v = .non ∧ Q (.ref x) H2) E) :
    wpAny (model X.prog X.w) X.A (call (.ref C) us) (EP X pins σ Q) X.xe s := by
  have hq := h (s.heap.objs.size + 1) s.heap.objs.size (I.hok.fresh (Nat.le_succ _)) (I.hok.fresh (Nat.le_refl _)) (Nat.ne_of_lt (Nat.lt_succ_self _))
  have I2 := Inv.made (C := C) I
  have r2 : Vals (V.ref (s.heap.objs.size + 1) :: (vs ++ dvs)) (Value.ref (s.heap.objs.size + 1) :: (us ++ ds)) := .cons rfl (r.append hd)
  have hl : (Value.ref (s.heap.objs.size + 1) :: us ++ ds).length = ps.length := by
    have e := r2.length
    rw [F.len _ _ _ _ hq] at e
    exact e.symm
  refine wpAny_call (make_map (f := f) I.kIn M.makes M.init (beq_iff_eq.mp M.fn) (codeAny_mono (F.run _ X.stack _ _ ⟨Value.ref (s.heap.objs.size + 1) :: us, []⟩ (Value.ref (s.heap.objs.size + 1) :: (us ++ ds)) _ _ E (hr.make C us [])
    (I2.env0.make C us []) (hb _ (Value.ref (s.heap.objs.size + 1) :: us) I2.kIn hl) r2 hq) fun r s' hq' => ?_))
  cases r with
  | error e => exact hx pins σ _ _ e s' I2 hq'
  | ok fl =>
    cases fl with
    | ret u =>
      obtain ⟨v, H', I3, rv, ev, q3⟩ := I2.after hq'
      subst ev
      exact ⟨rv, ⟨V.ref (s.heap.objs.size + 1), H', I3, rfl, q3⟩⟩
    | next => exact False.elim hq'
    | brk => exact False.elim hq'
    | cont => exact False.elim hq'
theorem pe_make0 (M : Mk X.K C f) (F : FnOk X.prog X.w X.K X.mg X.base CX k f fd ps sp) (hr : Room (k + 1) X.A) (hg : Gl X x) (hm : X.mg x = some (.ref C)) (hb : Binds X.K fd ps ds) (hd : Vals dvs ds) (hx : Passes CX X E)
    (hdb : (x == ("__debug__" : Str)) = false := by decide) : PE X (.Call (.Name x p) [] [] pos) (tMake C sp dvs E tNil) := by
  unfold PE at *
  exact by
    intro pins s σ H Q I h
    refine wpAny_Call_Name_kw (ld_glob I hg hm ?_ hdb)
    exact PySem.W.callWith_K0 I.kIn M.kp (run_make (us := []) M F hr hb hd hx I .nil h)
end
@[irreducible] def PK (X : Cx) (kws : List Keyword) (t : TA) : Prop :=
  ∀ (pos : Pos) (pins : List (Addr × Obj)) (s : Shared) (σ : St) (H : Hp) (Q : List V → Hp → Prop), Inv X pins σ H s → t σ H Q → wpAny (model X.prog X.w) X.A (evalAll ((backToKw pos (keywordEach kws X.env)).map (·.2))) (AP X pins σ Q) X.xe s
section
variable {X : Cx} {CX : CXT} {k : Nat} {f C : Addr} {fd : FuncData} {ps ks : List Str} {sp : Sp} {E : XK} {x m : Str} {p pos apos kpos : Pos} {e o : Expr} {es : List Expr} {kws : List Keyword} {te ta : TE} {t tk : TA} {nm : Option Str}
theorem pk_nil : PK X [] tNil := by
  first
  | exact (fun _ _ _ _ H Q I h => wpAny_evalAll_nil ⟨[], H, I, .nil, h⟩)
  | (unfold PK at *; exact (fun _ _ _ _ H Q I h => wpAny_evalAll_nil ⟨[], H, I, .nil, h⟩))
variable {g : List Value → List Value → List Value} {gV : List V → List V → List V}
end
structure FnScope (N P : List Str) (sc : Scope) : Prop where
  kind : sc.kind = .function
  co : sc.isCoroutine = false
  gen : sc.isGenerator = false
  nd : N.Nodup
  pre : N.take P.length = P
  par : ∀ x ∈ P, sc.names.lookup x = some .local ∨ sc.names.lookup x = some .cell
  nofree : ∀ y ∈ sc.names, y.2 ≠ .free
theorem bindL_out {kindOf : Str → Option NameKind} {x : Str} : ∀ {binds : List (Str × Value)} {m : Str → Option Value}, (∀ v, (x, v) ∉ binds) → bindL kindOf binds m x = m x
  | [], _, _ => rfl
  | (n, v) :: r, m, h => by
    unfold bindL
    rw [bindL_out fun w hw => h w (List.mem_cons_of_mem _ hw)]
    split
    · have : x ≠ n := by rintro rfl; exact h v List.mem_cons_self
      simp [this]
    · rfl
theorem bindC_out {kindOf : Str → Option NameKind} {x : Str} : ∀ {binds : List (Str × Value)} {m : Str → Option Value}, (∀ v, (x, v) ∉ binds) → bindC kindOf binds m x = m x
  | [], _, _ => rfl
  | (n, v) :: r, m, h => by
    unfold bindC
    rw [bindC_out fun w hw => h w (List.mem_cons_of_mem _ hw)]
    split
    · rfl
    · have : x ≠ n := by rintro rfl; exact h v List.mem_cons_self
      simp [this]
theorem bindL_get {kindOf : Str → Option NameKind} {x : Str} {v : Value} : ∀ {P : List Str} {vs : List Value} {i : Nat} {m : Str → Option Value}, P.Nodup → P[i]? = some x → vs[i]? = some v → kindOf x = some .local →
    bindL kindOf (P.zip vs) m x = some v
  | [], _, _, _, _, h, _, _ => by simp at h
  | _ :: _, [], _, _, _, _, h, _ => by simp at h
  | p :: P, w :: vs, 0, m, nd, h1, h2, hk => by
    simp at h1 h2; subst h1; subst h2
    show bindL kindOf ((p, w) :: P.zip vs) m p = _
    unfold bindL
    rw [bindL_out fun v hv => (List.nodup_cons.mp nd).1 (List.of_mem_zip hv).1, if_pos hk]
    simp
  | p :: P, w :: vs, i + 1, m, nd, h1, h2, hk => by
    show bindL kindOf ((p, w) :: P.zip vs) m x = _
    unfold bindL
    exact bindL_get (i := i) (List.nodup_cons.mp nd).2 (by simpa using h1) (by simpa using h2) hk
theorem bindC_get {kindOf : Str → Option NameKind} {x : Str} {v : Value} : ∀ {P : List Str} {vs : List Value} {i : Nat} {m : Str → Option Value}, P.Nodup → P[i]? = some x → vs[i]? = some v → kindOf x ≠ some .local →
    bindC kindOf (P.zip vs) m x = some v
  | [], _, _, _, _, h, _, _ => by simp at h
  | _ :: _, [], _, _, _, _, h, _ => by simp at h
  | p :: P, w :: vs, 0, m, nd, h1, h2, hk => by
    simp at h1 h2; subst h1; subst h2
    show bindC kindOf ((p, w) :: P.zip vs) m p = _
    unfold bindC
    rw [bindC_out fun v hv => (List.nodup_cons.mp nd).1 (List.of_mem_zip hv).1, if_neg hk]
    simp
  | p :: P, w :: vs, i + 1, m, nd, h1, h2, hk => by
    show bindC kindOf ((p, w) :: P.zip vs) m x = _
    unfold bindC
    exact bindC_get (i := i) (List.nodup_cons.mp nd).2 (by simpa using h1) (by simpa using h2) hk
def start (N : List Str) (vs : List V) : St := vs.map some ++ List.replicate (N.length - vs.length) none
def cxOf (CX : CXT) (P : Program) (w : World) (K : PySem.W.Frag) (mg : Str → Option Value) (base : Heap) (N : List Str) (qual : Str) (scope : Scope) (f : Addr) (cd : Value) (A : Around) (outer : List Env) (s : Shared) (H : Hp) (E : XK) : Cx where
  prog := P
  w := w
  K := K
  mg := mg
  base := base
  A := A.deeper (envOfC qual scope s.heap.objs.size f cd)
  N := N
  s₀ := s
  H₀ := H
  env := envOfC qual scope s.heap.objs.size f cd
  outer := outer
  stack := envOfC qual scope s.heap.objs.size f cd :: outer
  ex := []
  calm := true
  fn := fun _ => true
  pn := []
  xe := fun e s' => wpAny (model P w) (A.deeper (envOfC qual scope s.heap.objs.size f cd)) (leaving (envOfC qual scope s.heap.objs.size f cd) e) (fun _ s'' => CX outer H s E e s'') (fun e' s'' => CX outer H s E e' s'') s'
theorem cell_has {sc : Scope} {n : Nat} {x : Str} (h : sc.names.lookup x = some .cell) : ∃ c, (cellsFrom n sc.names []).lookup x = some c := by
  have q := PySem.W.cellsFrom_some sc.names n [] (.inl h)
  exact Option.isSome_iff_exists.mp q
theorem inv_start {CX : CXT} {P : Program} {w : World} {K : PySem.W.Frag} {mg : Str → Option Value} {base : Heap} {N ps : List Str} {qual : Str} {scope : Scope} {f : Addr} {cd : Value} {A : Around} {outer : List Env} {s s1 : Shared} {H : Hp} {E : XK} {us : List Value} {vs : List V}
    (S : FnScope N ps scope) (hd : A.handled = none) (e0 : Env0 P w K mg base A outer s H) (hl : vs.length = ps.length) (r : Vals vs us)
    (x : InCallC s s.heap.objs.size (bindL (envOfC qual scope s.heap.objs.size f cd).kindOf (ps.zip us) fun _ => none) (cellsFrom (s.heap.objs.size + 1) scope.names []) (bindC (envOfC qual scope s.heap.objs.size f cd).kindOf (ps.zip us) fun _ => none) s1) :
    Inv (cxOf CX P w K mg base N qual scope f cd A outer s H E) [] (start N vs) H s1 := by
  have hpl : ps.length ≤ N.length := by have := congrArg List.length S.pre; rw [List.length_take] at this; omega
  obtain ⟨h1, tk, rfl, hk⟩ := x.done
  have noA : ∀ b : Addr, b ∉ (cxOf CX P w K mg base N qual scope f cd A outer s H E).ex := fun b z => absurd (show b ∈ ([] : List Addr) from z) (by simp)
  refine ⟨⟨e0.mod, S.kind, rfl, rfl, Nat.le_refl _, fun y z c h1 h2 => ?_, fun y hy => ?_, fun y c _ h => ?_, fun _ => hd, Around.frames_deeper e0.frames, .inr ⟨rfl, rfl⟩, fun b z => absurd z (noA b), e0.bs, e0.bsz, fun b _ _ => noA b, fun b z => absurd z (noA b), e0.funs, e0.frf⟩,
    rfl, e0.bare, Un.kept hk, ⟨_, x.toInCall.ns, fun i y v h1 h2 h3 => ?_⟩, fun y c h => ⟨_, x.cell y c h⟩, e0.hok.fresh (Nat.le_refl _), fun y c h => ?_, fun p hp => absurd (show p ∈ ([] : List (Addr × Obj)) from hp) (by simp), e0.hok.kept hk, ?_⟩
  · exact name_of_addr x.apart (PySem.mem_of_lookup h1) (PySem.mem_of_lookup h2)
  · have hy : scope.names.lookup y = some .cell ∨ scope.names.lookup y = some .free := hy
    rcases hy with hy | hy
    · exact cell_has hy
    · exact absurd rfl (S.nofree _ (PySem.mem_of_lookup hy))
  · exact Nat.le_of_lt (x.above y c (PySem.mem_of_lookup h))
  · have hi : i < vs.length := by
      unfold start at h2
      by_cases hi : i < vs.length
      · exact hi
      · rw [List.getElem?_append_right (by simpa using hi)] at h2
        rw [List.getElem?_replicate] at h2
        split at h2 <;> cases h2
    have ha : vs[i]? = some v := by
      unfold start at h2
      rw [List.getElem?_append_left (by simpa using hi), List.getElem?_map] at h2
      cases e : vs[i]? with
      | none => rw [e] at h2; cases h2
      | some a => rw [e] at h2; cases h2; rfl
    obtain ⟨u, hu, rv⟩ := r.get ha
    have hp : ps[i]? = some y := by
      rw [← S.pre, List.getElem?_take_of_lt (by omega)]; exact h1
    have ndP : ps.Nodup := by rw [← S.pre]; exact S.nd.sublist (List.take_sublist _ _)
    refine ⟨u, rv, ?_⟩
    rcases S.par y (List.mem_of_getElem? hp) with k | k
    · exact .inl ⟨k, bindL_get ndP hp hu k⟩
    · obtain ⟨c, e⟩ := cell_has (n := s.heap.objs.size + 1) k
      refine .inr ⟨.inl k, c, e, ?_⟩
      have q := x.cell y c e
      rw [bindC_get ndP hp hu (by show scope.names.lookup y ≠ _; rw [k]; decide)] at q
      exact q
  · exact e0.hok.fresh (Nat.le_of_lt (x.above y c (PySem.mem_of_lookup h)))
  · unfold start
    show _ = N.length
    rw [List.length_append, List.length_map, List.length_replicate]
    omega
theorem fn_of {CX : CXT} {P : Program} {w : World} {K : PySem.W.Frag} {mg : Str → Option Value} {base : Heap} {k : Nat} {f : Addr} {name qual : Str} {params : Arguments} {body : List Stmt} {scope : Scope} {dV kV doc pm cdv ct oc : Value} {an od : Option Addr}
    {osl : Array (Option Value)} {N ps : List Str} {sp : Sp} (lk : K.lookup f = some ⟨oc, od, .func (PySem.W.fnOf name qual params body scope dV kV doc pm an cdv ct), osl⟩) (hcd : PySem.W.codeIn K cdv qual = true) (S : FnScope N ps scope)
    (len : ∀ vs H Q E, sp vs H Q E → vs.length = ps.length)
    (hbody : ∀ (A : Around) (outer : List Env) (s : Shared) (H : Hp) (vs : List V) (Q : VK) (E : XK), Room k (A.deeper (envOfC qual scope s.heap.objs.size f cdv)) → sp vs H Q E →
      ∃ t, PSs (cxOf CX P w K mg base N qual scope f cdv A outer s H E) body t ∧ t { nx := fun _ H' => Q .non H', rt := Q } (start N vs) H) :
    FnOk P w K mg base CX (k + 1) f (PySem.W.fnOf name qual params body scope dV kV doc pm an cdv ct) ps sp := by
  unfold PSs at *
  exact by
    refine ⟨len, fun A outer s H args us vs Q E hr e0 hb r hsp => ?_⟩
    have hl := len _ _ _ _ hsp
    have KX : K.In s.heap := e0.mod.kin.keeps fun b o e => (e0.bs b o e).1
    have lim : s.heap.NoLimit := e0.mod.nolimit.keeps fun b o e => (e0.bs b o e).1
    have hkind : ∀ y ∈ ps.zip us, scope.names.lookup y.1 = some .local ∨ (scope.names.lookup y.1 = some .cell ∧ ((cellsFrom (s.heap.objs.size + 1) scope.names []).lookup y.1).isSome = true) := fun ⟨n, v⟩ hy => by
      rcases S.par n (List.of_mem_zip hy).1 with q | q
      · exact .inl q
      · exact .inr ⟨q, PySem.W.cellsFrom_some _ _ _ (.inl q)⟩
    refine codeAny_call_function hr.depth (KX _ _ lk) rfl S.co S.gen rfl (PySem.W.codeRec_of KX hcd) (hb _ _ _ _ ?_)
    refine wpAny_newFunctionEnv_cells S.kind hkind fun env he s1 x => ?_
    subst he
    refine ⟨lim.keeps x.toInCall.keep, codeAny_func ?_⟩
    obtain ⟨t, ht, hq⟩ := hbody A outer s H vs Q E (hr.deeper _) hsp
    have I : Inv (cxOf CX P w K mg base N qual scope f cdv A outer s H E) [] (start N vs) H s1 := inv_start S hr.hd e0 hl r x
    refine wpAny_mono (ht [] s1 (start N vs) H _ I hq) (fun fl s' hs => ?_) fun e s' hs => hs
    have fin : ∀ {σ' : St} {H' : Hp} {v : V} {u : Value}, Inv (cxOf CX P w K mg base N qual scope f cdv A outer s H E) [] σ' H' s' → RelV v u → Q v H' → CE outer P w H s Q u s' :=
      fun {σ' H' v u} J rv q => ⟨v, H', J.os, J.bare, J.base, J.hok, rv, q⟩
    cases fl with
    | ret u =>
      obtain ⟨v, σ', H', J, rv, q⟩ := hs
      exact fin J rv q
    | next =>
      obtain ⟨σ', H', J, q⟩ := hs
      exact fin (v := V.non) (u := Value.none) J rfl q
    | brk =>
      obtain ⟨_, _, _, q⟩ := hs
      exact False.elim q
    | cont =>
      obtain ⟨_, _, _, q⟩ := hs
      exact False.elim q
end L2
namespace L2
open PySem PySem.Spec PyProof.Rows
section
variable {X : Cx} {x : Str} {p pos : Pos} {e : Expr} {es : List Expr} {t : TA} {id T : String} {r : List V → Hp → VK → Prop}
def tCB (r : List V → Hp → VK → Prop) (t : TA) : TE := fun σ H Q => t σ H fun vs H1 => r vs H1 Q
theorem pe_callB (hc : CallR X (.builtin id) r) (hg : Gl X x) (hm : X.mg x = none) (hv : bootBuiltins x = some (.builtin id)) (ha : PA X (e :: es) t) (hn : x ≠ "__name__" := by decide) (hdb : (x == ("__debug__" : Str)) = false := by decide)
    (he : starEach (e :: es) X.env = (false, eval e X.env) :: starEach es X.env := by rfl) (hpl : (backTo pos (starEach es X.env)).any (·.1) = false := by rfl) : PE X (.Call (.Name x p) (e :: es) [] pos) (tCB r t) := by
  unfold PE at *; unfold PA at *; unfold CallR at *
  exact by
    intro pins s σ H Q I h
    refine wpAny_Call_Name_kw (ld_blt I hg hm hv ?_ hn hdb)
    exact PyProof.Rows.callWith_builtin1 (thn (ha pos pins s σ H _ I h) fun us s1 ⟨vs, H1, I1, r1, q1⟩ => hc pins s1 σ H1 vs us Q I1 r1 q1) he hpl
theorem pe_callTy (hc : CallR X (.type T) r) (hg : Gl X x) (hm : X.mg x = none) (hv : bootBuiltins x = some (.type T)) (ha : PA X (e :: es) t) (hn : x ≠ "__name__" := by decide) (hdb : (x == ("__debug__" : Str)) = false := by decide)
    (he : starEach (e :: es) X.env = (false, eval e X.env) :: starEach es X.env := by rfl) (hpl : (backTo pos (starEach es X.env)).any (·.1) = false := by rfl) : PE X (.Call (.Name x p) (e :: es) [] pos) (tCB r t) := by
  unfold PE at *; unfold PA at *; unfold CallR at *
  exact by
    intro pins s σ H Q I h
    refine wpAny_Call_Name_kw (ld_blt I hg hm hv ?_ hn hdb)
    exact PyProof.Rows.callWith_type1 (thn (ha pos pins s σ H _ I h) fun us s1 ⟨vs, H1, I1, r1, q1⟩ => hc pins s1 σ H1 vs us Q I1 r1 q1) he hpl
end
end L2
namespace HT
open PySem PyProof.Rows
def lexLt : List Int → List Int → Bool
  | [], [] => false
  | [], _ :: _ => true
  | _ :: _, [] => false
  | x :: xs, y :: ys => if x = y then lexLt xs ys else decide (x < y)
theorem lexLt_cons (x y : Int) (xs ys : List Int) : lexLt (x :: xs) (y :: ys) = if x = y then lexLt xs ys else decide (x < y) := rfl
theorem lexLt_nil_nil : lexLt [] [] = false := rfl
theorem lexLt_nil_cons (y : Int) (ys : List Int) : lexLt [] (y :: ys) = true := rfl
theorem lexLt_cons_nil (x : Int) (xs : List Int) : lexLt (x :: xs) [] = false := rfl
theorem eqAt_int (A : Around) (s : Shared) (a : Int) (t : Tok) (c : Int) (u : Tok) : ∃ e, SeqAt.EqAt A s (.int a t) (.int c u) e ∧ (e = true ↔ a = c) :=
  ⟨(a == c), SeqAt.EqAt.int_int a t c u, by simp⟩
theorem rcLt_int (A : Around) (s : Shared) (a : Int) (t : Tok) (c : Int) (u : Tok) (prog : Program) (w : World) (E : Value → Shared → Prop) (Q : Value → Shared → Prop) (h : Q (.bool (decide (a < c))) s) :
    wpAny (model prog w) A (richCompare .Lt (.int a t) (.int c u)) Q E s :=
  (PyProof.Rows.lt_int h : wpAny (model prog w) A (compareOp .Lt (.int a t) (.int c u)) Q E s)
section
open PySem.SeqAt
open PySem.AutoSeq1 (wpAny_loadPart')
open PySem.MeetsSeq PySem.MeetsSeq2 PySem.MeetsSeq3
theorem tuple_lt_ints (l b : Addr) (items items2 : Array Value) (n n2 : Nat) (dd dd2 : Option Addr) (sl sl2 : Array (Option Value)) (ns ms : List Int) (hi : IntsAre items.toList ns) (hj : IntsAre items2.toList ms) :
    Meets (Builtin.«tuple.__lt__» ⟨[.ref l, .ref b], []⟩)
      (fun _ R s => s.heap.get? l = some { cls := .type "tuple", dict := dd, data := .seq items n, slots := sl } ∧ s.heap.get? b = some { cls := .type "tuple", dict := dd2, data := .seq items2 n2, slots := sl2 } ∧
        R (.ok (.ret (.bool (lexLt ns ms)))) s) :=
  .of_wp fun prog w A R s h => by
    obtain ⟨hp, g, d, tk, os⟩ := s; obtain ⟨hl, hb, h⟩ := h
    have f2 := AutoSeq1.sub_tuple_tuple
    have z1 : items.size = ns.length := by rw [← hi.length]; simp
    have z2 : items2.size = ms.length := by rw [← hj.length]; simp
    wp_walk using wpAny_loadPart' hl, wpAny_loadPart' hb, wpAny_forIn_list _ (fun rest b s' => b.1 = none ∧ s' = ⟨hp, g, d, tk, os⟩ ∧ ∃ (vs ws : List Value) (ns' ms' : List Int), rest = vs.zip ws ∧
      IntsAre vs ns' ∧ IntsAre ws ms' ∧ ns'.length + items2.size = ms'.length + items.size ∧ R (.ok (.ret (.bool (lexLt ns' ms')))) ⟨hp, g, d, tk, os⟩) _
    case turn =>
      rintro ⟨y, x⟩ rest b s' ⟨hb', rfl, vs, ws, ns', ms', hz, hvi, hwi, hlen, hR⟩
      cases hvi with
      | nil => rw [List.zip_nil_left] at hz; cases hz
      | cons a t hvi' =>
        cases hwi with
        | nil => rw [List.zip_nil_right] at hz; cases hz
        | cons c u hwi' =>
          rw [List.zip_cons_cons] at hz
          injection hz with hyx hrest
          injection hyx with hy hx
          subst hy hx
          rw [lexLt_cons] at hR
          simp only [List.length_cons] at hlen
          obtain ⟨e, he, hiff⟩ := eqAt_int A.in1 ⟨hp, g, d, tk, os⟩ a t c u
          refine wpAny_bind (he prog w _ _ ?_)
          cases e with
          | true =>
            rw [if_pos (hiff.mp rfl)] at hR
            wp_walk
            exact ⟨rfl, rfl, _, _, _, _, hrest, hvi', hwi', by omega, hR⟩
          | false =>
            rw [if_neg (fun q => absurd (hiff.mpr q) Bool.false_ne_true)] at hR
            have hri := rcLt_int A.in1 ⟨hp, g, d, tk, os⟩ a t c u prog w
            wp_walk using hri
            exact ⟨_, rfl, by simpa using hR⟩
    case fin =>
      rintro ⟨b1, b2⟩ s' ⟨hb', rfl, vs, ws, ns', ms', hz, hvi, hwi, hlen, hR⟩
      simp only at hb'
      subst hb'
      have hv : lexLt ns' ms' = decide (items.size < items2.size) := by
        cases hvi with
        | nil =>
          cases hwi with
          | nil =>
            simp only [List.length_nil] at hlen
            rw [lexLt_nil_nil]
            exact (decide_eq_false (by omega)).symm
          | cons c u hw =>
            simp only [List.length_nil, List.length_cons] at hlen
            rw [lexLt_nil_cons]
            exact (decide_eq_true (by omega)).symm
        | cons a t hv =>
          cases hwi with
          | nil =>
            simp only [List.length_nil, List.length_cons] at hlen
            rw [lexLt_cons_nil]
            exact (decide_eq_false (by omega)).symm
          | cons c u hw =>
            rw [List.zip_cons_cons] at hz
            cases hz
      rw [hv] at hR
      wp_walk
      exact ⟨_, rfl, by simpa [Builtin.Tuple.tupleCompareSizes] using hR⟩
    case h =>
      exact ⟨rfl, rfl, items.toList, items2.toList, ns, ms, rfl, hi, hj, by omega, h⟩
end
section
variable {prog : Program} {w : World} {A : Around} {E : Value → Shared → Prop} {s : Shared}
theorem lt_tupInts {l b : Addr} {items items2 : Array Value} {ns ms : List Int} {Q : Value → Shared → Prop} (hl : IsTup s.heap l items) (hb : IsTup s.heap b items2) (hi : IntsAre items.toList ns) (hj : IntsAre items2.toList ms)
    (hu : A.units < cLine) (h : Q (.bool (lexLt ns ms)) s) : wpAny (model prog w) A (compareOp .Lt (.ref l) (.ref b)) Q E s := by
  obtain ⟨⟨cls, dd, data, sl⟩, ho, hc, n, hd⟩ := id hl
  obtain ⟨⟨cls2, dd2, data2, sl2⟩, ho2, hc2, n2, hd2⟩ := id hb
  simp only at hc hd hc2 hd2
  subst hc hd hc2 hd2
  exact richCompare_meets_room (op := .Lt) ⟨_, ho, rfl⟩ ⟨_, ho2, rfl⟩ PySem.F.slot_tuple_lt PySem.F.entry_tuple_lt (PySem.F.args_tuple_lt_2 _ _) (tuple_lt_ints l b items items2 n n2 dd dd2 sl sl2 ns ms hi hj)
    ⟨ho, ho2, show Value.bool (lexLt ns ms) ≠ Value.notImplemented ∧ Q (.bool (lexLt ns ms)) s from ⟨(fun x => nomatch x), h⟩⟩ hu
theorem cat_tup {t b : Addr} {vs ws : List Value} {Q : Value → Shared → Prop} (ht : IsTup s.heap t vs.toArray) (hb : IsTup s.heap b ws.toArray) (hv : vs ≠ [])
    (h1 : ws = [] → Q (.ref t) s) (h2 : ws ≠ [] → Q (.ref s.heap.objs.size) { s with heap := s.heap.push { cls := .type "tuple", data := .seq (vs ++ ws).toArray } })
    (hsz : vs.length + ws.length ≤ sizeLine) : wpAny (model prog w) A (binaryOp .Add (.ref t) (.ref b)) Q E s := by
  obtain ⟨⟨cls, dd, data, sl⟩, ho, hc, n, hd⟩ := id ht
  obtain ⟨⟨cls2, dd2, data2, sl2⟩, ho2, hc2, n2, hd2⟩ := id hb
  simp only at hc hd hc2 hd2
  subst hc hd hc2 hd2
  have e : vs.toArray ++ ws.toArray = (vs ++ ws).toArray := by simp
  by_cases hw : ws = []
  · exact concat_meets ⟨_, ho, rfl⟩ ⟨_, ho2, rfl⟩ noFill_tuple_add seq_tuple_add PySem.F.slot_tuple_add PySem.F.entry_tuple_add (PySem.F.args_tuple_add_2 _ _)
      (tuple_addW1 t b vs.toArray ws.toArray n n2 dd dd2 sl sl2 (by simpa using hv) (by simp [hw])) ⟨ho, ho2, h1 hw⟩
  · refine concat_meets ⟨_, ho, rfl⟩ ⟨_, ho2, rfl⟩ noFill_tuple_add seq_tuple_add PySem.F.slot_tuple_add PySem.F.entry_tuple_add (PySem.F.args_tuple_add_2 _ _)
      (tuple_addW2 t b vs.toArray ws.toArray n n2 dd dd2 sl sl2 (by simpa using hv) (by simpa using hw) (by rw [List.size_toArray, List.size_toArray]; exact hsz)) ⟨ho, ho2, ?_⟩
    rw [e]
    exact h2 hw
def sIx (n d : Nat) : Option Int → Nat
  | none => d
  | some v => if v < 0 then (v + (n : Int)).toNat else min v.toNat n
theorem sIx_le (n d : Nat) (hd : d ≤ n) (o : Option Int) : sIx n d o ≤ n := by
  cases o with
  | none => exact hd
  | some v =>
    show (if v < 0 then (v + (n : Int)).toNat else min v.toNat n) ≤ n
    by_cases hv : v < 0
    · rw [if_pos hv]; omega
    · rw [if_neg hv]; exact Nat.min_le_right _ _
theorem clip_eq (v : Int) (n d : Nat) : (if v < 0 then max (v + (n : Int)) 0 else min v (n : Int)) = ((sIx n d (some v) : Nat) : Int) := by
  show (if v < 0 then max (v + (n : Int)) 0 else min v (n : Int)) = (((if v < 0 then (v + (n : Int)).toNat else min v.toNat n) : Nat) : Int)
  by_cases hv : v < 0
  · simp only [if_pos hv]; omega
  · simp only [if_neg hv]; omega
theorem adjust_gen (lo hi : Option Int) (n : Nat) : Builtin.Slice.sliceAdjust lo hi 1 (n : Int) = (((sIx n 0 lo : Nat) : Int), ((sIx n n hi : Nat) : Int)) := by
  have h1 : ¬ ((1 : Int) < 0) := by omega
  unfold Builtin.Slice.sliceAdjust
  simp only [h1, if_false]
  refine Prod.ext ?_ ?_
  · cases lo with
    | none => rfl
    | some v => exact clip_eq v n 0
  · cases hi with
    | none => rfl
    | some v => exact clip_eq v n n
theorem places_gen (i j : Nat) : Builtin.Slice.slicePlaces (i : Int) (j : Int) 1 = j - i := by
  unfold Builtin.Slice.slicePlaces
  have h1 : (1 : Int) > 0 := by omega
  simp only [h1, if_true, Int.ediv_one]
  split <;> omega
theorem slicePart_ {v : Value} {o : Option Int} {Q : Option Int → Shared → Prop} (p : IsPart v o) (h : Q o s) : wpAny (model prog w) A (Builtin.Slice.slicePartIndex v) Q E s := by
  cases p with
  | none => exact slicePart_none h
  | int i t => exact slicePart_int h
theorem sliceApplied_gen {sl : Addr} {vl vu : Value} {lo hi : Option Int} {n : Nat} {Q : Int × Int × Nat → Shared → Prop} (hs : s.heap.IsSliceOf sl vl vu .none) (pl : IsPart vl lo) (pu : IsPart vu hi)
    (h : Q (((sIx n 0 lo : Nat) : Int), 1, sIx n n hi - sIx n 0 lo) s) : wpAny (model prog w) A (Builtin.Slice.sliceApplied (.ref sl) (pure (n : Int))) Q E s := by
  obtain ⟨os, hos, hcs, hds⟩ := id hs
  unfold Builtin.Slice.sliceApplied Builtin.Slice.sliceFields
  refine wpAny_bind (wpAny_bind (wpAny_field hos hds (x := vl) rfl (wpAny_bind (wpAny_field hos hds (x := vu) rfl (wpAny_bind (wpAny_field hos hds (x := .none) rfl (wpAny_pure ?_)))))))
  refine wpAny_bind (slicePart_none ?_)
  show wpAny _ _ (if ((1 : Int) == 0) = true then _ else _) _ _ s
  rw [if_neg (by decide)]
  refine wpAny_bind (slicePart_ pl (wpAny_bind (slicePart_ pu (wpAny_bind (wpAny_pure ?_)))))
  show wpAny _ _ (match Builtin.Slice.sliceAdjust lo hi 1 (n : Int) with | (lo, hi) => pure (lo, (1 : Int), Builtin.Slice.slicePlaces lo hi 1)) _ _ s
  rw [adjust_gen lo hi n]
  show wpAny _ _ (pure (((sIx n 0 lo : Nat) : Int), (1 : Int), Builtin.Slice.slicePlaces ((sIx n 0 lo : Nat) : Int) ((sIx n n hi : Nat) : Int) 1)) _ _ s
  rw [places_gen]
  exact wpAny_pure h
theorem pick_gen (xs : Array Value) (i k : Nat) : ((List.range k).filterMap fun (m : Nat) => xs[((i : Int) + (m : Int) * 1).toNat]?).toArray = ((xs.toList.drop i).take k).toArray := by
  have e : (fun (m : Nat) => xs[((i : Int) + (m : Int) * 1).toNat]?) = fun m => xs[i + m]? := by
    funext m
    have : ((i : Int) + (m : Int) * 1).toNat = i + m := by omega
    rw [this]
  rw [e]
  have := pick_run xs i k
  rw [List.filterMap_map] at this
  have e2 : ((fun x => xs[x]?) ∘ fun x => i + x) = fun m => xs[i + m]? := rfl
  rw [e2] at this
  rw [this]
theorem getItem_tuple_cut {t sl : Addr} {items : Array Value} {vl vu : Value} {lo hi : Option Int} {Q : Value → Shared → Prop} (ht : IsTup s.heap t items) (hs : s.heap.IsSliceOf sl vl vu .none) (pl : IsPart vl lo) (pu : IsPart vu hi)
    (hw : ¬ (sIx items.size 0 lo = 0 ∧ sIx items.size items.size hi = items.size))
    (h : Q (.ref s.heap.objs.size) { s with heap := s.heap.push { cls := .type "tuple", data := .seq ((items.toList.drop (sIx items.size 0 lo)).take (sIx items.size items.size hi - sIx items.size 0 lo)).toArray } })
    (hsz : items.size ≤ sizeLine) : wpAny (model prog w) A (getItem (.ref t) (.ref sl)) Q E s := by
  have htake : sizeOk (.seq ((items.toList.drop (sIx items.size 0 lo)).take (sIx items.size items.size hi - sIx items.size 0 lo)).toArray) := by
    show ((items.toList.drop (sIx items.size 0 lo)).take (sIx items.size items.size hi - sIx items.size 0 lo)).toArray.size ≤ sizeLine
    rw [List.size_toArray, List.length_take, List.length_drop, Array.length_toList]
    omega
  have hj : sIx items.size items.size hi ≤ items.size := sIx_le _ _ (Nat.le_refl _) hi
  obtain ⟨os, hos, hcs, hds⟩ := id hs
  have hTs : s.TypeIs (.ref sl) "slice" := ⟨os, hos, hcs⟩
  unfold getItem
  try with_reducible refine wpAny_holding ?_
  first | refine wpAny_bind (wpAny_pure ?_) | skip
  refine wpAny_bind (wpAny_sequenceKey ht.typeIs (by decide) ?_)
  refine wpAny_bind (wpAny_callSpecial?_slot (name := Str.ofString "__getitem__") ht.typeIs PyProof.Rows.slot_tuple_getitem
    (wpAny_call_entry PyProof.Rows.slot_tuple_getitem ht.typeIs entry_tuple_getitem ?_ (args_tuple_getitem _ _)))
  show wpAny _ _ (Builtin.Tuple.tupleItemsOf (.ref t) >>= _) _ _ s
  refine wpAny_bind (tupleItemsOf_ ht ?_)
  refine wpAny_bind (wpAny_typeOf hTs ?_)
  rw [if_pos (by decide)]
  refine wpAny_bind (sliceApplied_gen hs pl pu ?_)
  have hno : ¬ ((((sIx items.size 0 lo : Nat) : Int) == 0 && (1 : Int) == 1 && (sIx items.size items.size hi - sIx items.size 0 lo) == items.size) = true) := by
    intro q
    rw [Bool.and_eq_true, Bool.and_eq_true] at q
    have q1 : ((sIx items.size 0 lo : Nat) : Int) = 0 := eq_of_beq q.1.1
    have q2 : sIx items.size items.size hi - sIx items.size 0 lo = items.size := eq_of_beq q.2
    exact hw ⟨by omega, by omega⟩
  show wpAny _ _ (if (((sIx items.size 0 lo : Nat) : Int) == 0 && (1 : Int) == 1 && (sIx items.size items.size hi - sIx items.size 0 lo) == items.size) = true then _ else _) _ _ s
  rw [if_neg hno, pick_gen]
  first
    | exact wpAny_bind (m := Builtin.Tuple.tupleExact _) (wpAny_newObj_type (wpAny_pure ⟨_, rfl, wpAny_pure h⟩) htake)
    | exact wpAny_bind (m := Builtin.Tuple.tupleExact _) (wpAny_newObj_type (wpAny_bind (wpAny_pure (wpAny_pure ⟨_, rfl, wpAny_pure h⟩))) htake)
    | exact wpAny_bind (wpAny_bind (m := Builtin.Tuple.tupleExact _) (wpAny_newObj_type (wpAny_pure (wpAny_pure ⟨_, rfl, wpAny_pure h⟩)) htake))
    | exact wpAny_bind (wpAny_bind (m := Builtin.Tuple.tupleExact _) (wpAny_newObj_type (wpAny_pure ⟨_, rfl, wpAny_pure h⟩) htake))
end
end HT
namespace L2
open PySem PySem.Spec PyProof.Rows
abbrev TO := St → Hp → (Option Int → Hp → Prop) → Prop
@[irreducible] def PO (X : Cx) (e : Option Expr) (t : TO) : Prop :=
  ∀ (pins : List (Addr × Obj)) (s : Shared) (σ : St) (H : Hp) (Q : Option Int → Hp → Prop), Inv X pins σ H s → t σ H Q →
    wpAny (model X.prog X.w) X.A (evalPart e X.env) (fun u s' => ∃ o H', Inv X pins σ H' s' ∧ IsPart u o ∧ Q o H') X.xe s
def tNoPart : TO := fun _ H Q => Q none H
def tPart (t : TE) : TO := fun σ H Q => t σ H fun x H1 => ∃ i, x = .int i ∧ Q (some i) H1
theorem intsAre_of {ns : List Int} : ∀ {us : List Value}, Vals (ns.map V.int) us → IntsAre us ns := by
  induction ns with
  | nil => intro us r; rw [List.map_nil] at r; cases r; exact .nil
  | cons n ns ih =>
    intro us r
    rw [List.map_cons] at r
    cases r with
    | cons r1 r2 =>
      obtain ⟨t, e⟩ := r1
      subst e
      exact .cons n t (ih r2)
section
variable {X : Cx} {e : Expr} {te : TE} {lo hi : Option Expr} {tl th : TO} {pos p2 : Pos}
theorem po_none : PO X none tNoPart := by
  unfold PO at *
  exact by
    intro pins s σ H Q I h
    rw [evalPart_none]
    exact wpAny_pure ⟨none, H, I, .none, h⟩
theorem po_some (h : PE X e te) : PO X (some e) (tPart te) := by
  unfold PE at *; unfold PO at *
  exact by
    intro pins s σ H Q I hw
    rw [evalPart_some]
    refine thn (h pins s σ H _ I hw) fun u s1 ⟨x, H1, I1, r1, q1⟩ => ?_
    obtain ⟨i, rfl, q⟩ := q1
    obtain ⟨t, rfl⟩ := r1
    exact ⟨some i, H1, I1, .int i t, q⟩
@[irreducible] def SlR (X : Cx) (r : V → Option Int → Option Int → Hp → VK → Prop) : Prop :=
  ∀ (pins : List (Addr × Obj)) (s : Shared) (σ : St) (H : Hp) (x : V) (v vl vu : Value) (lo hi : Option Int) (sl : Addr) (Q : VK), Inv X pins σ H s → RelV x v → s.heap.IsSliceOf sl vl vu .none → IsPart vl lo → IsPart vu hi → r x lo hi H Q →
    ∃ T id, typeLookup (.type T) "__getitem__" = pure (some (.builtin id)) ∧ s.TypeIs v T ∧ wpAny (model X.prog X.w) X.A (getItem v (.ref sl)) (EP X pins σ Q) X.xe s
theorem SlR.or {r r' : V → Option Int → Option Int → Hp → VK → Prop} (h : SlR X r) (h' : SlR X r') : SlR X (fun x lo hi H Q => r x lo hi H Q ∨ r' x lo hi H Q) := by
  unfold SlR at *
  exact by
    intro pins s σ H x v vl vu lo hi sl Q I rx hs pl pu q
    rcases q with q | q
    · exact h pins s σ H x v vl vu lo hi sl Q I rx hs pl pu q
    · exact h' pins s σ H x v vl vu lo hi sl Q I rx hs pl pu q
def tSl (r : V → Option Int → Option Int → Hp → VK → Prop) (te : TE) (tl th : TO) : TE := fun σ H Q => te σ H fun x H1 => tl σ H1 fun l H2 => th σ H2 fun u H3 => r x l u H3 Q
theorem pe_slice {r : V → Option Int → Option Int → Hp → VK → Prop} (hr : SlR X r) (he : PE X e te) (hl : PO X lo tl) (hu : PO X hi th) : PE X (.Subscript e (.Slice lo hi none p2) pos) (tSl r te tl th) := by
  unfold PE at *; unfold PO at *; unfold SlR at *
  exact by
    intro pins s σ H Q I h
    refine Subscript_ (thn (he pins s σ H _ I h) fun v s1 ⟨x, H1, I1, r1, q1⟩ => ?_)
    refine wpAny_Slice (thn (hl pins s1 σ H1 _ I1 q1) fun vl s2 ⟨l, H2, I2, pl, q2⟩ => thn (hu pins s2 σ H2 _ I2 q2) fun vu s3 ⟨u, H3, I3, pu, q3⟩ => ?_)
    rw [evalPart_none]
    refine wpAny_pure ?_
    have I4 : Inv X pins σ H3 { s3 with heap := s3.heap.push { cls := .type "slice", data := .fields #[vl, vu, .none] } } := I3.kept (t' := s3.toks) fun b ob q => Heap.get?_push_of_some _ q
    obtain ⟨T, id, hT, ht, hg⟩ := hr pins { s3 with heap := s3.heap.push { cls := .type "slice", data := .fields #[vl, vu, .none] } } σ H3 x v vl vu l u s3.heap.objs.size Q I4 r1 (Heap.IsSliceOf.new ..) pl pu q3
    show wpAny (model X.prog X.w) X.A (subscriptTail e (.Slice lo hi none p2) v (.ref s3.heap.objs.size)) (EP X pins σ Q) X.xe { s3 with heap := s3.heap.push { cls := .type "slice", data := .fields #[vl, vu, .none] } }
    exact tail_any (ops := [.ref s3.heap.objs.size, v]) ht hT hg (by with_unfolding_all rfl)
def cutV (xs : List V) (lo hi : Option Int) : List V := (xs.drop (HT.sIx xs.length 0 lo)).take (HT.sIx xs.length xs.length hi - HT.sIx xs.length 0 lo)
theorem cutV_length (xs : List V) (lo hi : Option Int) : (cutV xs lo hi).length ≤ xs.length := by
  unfold cutV
  rw [List.length_take, List.length_drop]
  omega
def rSlT (K : PySem.W.Frag) : V → Option Int → Option Int → Hp → VK → Prop := fun x lo hi H Q => ∃ a xs, x = .ref a ∧ SqT K H a xs ∧
  ¬ (HT.sIx xs.length 0 lo = 0 ∧ HT.sIx xs.length xs.length hi = xs.length) ∧ ∀ p, H p = none → Q (.ref p) (upd H p (.tup (cutV xs lo hi)))
theorem sl_tup : SlR X (rSlT X.K) := by
  unfold SlR at *
  exact by
    intro pins s σ H x v vl vu lo hi sl Q I rx hs pl pu h
    obtain ⟨a, xs, rfl, hx, hw, q⟩ := h
    cases rx
    obtain ⟨its, r, ht, hz⟩ := I.tuple hx
    have hlen : its.toArray.size = xs.length := by rw [List.size_toArray]; exact r.length.symm
    refine ⟨"tuple", _, PyProof.Rows.slot_tuple_getitem.lookup, ht.typeIs, ?_⟩
    refine HT.getItem_tuple_cut ht hs pl pu (by rw [hlen]; exact hw) ?_ (by rw [hlen]; exact hz)
    rw [hlen]
    refine ⟨.ref s.heap.objs.size, _, I.laid (t' := s.toks) (o := .tup (cutV xs lo hi)) (fun b ob q => Heap.get?_push_of_some _ q) (Nat.le_refl _) ?_, rfl, q _ (I.hok.fresh (Nat.le_refl _))⟩
    exact ⟨Nat.le_trans (cutV_length xs lo hi) hz, _, (r.drop (HT.sIx xs.length 0 lo)).take (HT.sIx xs.length xs.length hi - HT.sIx xs.length 0 lo), IsTup.new _ _⟩
def rLtT (K : PySem.W.Frag) : R2 := fun x y H Q => ∃ a b ns ms, x = .ref a ∧ y = .ref b ∧ SqT K H a (ns.map V.int) ∧ SqT K H b (ms.map V.int) ∧ Q (.bl (HT.lexLt ns ms)) H
theorem op_ltT (hu : X.A.units < cLine) : OpR X (compareOp .Lt) (rLtT X.K) := by
  unfold OpR at *
  exact by
    intro pins s σ H x y v u Q I rx ry h
    obtain ⟨a, b, ns, ms, rfl, rfl, ha, hb, q⟩ := h
    cases rx
    cases ry
    obtain ⟨its, r1, p1, _⟩ := I.tuple ha
    obtain ⟨its2, r2, p2, _⟩ := I.tuple hb
    have i1 : IntsAre its.toArray.toList ns := intsAre_of r1
    have i2 : IntsAre its2.toArray.toList ms := intsAre_of r2
    exact HT.lt_tupInts p1 p2 i1 i2 hu ⟨.bl (HT.lexLt ns ms), H, I, rfl, q⟩
def rCatT (K : PySem.W.Frag) : R2 := fun x y H Q => ∃ a b xs ys, x = .ref a ∧ y = .ref b ∧ SqT K H a xs ∧ SqT K H b ys ∧ xs ≠ [] ∧ xs.length + ys.length ≤ sizeLine ∧
  (ys = [] → Q (.ref a) H) ∧ (ys ≠ [] → ∀ p, H p = none → Q (.ref p) (upd H p (.tup (xs ++ ys))))
theorem Vals.nil_iff {xs : List V} {us : List Value} (r : Vals xs us) : us = [] ↔ xs = [] := by
  cases r with
  | nil => simp
  | cons _ _ => simp
theorem op_catT : OpR X (binaryOp .Add) (rCatT X.K) := by
  unfold OpR at *
  exact by
    intro pins s σ H x y v u Q I rx ry h
    obtain ⟨a, b, xs, ys, rfl, rfl, ha, hb, hx, hz, q1, q2⟩ := h
    cases rx
    cases ry
    obtain ⟨its, r1, p1, _⟩ := I.tuple ha
    obtain ⟨its2, r2, p2, _⟩ := I.tuple hb
    refine HT.cat_tup p1 p2 (fun z => hx (r1.nil_iff.mp z)) (fun z => ⟨.ref a, H, I, rfl, q1 (r2.nil_iff.mp z)⟩) (fun z => ?_) (by rw [← r1.length, ← r2.length]; exact hz)
    refine ⟨.ref s.heap.objs.size, _, I.laid (t' := s.toks) (o := .tup (xs ++ ys)) (fun b ob q => Heap.get?_push_of_some _ q) (Nat.le_refl _) ?_, rfl, q2 (fun w => z (r2.nil_iff.mpr w)) _ (I.hok.fresh (Nat.le_refl _))⟩
    exact ⟨by rw [List.length_append]; exact hz, _, r1.append r2, IsTup.new _ _⟩
end
end L2
namespace L2
open PySem PySem.Spec PyProof.Rows
def ixN (n : Nat) (i : Int) : Option Nat := if 0 ≤ i then (if i < n then some i.toNat else none) else if -(n : Int) ≤ i then some (i + n).toNat else none
def atI {α : Type} (xs : List α) (i : Int) : Option α := (ixN xs.length i).bind fun j => xs[j]?
theorem ixN_seq {n : Nat} {i : Int} {j : Nat} (h : ixN n i = some j) : seqIndex? i n = some j ∧ j < n ∧ -(n : Int) ≤ i ∧ i < n := by
  unfold ixN at h
  by_cases h0 : 0 ≤ i
  · rw [if_pos h0] at h
    by_cases h1 : i < n
    · rw [if_pos h1] at h
      have e : i.toNat = j := Option.some.inj h
      exact ⟨by rw [seqIndex_of h0 h1, e], by omega, by omega, h1⟩
    · rw [if_neg h1] at h; cases h
  · rw [if_neg h0] at h
    by_cases h1 : -(n : Int) ≤ i
    · rw [if_pos h1] at h
      have e : (i + n).toNat = j := Option.some.inj h
      exact ⟨by rw [seqIndex_neg (by omega) h1, e], by omega, h1, by omega⟩
    · rw [if_neg h1] at h; cases h
theorem atI_get {α : Type} {xs : List α} {i : Int} {v : α} (h : atI xs i = some v) : ∃ j, seqIndex? i xs.length = some j ∧ xs[j]? = some v ∧ j < xs.length ∧ -(xs.length : Int) ≤ i ∧ i < xs.length := by
  unfold atI at h
  cases e : ixN xs.length i with
  | none => rw [e] at h; cases h
  | some j =>
    rw [e] at h
    obtain ⟨h1, h2, h3, h4⟩ := ixN_seq e
    exact ⟨j, h1, h, h2, h3, h4⟩
theorem atI_nat {α : Type} {xs : List α} {j : Nat} {v : α} (h : xs[j]? = some v) : atI xs (j : Int) = some v := by
  have hj : j < xs.length := (List.getElem?_eq_some_iff.mp h).1
  have e : ixN xs.length (j : Int) = some j := by
    unfold ixN
    rw [if_pos (by omega), if_pos (by omega)]; simp
  unfold atI; rw [e]; exact h
theorem atI_last {α : Type} (xs : List α) (v : α) : atI (xs ++ [v]) (-1) = some v := by
  have hl : (xs ++ [v]).length = xs.length + 1 := by simp
  have e : ixN (xs ++ [v]).length (-1) = some xs.length := by
    unfold ixN
    rw [hl, if_neg (by decide), if_pos (by omega)]
    congr 1
    omega
  unfold atI
  rw [e]
  show (xs ++ [v])[xs.length]? = some v
  simp
def PlainIx (b : Expr) : Prop := ∀ o i, subscripted b false o i = operate [o, i] (getItem o i)
@[irreducible] def IxR (X : Cx) (r : R2) : Prop :=
  ∀ (value slice : Expr) (pins : List (Addr × Obj)) (s : Shared) (σ : St) (H : Hp) (x y : V) (v u : Value) (Q : VK), Inv X pins σ H s → RelV x v → RelV y u → r x y H Q →
    subscripted slice false v u = operate [v, u] (getItem v u) → wpAny (model X.prog X.w) X.A (subscriptTail value slice v u) (EP X pins σ Q) X.xe s
@[irreducible] def MtR (X : Cx) (id : String) (r : V → List V → Hp → VK → Prop) : Prop :=
  ∀ (pins : List (Addr × Obj)) (s : Shared) (σ : St) (H : Hp) (x : V) (xs : List V) (v : Value) (us : List Value) (Q : VK), Inv X pins σ H s → RelV x v → Vals xs us → r x xs H Q →
    wpAny (model X.prog X.w) X.A (call (.builtin id) (v :: us)) (EP X pins σ Q) X.xe s
section
variable {X : Cx} {a b : Expr} {ta tb : TE} {pos : Pos}
theorem IxR.or {r r' : R2} (h : IxR X r) (h' : IxR X r') : IxR X (fun x y H Q => r x y H Q ∨ r' x y H Q) := by
  unfold IxR at *
  exact by
    intro value slice pins s σ H x y v u Q I rx ry q hs
    rcases q with q | q
    · exact h value slice pins s σ H x y v u Q I rx ry q hs
    · exact h' value slice pins s σ H x y v u Q I rx ry q hs
theorem MtR.or {id : String} {r r' : V → List V → Hp → VK → Prop} (h : MtR X id r) (h' : MtR X id r') : MtR X id (fun x xs H Q => r x xs H Q ∨ r' x xs H Q) := by
  unfold MtR at *
  exact by
    intro pins s σ H x xs v us Q I rx rs q
    rcases q with q | q
    · exact h pins s σ H x xs v us Q I rx rs q
    · exact h' pins s σ H x xs v us Q I rx rs q
theorem pe_ix {r : R2} (hr : IxR X r) (ha : PE X a ta) (hb : PE X b tb) (hs : PlainIx b) : PE X (.Subscript a b pos) (tOp r ta tb) := by
  unfold PE; unfold IxR at hr
  exact by
    intro pins s σ H Q I h
    exact Subscript_ (binT ha hb I h fun v u s2 x y H2 I2 rx ry q => hr a b pins s2 σ H2 x y v u Q I2 rx ry q (hs _ _))
def rIxL (K : PySem.W.Frag) : R2 := fun x y H Q => ∃ p xs i v, x = .ref p ∧ y = .int i ∧ SqL K H p xs ∧ atI xs i = some v ∧ Q v H
def rIxT (K : PySem.W.Frag) : R2 := fun x y H Q => ∃ p xs i v, x = .ref p ∧ y = .int i ∧ SqT K H p xs ∧ atI xs i = some v ∧ Q v H
def rIxS : R2 := fun x y H Q => ∃ z i c, x = .str z ∧ y = .int i ∧ z.length ≤ sizeLine ∧ atI z.cps.toList i = some c ∧ Q (.str ⟨#[c]⟩) H
theorem ix_list : IxR X (rIxL X.K) := by
  unfold IxR at *
  exact by
    intro value slice pins s σ H x y v u Q I rx ry h hs
    obtain ⟨p, xs, i, z, rfl, rfl, hq, he, q⟩ := h
    cases rx
    obtain ⟨t, rfl⟩ := ry
    obtain ⟨its, r, pl, hz⟩ := I.list hq
    obtain ⟨j, h1, h2, h3, h4, h5⟩ := atI_get he
    obtain ⟨w, ew, rw'⟩ := r.get h2
    have hl := r.length
    have hn := line63
    have fin : EP X pins σ Q w s := ⟨z, H, I, rw', q⟩
    by_cases h0 : 0 ≤ i
    · have hj : i.toNat = j := by
        rw [seqIndex_of h0 h5] at h1
        exact Option.some.inj h1
      exact item_listR pl.isList h0 (by omega) (by rw [hj]; simpa using ew) fin hs
    · have hj : (i + (its.toArray.size : Int)).toNat = j := by
        rw [seqIndex_neg (by omega) h4] at h1
        rw [List.size_toArray, ← hl]
        exact Option.some.inj h1
      exact subscriptTail_builtinR (x := w) pl.isList.typeIs slot_list_getitem.lookup
        (wpAny_getItem_list_neg (Q := fun r s' => r = w ∧ EP X pins σ Q r s') pl.isList (by omega) (by rw [List.size_toArray] <;> omega) (by omega) (by rw [hj]; simpa using ew) ⟨rfl, fin⟩) hs
theorem ix_tup : IxR X (rIxT X.K) := by
  unfold IxR at *
  exact by
    intro value slice pins s σ H x y v u Q I rx ry h hs
    obtain ⟨p, xs, i, z, rfl, rfl, hq, he, q⟩ := h
    cases rx
    obtain ⟨t, rfl⟩ := ry
    obtain ⟨its, r, pl, hz⟩ := I.tuple hq
    obtain ⟨j, h1, h2, h3, h4, h5⟩ := atI_get he
    obtain ⟨w, ew, rw'⟩ := r.get h2
    have hl := r.length
    have hn := line63
    have fin : EP X pins σ Q w s := ⟨z, H, I, rw', q⟩
    exact subscriptTail_builtinR (x := w) pl.typeIs slot_tuple_getitem.lookup
      (getItem_tuple (j := j) (Q := fun r s' => r = w ∧ EP X pins σ Q r s') pl (by omega) (by omega) (by rw [List.size_toArray, ← hl]; exact h1) (by simpa using ew) ⟨rfl, fin⟩) hs
theorem ix_str : IxR X rIxS := by
  unfold IxR at *
  exact by
    intro value slice pins s σ H x y v u Q I rx ry h hs
    obtain ⟨z, i, c, rfl, rfl, hz, he, q⟩ := h
    obtain ⟨t, rfl⟩ := rx
    obtain ⟨t', rfl⟩ := ry
    obtain ⟨j, h1, h2, h3, h4, h5⟩ := atI_get he
    have hl : z.cps.toList.length = z.length := by simp [Str.length]
    rw [hl] at h1 h4 h5
    have hn := line63
    exact tail_any (typeIs_str s z t) slot_str_getitem.lookup (getItem_str (c := c) (by
      have e1 : decide (i < -(2 ^ 63 : Int)) = false := decide_eq_false (by omega)
      have e2 : decide (i ≥ 2 ^ 63) = false := decide_eq_false (by omega)
      rw [e1, e2, Bool.or_false]) (by rw [h1]; simpa using h2) ⟨.str ⟨#[c]⟩, H, I.tok _, ⟨_, rfl⟩, q⟩) hs
theorem Inv.lst {pins : List (Addr × Obj)} {σ : St} {H : Hp} {s : Shared} {p : Addr} {xs : List V} (I : Inv X pins σ H s) (h : H p = some (.lst xs)) :
    ∃ (its : List Value) (n : Nat), Vals xs its ∧ s.heap.get? p = some { cls := .type "list", data := .seq its.toArray n } ∧ xs.length ≤ sizeLine := by
  obtain ⟨z, its, n, r, e⟩ := I.hok p _ h
  exact ⟨its, n, r, e, z⟩
def flatV : V → Bool
  | .non => true
  | .bl _ => true
  | .int _ => true
  | .str _ => true
  | _ => false
def eqV : V → V → Bool
  | .non, .non => true
  | .bl a, .bl b => a == b
  | .bl a, .int b => (if a then 1 else 0) == b
  | .int a, .bl b => a == (if b then 1 else 0)
  | .int a, .int b => a == b
  | .str a, .str b => a == b
  | _, _ => false
theorem eqAt_V {A : Around} {s : Shared} {y x : V} {u v : Value} (ry : RelV y u) (rx : RelV x v) (fy : flatV y = true) (fx : flatV x = true) : SeqAt.EqAt A s u v (eqV y x) := by
  cases y with
  | non =>
    cases ry
    cases x with
    | non => cases rx; exact SeqAt.EqAt.same _
    | bl b => cases rx; exact SeqAt.EqAt.none_bool b
    | int b => obtain ⟨t, rfl⟩ := rx; exact SeqAt.EqAt.none_int b t
    | str b => obtain ⟨t, rfl⟩ := rx; exact SeqAt.EqAt.none_str b t
    | _ => exact absurd (show false = true from fx) Bool.false_ne_true
  | bl a =>
    cases ry
    cases x with
    | non => cases rx; exact SeqAt.EqAt.bool_none a
    | bl b => cases rx; exact SeqAt.EqAt.bool_bool a b
    | int b => obtain ⟨t, rfl⟩ := rx; exact SeqAt.EqAt.bool_int a b t
    | str b => obtain ⟨t, rfl⟩ := rx; exact SeqAt.EqAt.bool_str a b t
    | _ => exact absurd (show false = true from fx) Bool.false_ne_true
  | int a =>
    obtain ⟨t', rfl⟩ := ry
    cases x with
    | non => cases rx; exact SeqAt.EqAt.int_none a t'
    | bl b => cases rx; exact SeqAt.EqAt.int_bool a t' b
    | int b => obtain ⟨t, rfl⟩ := rx; exact SeqAt.EqAt.int_int a t' b t
    | str b => obtain ⟨t, rfl⟩ := rx; exact SeqAt.EqAt.int_str a t' b t
    | _ => exact absurd (show false = true from fx) Bool.false_ne_true
  | str a =>
    obtain ⟨t', rfl⟩ := ry
    cases x with
    | non => cases rx; exact SeqAt.EqAt.str_none a t'
    | bl b => cases rx; exact SeqAt.EqAt.str_bool a t' b
    | int b => obtain ⟨t, rfl⟩ := rx; exact SeqAt.EqAt.str_int a t' b t
    | str b => obtain ⟨t, rfl⟩ := rx; exact SeqAt.EqAt.str_str a t' b t
    | _ => exact absurd (show false = true from fx) Bool.false_ne_true
  | _ => exact absurd (show false = true from fy) Bool.false_ne_true
def eqU (x : V) (u : Value) : Bool := match u with
  | .none => eqV .non x
  | .bool b => eqV (.bl b) x
  | .int i _ => eqV (.int i) x
  | .str z _ => eqV (.str z) x
  | _ => false
theorem eqU_of {x y : V} {u : Value} (r : RelV y u) (f : flatV y = true) : eqU x u = eqV y x := by
  cases y with
  | non => cases r; rfl
  | bl b => cases r; rfl
  | int i => obtain ⟨t, rfl⟩ := r; rfl
  | str z => obtain ⟨t, rfl⟩ := r; rfl
  | _ => exact absurd (show false = true from f) Bool.false_ne_true
theorem any_eqU {x : V} : ∀ {xs : List V} {us : List Value}, Vals xs us → xs.all flatV = true → us.any (eqU x) = xs.any fun y => eqV y x
  | _, _, .nil, _ => rfl
  | y :: xs, u :: us, .cons r t, f => by
    rw [List.all_cons, Bool.and_eq_true] at f
    rw [List.any_cons, List.any_cons, eqU_of r f.1, any_eqU t f.2]
theorem mem_eqAt {A : Around} {s : Shared} {x : V} {v : Value} (rx : RelV x v) (fx : flatV x = true) : ∀ {xs : List V} {us : List Value}, Vals xs us → xs.all flatV = true → ∀ u ∈ us, SeqAt.EqAt A s u v (eqU x u)
  | _, _, .nil, _ => fun u hu => by cases hu
  | y :: xs, u :: us, .cons r t, f => fun u' hu => by
    rw [List.all_cons, Bool.and_eq_true] at f
    rcases List.mem_cons.mp hu with rfl | hu
    · rw [eqU_of r f.1]; exact eqAt_V r rx f.1 fx
    · exact mem_eqAt rx fx t f.2 u' hu
def inV (x : V) (xs : List V) : Bool := xs.any fun y => eqV y x
def rIn (K : PySem.W.Frag) (neg : Bool) : R2 := fun x y H Q => ∃ p xs, y = .ref p ∧ (SqL K H p xs ∨ SqT K H p xs) ∧ flatV x = true ∧ xs.all flatV = true ∧ Q (.bl (if neg then !inV x xs else inV x xs)) H
theorem op_in_seq : OpR X (compareOp .In) (rIn X.K false) := by
  unfold OpR at *
  exact by
    intro pins s σ H x y v u Q I rx ry h
    obtain ⟨p, xs, rfl, hq, fx, fs, q⟩ := h
    cases ry
    rcases hq with hq | hq
    · obtain ⟨its, r, pl, hz⟩ := I.list hq
      refine SeqAt.in_listAt (eqU x) pl.isList (fun w hw => mem_eqAt rx fx r fs w (by simpa using hw)) ⟨.bl _, H, I, rfl, ?_⟩
      rw [show its.toArray.any (eqU x) = its.any (eqU x) by simp, any_eqU r fs]
      exact q
    · obtain ⟨its, r, pl, hz⟩ := I.tuple hq
      refine SeqAt.in_tupleAt (eqU x) pl (fun w hw => mem_eqAt rx fx r fs w (by simpa using hw)) ⟨.bl _, H, I, rfl, ?_⟩
      rw [show its.toArray.any (eqU x) = its.any (eqU x) by simp, any_eqU r fs]
      exact q
theorem call_len_seq : CallR X (.builtin "len") (fun xs H Q => ∃ p ys, xs = [.ref p] ∧ (SqL X.K H p ys ∨ SqT X.K H p ys) ∧ Q (.int ys.length) H) := by
  unfold CallR at *
  exact by
    intro pins s σ H xs us Q I r h
    obtain ⟨p, ys, rfl, hq, q⟩ := h
    obtain ⟨u, rfl, rx⟩ := vals1 r
    cases rx
    have hn := line63
    rcases hq with hq | hq
    · obtain ⟨its, r', pl, hz⟩ := I.list hq
      have hlen := r'.length
      exact Calls.call_len_list pl.isList (by simp only [List.size_toArray] <;> omega) ⟨.int ys.length, H, I.tok _, ⟨s.toks + 1, by rw [List.size_toArray, hlen]⟩, q⟩
    · obtain ⟨its, r', pl, hz⟩ := I.tuple hq
      have hlen := r'.length
      exact len_tuple pl (by simp only [List.size_toArray] <;> omega) ⟨.int ys.length, H, I.tok _, ⟨s.toks + 1, by rw [List.size_toArray, hlen]⟩, q⟩
theorem call_len_str : CallR X (.builtin "len") (fun xs H Q => ∃ z, xs = [.str z] ∧ z.length ≤ sizeLine ∧ Q (.int z.length) H) := by
  unfold CallR at *
  exact by
    intro pins s σ H xs us Q I r h
    obtain ⟨z, rfl, hz, q⟩ := h
    obtain ⟨u, rfl, t, rfl⟩ := vals1 r
    have hn := line63
    exact len_str (by omega) ⟨.int z.length, H, I.tok _, ⟨_, rfl⟩, q⟩
theorem CallR.or {f : Value} {r r' : List V → Hp → VK → Prop} (h : CallR X f r) (h' : CallR X f r') : CallR X f (fun xs H Q => r xs H Q ∨ r' xs H Q) := by
  unfold CallR at *
  exact by
    intro pins s σ H xs us Q I rs q
    rcases q with q | q
    · exact h pins s σ H xs us Q I rs q
    · exact h' pins s σ H xs us Q I rs q
theorem call_list_of : CallR X (.type "list") (fun xs H Q => ∃ p ys, xs = [.ref p] ∧ (SqL X.K H p ys ∨ SqT X.K H p ys) ∧ ∀ l, H l = none → Q (.ref l) (upd H l (.lst ys))) := by
  unfold CallR at *
  exact by
    intro pins s σ H xs us Q I r h
    obtain ⟨p, ys, rfl, hq, q⟩ := h
    obtain ⟨u, rfl, rx⟩ := vals1 r
    cases rx
    have fin : ∀ (its : List Value), Vals ys its → ys.length ≤ sizeLine → ∀ (h' : Heap) (c' : Nat), (∀ b o', s.heap.get? b = some o' → h'.get? b = some o') →
        h'.get? s.heap.objs.size = some { cls := .type "list", dict := none, data := .seq its.toArray c', slots := #[] } → EP X pins σ Q (.ref s.heap.objs.size) { s with heap := h' } := fun its r' hz h' c' kp e =>
      ⟨.ref s.heap.objs.size, _, I.laid (t' := s.toks) kp (Nat.le_refl _) (show ObjOk X.prog X.w _ h' _ (.lst ys) from ⟨hz, its, c', r', e⟩), rfl, q _ (I.hok.fresh (Nat.le_refl _))⟩
    rcases hq with hq | hq
    · obtain ⟨its, r', pl, hz⟩ := I.list hq
      have hlen := r'.length
      obtain ⟨o, ho, hc, n, hd⟩ := pl.isList
      exact call_list_seq p (.inl rfl) ho hc hd (fun h' c' kp e => fin its r' hz h' c' kp e) (by simp only [List.size_toArray] <;> omega)
    · obtain ⟨its, r', pl, hz⟩ := I.tuple hq
      have hlen := r'.length
      obtain ⟨o, ho, hc, n, hd⟩ := pl
      exact call_list_seq p (.inr rfl) ho hc hd (fun h' c' kp e => fin its r' hz h' c' kp e) (by simp only [List.size_toArray] <;> omega)
def tyV (K : PySem.W.Frag) (T : String) (x : V) (H : Hp) : Prop := match x with
  | .str _ => T = "str"
  | .int _ => T = "int"
  | .ref p => (T = "list" ∧ ∃ xs, SqL K H p xs) ∨ (T = "tuple" ∧ ∃ o, K.lookup p = some o ∧ o.cls = .type "tuple" ∧ o.dict = none) ∨
      (T = "dict" ∧ ((∃ kvs, H p = some (.dK kvs)) ∨ ∃ kvs, H p = some (.dT kvs))) ∨ (T = "set" ∧ ∃ S n, H p = some (.set S n))
  | _ => False
theorem tyV_is {pins : List (Addr × Obj)} {σ : St} {H : Hp} {s : Shared} {T : String} {x : V} {v : Value} (I : Inv X pins σ H s) (r : RelV x v) (ty : tyV X.K T x H) :
    s.TypeIs v T ∧ ∀ a, v = .ref a → ∃ ob, s.heap.get? a = some ob ∧ ob.dict = none := by
  cases x with
  | str z =>
    obtain ⟨t, rfl⟩ := r
    cases (show T = "str" from ty)
    exact ⟨typeIs_str s z t, fun _ e => nomatch e⟩
  | int i =>
    obtain ⟨t, rfl⟩ := r
    cases (show T = "int" from ty)
    exact ⟨typeIs_int s i t, fun _ e => nomatch e⟩
  | ref p =>
    cases r
    rcases ty with ⟨rfl, xs, hq⟩ | ⟨rfl, o, hk, hc, hd⟩ | ⟨rfl, hk⟩ | ⟨rfl, S, n, hk⟩
    · obtain ⟨its, _, pl, _⟩ := I.list hq
      refine ⟨pl.isList.typeIs, fun a e => ?_⟩
      cases e
      obtain ⟨o, n, e, c, hd, _⟩ := pl
      exact ⟨o, e, hd⟩
    · refine ⟨⟨o, I.kIn p o hk, hc⟩, fun a e => ?_⟩
      cases e
      exact ⟨o, I.kIn _ o hk, hd⟩
    · have z : ∃ o, s.heap.get? p = some o ∧ o.ExactDict := by
        rcases hk with ⟨kvs, hk⟩ | ⟨kvs, hk⟩
        · obtain ⟨_, _, _, _, o, _, _, e, ex, _⟩ := I.hok p _ hk
          exact ⟨o, e, ex⟩
        · obtain ⟨_, _, _, _, o, _, _, e, ex, _⟩ := I.hok p _ hk
          exact ⟨o, e, ex⟩
      obtain ⟨o, e, ex⟩ := z
      refine ⟨⟨o, e, ex.1⟩, fun a e2 => ?_⟩
      cases e2
      exact ⟨o, e, ex.2.1⟩
    · obtain ⟨o, _, _, _, e, ex, _⟩ := I.hok p _ hk
      refine ⟨⟨o, e, ex.1⟩, fun a e2 => ?_⟩
      cases e2
      exact ⟨o, e, ex.2.1⟩
  | _ => exact False.elim ty
def tBM (K : PySem.W.Frag) (T : String) (r : V → List V → Hp → VK → Prop) (to : TE) (t : TA) : TE := fun σ H Q => to σ H fun x H1 => tyV K T x H1 ∧ t σ H1 fun xs H2 => r x xs H2 Q
variable {o e : Expr} {es : List Expr} {to : TE} {t : TA} {name : Str} {apos cpos : Pos} {T id : String} {r : V → List V → Hp → VK → Prop}
theorem pe_bm (pa : PlainAttrs T) (slot : Slot T name id) (hty : typeOf (.builtin id) = pure (.type "method_descriptor")) (hm : MtR X id r) (ho : PE X o to) (ha : PA X (e :: es) t)
    (hbase : attributeBase o name X.env (eval o X.env) = eval o X.env := by rfl)
    (hfew : ((backTo cpos (starEach (e :: es) X.env)).all (fun x => !x.1) && (backToKw cpos (keywordEach [] X.env)).all (fun x => x.1.isSome)
      && decide ((e :: es).length + ([] : List Keyword).length + (if ([] : List Keyword).isEmpty then 0 else 1) < 30)) = true := by rfl)
    (hline : (apos.endLine == cpos.line) = true := by rfl) (hs : starEach (e :: es) X.env = (false, eval e X.env) :: starEach es X.env := by rfl) (hplain : (backTo cpos (starEach es X.env)).any (·.1) = false := by rfl) :
    PE X (.Call (.Attribute o name apos) (e :: es) [] cpos) (tBM X.K T r to t) := by
  unfold PE at *; unfold PA at *; unfold MtR at *
  exact by
    intro pins s σ H Q I h
    refine wpAny_Call_method_late hbase hfew hline rfl (thn (ho pins s σ H _ I h) fun v s1 ⟨x, H1, I1, r1, ty, q1⟩ => ?_)
    obtain ⟨h1, h2⟩ := tyV_is I1 r1 ty
    refine ⟨T, id, pa, slot, hty, h1, h2, ?_⟩
    have hA := ha cpos pins s1 σ H1 _ I1 q1
    rw [hs] at hA ⊢
    refine Calls.callWith_builtin (by show (false || (backTo cpos (starEach es X.env)).any (·.1)) = false; rw [hplain] <;> rfl) (Calls.evalArgs_plain ?_)
    exact thn hA fun us s2 ⟨vs, H2, I2, r2, q2⟩ => hm pins s2 σ H2 x vs v us Q I2 r1 r2 q2
/- xs.append(e), list.index on a module's tuple .. are MtR facts of 06m -/
end
end L2
namespace L2
open PySem PySem.Spec PyProof.Rows
@[irreducible] def MtM (X : Cx) (id : String) (r : V → List V → Hp → VK → Prop) : Prop :=
  ∀ (pins : List (Addr × Obj)) (s : Shared) (σ : St) (H : Hp) (x : V) (xs : List V) (v : Value) (us : List Value) (Q : VK), Inv X pins σ H s → RelV x v → Vals xs us → r x xs H Q →
    wpAny (model X.prog X.w) X.A (call (.builtin id) (v :: us)) (EP X pins σ Q) X.xe s
theorem Vals.one : ∀ {x : V} {us : List Value}, Vals [x] us → ∃ u, us = [u] ∧ RelV x u
  | _, _, .cons r .nil => ⟨_, rfl, r⟩
theorem Vals.two : ∀ {x y : V} {us : List Value}, Vals [x, y] us → ∃ u v, us = [u, v] ∧ RelV x u ∧ RelV y v
  | _, _, _, .cons r (.cons q .nil) => ⟨_, _, rfl, r, q⟩
theorem Vals.dropLast {xs : List V} {us : List Value} (h : Vals xs us) : Vals xs.dropLast us.dropLast := by
  induction h with
  | nil => exact .nil
  | cons r t ih =>
    cases t with
    | nil => exact .nil
    | cons q t' => exact .cons r ih
theorem Vals.reverse {xs : List V} {us : List Value} (h : Vals xs us) : Vals xs.reverse us.reverse := by
  induction h with
  | nil => exact .nil
  | cons r t ih => rw [List.reverse_cons, List.reverse_cons]; exact Vals.append ih (.cons r .nil)
section
variable {X : Cx} {pins : List (Addr × Obj)} {σ : St} {H : Hp} {s : Shared} {l b : Addr} {xs ys zs : List V}
theorem Inv.lset {its its' : List Value} {n : Nat} {f : Array Value → Array Value} {t' : Nat} (I : Inv X pins σ H s) (hH : H l = some (.lst xs))
    (e : s.heap.get? l = some { cls := .type "list", data := .seq its.toArray n }) (hf : f its.toArray = its'.toArray) (hv : Vals ys its') (hz : ys.length ≤ sizeLine) :
    Inv X pins σ (upd H l (.lst ys)) { s with heap := s.heap.update l (Obj.mapSeq f), toks := t' } := by
  have q := PySem.IsL.update e f
  rw [hf] at q
  refine I.write (x := l) (e := l) (by rw [hH]; exact trivial) (.inl rfl) (fun b' u hb hu => (Heap.get?_update_other s.heap (Obj.mapSeq f) (Ne.symm hb)).trans hu) ⟨_, q⟩ ?_
  exact ⟨hz, its', _, hv, q⟩
theorem Inv.lnew {its : List Value} {t' : Nat} (I : Inv X pins σ H s) (hv : Vals ys its) (hz : ys.length ≤ sizeLine) :
    Inv X pins σ (upd H s.heap.objs.size (.lst ys)) { s with heap := s.heap.push { cls := .type "list", data := .seq its.toArray }, toks := t' } :=
  I.laid (fun _ _ q => Heap.get?_push_of_some _ q) (Nat.le_refl _) ⟨hz, its, 0, hv, Heap.get?_push_size _ rfl⟩
theorem Inv.fresh (I : Inv X pins σ H s) : H s.heap.objs.size = none := I.hok.fresh (Nat.le_refl _)
theorem Inv.lstM (I : Inv X pins σ H s) (hH : H l = some (.lst xs)) : xs.length ≤ sizeLine ∧ ∃ (its : List Value) (n : Nat), Vals xs its ∧ xs.length = its.length ∧ s.heap.get? l = some { cls := .type "list", data := .seq its.toArray n } := by
  obtain ⟨z, its, n, r, e⟩ := I.hok l _ hH
  exact ⟨z, its, n, r, r.length, e⟩
end
section
variable {X : Cx}
def rAppend : V → List V → Hp → VK → Prop := fun x vs H Q => ∃ l xs y, x = .ref l ∧ vs = [y] ∧ H l = some (.lst xs) ∧ xs.length < sizeLine ∧ Q .non (upd H l (.lst (xs ++ [y])))
theorem mt_append : MtM X "list.append" rAppend := by
  unfold MtM at *
  exact by
    intro pins s σ H x vs v us Q I rx rv h
    obtain ⟨l, xs, y, rfl, rfl, hH, hz, q⟩ := h
    cases rx
    obtain ⟨u, rfl, ru⟩ := rv.one
    obtain ⟨z, its, n, r, hl, e⟩ := I.lstM hH
    refine call_meets F.slot_list_append ⟨_, e, rfl⟩ F.entry_list_append (F.args_list_append_2 _ _) (PySem.list_append l its.toArray n u (by rw [List.size_toArray]; omega)) ⟨e, ?_⟩
    refine ⟨.non, _, I.lset (its' := its ++ [u]) hH e (by simp) (r.append (.cons ru .nil)) ?_, rfl, q⟩
    rw [List.length_append, List.length_singleton]
    omega
end
section
variable {prog : Program} {w : World} {A : Around} {E : Value → Shared → Prop} {s : Shared}
set_option maxRecDepth 100000 in
end
section
variable {X : Cx}
end
end L2
namespace L2
open PySem PySem.Spec PyProof.Rows
section
variable {κ : Type} [DecidableEq κ]
def valV (kvs : List (κ × V)) (k : κ) : Option V := (kvs.find? fun kv => decide (kv.1 = k)).map (·.2)
def putK (kvs : List (κ × V)) (k : κ) (v : V) : List (κ × V) :=
  if (kvs.any fun kv => decide (kv.1 = k)) = true then kvs.map (fun kv => if kv.1 = k then (kv.1, v) else kv) else kvs ++ [(k, v)]
def dropK (kvs : List (κ × V)) (k : κ) : List (κ × V) := kvs.filter fun kv => decide (kv.1 ≠ k)
theorem valV_pos {p : κ × V} {r : List (κ × V)} {k : κ} (e : p.1 = k) : valV (p :: r) k = some p.2 := by simp [valV, List.find?_cons, e]
theorem valV_neg {p : κ × V} {r : List (κ × V)} {k : κ} (e : ¬ p.1 = k) : valV (p :: r) k = valV r k := by simp [valV, List.find?_cons, e]
theorem valV_any (k : κ) : ∀ kvs : List (κ × V), (kvs.any fun kv => decide (kv.1 = k)) = (valV kvs k).isSome
  | [] => rfl
  | p :: r => by
    rw [List.any_cons]
    by_cases e : p.1 = k
    · simp only [valV_pos e, decide_eq_true e, Bool.true_or, Option.isSome_some]
    · rw [valV_neg e, decide_eq_false e, Bool.false_or]; exact valV_any k r
theorem valV_map (k j : κ) (y : V) : ∀ kvs : List (κ × V), valV (kvs.map fun kv => if kv.1 = k then (kv.1, y) else kv) j = (valV kvs j).map fun x => if j = k then y else x
  | [] => rfl
  | p :: r => by
    have ih := valV_map k j y r
    rw [List.map_cons]
    by_cases h : p.1 = k
    · rw [if_pos h]
      by_cases e : p.1 = j
      · rw [valV_pos (p := (p.1, y)) e, valV_pos e, Option.map_some, if_pos (e.symm.trans h)]
      · rw [valV_neg (p := (p.1, y)) e, valV_neg e, ih]
    · rw [if_neg h]
      by_cases e : p.1 = j
      · rw [valV_pos (p := p) e, valV_pos e, Option.map_some, if_neg (fun z => h (e.trans z))]
      · rw [valV_neg (p := p) e, valV_neg e, ih]
theorem valV_snoc (k j : κ) (y : V) : ∀ kvs : List (κ × V), valV kvs k = none → valV (kvs ++ [(k, y)]) j = if j = k then some y else valV kvs j
  | [], _ => by
    by_cases e : k = j
    · rw [if_pos e.symm]; exact valV_pos (p := (k, y)) e
    · rw [if_neg (fun z => e z.symm)]; exact valV_neg (p := (k, y)) e
  | p :: r, hn => by
    rw [List.cons_append]
    have hk : ¬ p.1 = k := fun z => by rw [valV_pos z] at hn; cases hn
    rw [valV_neg hk] at hn
    have ih := valV_snoc k j y r hn
    by_cases e : p.1 = j
    · rw [valV_pos e, valV_pos e, if_neg (fun z => hk (e.trans z))]
    · rw [valV_neg e, valV_neg e, ih]
theorem valV_put (kvs : List (κ × V)) (k j : κ) (y : V) : valV (putK kvs k y) j = if j = k then some y else valV kvs j := by
  unfold putK
  by_cases a : (kvs.any fun kv => decide (kv.1 = k)) = true
  · rw [if_pos a, valV_map]
    rw [valV_any] at a
    by_cases e : j = k
    · obtain ⟨x, hx⟩ := Option.isSome_iff_exists.mp a
      rw [if_pos e, e, hx, Option.map_some, if_pos rfl]
    · rw [if_neg e]
      cases valV kvs j with
      | none => rfl
      | some x => rw [Option.map_some, if_neg e]
  · rw [if_neg a]
    refine valV_snoc k j y kvs ?_
    rw [valV_any] at a
    cases q : valV kvs k with
    | none => rfl
    | some x => rw [q] at a; exact (a rfl).elim
theorem length_putK (kvs : List (κ × V)) (k : κ) (v : V) : (putK kvs k v).length ≤ kvs.length + 1 := by
  unfold putK
  split
  · rw [List.length_map]; omega
  · rw [List.length_append, List.length_cons, List.length_nil]; omega
theorem putK_new {kvs : List (κ × V)} {k : κ} (v : V) (h : valV kvs k = none) : putK kvs k v = kvs ++ [(k, v)] := by
  unfold putK
  rw [valV_any, h]
  exact if_neg (by decide)
theorem RelO.isSome_eq {o : Option V} {u : Option Value} (r : RelO o u) : o.isSome = u.isSome := by
  cases o with
  | none => cases u with
    | none => rfl
    | some _ => exact (show False from r).elim
  | some _ => cases u with
    | none => exact (show False from r).elim
    | some _ => rfl
theorem RelO.getD {o : Option V} {u : Option Value} {d : V} {d' : Value} (r : RelO o u) (rd : RelV d d') : RelV (o.getD d) (u.getD d') := by
  cases o with
  | none => cases u with
    | none => exact rd
    | some _ => exact (show False from r).elim
  | some _ => cases u with
    | none => exact (show False from r).elim
    | some _ => exact r
theorem KV.val {kvs : List (κ × V)} {vs : List (κ × Value)} (r : KV kvs vs) (k : κ) : RelO (valV kvs k) (valueAt vs k) := by
  unfold KV at r
  induction r with
  | nil => exact True.intro
  | @cons p q ps qs h t ih =>
    obtain ⟨h1, h2⟩ := h
    by_cases e : p.1 = k
    · have e' : q.1 = k := h1.symm.trans e
      have b : valueAt (q :: qs) k = some q.2 := by simp [valueAt, List.find?_cons, e']
      rw [valV_pos e, b]; exact h2
    · have e' : ¬ q.1 = k := fun z => e (h1.trans z)
      have b : valueAt (q :: qs) k = valueAt qs k := by simp [valueAt, List.find?_cons, e']
      rw [valV_neg e, b]; exact ih
theorem KV.any {kvs : List (κ × V)} {vs : List (κ × Value)} (r : KV kvs vs) (k : κ) : (kvs.any fun kv => decide (kv.1 = k)) = vs.any fun kv => decide (kv.1 = k) := by
  unfold KV at r
  induction r with
  | nil => rfl
  | cons h t ih => rw [List.any_cons, List.any_cons, ih, h.1]
theorem KV.repl {kvs : List (κ × V)} {vs : List (κ × Value)} (r : KV kvs vs) (k : κ) {y : V} {u : Value} (ry : RelV y u) :
    KV (kvs.map fun kv => if kv.1 = k then (kv.1, y) else kv) (vs.map fun kv => if kv.1 = k then (kv.1, u) else kv) := by
  unfold KV at r ⊢
  induction r with
  | nil => exact .nil
  | @cons p q ps qs h t ih =>
    rw [List.map_cons, List.map_cons]
    refine .cons ?_ ih
    obtain ⟨h1, h2⟩ := h
    by_cases e : p.1 = k
    · rw [if_pos e, if_pos (h1.symm.trans e)]; exact ⟨h1, ry⟩
    · rw [if_neg e, if_neg (fun z => e (h1.trans z))]; exact ⟨h1, h2⟩
theorem KV.put {kvs : List (κ × V)} {vs : List (κ × Value)} (r : KV kvs vs) (k : κ) {y : V} {u : Value} (ry : RelV y u) : KV (putK kvs k y) (stored vs k u) := by
  unfold putK stored
  rw [r.any k]
  by_cases e : (vs.any fun kv => decide (kv.1 = k)) = true
  · rw [if_pos e, if_pos e]; exact r.repl k ry
  · rw [if_neg e, if_neg e]; exact Paired.snoc r ⟨rfl, ry⟩
theorem KV.drop {kvs : List (κ × V)} {vs : List (κ × Value)} (r : KV kvs vs) (k : κ) : KV (dropK kvs k) (without vs k) := by
  unfold KV at r ⊢
  unfold dropK without
  induction r with
  | nil => exact .nil
  | @cons p q ps qs h t ih =>
    obtain ⟨h1, h2⟩ := h
    rw [List.filter_cons, List.filter_cons]
    by_cases e : p.1 = k
    · have a : ¬ decide (p.1 ≠ k) = true := by simp [e]
      have b : ¬ decide (q.1 ≠ k) = true := by simp [h1.symm.trans e]
      rw [if_neg a, if_neg b]; exact ih
    · have e' : ¬ q.1 = k := fun z => e (h1.trans z)
      have a : decide (p.1 ≠ k) = true := by simp [e]
      have b : decide (q.1 ≠ k) = true := by simp [e']
      rw [if_pos a, if_pos b]; exact .cons ⟨h1, h2⟩ ih
theorem KV.length {kvs : List (κ × V)} {vs : List (κ × Value)} (r : KV kvs vs) : kvs.length = vs.length := Paired.length r
end
theorem kV_is {P : Program} {w : World} {k : Key} {u : Value} (r : RelV (kV k) u) : (mixKind P w).is k u = true := by
  cases k with
  | inl i => obtain ⟨t, e⟩ := (show ∃ t, u = Value.int i t from r); subst e; exact mixKind_int P w i t
  | inr x => obtain ⟨t, e⟩ := (show ∃ t, u = Value.str x t from r); subst e; exact mixKind_str P w x t
theorem items_are {P : Program} {w : World} : ∀ {ks : List Key} {us : List Value}, Vals (ks.map kV) us → ItemsAre (mixKind P w) ks us
  | [], _, r => by rw [List.map_nil] at r; cases r; exact .nil
  | k :: ks, _, r => by
    rw [List.map_cons] at r
    cases r with
    | cons h t => exact .cons (kV_is h) (items_are t)
abbrev KT (H : Hp) : List (List Key × V) → List (List Key × Addr × Value) → Prop := Paired fun p q => p.1 = q.1 ∧ H q.2.1 = some (.tup (p.1.map kV)) ∧ RelV p.2 q.2.2
theorem KT.val {H : Hp} {kvs : List (List Key × V)} {xs : List (List Key × Addr × Value)} (r : KT H kvs xs) (k : List Key) : RelO (valV kvs k) ((atKey xs k).map (·.2)) := by
  induction r with
  | nil => exact True.intro
  | @cons p q ps qs h t ih =>
    obtain ⟨h1, _, h2⟩ := h
    by_cases e : p.1 = k
    · have e' : q.1 = k := h1.symm.trans e
      have b : atKey (q :: qs) k = some q.2 := by simp [atKey, List.find?_cons, e']
      rw [valV_pos e, b]; exact h2
    · have e' : ¬ q.1 = k := fun z => e (h1.trans z)
      have b : atKey (q :: qs) k = atKey qs k := by simp [atKey, List.find?_cons, e']
      rw [valV_neg e, b]; exact ih
theorem KT.repl {H : Hp} {kvs : List (List Key × V)} {xs : List (List Key × Addr × Value)} (r : KT H kvs xs) (k : List Key) {y : V} {u : Value} (ry : RelV y u) :
    KT H (kvs.map fun kv => if kv.1 = k then (kv.1, y) else kv) (xs.map (putAt k u)) := by
  induction r with
  | nil => exact .nil
  | @cons p q ps qs h t ih =>
    rw [List.map_cons, List.map_cons]
    refine .cons ?_ ih
    obtain ⟨h1, h2, h3⟩ := h
    unfold putAt
    by_cases e : p.1 = k
    · rw [if_pos e, if_pos (h1.symm.trans e)]; exact ⟨h1, h2, ry⟩
    · rw [if_neg e, if_neg (fun z => e (h1.trans z))]; exact ⟨h1, h2, h3⟩
theorem KT.put {H : Hp} {kvs : List (List Key × V)} {xs : List (List Key × Addr × Value)} (r : KT H kvs xs) (k : List Key) {b : Addr} {y : V} {u : Value} (hb : H b = some (.tup (k.map kV))) (ry : RelV y u) :
    KT H (putK kvs k y) (storedH xs k b u) := by
  have e : (kvs.any fun kv => decide (kv.1 = k)) = (atKey xs k).isSome := by
    rw [valV_any, (r.val k).isSome_eq, Option.isSome_map]
  unfold putK storedH
  rw [e]
  by_cases q : (atKey xs k).isSome = true
  · rw [if_pos q, if_pos q]; exact r.repl k ry
  · rw [if_neg q, if_neg q]; exact Paired.snoc r ⟨rfl, hb, ry⟩
theorem KT.keeps {H H' : Hp} {kvs : List (List Key × V)} {xs : List (List Key × Addr × Value)} (r : KT H kvs xs) (ht : ∀ b ys, H b = some (.tup ys) → H' b = some (.tup ys)) : KT H' kvs xs :=
  Paired.mapP r fun _ _ z => ⟨z.1, ht _ _ z.2.1, z.2.2⟩
section
variable {P : Program} {w : World} {H : Hp} {h : Heap} {a : Addr}
theorem rd_of {u : HO} (ok : HOk P w H h) (e : Rd H a u) : ObjOk P w H h a u := e.ok ok
theorem dk_rd {kvs : List (Key × V)} (ok : HOk P w H h) (e : Rd H a (.dK kvs)) : kvs.length ≤ sizeLine ∧ (a == sysModules) = false ∧ ∃ vs, KV kvs vs ∧ h.DictOf (mixKind P w) a vs :=
  show ObjOk P w H h a (.dK kvs) from rd_of ok e
theorem dk_of {kvs : List (Key × V)} (ok : HOk P w H h) (e : H a = some (.dK kvs)) : kvs.length ≤ sizeLine ∧ (a == sysModules) = false ∧ ∃ vs, KV kvs vs ∧ h.DictOf (mixKind P w) a vs := dk_rd ok (.inl e)
theorem key_of {ks : List Key} (ok : HOk P w H h) (e : H a = some (.tup (ks.map kV))) : (tupleKind (mixKind P w)).is h ks a := by
  obtain ⟨_, its, r, o, h1, h2, n, h3⟩ := (show ObjOk P w H h a (.tup (ks.map kV)) from ok a _ e)
  exact ⟨o, its.toArray, n, h1, h2, h3, by simpa using items_are r⟩
theorem dt_rd {kvs : List (List Key × V)} (ok : HOk P w H h) (e : Rd H a (.dT kvs)) : kvs.length ≤ sizeLine ∧ (a == sysModules) = false ∧
    ∃ xs, KT H kvs xs ∧ h.DictOfH (tupleKind (mixKind P w)) a xs := by
  obtain ⟨z, y, xs, r, o, es, ep, h1, h2, h3, h4, h5⟩ := (show ObjOk P w H h a (.dT kvs) from rd_of ok e)
  refine ⟨z, y, xs, r, o, es, ep, h1, h2, h3, h4, fun x hx => ?_, h5⟩
  have all : ∀ {l : List (List Key × V)} {m : List (List Key × Addr × Value)}, KT H l m → ∀ x ∈ m, (tupleKind (mixKind P w)).is h x.1 x.2.1 := by
    intro l m q
    induction q with
    | nil => intro x hx; exact nomatch hx
    | @cons p q ps qs hq t ih =>
      intro x hx
      rcases List.mem_cons.mp hx with e | hx
      · subst e
        exact key_of ok (by rw [← hq.1]; exact hq.2.1)
      · exact ih x hx
  exact all r x hx
theorem dt_of {kvs : List (List Key × V)} (ok : HOk P w H h) (e : H a = some (.dT kvs)) : kvs.length ≤ sizeLine ∧ (a == sysModules) = false ∧
    ∃ xs, KT H kvs xs ∧ h.DictOfH (tupleKind (mixKind P w)) a xs := dt_rd ok (.inl e)
end
def DGet (H : Hp) (a : Addr) (y : V) (r : Option V) : Prop :=
  (∃ kvs k, Rd H a (.dK kvs) ∧ y = kV k ∧ r = valV kvs k) ∨ ∃ kvs k b, Rd H a (.dT kvs) ∧ y = .ref b ∧ H b = some (.tup (k.map kV)) ∧ r = valV kvs k
def DPut (H : Hp) (a : Addr) (y v : V) (H' : Hp) : Prop :=
  (∃ kvs k, H a = some (.dK kvs) ∧ y = kV k ∧ kvs.length < sizeLine ∧ H' = upd H a (.dK (putK kvs k v))) ∨
  ∃ kvs k b, H a = some (.dT kvs) ∧ y = .ref b ∧ H b = some (.tup (k.map kV)) ∧ kvs.length < sizeLine ∧ H' = upd H a (.dT (putK kvs k v))
theorem DGet.k {H : Hp} {a : Addr} {kvs : List (Key × V)} {k : Key} (e : H a = some (.dK kvs)) : DGet H a (kV k) (valV kvs k) := .inl ⟨kvs, k, .inl e, rfl, rfl⟩
theorem DGet.t {H : Hp} {a b : Addr} {kvs : List (List Key × V)} {k : List Key} (e : H a = some (.dT kvs)) (eb : H b = some (.tup (k.map kV))) : DGet H a (.ref b) (valV kvs k) := .inr ⟨kvs, k, b, .inl e, rfl, eb, rfl⟩
theorem DPut.k {H : Hp} {a : Addr} {kvs : List (Key × V)} {k : Key} {v : V} (e : H a = some (.dK kvs)) (hl : kvs.length < sizeLine) : DPut H a (kV k) v (upd H a (.dK (putK kvs k v))) := .inl ⟨kvs, k, e, rfl, hl, rfl⟩
theorem DPut.t {H : Hp} {a b : Addr} {kvs : List (List Key × V)} {k : List Key} {v : V} (e : H a = some (.dT kvs)) (eb : H b = some (.tup (k.map kV))) (hl : kvs.length < sizeLine) :
    DPut H a (.ref b) v (upd H a (.dT (putK kvs k v))) := .inr ⟨kvs, k, b, e, rfl, eb, hl, rfl⟩
section
variable {X : Cx} {pins : List (Addr × Obj)} {σ : St} {H : Hp} {s : Shared} {a : Addr} {y v : V} {u r : Value} {o : Option V} {A : Around} {E : Value → Shared → Prop}
theorem Inv.big (I : Inv X pins σ H s) : sysModules < s.heap.objs.size := by
  have h : mainGlobals < s.heap.objs.size := (I.mod.glob.keeps I.bk).lt
  exact Nat.lt_trans (by decide) h
theorem d_getItem {Q : Value → Shared → Prop} (hu : A.units + 1 < cLine) (I : Inv X pins σ H s) (g : DGet H a y (some v)) (ry : RelV y u) (h : ∀ w' s', Inv X pins σ H s' → RelV v w' → Q w' s') :
    wpAny (model X.prog X.w) A (getItem (.ref a) u) Q E s := by
  rcases g with ⟨kvs, k, e, ey, l⟩ | ⟨kvs, k, b, e, ey, eb, l⟩
  · subst ey
    obtain ⟨z, hd, vs, rel, dd⟩ := dk_rd I.hok e
    obtain ⟨w', hw, rw'⟩ := RelO.some_of (v := v) (o := valueAt vs k) (by rw [l]; exact rel.val k)
    exact wpAny_getItem_of (kV_is ry) dd.mapOf hw (h w' _ (I.tok _) rw')
  · subst ey
    cases (show u = Value.ref b from ry)
    obtain ⟨z, hd, xs, rel, dd⟩ := dt_rd I.hok e
    obtain ⟨w', hw, rw'⟩ := RelO.some_of (v := v) (o := (atKey xs k).map (·.2)) (by rw [l]; exact rel.val k)
    obtain ⟨p, hp, hp2⟩ := Option.map_eq_some_iff.mp hw
    refine wpAny_getItem_heap (tupleKind_room_in1 hu) (key_of I.hok eb) dd hp ?_
    rw [hp2]
    exact h w' _ (I.tok _) rw'
theorem d_in {Q : Value → Shared → Prop} (hu : A.units + 1 < cLine) (I : Inv X pins σ H s) (g : DGet H a y o) (ry : RelV y u) (h : ∀ s', Inv X pins σ H s' → Q (.bool o.isSome) s') :
    wpAny (model X.prog X.w) A (compareOp .In u (.ref a)) Q E s := by
  rcases g with ⟨kvs, k, e, ey, l⟩ | ⟨kvs, k, b, e, ey, eb, l⟩
  · subst ey
    obtain ⟨z, hd, vs, rel, dd⟩ := dk_rd I.hok e
    refine wpAny_in_of (kV_is ry) hd dd.mapOf ?_
    rw [← (rel.val k).isSome_eq, ← l]
    exact h _ (I.tok _)
  · subst ey
    cases (show u = Value.ref b from ry)
    obtain ⟨z, hd, xs, rel, dd⟩ := dt_rd I.hok e
    refine wpAny_in_heap (tupleKind_room_in1 hu) (key_of I.hok eb) hd dd ?_
    have q := (rel.val k).isSome_eq
    rw [Option.isSome_map] at q
    rw [← q, ← l]
    exact h _ (I.tok _)
theorem d_write {h' : Heap} {t' : Nat} {ob : HO} (I : Inv X pins σ H s) (mu : Mut (H a)) (hs : Heap.SameBut a s.heap h') (he : ∃ q, h'.get? a = some q) (new : ObjOk X.prog X.w (upd H a ob) h' a ob) :
    Inv X pins σ (upd H a ob) { s with heap := h', toks := t' } :=
  I.write (x := a) (e := a) mu (.inl rfl) (fun b q hb z => (hs.2 b hb).trans z) he new
theorem dk_new {P : Program} {w : World} {H' : Hp} {h' : Heap} {kvs : List (Key × V)} {vs : List (Key × Value)} (z : kvs.length ≤ sizeLine) (hd : (a == sysModules) = false) (rel : KV kvs vs) (dd : h'.DictOf (mixKind P w) a vs) :
    ObjOk P w H' h' a (.dK kvs) := ⟨z, hd, vs, rel, dd⟩
theorem d_setItem {H' : Hp} {Q : Unit → Shared → Prop} (hu : A.units + 1 < cLine) (I : Inv X pins σ H s) (g : DPut H a y v H') (ry : RelV y u) (rv : RelV v r) (h : ∀ s', Inv X pins σ H' s' → Q () s') :
    wpAny (model X.prog X.w) A (setItem (.ref a) u r) Q E s := by
  rcases g with ⟨kvs, k, e, ey, l, eH⟩ | ⟨kvs, k, b, e, ey, eb, l, eH⟩
  · subst ey eH
    obtain ⟨z, hd, vs, rel, dd⟩ := dk_of I.hok e
    have hz : vs.length ≤ sizeLine := by rw [← rel.length]; exact z
    have hl : (putK kvs k v).length ≤ sizeLine := by have := length_putK kvs k v; omega
    refine wpAny_setItem_pairs (hsz := hz) (kV_is ry) dd fun h' dd' hs => h _ ?_
    have he : ∃ q, h'.get? a = some q := let ⟨q, _, _, hq, _⟩ := dd'; ⟨q, hq⟩
    exact d_write I (by rw [e]; exact True.intro) hs he (dk_new hl hd (rel.put k rv) dd')
  · subst ey eH
    cases (show u = Value.ref b from ry)
    obtain ⟨z, hd, xs, rel, dd⟩ := dt_of I.hok e
    have hz : xs.length ≤ sizeLine := by rw [← Paired.length rel]; exact z
    have hl : (putK kvs k v).length ≤ sizeLine := by have := length_putK kvs k v; omega
    refine wpAny_setItem_heap (hsz := hz) (tupleKind_room_in1 hu) (key_of I.hok eb) dd fun h' dd' hs => h _ ?_
    obtain ⟨q, es, ep, hq, h2, h3, h4, _, h5⟩ := dd'
    refine d_write I (by rw [e]; exact True.intro) hs ⟨q, hq⟩ ⟨hl, hd, _, (rel.put k eb rv).keeps fun c ys ec => ?_, q, es, ep, hq, h2, h3, h4, h5⟩
    rw [upd_ne (ne_of ec e (fun z => nomatch z))]
    exact ec
end
section
variable {X : Cx} {pins : List (Addr × Obj)} {σ : St} {H : Hp} {s : Shared} {a : Addr} {kvs : List (Key × V)} {k : Key} {u : Value} {A : Around} {E : Value → Shared → Prop}
theorem d_len {Q : Value → Shared → Prop} (I : Inv X pins σ H s) (e : Rd H a (.dK kvs)) (h : ∀ t s', Inv X pins σ H s' → Q (.int kvs.length t) s') : wpAny (model X.prog X.w) A (call (.builtin "len") [.ref a]) Q E s := by
  obtain ⟨z, hd, vs, rel, dd⟩ := dk_rd I.hok e
  refine call_len_dict hd dd (by rw [← rel.length]; rw [sizeLine_eq] at z; omega) ?_
  rw [← rel.length]
  exact h _ _ (I.tok _)
end
def NoSl (i : Expr) : Prop := ∀ ov iv, subscripted i false ov iv = operate [ov, iv] (getItem ov iv)
theorem subD_of {prog : Program} {w : World} {A : Around} {E : Value → Shared → Prop} {s : Shared} {env : Env} {value slice : Expr} {pos : Pos} {T id : String} {Q : Value → Shared → Prop}
    (hl : typeLookup (.type T) "__getitem__" = pure (some (.builtin id))) (hs : NoSl slice)
    (h : wpAny (model prog w) A (eval value env) (fun o s₁ => wpAny (model prog w) A (eval slice env) (fun i s₂ => s₂.TypeIs o T ∧ wpAny (model prog w) A (getItem o i) Q E s₂) E s₁) E s) :
    wpAny (model prog w) A (eval (.Subscript value slice pos) env) Q E s := by
  refine Subscript_ (wpAny_mono h (fun o s₁ h₁ => wpAny_mono h₁ (fun i s₂ h₂ => ?_) fun _ _ x => x) fun _ _ x => x)
  obtain ⟨hT, h₂⟩ := h₂
  unfold subscriptTail
  refine wpAny_bind ?_
  rw [getitemInPython_of_ne hT.not_modules]
  refine wpAny_bind (wpAny_specialOf hT hl ?_)
  have fin : wpAny (model prog w) A (subscripted slice false o i) (fun r s₃ => wpAny (model prog w) A (letTemporaryGo value o r >>= fun _ => pure r) Q E s₃) E s₂ := by
    rw [hs o i]
    exact wpAny_operating (wpAny_mono h₂ (fun r s₃ h₃ => wpAny_bind (wpAny_letTemporaryGo (wpAny_pure h₃))) fun _ _ x => x)
  first
    | exact wpAny_pure (wpAny_bind fin)
    | exact wpAny_bind (wpAny_pure (wpAny_bind fin))
    | exact wpAny_bind fin
theorem dict_typeIs {X : Cx} {pins : List (Addr × Obj)} {σ : St} {H : Hp} {s : Shared} {a : Addr} {y : V} {o : Option V} (I : Inv X pins σ H s) (g : DGet H a y o) : s.TypeIs (.ref a) "dict" := by
  rcases g with ⟨kvs, k, e, _, _⟩ | ⟨kvs, k, b, e, _, _, _⟩
  · obtain ⟨_, _, vs, _, dd⟩ := dk_rd I.hok e
    exact dd.typeIs
  · obtain ⟨_, _, xs, _, dd⟩ := dt_rd I.hok e
    exact dd.typeIs
def tDGet (td ty : TE) : TE := fun σ H Q => td σ H fun x H1 => ty σ H1 fun y H2 => ∃ a v, x = .ref a ∧ DGet H2 a y (some v) ∧ Q v H2
def tDIn (ty td : TE) : TE := fun σ H Q => ty σ H fun y H1 => td σ H1 fun x H2 => ∃ a o, x = .ref a ∧ DGet H2 a y o ∧ Q (.bl o.isSome) H2
def sDPut (td ty tv : TE) : TS := fun D σ H => tv σ H fun v H1 => td σ H1 fun x H2 => ty σ H2 fun y H3 => ∃ a H4, x = .ref a ∧ DPut H3 a y v H4 ∧ D.nx σ H4
section
variable {X : Cx} {o i e value : Expr} {pos pos' tpos : Pos} {td ty tv : TE}
theorem pe_dget (hu : X.A.units + 1 < cLine) (ho : PE X o td) (hi : PE X i ty) (hs : NoSl i) : PE X (.Subscript o i pos) (tDGet td ty) := by
  unfold PE at *
  exact by
    intro pins s σ H Q I h
    refine subD_of PySem.F.slot_dict_getitem.lookup hs (thn (ho pins s σ H _ I h) fun u s1 ⟨x, H1, I1, rx, q1⟩ => thn (hi pins s1 σ H1 _ I1 q1) fun iv s2 ⟨y, H2, I2, ry, a, v, ex, g, q2⟩ => ?_)
    subst ex
    obtain rfl : u = Value.ref a := rx
    exact ⟨dict_typeIs I2 g, d_getItem hu I2 g ry fun w' s3 I3 rw' => ⟨v, H2, I3, rw', q2⟩⟩
theorem pc_din (hu : X.A.units + 1 < cLine) (hi : PE X i ty) (ho : PE X o td) : PC X .In i o (tDIn ty td) := by
  unfold PE at *; unfold PC at *
  exact by
    intro pins s σ H Q I h
    refine thn (hi pins s σ H _ I h) fun iv s1 ⟨y, H1, I1, ry, q1⟩ => thn (ho pins s1 σ H1 _ I1 q1) fun u s2 ⟨x, H2, I2, rx, a, ov, ex, g, q2⟩ => ?_
    subst ex
    obtain rfl : u = Value.ref a := rx
    exact d_in hu I2 g ry fun s3 I3 => ⟨.bl ov.isSome, H2, I3, rfl, q2⟩
theorem ps_dput (hu : X.A.units + 1 < cLine) (ho : PE X o td) (hi : PE X i ty) (hv : PE X value tv) (hs : swapsWith value (some (.Subscript o i pos')) pos.line X.env = pure false) :
    PS X (.Assign [.Subscript o i pos'] value pos) (sDPut td ty tv) := by
  unfold PE at *; unfold PS at *
  exact by
    intro pins s σ H D I h
    refine wpAny_Assign_Subscript (thn (hv pins s σ H _ I h) fun r s1 ⟨v, H1, I1, rv, q1⟩ => thn (ho pins s1 σ H1 _ I1 q1) fun u s2 ⟨x, H2, I2, rx, q2⟩ => thn (hi pins s2 σ H2 _ I2 q2) fun iv s3 ⟨y, H3, I3, ry, a, H4, ex, g, q3⟩ => ?_) hs
    subst ex
    obtain rfl : u = Value.ref a := rx
    exact d_setItem hu I3 g ry rv fun s4 I4 => ⟨σ, H4, I4, q3⟩
end
theorem dk_empty {P : Program} {w : World} {H : Hp} (h : Heap) (hb : sysModules < h.objs.size) : ObjOk P w H (h.push { cls := .type "dict", data := .dict #[] }) h.objs.size (.dK []) :=
  ⟨Nat.zero_le _, beq_eq_false_iff_ne.mpr (Ne.symm (Nat.ne_of_lt hb)), [], .nil, Heap.DictOf.new h⟩
theorem dt_empty {P : Program} {w : World} {H : Hp} (h : Heap) (hb : sysModules < h.objs.size) : ObjOk P w H (h.push { cls := .type "dict", data := .dict #[] }) h.objs.size (.dT []) :=
  ⟨Nat.zero_le _, beq_eq_false_iff_ne.mpr (Ne.symm (Nat.ne_of_lt hb)), [], .nil, _, #[], 0, Heap.get?_push_size _ rfl, ⟨rfl, rfl, rfl⟩, rfl, rfl, List.nodup_nil⟩
def tDNewK : TE := fun _ H Q => ∀ p, H p = none → Q (.ref p) (upd H p (.dK []))
def tDNewT : TE := fun _ H Q => ∀ p, H p = none → Q (.ref p) (upd H p (.dT []))
section
variable {X : Cx} {pos : Pos}
theorem pe_dnewK : PE X (.Dict [] [] pos) tDNewK := by
  unfold PE at *
  exact (fun pins s σ H Q I h =>
    wpAny_Dict_empty ⟨.ref s.heap.objs.size, _, I.laid (a := s.heap.objs.size) (o := .dK []) (t' := s.toks) (fun _ _ q => Heap.get?_push_of_some _ q) (Nat.le_refl _) (dk_empty s.heap I.big), rfl, h _ (I.hok.fresh (Nat.le_refl _))⟩)
theorem pe_dnewT : PE X (.Dict [] [] pos) tDNewT := by
  unfold PE at *
  exact (fun pins s σ H Q I h =>
    wpAny_Dict_empty ⟨.ref s.heap.objs.size, _, I.laid (a := s.heap.objs.size) (o := .dT []) (t' := s.toks) (fun _ _ q => Heap.get?_push_of_some _ q) (Nat.le_refl _) (dt_empty s.heap I.big), rfl, h _ (I.hok.fresh (Nat.le_refl _))⟩)
end
def tPairs : List (TE × TE) → St → Hp → (List (V × V) → Hp → Prop) → Prop
  | [], _, H, Q => Q [] H
  | (tk, tv) :: r, σ, H, Q => tk σ H fun x H1 => tv σ H1 fun y H2 => tPairs r σ H2 fun ps H3 => Q ((x, y) :: ps) H3
abbrev VV : List (V × V) → List (Value × Value) → Prop := Paired fun p q => RelV p.1 q.1 ∧ RelV p.2 q.2
def PPs (X : Cx) (pos : Pos) (keys : List (Option Expr)) (values : List Expr) (trs : List (TE × TE)) : Prop :=
  ∀ (pins : List (Addr × Obj)) (s : Shared) (σ : St) (H : Hp) (Q : List (V × V) → Hp → Prop), Inv X pins σ H s → tPairs trs σ H Q →
    wpAny (model X.prog X.w) X.A (evalPairs (pairTrees keys values X.env pos)) (fun vs s' => ∃ ps H', Inv X pins σ H' s' ∧ VV ps vs ∧ Q ps H') X.xe s
theorem pps_nil {X : Cx} {pos : Pos} : PPs X pos [] [] [] := fun pins s σ H Q I h => pairTrees_nil_walk ⟨[], H, I, .nil, h⟩
theorem pps_cons {X : Cx} {pos : Pos} {k v : Expr} {ks : List (Option Expr)} {vs : List Expr} {tk tv : TE} {trs : List (TE × TE)} (hk : PE X k tk) (hv : PE X v tv) (hr : PPs X pos ks vs trs) :
    PPs X pos (some k :: ks) (v :: vs) ((tk, tv) :: trs) := by
  unfold PE at *
  exact (fun pins s σ H Q I h =>
    pairTrees_cons_walk (thn (hk pins s σ H _ I h) fun u s1 ⟨x, H1, I1, rx, q1⟩ => thn (hv pins s1 σ H1 _ I1 q1) fun w2 s2 ⟨y, H2, I2, ry, q2⟩ =>
      thn (hr pins s2 σ H2 _ I2 q2) fun ws s3 ⟨ps, H3, I3, rel, q3⟩ => ⟨(x, y) :: ps, H3, I3, .cons ⟨rx, ry⟩ rel, q3⟩))
def mergeK (kvs more : List (Key × V)) : List (Key × V) := more.foldl (fun acc kv => putK acc kv.1 kv.2) kvs
theorem KV.merge : ∀ {more : List (Key × V)} {rs : List (Key × Value)} {kvs : List (Key × V)} {vs : List (Key × Value)}, KV more rs → KV kvs vs → KV (mergeK kvs more) (merged vs rs) := by
  intro more rs kvs vs r
  unfold KV at r
  induction r generalizing kvs vs with
  | nil => intro q; exact q
  | @cons p q ps qs h t ih =>
    intro r0
    have e : KV (putK kvs p.1 p.2) (stored vs q.1 q.2) := by
      have := r0.put p.1 h.2
      rw [← h.1]; exact this
    exact ih e
theorem length_mergeK : ∀ (more kvs : List (Key × V)), (mergeK kvs more).length ≤ kvs.length + more.length
  | [], kvs => by show kvs.length ≤ kvs.length + 0; omega
  | p :: r, kvs => by
    have h1 := length_mergeK r (putK kvs p.1 p.2)
    have h2 := length_putK kvs p.1 p.2
    show (mergeK (putK kvs p.1 p.2) r).length ≤ _
    rw [List.length_cons]; omega
theorem carries_of {P : Program} {w : World} : ∀ {kvs : List (Key × V)} {ws : List (Value × Value)}, VV (kvs.map fun kv => (kV kv.1, kv.2)) ws → ∃ rs, Carries (mixKind P w) ws rs ∧ KV kvs rs
  | [], _, r => by rw [List.map_nil] at r; cases r; exact ⟨[], True.intro, .nil⟩
  | p :: kvs, _, r => by
    rw [List.map_cons] at r
    cases r with
    | @cons a b as bs h t =>
      obtain ⟨rs, c, q⟩ := carries_of (P := P) (w := w) t
      obtain ⟨b1, b2⟩ := b
      exact ⟨(p.1, b2) :: rs, ⟨kV_is h.1, rfl, c⟩, .cons ⟨rfl, h.2⟩ q⟩
def tDisp (trs : List (TE × TE)) : TE := fun σ H Q => ∀ p, H p = none → tPairs trs σ (upd H p (.dK [])) fun ps H2 => H2 p = some (.dK []) ∧ ∃ kvs : List (Key × V), ps = kvs.map (fun kv => (kV kv.1, kv.2)) ∧ kvs.length ≤ 15 ∧ Q (.ref p) (upd H2 p (.dK (mergeK [] kvs)))
theorem pe_disp {X : Cx} {pos : Pos} {keys : List (Option Expr)} {values : List Expr} {trs : List (TE × TE)} (h : PPs X pos keys values trs) (hall : keys.all (·.isSome) = true) (hl : keys.length = values.length) (h0 : keys ≠ [])
    (h15 : keys.length ≤ 15) : PE X (.Dict keys values pos) (tDisp trs) := by
  unfold PE at *
  exact by
    intro pins s σ H Q I q
    have hn := I.hok.fresh (Nat.le_refl s.heap.objs.size)
    have I1 := I.laid (a := s.heap.objs.size) (o := .dK []) (h' := s.heap.push { cls := .type "dict", data := .dict #[] }) (t' := s.toks) (fun _ _ q => Heap.get?_push_of_some _ q) (Nat.le_refl _) (dk_empty s.heap I.big)
    refine wpAny_Dict_walk (knd := mixKind X.prog X.w) hall hl h0 h15 (thn (h pins _ σ _ _ I1 (q _ hn)) fun ws s2 ⟨ps, H2, I2, rel, e, kvs, ep, lk, q2⟩ => ?_)
    subst ep
    obtain ⟨rs, c, rk⟩ := carries_of (P := X.prog) (w := X.w) rel
    obtain ⟨z, hd, vs0, r0, dd⟩ := dk_of I2.hok e
    cases r0
    refine ⟨rs, c, dd, fun h' dd' hs => ⟨.ref s.heap.objs.size, _, ?_, rfl, q2⟩⟩
    have hz : (mergeK [] kvs).length ≤ sizeLine := by
      have h1 := length_mergeK kvs []
      rw [List.length_nil] at h1
      rw [sizeLine_eq]; omega
    have he : ∃ q, h'.get? s.heap.objs.size = some q := let ⟨q, _, _, hq, _⟩ := dd'; ⟨q, hq⟩
    exact d_write I2 (by rw [e]; exact True.intro) hs he (dk_new hz hd (rk.merge .nil) dd')
structure M1 (X : Cx) (o : Expr) (m : Str) (apos : Pos) (e : Expr) (cpos : Pos) : Prop where
  base : attributeBase o m X.env (eval o X.env) = eval o X.env
  few : ((backTo cpos (starEach [e] X.env)).all (fun x => !x.1) && (backToKw cpos (keywordEach [] X.env)).all (fun x => x.1.isSome)
    && decide (([e] : List Expr).length + ([] : List Keyword).length + (if ([] : List Keyword).isEmpty then 0 else 1) < 30)) = true
  line : (apos.endLine == cpos.line) = true
  trees : backTo cpos (starEach [e] X.env) = [(false, eval e X.env)]
def IsD (H : Hp) (a : Addr) : Prop := (∃ kvs, Rd H a (.dK kvs)) ∨ ∃ kvs, Rd H a (.dT kvs)
theorem isD_at {X : Cx} {pins : List (Addr × Obj)} {σ : St} {H : Hp} {s : Shared} {a : Addr} (I : Inv X pins σ H s) (d : IsD H a) :
    s.TypeIs (.ref a) "dict" ∧ (∀ b, Value.ref a = .ref b → ∃ ob, s.heap.get? b = some ob ∧ ob.dict = none) ∧ (a == sysModules) = false := by
  rcases d with ⟨kvs, e⟩ | ⟨kvs, e⟩
  · obtain ⟨_, hd, vs, _, dd⟩ := dk_rd I.hok e
    refine ⟨dd.typeIs, fun b q => ?_, hd⟩
    cases q
    obtain ⟨ob, _, _, h1, h2, _⟩ := dd
    exact ⟨ob, h1, h2.2.1⟩
  · obtain ⟨_, hd, xs, _, dd⟩ := dt_rd I.hok e
    refine ⟨dd.typeIs, fun b q => ?_, hd⟩
    cases q
    obtain ⟨ob, _, _, h1, h2, _⟩ := dd
    exact ⟨ob, h1, h2.2.1⟩
section
variable {X : Cx} {pins : List (Addr × Obj)} {σ : St} {H : Hp} {s : Shared} {a : Addr} {y d : V} {u r : Value} {o : Option V} {A : Around} {E : Value → Shared → Prop}
theorem d_get1 {Q : Value → Shared → Prop} (hu : A.units + 1 < cLine) (I : Inv X pins σ H s) (g : DGet H a y o) (ry : RelV y u) (h : ∀ w' s', Inv X pins σ H s' → RelV (o.getD .non) w' → Q w' s') :
    wpAny (model X.prog X.w) A (call (.builtin "dict.get") [.ref a, u]) Q E s := by
  rcases g with ⟨kvs, k, e, ey, l⟩ | ⟨kvs, k, b, e, ey, eb, l⟩
  · subst ey
    obtain ⟨z, hd, vs, rel, dd⟩ := dk_rd I.hok e
    refine call_meetsIn PySem.F.slot_dict_get dd.typeIs PySem.F.entry_dict_get (PySem.F.args_dict_get_2 _ _) (meets_dict_get (mixKind X.prog X.w) a (kV_is ry) hd) ⟨_, dd.mapOf, h _ _ (I.tok _) ?_⟩
    rw [l]
    exact (rel.val k).getD rfl
  · subst ey
    cases (show u = Value.ref b from ry)
    obtain ⟨z, hd, xs, rel, dd⟩ := dt_rd I.hok e
    refine call_meetsIn PySem.F.slot_dict_get dd.typeIs PySem.F.entry_dict_get (PySem.F.args_dict_get_2 _ _) (meetsH_dict_get (tupleKind (mixKind X.prog X.w)) a b hd) ⟨tupleKind_room_in1 hu, k, xs, key_of I.hok eb, dd, h _ _ (I.tok _) ?_⟩
    rw [l]
    exact (rel.val k).getD rfl
end
def tDGet1 (td ty : TE) : TE := fun σ H Q => td σ H fun x H1 => ∃ a, x = .ref a ∧ IsD H1 a ∧ ty σ H1 fun y H2 => ∃ o, DGet H2 a y o ∧ Q (o.getD .non) H2
section
variable {X : Cx} {o e f : Expr} {apos cpos : Pos} {td ty tx : TE}
theorem pe_dget1 (hu : X.A.units + 1 < cLine) (ho : PE X o td) (he : PE X e ty) (m : M1 X o "get" apos e cpos) : PE X (.Call (.Attribute o "get" apos) [e] [] cpos) (tDGet1 td ty) := by
  unfold PE at *
  exact by
    intro pins s σ H Q I h
    refine wpAny_Call_method m.base m.few m.line PySem.F.plainAttrs_dict PySem.F.slot_dict_get PySem.F.type_dict_get (thn (ho pins s σ H _ I h) fun u s1 ⟨x, H1, I1, rx, a, ex, d, q1⟩ => ?_)
    subst ex
    obtain rfl : u = Value.ref a := rx
    obtain ⟨t1, t2, _⟩ := isD_at I1 d
    refine ⟨t1, t2, ?_⟩
    rw [m.trees]
    refine Calls.callWith_builtin rfl (Calls.evalArgs_plain (Calls.spliced_cons (thn (he pins s1 σ H1 _ I1 q1) fun iv s2 ⟨y, H2, I2, ry, ov, g, q2⟩ => Calls.spliced_nil ?_)))
    exact d_get1 hu I2 g ry fun w' s3 I3 rw' => ⟨_, H2, I3, rw', q2⟩
end
section
variable {X : Cx} {pins : List (Addr × Obj)} {σ : St} {H : Hp} {s : Shared} {a : Addr} {kvs : List (Key × V)} {A : Around} {E : Value → Shared → Prop}
end
section
variable {X : Cx} {pins : List (Addr × Obj)} {σ : St} {H : Hp} {s : Shared} {a : Addr} {y : V} {u : Value} {A : Around} {E : Value → Shared → Prop}
end
end L2
namespace Att
open PySem PySem.W PySem.Calls PyProof.Rows
theorem ints_of_wellAll {P : Params} {h : Heap} : ∀ (ns : List Int) (vs : List Value), WellAll P h vs (ns.map WData.int) → IntsAre vs ns := by
  intro ns
  induction ns with
  | nil =>
    intro vs w
    rw [List.map_nil] at w
    cases w
    exact .nil
  | cons n ns ih =>
    intro vs w
    rw [List.map_cons] at w
    cases w with
    | cons a b =>
      cases a
      exact .cons _ _ (ih _ b)
theorem script_of {l : OpenLaw} {n : Nat} (hn : l.most = some n) {P : Params} {h : Heap} {args : List WData} {vals : List Value}
    (hpre : l.row.toRowW.claim.pre args = true) (hwl : WellAll P h vals args) :
    ∃ a vs ns, vals = [Value.ref a] ∧ args = [WData.list (ns.map WData.int)] ∧ h.get? a = some { cls := .type "list", data := .seq vs.toArray } ∧ IntsAre vs ns ∧ ns.length ≤ n := by
  have hsh : WShape.hasAll [] args [.list .int] = true := (pre_splitW hpre).1
  have hc : l.pre.holds [] { args := args } = true := (pre_splitW hpre).2
  obtain ⟨d, r, rfl, h1, h2⟩ := hasAllW_cons hsh
  obtain rfl := hasAllW_nil h2
  obtain ⟨xs, rfl, h3⟩ := hasW_list h1
  obtain ⟨ns, rfl⟩ := items_int h3
  have hlen : ns.length ≤ n := by
    unfold OpenLaw.pre at hc
    have h4 : (WTm.not (.lt (.lit (.int (n : Int))) (.len (.arg 0)))).holds [] { args := [.list (ns.map .int)] } = true := by
      have h4 := (holds_andW hc).1
      rw [hn] at h4
      exact h4
    have h5 := condW_of h4 (w_not (w_lt w_lit (w_len_list (w_arg rfl))))
    rw [List.length_map] at h5
    refine Nat.le_of_not_lt fun q => ?_
    have q' : (n : Int) < ((ns.length : Nat) : Int) := by omega
    first
      | (rw [decide_eq_true q'] at h5; exact absurd h5 (by decide))
      | (simp at h5; omega)
  cases hwl with
  | cons w1 w2 =>
    cases w2
    cases w1 with
    | list ho hall => exact ⟨_, _, ns, rfl, rfl, ho, ints_of_wellAll ns _ hall, hlen⟩
theorem post_true (l : OpenLaw) (args : List WData) : l.row.toRowW.claim.post args (.bool true) args = true :=
  postW_of (r := l.row.toRowW) (X := (true == true))
    (show WShape.has [] (.bool true) .bool = true by first | rfl | decide | simp [WShape.has, WShape.arms, WShape.armsAll])
    (show (WTm.eq .res (.lit (.bool true))).value [] { args := args, res := some (.bool true), after := args } = some (.bool (true == true)) from w_eq_bool (w_res rfl) w_lit) rfl
theorem attach_call {l : OpenLaw} {n : Nat} {q : Program} {loose : List Str} {XP : (Str → Option Value) → Heap → Prop} {YP : World → Heap → Prop} {d : DefRec}
    (hn : l.most = some n) (hdf : d.params.defaults = [])
    (call : ∀ (w : World) (s₀ s₁ : Shared) (mg mb : Str → Option Value) (fa : Addr) (o : Obj) (pm cd doc : Value) (a : Addr) (vs : List Value) (ns : List Int),
      Ground q loose [] XP w s₀ mg mb s₁.heap → YP w s₁.heap →
      s₁.heap.get? fa = some o → o.data = .func (docDef d.name d.params d.body d.scope pm cd doc) → s₁.heap.CodeRec cd d.name → mg d.name = some (.ref fa) →
      s₁.heap.get? a = some { cls := .type "list", data := .seq vs.toArray } → IntsAre vs ns → ns.length ≤ n → s₁.gens = #[] →
      codeAny (model l.prog w) callerA (.call (.ref fa) ⟨[.ref a], []⟩) (fun r s' => r = .ok (.ret (.bool true)) ∧ OldK s₁.heap s'.heap ∧ s'.os = s₁.os ∧ AllBare s'.gens) s₁) :
    WalkO q loose XP YP l.row.toRowW d [] (fun f vs => PySem.call f vs) := by
  intro w s₀ s₁ mg mb G Y fa o pm cd doc dV kV ho hd hcd hD hmg hg args vals as hpre hlay hrd hwl hlo
  obtain rfl : dV = .none := Dflts.none hD hdf
  obtain rfl : kV = .none := Dflts.noKw hD
  obtain ⟨a, vs, ns, rfl, rfl, hobj, hints, hlen⟩ := script_of hn hpre hwl
  refine enter_call (codeAny_mono (call w s₀ s₁ mg mb fa o pm cd doc a vs ns G Y ho (fd_plain hd) hcd hmg hobj hints hlen hg) fun r s' hq => ?_)
  obtain ⟨rfl, h2, h3, h4⟩ := hq
  exact ⟨.inl ⟨.bool true, .bool true, [], rfl, fun _ => rfl, .bool true, post_true l _, fun _ => ⟨List.Pairwise.nil, fun _ hm => (nomatch hm)⟩⟩, h2, h3, h4⟩
section
variable {prog : Program} {w : World} {A : Around} {E : Value → Shared → Prop} {s : Shared} {K : Frag}
def ledger (h : Heap) (L d : Addr) : List (Addr × Obj) := (List.range h.objs.size).filterMap fun a => if a = L ∨ a = d then none else (h.get? a).map fun o => (a, o)
end
end Att
namespace L2
open PySem PySem.Spec PyProof.Rows
theorem vals_ints : ∀ {vs : List Value} {ns : List Int}, IntsAre vs ns → Vals (ns.map V.int) vs
  | _, _, .nil => .nil
  | _, _, .cons n t h => .cons ⟨t, rfl⟩ (vals_ints h)
def Only (H : Hp) : Prop := ∀ b, H b = none ∨ ∃ o xs, H b = some (.frz o (.lst xs))
theorem law_call {P : Program} {w : World} {K : PySem.W.Frag} {mg mb : Str → Option Value} {CX : CXT} {k : Nat} {fa a : Addr} {fd : FuncData} {x : Str} {sp : Sp} {s₁ : Shared} {vs : List Value} {ns : List Int}
    (KX : K.In s₁.heap) (hns : s₁.heap.Ns mainGlobals mg) (hb : s₁.heap.Ns builtinsNs mb) (hbb : ∀ x : Str, x ≠ "__name__" → mb x = bootBuiltins x) (hlim : s₁.heap.NoLimit) (hg : s₁.gens = #[])
    (ha : s₁.heap.get? a = some { cls := .type "list", data := .seq vs.toArray }) (hi : IntsAre vs ns) (hl : ns.length ≤ sizeLine) (hr : Room k callerA)
    (F : ∀ base : Heap, K.In base → base.Ns mainGlobals mg → FnOk P w K mg base CX k fa fd [x] sp) (hbind : ∀ (s : Shared) (u : Value), BindsTo s fd ⟨[u], []⟩ [(x, u)])
    (hsp : ∀ H : Hp, Only H → SqL K H a (ns.map V.int) → sp [.ref a] H (fun v _ => v = .bl true) fun _ _ _ => False)
    (hCX : ∀ H e s', CX [] H s₁ (fun _ _ _ => False) e s' → False) :
    codeAny (model P w) callerA (.call (.ref fa) ⟨[.ref a], []⟩) (fun r s' => r = .ok (.ret (.bool true)) ∧ OldK s₁.heap s'.heap ∧ s'.os = s₁.os ∧ AllBare s'.gens) s₁ := by
  have rv := vals_ints hi
  have lenV := hi.length
  -- from an abstract heap in which nothing but the script may be tracked
  have core : ∀ H : Hp, Only H → SqL K H a (ns.map V.int) → HOk P w H s₁.heap → (∀ b, H b ≠ none → b = a) → (H a ≠ none → K.lookup a = none) →
      codeAny (model P w) callerA (.call (.ref fa) ⟨[.ref a], []⟩) (fun r s' => r = .ok (.ret (.bool true)) ∧ OldK s₁.heap s'.heap ∧ s'.os = s₁.os ∧ AllBare s'.gens) s₁ := by
    intro H hO hS hok hA hK
    have base_of : ∀ {b : Addr} {o : Obj}, s₁.heap.get? b = some o → H b = none → (hidT s₁.heap H).get? b = some o := fun e n => hidT_get e n
    have noA : ∀ {b : Addr} {o : Obj} {es : Array DictEntry} {ep : Nat}, s₁.heap.get? b = some o → o.data = .dict es ep → H b = none := fun {b o es ep} e d => by
      cases q : H b with
      | none => rfl
      | some u =>
        have e' : b = a := hA b (by rw [q]; simp)
        subst e'
        rw [ha] at e; cases e
        have d' : Data.seq vs.toArray _ = Data.dict es ep := d
        cases d'
    have nsK : ∀ {b : Addr} {m : Str → Option Value}, s₁.heap.Ns b m → (hidT s₁.heap H).Ns b m := fun {b m} ⟨o, es, ep, e, d, r⟩ => ⟨o, es, ep, base_of e (noA e d), d, r⟩
    have hKb : K.In (hidT s₁.heap H) := fun b o e => base_of (KX b o e) (by
      cases q : H b with
      | none => rfl
      | some u =>
        have e' : b = a := hA b (by rw [q]; simp)
        subst e'
        rw [hK (by rw [q]; simp)] at e; cases e)
    have hM : Mod K mg (hidT s₁.heap H) := ⟨hKb, nsK hns, ⟨mb, nsK hb, hbb⟩, let ⟨mc, h1, h2⟩ := hlim; ⟨mc, nsK h1, h2⟩⟩
    have e0 : Env0 P w K mg (hidT s₁.heap H) callerA [] s₁ H := ⟨rfl, hM, fun b o e => of_hidT e, Nat.le_of_eq (hidT_size _ _), trivial, fun b hb => absurd (show b ∈ ([] : List Addr) from hb) (by simp), hok, .of_eq hg⟩
    refine codeAny_mono ((F _ hKb (nsK hns)).run callerA [] s₁ H ⟨[.ref a], []⟩ [.ref a] [.ref a] _ _ hr e0 (hbind s₁ (.ref a)) (.cons rfl .nil) (hsp H hO hS)) fun r s' h => ?_
    cases r with
    | error e => exact (hCX H e s' h).elim
    | ok fl =>
      cases fl with
      | next => exact False.elim h
      | brk => exact False.elim h
      | cont => exact False.elim h
      | ret u =>
        obtain ⟨v, H', os, bare, un, hok', r', q⟩ := h
        have q' : v = .bl true := q
        subst q'
        obtain rfl : u = Value.bool true := r'
        refine ⟨rfl, OldK.of_keep fun b o e => ?_, os, bare⟩
        cases q : H b with
        | none => exact un.keep b o e q (by intro z; exact absurd (show b ∈ ([] : List Addr) from z) (by simp)) (by simp)
        | some u =>
          rcases hO b with z | ⟨ob, xs, z⟩
          · rw [q] at z; cases z
          · have z2 := un.frzs b ob _ z
            obtain ⟨e1, _⟩ := hok b _ z
            obtain ⟨e2, _⟩ := hok' b _ z2
            rw [e] at e1; cases e1
            exact e2
  cases hk : K.lookup a with
  | some o =>
    -- the script is one of the module's own objects
    have e := KX a o hk
    rw [ha] at e
    cases e
    refine core (fun _ => none) (fun _ => .inl rfl) (.inr ⟨_, vs.toArray, _, hk, rfl, rfl, rfl, by rw [List.size_toArray, lenV]; exact hl, by simpa using rv⟩) (fun b u z => by have z' : (none : Option HO) = some u := z; cases z') (fun b z => absurd rfl z) fun z => absurd rfl z
  | none =>
    refine core (fun b => if b = a then some (.frz { cls := .type "list", data := .seq vs.toArray } (.lst (ns.map V.int))) else none) (fun b => ?_) (.inl (.inr ⟨{ cls := .type "list", data := .seq vs.toArray }, if_pos rfl⟩)) (fun b u z => ?_) (fun b z => ?_) fun _ => hk
    · by_cases hb : b = a
      · exact .inr ⟨_, _, if_pos hb⟩
      · exact .inl (if_neg hb)
    · by_cases hb : b = a
      · have z' := (if_pos hb).symm.trans z
        cases z'
        subst hb
        exact ⟨ha, by rw [List.length_map]; exact hl, vs, _, rv, ha⟩
      · have z' := (if_neg hb).symm.trans z
        cases z'
    · by_cases hb : b = a
      · exact hb
      · exact absurd (if_neg hb) z
end L2
namespace L2
open PySem PySem.Spec PyProof.Rows
theorem walk_of {l : PySem.W.OpenLaw} {n k : Nat} {q : Program} {loose : List Str} {XP : (Str → Option Value) → Heap → Prop} {YP : World → Heap → Prop} {d : DefRec} {K : Params → PySem.W.Frag} {CX : World → CXT} {sp : World → Sp} {x : Str}
    (hn : l.most = some n) (hn2 : n ≤ sizeLine) (hdf : d.params.defaults = []) (hr : Room k callerA)
    (hY : ∀ (w : World) (h : Heap), YP w h → (K w.params).In h)
    (F : ∀ (w : World) (mg : Str → Option Value) (fa : Addr) (h : Heap), (K w.params).In h → h.Ns mainGlobals mg → mg d.name = some (.ref fa) →
      ∃ fd : FuncData, (∀ (s : Shared) (u : Value), BindsTo s fd ⟨[u], []⟩ [(x, u)]) ∧
        ∀ base : Heap, (K w.params).In base → base.Ns mainGlobals mg → FnOk l.prog w (K w.params) mg base (CX w) k fa fd [x] (sp w))
    (hsp : ∀ (w : World) (H : Hp) (a : Addr) (ns : List Int), ns.length ≤ n → Only H → SqL (K w.params) H a (ns.map V.int) → sp w [.ref a] H (fun v _ => v = .bl true) fun _ _ _ => False)
    (hCX : ∀ (w : World) (H : Hp) (s : Shared) (e : Value) (s' : Shared), CX w [] H s (fun _ _ _ => False) e s' → False) :
    PySem.W.WalkO q loose XP YP l.row.toRowW d [] (fun f vs => PySem.call f vs) := by
  refine Att.attach_call hn hdf fun w s₀ s₁ mg mb fa o pm cd doc a vs ns G Y ho hd hcd hmg hobj hints hlen hg => ?_
  have KX := hY w _ Y
  obtain ⟨fd, hb, hF⟩ := F w mg fa _ KX G.T.g hmg
  exact law_call KX G.T.g G.T.b G.T.builtins G.T.nolimit hg hobj hints (Nat.le_trans hlen hn2) hr hF hb (fun H hO hS => hsp w H a ns hlen hO hS) fun H e s' => hCX w H s₁ e s'
theorem walk_ofK {l : PySem.W.OpenLaw} {n k : Nat} {q : Program} {loose : List Str} {XP : (Str → Option Value) → Heap → Prop} {YP : World → Heap → Prop} {d : DefRec} {K : Params → PySem.W.Frag} {CX : CXT} {sp : PySem.W.Frag → Sp} {x : Str}
    (hn : l.most = some n) (hn2 : n ≤ sizeLine) (hdf : d.params.defaults = []) (hr : Room k callerA)
    (hY : ∀ (w : World) (h : Heap), YP w h → (K w.params).In h)
    (F : ∀ (w : World) (mg : Str → Option Value) (fa : Addr) (h : Heap), (K w.params).In h → h.Ns mainGlobals mg → mg d.name = some (.ref fa) →
      ∃ fd : FuncData, (∀ (s : Shared) (u : Value), BindsTo s fd ⟨[u], []⟩ [(x, u)]) ∧
        ∀ base : Heap, (K w.params).In base → base.Ns mainGlobals mg → FnOk l.prog w (K w.params) mg base CX k fa fd [x] (sp (K w.params)))
    (hsp : ∀ (K : PySem.W.Frag) (H : Hp) (a : Addr) (ns : List Int), ns.length ≤ n → Only H → SqL K H a (ns.map V.int) → sp K [.ref a] H (fun v _ => v = .bl true) fun _ _ _ => False)
    (hCX : ∀ (H : Hp) (s : Shared) (e : Value) (s' : Shared), CX [] H s (fun _ _ _ => False) e s' → False) :
    PySem.W.WalkO q loose XP YP l.row.toRowW d [] (fun f vs => PySem.call f vs) :=
  walk_of (K := K) (CX := fun _ => CX) (sp := fun w => sp (K w.params)) hn hn2 hdf hr hY F (fun w H a ns h1 h2 h3 => hsp (K w.params) H a ns h1 h2 h3) fun _ H s e s' => hCX H s e s'
end L2
/- THE LAST THEOREM (shape; LID, My.* are yours):
   My.Adr: a structure of the addresses that your layer names (classes, functions); My.Txt K t: a structure (Prop) of the equations over K;
   My.txt_mk : {K} {implicit addresses ..} (e1 : nsIn K mainGlobals "law" = some (some (.ref f))) (e2 : K.lookup f = some ⟨oc, od, .func (fnOf "law" "law" params body scope dV kV doc pm an cdv ct), sl⟩) (e3 : codeIn K cdv "law" = true) .. : ∃ t, My.Txt K t
set_option maxRecDepth 100000 in
set_option maxHeartbeats 0 in
(the tactic k_is has no namespace: write k_is) -/
namespace L2
open PySem PySem.Spec PyProof.Rows
def inClass (s : Stmt) (j : Nat) : Stmt := match s with
  | .ClassDef _ _ _ body _ _ _ _ _ _ _ => body.getD j (.Pass ⟨0, 0, 0, 0⟩)
  | _ => .Pass ⟨0, 0, 0, 0⟩
def defArgs (s : Stmt) : Arguments := match s with
  | .FunctionDef _ a _ _ _ _ _ _ _ _ => a
  | _ => { posonlyargs := [], args := [], vararg := none, kwonlyargs := [], kw_defaults := [], kwarg := none, defaults := [] }
def defBody (s : Stmt) : List Stmt := match s with
  | .FunctionDef _ _ b _ _ _ _ _ _ _ => b
  | _ => []
def defScope (s : Stmt) : Scope := match s with
  | .FunctionDef _ _ _ _ _ _ sc _ _ _ => sc
  | _ => { kind := .function, names := [], isGenerator := false, isCoroutine := false }
abbrev CX0 : CXT := fun _ _ _ _ _ _ => False
abbrev E0 : XK := fun _ _ _ => False
theorem pass0 {X : Cx} : Passes CX0 X E0 := fun _ _ _ _ _ _ _ h => h.elim
structure Fun (K : PySem.W.Frag) (x qual : Str) (st : Stmt) (f : Addr) (fd : FuncData) : Prop where
  ex : ∃ (oc : Value) (od : Option Addr) (kV doc pm : Value) (an : Option Addr) (cdv ct : Value) (osl : Array (Option Value)),
    fd = PySem.W.fnOf x qual (defArgs st) (defBody st) (defScope st) .none kV doc pm an cdv ct ∧ K.lookup f = some ⟨oc, od, .func fd, osl⟩ ∧ PySem.W.codeIn K cdv qual = true
  kp : PySem.W.keepIn K (.ref f) = true
section
variable {P : Program} {w : World} {K : PySem.W.Frag} {mg : Str → Option Value} {base : Heap}
theorem Fun.ok {x qual : Str} {st : Stmt} {f : Addr} {fd : FuncData} {N ps : List Str} {k : Nat} {sp : Sp} (F : Fun K x qual st f fd) (S : FnScope N ps (defScope st)) (len : ∀ vs H Q E, sp vs H Q E → vs.length = ps.length)
    (hbody : ∀ (cdv : Value) (A : Around) (outer : List Env) (s : Shared) (H : Hp) (vs : List V) (Q : VK) (E : XK), Room k (A.deeper (envOfC qual (defScope st) s.heap.objs.size f cdv)) → sp vs H Q E →
      ∃ t, PSs (cxOf CX0 P w K mg base N qual (defScope st) f cdv A outer s H E).nox (defBody st) t ∧ t { nx := fun _ H' => Q .non H', rt := Q } (start N vs) H) : FnOk P w K mg base CX0 (k + 1) f fd ps sp := by
  obtain ⟨oc, od, kV, doc, pm, an, cdv, ct, osl, rfl, lk, hcd⟩ := F.ex
  refine fn_of lk hcd S len fun A outer s H vs Q E hr hsp => ?_
  obtain ⟨t, h, q⟩ := hbody cdv A outer s H vs Q E hr hsp
  exact ⟨t, h.nox, q⟩
theorem Fun.binds {x qual : Str} {st : Stmt} {f : Addr} {fd : FuncData} {ps : List Str} (F : Fun K x qual st f fd)
    (h : ∀ (kV doc pm : Value) (an : Option Addr) (cdv ct : Value) (us : List Value), us.length = ps.length → bindArgs (PySem.W.fnOf x qual (defArgs st) (defBody st) (defScope st) .none kV doc pm an cdv ct) ⟨us, []⟩ = pure (ps.zip us)) : Binds K fd ps [] := by
  obtain ⟨oc, od, kV, doc, pm, an, cdv, ct, osl, rfl, lk, hcd⟩ := F.ex
  exact .all (h kV doc pm an cdv ct)
theorem fun_mk {x qual : Str} {st : Stmt} {f : Addr} {oc : Value} {od an : Option Addr} {osl : Array (Option Value)} {kV doc pm cdv ct : Value} (l : K.lookup f = some ⟨oc, od, .func (PySem.W.fnOf x qual (defArgs st) (defBody st) (defScope st) .none kV doc pm an cdv ct), osl⟩)
    (c : PySem.W.codeIn K cdv qual = true) (k : PySem.W.keepIn K (.ref f) = true) : Fun K x qual st f (PySem.W.fnOf x qual (defArgs st) (defBody st) (defScope st) .none kV doc pm an cdv ct) := ⟨⟨oc, od, kV, doc, pm, an, cdv, ct, osl, rfl, l, c⟩, k⟩
end
theorem hu_of {A : Around} {k : Nat} (hr : Room k A) : A.units + 1 < cLine := Nat.lt_of_le_of_lt (Nat.add_le_add_left (by decide : 1 ≤ 64) _) hr.units
section
variable {X : Cx}
theorem pv (i : Nat) {x : Str} {pos : Pos} (hN : X.N[i]? = some x := by rfl) (hv : Vis X.env.scope x := by first | exact Or.inl rfl | exact Or.inr (Or.inl rfl) | exact Or.inr (Or.inr rfl)) (hd : (x == ("__debug__" : Str)) = false := by decide)
    (hcd : (x == ("__classdict__" : Str)) = false := by decide) : PE X (.Name x pos) (tVar i) := by
  first
  | exact (pe_var hN hv hd hcd)
  | (unfold PE at *; exact (pe_var hN hv hd hcd))
theorem call_lenD : CallR X (.builtin "len") (fun xs H Q => ∃ a kvs, xs = [V.ref a] ∧ H a = some (.dK kvs) ∧ Q (.int kvs.length) H) := by
  unfold CallR at *
  exact by
    intro pins s σ H xs us Q I r h
    obtain ⟨a, kvs, rfl, ha, q⟩ := h
    obtain ⟨u, rfl, ru⟩ := vals1 r
    cases ru
    exact d_len I (.inl ha) fun t s' I' => ⟨.int kvs.length, H, I', ⟨t, rfl⟩, q⟩
end
theorem iteF {A B : Prop} (h : B) : if false = true then A else B := by
  rw [if_neg Bool.false_ne_true]
  exact h
theorem iteT {A B : Prop} (h : A) : if true = true then A else B := by
  rw [if_pos rfl]
  exact h
theorem ite2 {c A B : Prop} [Decidable c] (h1 : c → A) (h2 : ¬ c → B) : if c then A else B := by
  by_cases h : c
  · rw [if_pos h]
    exact h1 h
  · rw [if_neg h]
    exact h2 h
def Same (H H' : Hp) : Prop := ∀ b o, H b = some o → H' b = some o
theorem Same.refl (H : Hp) : Same H H := fun _ _ h => h
theorem Same.trans {H H1 H2 : Hp} (a : Same H H1) (b : Same H1 H2) : Same H H2 := fun c o h => b c o (a c o h)
theorem Same.free {H H' : Hp} (e : Same H H') {l : Addr} (h : H' l = Option.none) : H l = Option.none := by
  cases q : H l with
  | none => rfl
  | some o =>
    rw [e l o q] at h
    cases h
theorem Same.seq {K : PySem.W.Frag} {H H' : Hp} {a : Addr} {xs : List V} (e : Same H H') (h : SqL K H a xs) : SqL K H' a xs := by
  rcases h with (h | ⟨o, h⟩) | h
  · exact .inl (.inl (e _ _ h))
  · exact .inl (.inr ⟨o, e _ _ h⟩)
  · exact .inr h
section
variable {κ : Type} [DecidableEq κ]
end
end L2
set_option maxHeartbeats 4000000
namespace L2
open PySem PySem.Spec PyProof.Rows
section
variable {X : Cx} {a b c : Expr} {ta tb tc : TE} {pos : Pos}
inductive ClsV : V → Value → Prop where
  | ty (n : String) : ClsV (.ty n) (.type n)
  | own (C : Addr) : ClsV (.ref C) (.ref C)
def rIsi (K : PySem.W.Frag) : List V → Hp → VK → Prop := fun xs H Q => ∃ x c cv t b, xs = [x, c] ∧ ClsV c cv ∧ TyOf K H x t ∧ PySem.W.kitOne K t cv = some b ∧ Q (.bl b) H
theorem call_isi : CallR X (.builtin "isinstance") (rIsi X.K) := by
  unfold CallR at *
  exact by
    intro pins s σ H xs us Q I rv h
    obtain ⟨x, c, cv, t, b, rfl, hc, ty, e, q⟩ := h
    obtain ⟨u, cu, rfl, ru, rc⟩ := rv.two
    have ec : cu = cv := by cases hc <;> exact rc
    subst ec
    exact isinst_ok I ru ty e fun tk => ⟨.bl b, H, I.tok tk, rfl, q⟩
end
end L2
namespace L2
open PySem PySem.Spec PyProof.Rows
/- what a block's context hangs on: the closure's cells, the state and abstract heap ahead of the block, the iterator's records -/
set_option genInjectivity false in
set_option genSizeOfSpec false in
set_option genSizeOf false in
structure Bk where
  cl : List (Str × Addr)
  s2 : Shared
  H2 : Hp
  fp : List Addr
def cxComp (X : Cx) (scope : Scope) (N' : List Str) (B : Bk) : Cx :=
  { X with N := N', s₀ := B.s2, H₀ := B.H2, env := compEnvC scope B.cl B.s2.heap.objs.size X.env, outer := X.stack, stack := X.stack, ex := B.fp, fn := fun _ => false, pn := [], xe := fun _ _ => False }
def capS (js : List (Option Nat)) (σ : St) : St := js.map fun o => o.bind fun j => (σ[j]?).join
structure Cap (X : Cx) (scope : Scope) (N' : List Str) (js : List (Option Nat)) : Prop where
  len : js.length = N'.length
  ok : ∀ (i j : Nat) (x : Str), js[i]? = some (some j) → N'[i]? = some x → X.N[j]? = some x ∧ scope.names.lookup x = some .free ∧ (X.env.kindOf x = some .cell ∨ X.env.kindOf x = some .free)
theorem closure_go {env : Env} : ∀ (names : List (Str × NameKind)) (cs : List (Str × Addr)), (∀ x ∈ names, x.2 = .free → ∃ c, env.cells.lookup x.1 = some c) → (∀ x c, cs.lookup x = some c → env.cells.lookup x = some c) →
    ∃ cl, (forIn names cs (fun (x : Str × NameKind) (r : List (Str × Addr)) => match x with
      | (name, kind) => if (kind == NameKind.free) = true then (do let y ← cellOf env name; pure (ForInStep.yield ((name, y) :: r))) else pure (ForInStep.yield r)) : Sem (List (Str × Addr))) = pure cl ∧
      (∀ x c, cl.lookup x = some c → env.cells.lookup x = some c) ∧ (∀ x c, cs.lookup x = some c → ∃ c', cl.lookup x = some c') ∧ ∀ x, (x, NameKind.free) ∈ names → ∃ c, cl.lookup x = some c := by
  intro names
  induction names with
  | nil => intro cs _ h2; exact ⟨cs, rfl, h2, fun x c e => ⟨c, e⟩, fun x hx => absurd hx (by simp)⟩
  | cons y r ih =>
    intro cs h1 h2
    obtain ⟨n, k⟩ := y
    have h1r : ∀ x ∈ r, x.2 = .free → ∃ c, env.cells.lookup x.1 = some c := fun x hx => h1 x (List.mem_cons_of_mem _ hx)
    by_cases hk : k = .free
    · subst hk
      obtain ⟨c, hc⟩ := h1 (n, .free) List.mem_cons_self rfl
      have h2' : ∀ x d, List.lookup x ((n, c) :: cs) = some d → env.cells.lookup x = some d := fun x d e => by
        by_cases hx : x = n
        · subst hx
          simp only [List.lookup_cons, beq_self_eq_true] at e
          rw [hc]; exact e
        · have hb : (x == n) = false := by simpa using hx
          simp only [List.lookup_cons, hb] at e
          exact h2 x d e
      obtain ⟨cl, e1, e2, e3, e4⟩ := ih ((n, c) :: cs) h1r h2'
      refine ⟨cl, ?_, e2, fun x d e => ?_, fun x hx => ?_⟩
      · rw [List.forIn_cons]
        have q : cellOf env n = pure c := by unfold cellOf; rw [hc]
        show ((if (NameKind.free == NameKind.free) = true then (do let y ← cellOf env n; pure (ForInStep.yield ((n, y) :: cs))) else pure (ForInStep.yield cs)) >>= _) = _
        rw [if_pos (by decide), q]
        exact e1
      · by_cases hx : x = n
        · exact e3 x c (by subst hx; simp [List.lookup_cons])
        · exact e3 x d (by have hb : (x == n) = false := by simpa using hx
                           simp only [List.lookup_cons, hb]; exact e)
      · rcases List.mem_cons.mp hx with z | z
        · injection z with z1 _
          exact e3 x c (by subst z1; simp [List.lookup_cons])
        · exact e4 x z
    · obtain ⟨cl, e1, e2, e3, e4⟩ := ih cs h1r h2
      refine ⟨cl, ?_, e2, e3, fun x hx => ?_⟩
      · rw [List.forIn_cons]
        have hb : (k == NameKind.free) = false := by simpa using hk
        show ((if (k == NameKind.free) = true then _ else pure (ForInStep.yield cs)) >>= _) = _
        rw [if_neg (by rw [hb]; decide)]
        exact e1
      · rcases List.mem_cons.mp hx with z | z
        · injection z with _ z2
          exact absurd z2.symm hk
        · exact e4 x z
theorem closure_of {scope : Scope} {env : Env} (h : ∀ x ∈ scope.names, x.2 = .free → ∃ c, env.cells.lookup x.1 = some c) :
    ∃ cl, closureFor scope env = pure cl ∧ (∀ x c, cl.lookup x = some c → env.cells.lookup x = some c) ∧ ∀ x, (x, NameKind.free) ∈ scope.names → ∃ c, cl.lookup x = some c := by
  obtain ⟨cl, e1, e2, _, e4⟩ := closure_go (env := env) scope.names [] h (fun x c e => by simp at e)
  refine ⟨cl, ?_, e2, e4⟩
  have q : closureFor scope env = (forIn scope.names [] (fun (x : Str × NameKind) (r : List (Str × Addr)) => match x with
      | (name, kind) => if (kind == NameKind.free) = true then (do let y ← cellOf env name; pure (ForInStep.yield ((name, y) :: r))) else pure (ForInStep.yield r)) : Sem (List (Str × Addr))) >>= fun r => pure r := rfl
  rw [q, e1]
  rfl
theorem relabel_free {env : Env} : ∀ {names : List (Str × NameKind)} {x : Str}, names.lookup x = some .free →
    (names.map fun (n, k) => if (k == NameKind.free && env.scope.kind == .function && env.kindOf n == some .cell) then (n, NameKind.cell) else (n, k)).lookup x = some .cell ∨
    (names.map fun (n, k) => if (k == NameKind.free && env.scope.kind == .function && env.kindOf n == some .cell) then (n, NameKind.cell) else (n, k)).lookup x = some .free
  | [], _, h => by simp at h
  | (n, k) :: r, x, h => by
    have ih := @relabel_free env r x
    simp only [List.map_cons]
    cases hx : x == n with
    | true =>
      simp only [List.lookup_cons, hx] at h
      cases h
      by_cases hc : (NameKind.free == NameKind.free && env.scope.kind == .function && env.kindOf n == some .cell) = true
      · rw [if_pos hc]; left; simp only [List.lookup_cons, hx]
      · rw [if_neg hc]; right; simp only [List.lookup_cons, hx]
    | false =>
      simp only [List.lookup_cons, hx] at h
      by_cases hc : (k == NameKind.free && env.scope.kind == .function && env.kindOf n == some .cell) = true
      · rw [if_pos hc]; simp only [List.lookup_cons, hx]; exact ih h
      · rw [if_neg hc]; simp only [List.lookup_cons, hx]; exact ih h
theorem relabel_inv {env : Env} : ∀ {names : List (Str × NameKind)} {x : Str},
    ((names.map fun (n, k) => if (k == NameKind.free && env.scope.kind == .function && env.kindOf n == some .cell) then (n, NameKind.cell) else (n, k)).lookup x = some .cell ∨
    (names.map fun (n, k) => if (k == NameKind.free && env.scope.kind == .function && env.kindOf n == some .cell) then (n, NameKind.cell) else (n, k)).lookup x = some .free) →
    names.lookup x = some .cell ∨ names.lookup x = some .free
  | [], _, h => by simp at h
  | (n, k) :: r, x, h => by
    have ih := @relabel_inv env r x
    simp only [List.map_cons] at h
    cases hx : x == n with
    | true =>
      simp only [List.lookup_cons, hx]
      by_cases hc : (k == NameKind.free && env.scope.kind == .function && env.kindOf n == some .cell) = true
      · right
        have : k = .free := by
          simp only [Bool.and_eq_true] at hc
          simpa using hc.1.1
        rw [this]
      · rw [if_neg hc] at h
        simp only [List.lookup_cons, hx] at h
        exact h
    | false =>
      simp only [List.lookup_cons, hx]
      apply ih
      by_cases hc : (k == NameKind.free && env.scope.kind == .function && env.kindOf n == some .cell) = true
      · rw [if_pos hc] at h; simp only [List.lookup_cons, hx] at h; exact h
      · rw [if_neg hc] at h; simp only [List.lookup_cons, hx] at h; exact h
theorem comp_start {X : Cx} {pins : List (Addr × Obj)} {σ : St} {H2 : Hp} {s2 : Shared} {scope : Scope} {cl : List (Str × Addr)} {N' : List Str} {js : List (Option Nat)} {fp : List Addr} {h' : Heap} {t' : Nat} {m0 : Str → Option Value}
    (I : Inv X pins σ H2 s2) (hk : scope.kind = .function) (hcell : ∀ y ∈ scope.names, y.2 ≠ .cell)
    (hf : ∀ b ∈ fp, FpOk X pins H2 b) (ho : ∀ b ∈ fp, ∃ o, s2.heap.get? b = some o)
    (c1 : ∀ x c, cl.lookup x = some c → X.env.cells.lookup x = some c) (c2 : ∀ x, (x, NameKind.free) ∈ scope.names → ∃ c, cl.lookup x = some c)
    (cap : Cap X scope N' js) (ns : h'.Ns s2.heap.objs.size m0) (sb : ∀ b o, s2.heap.get? b = some o → h'.get? b = some o) :
    Inv (cxComp X scope N' ⟨cl, s2, H2, fp⟩) [] (capS js σ) H2 { s2 with heap := h', toks := t' } := by
  have isc : ∀ c v, s2.heap.IsCell c v → h'.IsCell c v := fun c v ⟨o, e, d⟩ => ⟨o, sb _ _ e, d⟩
  refine ⟨⟨I.ok.mod, hk, I.ok.glob, I.ok.blt, Nat.le_refl _, fun x y c h1 h2 => I.ok.inj x y c (c1 x c h1) (c1 y c h2), fun x hx => ?_, fun x c h => absurd h (by simp [cxComp]), I.ok.hd, I.ok.frames, .inl rfl, fun b hb => ⟨?_, fun x c e => ?_⟩, I.bs, Nat.le_trans I.ok.bsz I.sz,
    fun b o e hb => ?_, fun b hb hs => ?_, I.stack, I.stkFree⟩, rfl, I.bare, Un.kept sb, ⟨m0, ns, fun i x v e1 e2 e3 => ?_⟩, fun x c e => ?_, I.hok.fresh (Nat.le_refl _), fun x c e => I.freeC x c (c1 x c e), fun p hp => absurd hp (by simp [cxComp]), I.hok.kept sb, ?_⟩
  · have hx' := relabel_inv (env := X.env) (names := scope.names) (x := x) hx
    rcases hx' with z | z
    · exact absurd rfl (hcell _ (PySem.mem_of_lookup z))
    · exact c2 x (PySem.mem_of_lookup z)
  · obtain ⟨o, e⟩ := ho b hb
    exact Nat.ne_of_lt (Heap.lt_size e)
  · exact (hf b hb).2.2.2.2.1 x c (c1 x c e)
  · rcases (hf b hb).2.2.2.1 with z | z
    · exact I.ok.noex b o e z
    · exact absurd (Nat.lt_of_lt_of_le (Heap.lt_size e) (Nat.le_trans I.ok.bsz z)) (Nat.lt_irrefl _)
  · rcases List.mem_cons.mp (I.stkSub b hs) with z | z
    · exact (hf b hb).2.1 z
    · exact (hf b hb).2.2.1 z
  · have e2' : ((js.map fun o => o.bind fun j => (σ[j]?).join) : St)[i]? = some (some v) := e2
    rw [List.getElem?_map] at e2'
    cases q : js[i]? with
    | none => rw [q] at e2'; cases e2'
    | some o =>
      rw [q] at e2'
      cases o with
      | none => simp at e2'
      | some j =>
        have q2 : (σ[j]?).join = some v := by simpa using e2'
        have q3 : σ[j]? = some (some v) := by
          cases z : σ[j]? with
          | none => rw [z] at q2; cases q2
          | some w => rw [z] at q2; exact congrArg some q2
        obtain ⟨n1, n2, n3⟩ := cap.ok i j x q e1
        obtain ⟨m, hm, hl⟩ := I.loc
        obtain ⟨u, r, l⟩ := hl j x v n1 q3 (.inr n3)
        refine ⟨u, r, .inr ⟨relabel_free (env := X.env) n2, ?_⟩⟩
        obtain ⟨c, hc⟩ := c2 x (PySem.mem_of_lookup n2)
        refine ⟨c, hc, ?_⟩
        rcases l with ⟨l, _⟩ | ⟨_, c', e', z'⟩
        · rcases n3 with n3 | n3 <;> (rw [n3] at l; cases l)
        · have := c1 x c hc
          rw [e'] at this; cases this
          exact isc _ _ z'
  · obtain ⟨v, z⟩ := I.cell x c (c1 x c e)
    exact ⟨v, isc _ _ z⟩
  · show (js.map _).length = N'.length
    rw [List.length_map]; exact cap.len
@[irreducible] def PIfs (X : Cx) (ifs : List Expr) (t : TT) : Prop :=
  ∀ (pins : List (Addr × Obj)) (s : Shared) (σ : St) (H : Hp) (Q : Bool → Hp → Prop), Inv X pins σ H s → t σ H Q →
    wpAny (model X.prog X.w) X.A (forIn ifs true fun c r => if r = true then do let ok ← isTrue c X.env (eval c X.env); pure (ForInStep.yield ok) else pure (ForInStep.yield r)) (TP X pins σ Q) X.xe s
def tAll : TT := fun _ H Q => Q true H
theorem pifs_nil {X : Cx} : PIfs X [] tAll := by
  first
  | exact (fun _ _ _ H _ I h => wpAny_tests_nil ⟨H, I, h⟩)
  | (unfold PIfs at *; exact (fun _ _ _ H _ I h => wpAny_tests_nil ⟨H, I, h⟩))
theorem pifs_one {X : Cx} {c : Expr} {t : TT} (hc : PT X c t) : PIfs X [c] t := by
  first
  | exact (fun pins s σ H Q I h => wpAny_tests_one (hc pins s σ H Q I h))
  | (unfold PT at *; unfold PIfs at *; exact (fun pins s σ H Q I h => wpAny_tests_one (hc pins s σ H Q I h)))
section
variable {prog : Program} {w : World} {A : Around} {R : Result → Shared → Prop} {s : Shared}
theorem compLoop_go {elt target iter : Expr} {ifs : List Expr} {scope : Scope} {pos : Pos} {it acc : Value} {env : Env} (I : Nat → Shared → Prop)
    (turn : ∀ n s, I n s → wpAny (model prog w) A (pyNext it) (fun r s₁ => match r with
      | none => R (.ok .next) s₁
      | some v => wpAny (model prog w) A (letOwnedTupleGo target it v) (fun _ s₁ => wpAny (model prog w) A (assign target env v) (fun _ s₂ =>
          wpAny (model prog w) A (forIn ifs true fun c r => if r = true then do let ok ← isTrue c env (eval c env); pure (ForInStep.yield ok) else pure (ForInStep.yield r)) (fun ok s₃ =>
            if ok = true then wpAny (model prog w) A (eval elt env) (fun x s₄ =>
              wpAny (model prog w) A (call (.builtin "list.append") [acc, x]) (fun _ s₅ => ∃ m, m < n ∧ I m s₅) (fun _ _ => False) s₄) (fun _ _ => False) s₃
            else ∃ m, m < n ∧ I m s₃) (fun _ _ => False) s₂) (fun _ _ => False) s₁) (fun _ _ => False) s₁) (fun _ _ => False) s)
    (n : Nat) (h : I n s) :
    codeAny (model prog w) A (.compLoop (.ListComp elt [⟨target, iter, ifs, 0⟩] scope pos) 0 it acc env) R s := by
  refine codeAny_loop rfl I (fun n s hI => ?_) n h
  show wpAny _ A ((compTurn (.ListComp elt [⟨target, iter, ifs, 0⟩] scope pos) 0 it acc env).onRaise (fun x => do noteFrame x env; theTreesLotGoes x)) _ _ s
  refine wpAny_noted ?_
  rw [compTurn_list]
  refine wpAny_bind (wpAny_standAt (wpAny_bind (wpAny_mono (turn n s hI) (fun r s₁ h₁ => ?_) fun _ _ h' => h'.elim)))
  cases r with
  | none => exact wpAny_pure h₁
  | some v =>
    refine wpAny_bind (wpAny_mono h₁ (fun _ s₁ h₁ => ?_) fun _ _ h' => h'.elim)
    refine wpAny_bind (wpAny_mono h₁ (fun _ s₂ h₂ => wpAny_bind (wpAny_mono h₂ (fun ok s₃ h₃ => ?_) fun _ _ h' => h'.elim)) fun _ _ h' => h'.elim)
    cases ok with
    | false => exact wpAny_pure ⟨rfl, h₃⟩
    | true =>
      exact wpAny_bind (wpAny_bind (wpAny_mono h₃ (fun x s₄ h₄ => wpAny_bind (wpAny_mono h₄ (fun _ s₅ h₅ => wpAny_pure (wpAny_pure ⟨rfl, h₅⟩)) fun _ _ h' => h'.elim)) fun _ _ h' => h'.elim))
end
def tLoop (J : It) (l : Addr) (g : TG) (tc : TT) (te : TE) (σ : St) (H : Hp) (Q : VK) : Prop :=
  ∃ W : Nat → Nat → St → List V → Hp → Prop, (∃ m, W 0 m σ [] H) ∧ ∀ i m σ acc H, W i m σ acc H → H l = some (.lst acc) ∧ ((J.stop i H ∧ Q (.ref l) H) ∨
    (J.go i H ∧ acc.length < sizeLine ∧ ∀ x H', J.yld i H x H' → g x σ H' fun σ2 H2 => tc σ2 H2 fun b H3 => if b = true then
      te σ2 H3 fun v H4 => H4 l = some (.lst acc) ∧ ∃ m', m' < m ∧ W (i + 1) m' σ2 (acc ++ [v]) (upd H4 l (.lst (acc ++ [v])))
      else ∃ m', m' < m ∧ W (i + 1) m' σ2 acc H3))
def tComp (js : List (Option Nat)) (wi : TI) (g : Bk → TG) (tc : Bk → TT) (te : Bk → TE) : TE := fun σ H Q => wi σ H fun J H1 => ∀ l B, H1 l = none → tLoop J l (g B) (tc B) (te B) (capS js σ) (upd H1 l (.lst [])) Q
section
variable {X : Cx} {elt tg iter : Expr} {ifs : List Expr} {scope : Scope} {pos : Pos} {N' : List Str} {js : List (Option Nat)} {wi : TI} {g : Bk → TG} {tc : Bk → TT} {te : Bk → TE}
theorem comp_block {pins : List (Addr × Obj)} {σ : St} {H1 : Hp} {s1 : Shared} {it : Addr} {fp : List Addr} {tn : Nat → Heap → Prop} {J : It} {cl : List (Str × Addr)} {Q : VK} {RR : Value → Addr → Result → Shared → Prop}
    (hc : X.calm = true) (hk : scope.kind = .function) (hcell : ∀ y ∈ scope.names, y.2 ≠ .cell) (cap : Cap X scope N' js)
    (blk : ∀ B, PG (cxComp X scope N' B) tg (g B) ∧ PIfs (cxComp X scope N' B) ifs (tc B) ∧ PE (cxComp X scope N' B) elt (te B))
    (c1 : ∀ x c, cl.lookup x = some c → X.env.cells.lookup x = some c) (c2 : ∀ x, (x, NameKind.free) ∈ scope.names → ∃ c, cl.lookup x = some c)
    (I : Inv X pins σ H1 s1) (T : Turn X.prog X.w X.K tg J fp it tn) (st : tn 0 s1.heap) (hf : ∀ b ∈ fp, FpOk X pins H1 b)
    (h : ∀ l B, H1 l = none → tLoop J l (g B) (tc B) (te B) (capS js σ) (upd H1 l (.lst [])) Q)
    (hRR : ∀ l C H' s' (m' : Str → Option Value), Inv X pins σ H' s' → Q (.ref l) H' → s'.heap.Ns C m' → H' C = none → C ≠ X.env.locals → (∀ x c, X.env.cells.lookup x = some c → c ≠ C) → C ∉ X.fs → X.s₀.heap.objs.size ≤ C → (∀ p ∈ X.pn ++ pins, p.1 ≠ C) →
      RR (.ref l) C (.ok .next) s') :
    wpAny (model X.prog X.w) X.A (newList []) (fun acc s₃ => wpAny (model X.prog X.w) X.A (newFunctionEnv scope X.env.globals cl [] X.env.qual none .none (some X.env)) (fun cenv s₄ =>
      codeAny (model X.prog X.w) X.A (.compStart (.ListComp elt [⟨tg, iter, ifs, 0⟩] scope pos) 0 (.ref it) acc { cenv with scope := relabel scope X.env }) (RR acc cenv.locals) s₄) X.xe s₃) X.xe s1 := by
  unfold PE at *; unfold PG at *; unfold PIfs at *
  exact by
    refine wpAny_newObj_type ?_
    have I2 : Inv X pins σ (upd H1 s1.heap.objs.size (.lst [])) { s1 with heap := s1.heap.push { cls := .type "list", data := .seq ([] : List Value).toArray } } := I.lnew (t' := s1.toks) .nil (Nat.zero_le _)
    have hl : H1 s1.heap.objs.size = none := I.fresh
    generalize es2 : ({ s1 with heap := s1.heap.push { cls := .type "list", data := .seq ([] : List Value).toArray } } : Shared) = s2 at I2 ⊢
    generalize el : s1.heap.objs.size = l at *
    have ne_fp : ∀ b ∈ fp, b ≠ l := fun b hb => by
      obtain ⟨o, e, _⟩ := T.obj _ _ st b hb
      rw [← el]
      exact Nat.ne_of_lt (Heap.lt_size e)
    have hf2 : ∀ b ∈ fp, FpOk X pins (upd H1 l (.lst [])) b := fun b hb => ⟨by rw [upd_ne (ne_fp b hb)]; exact (hf b hb).1, (hf b hb).2⟩
    have kp : ∀ b o, s1.heap.get? b = some o → s2.heap.get? b = some o := fun b o e => by rw [← es2]; exact Heap.get?_push_of_some _ e
    have st2 : tn 0 s2.heap := T.keep _ _ _ st fun b _ o e => kp b o e
    refine wpAny_newFunctionEnv hcell (by intro y hy; simp at hy) (fun h' ns sb => ?_) hk
    have kp2 : ∀ b o, s2.heap.get? b = some o → h'.get? b = some o := fun b o e => (sb.2 b (Nat.ne_of_lt (Heap.lt_size e))).trans (Heap.get?_push_of_some _ e)
    have st3 : tn 0 h' := T.keep _ _ _ st2 fun b _ o e => kp2 b o e
    have I3 := comp_start (t' := s2.toks + ([] : List (Str × Value)).length) (m0 := fun x => ([] : List (Str × Value)).reverse.lookup x) I2 hk hcell hf2 (fun b hb => by obtain ⟨o, e, _⟩ := T.obj _ _ st2 b hb; exact ⟨o, e⟩) c1 c2 cap ns kp2
    obtain ⟨pg, pif, pel⟩ := blk ⟨cl, s2, upd H1 l (.lst []), fp⟩
    obtain ⟨W, ⟨m0, w0⟩, turn⟩ := h l ⟨cl, s2, upd H1 l (.lst []), fp⟩ hl
    have fpY : ∀ {H' : Hp}, (∀ b ∈ fp, H' b = none) → ∀ b ∈ fp, FpOk (cxComp X scope N' ⟨cl, s2, upd H1 l (.lst []), fp⟩) [] H' b := fun {H'} hn b hb =>
      ⟨hn b hb, (I3.ok.exf b hb).1, I3.ok.exfs b hb, .inl hb, (I3.ok.exf b hb).2, fun p hp => absurd hp (by simp [cxComp])⟩
    have loop : codeAny (model X.prog X.w) X.A (.compLoop (.ListComp elt [⟨tg, iter, ifs, 0⟩] scope pos) 0 (.ref it) (.ref l) (compEnvC scope cl s2.heap.objs.size X.env)) (RR (.ref l) s2.heap.objs.size) { s2 with heap := h', toks := s2.toks + ([] : List (Str × Value)).length } := by
      refine compLoop_go (fun n s' => ∃ i σ' acc H', Inv (cxComp X scope N' ⟨cl, s2, upd H1 l (.lst []), fp⟩) [] σ' H' s' ∧ tn i s'.heap ∧ (∀ b ∈ fp, H' b = none) ∧ W i n σ' acc H') ?_ m0 ⟨0, _, _, _, I3, st3, fun b hb => (hf2 b hb).1, w0⟩
      rintro n s3 ⟨i, σ3, acc, H3, J3, t3, f3, w3⟩
      obtain ⟨hacc, alt⟩ := turn i n σ3 acc H3 w3
      rcases alt with ⟨stop, q⟩ | ⟨go, hz, step⟩
      · refine thn (T.done (cxComp X scope N' ⟨cl, s2, upd H1 l (.lst []), fp⟩) rfl rfl rfl hc i [] s3 σ3 H3 (fun _ _ => False) J3 (fpY f3) t3 stop) fun r s4 ⟨hr, J4⟩ => ?_
        subst hr
        have IX : Inv X pins σ H3 s4 := I2.call' (ch := fp) J4.os J4.base J4.hok J4.bare fun b hb => ⟨(hf2 b hb).2.2.2.1, (hf2 b hb).2.1, (hf2 b hb).2.2.2.2.1, (hf2 b hb).2.2.2.2.2⟩
        obtain ⟨m', hn', _⟩ := J4.loc
        refine hRR l s2.heap.objs.size H3 s4 m' IX q hn' J4.free (Nat.ne_of_gt I2.lt) (fun x c e => ?_) (I2.nofs (Nat.le_refl _)) I2.sz fun p hp => Nat.ne_of_lt (Heap.lt_size (I2.pin p hp).1)
        obtain ⟨v, z⟩ := I2.cell x c e
        exact Nat.ne_of_lt z.lt
      · refine thn (T.item (cxComp X scope N' ⟨cl, s2, upd H1 l (.lst []), fp⟩) rfl rfl rfl hc i [] s3 σ3 H3 (fun _ _ => False) J3 (fpY f3) t3 go) fun r s4 ⟨u, hr, h4⟩ => ?_
        subst hr
        refine thn h4 fun _ s5 ⟨x, H5, J5, r5, y5, t5, f5⟩ => ?_
        have J5' := J5.pinned (fpY f5) (T.obj _ _ t5)
        refine thn (pg _ s5 σ3 H5 x u _ J5' r5 (step x H5 y5)) fun _ s6 ⟨σ6, H6, J6, q6⟩ => ?_
        refine thn (pif _ s6 σ6 H6 _ J6 q6) fun ok s7 ⟨H7, J7, q7⟩ => ?_
        have again : ∀ {σ8 : St} {H8 : Hp} {s8 : Shared} {acc8 : List V}, Inv (cxComp X scope N' ⟨cl, s2, upd H1 l (.lst []), fp⟩) ([] ++ pinsAt fp s5.heap) σ8 H8 s8 → (∃ m', m' < n ∧ W (i + 1) m' σ8 acc8 H8) →
            ∃ m, m < n ∧ ∃ i σ' acc H', Inv (cxComp X scope N' ⟨cl, s2, upd H1 l (.lst []), fp⟩) [] σ' H' s8 ∧ tn i s8.heap ∧ (∀ b ∈ fp, H' b = none) ∧ W i m σ' acc H' := fun {σ8 H8 s8 acc8} J8 hw => by
          obtain ⟨m', hm, w8⟩ := hw
          refine ⟨m', hm, i + 1, σ8, acc8, H8, J8.unpinned, T.keep _ _ _ t5 fun b hb o e => (J8.pin (b, o) (List.mem_append_right _ (List.mem_append_right _ (mem_pinsAt hb e)))).1, fun b hb => ?_, w8⟩
          obtain ⟨o, e, d⟩ := T.obj _ _ t5 b hb
          exact (J8.pin (b, o) (List.mem_append_right _ (List.mem_append_right _ (mem_pinsAt hb e)))).2.1
        cases ok with
        | false => exact again J7 q7
        | true =>
          refine thn (pel _ s7 σ6 H7 _ J7 q7) fun xv s8 ⟨v, H8, J8, r8, hl8, m', hm, w8⟩ => ?_
          have mtq := mt_append (X := cxComp X scope N' ⟨cl, s2, upd H1 l (.lst []), fp⟩)
          unfold MtM at mtq
          refine thn (mtq _ s8 σ6 H8 (.ref l) [v] (.ref l) [xv] (fun _ H9 => H9 = upd H8 l (.lst (acc ++ [v]))) J8 rfl (.cons r8 .nil) ⟨l, acc, v, rfl, rfl, hl8, hz, rfl⟩) fun _ s9 ⟨v9, H9, J9, _, e9⟩ => ?_
          subst e9
          exact again J9 ⟨m', hm, w8⟩
    exact codeAny_compStart_list loop (T.self X.A 0 _ _ _ st3 loop)
theorem pe_comp (hc : X.calm = true) (hk : scope.kind = .function) (hcell : ∀ y ∈ scope.names, y.2 ≠ .cell) (hnames : ∀ y ∈ scope.names, y.2 = .local → scope.names.lookup y.1 = some .local)
    (hfree : ∀ y ∈ scope.names, y.2 = .free → (X.env.kindOf y.1 = some .cell ∨ X.env.kindOf y.1 = some .free)) (cap : Cap X scope N' js) (hi : PI X tg iter wi)
    (blk : ∀ B, PG (cxComp X scope N' B) tg (g B) ∧ PIfs (cxComp X scope N' B) ifs (tc B) ∧ PE (cxComp X scope N' B) elt (te B))
    (hs : ∀ x, foldedSetIterable iter X.env x = pure x := by intro _; rfl) : PE X (.ListComp elt [⟨tg, iter, ifs, 0⟩] scope pos) (tComp js wi g tc te) := by
  unfold PE; unfold PI at hi
  exact by
    intro pins s σ H Q I h
    obtain ⟨cl, hcl, c1, c2⟩ := closure_of (scope := scope) (env := X.env) fun x hx hxf => I.ok.has x.1 (hfree x hx hxf)
    rw [eval_ListComp]
    refine wpAny_comprehension_free (use := none) rfl hs hcl hk hnames (thn (hi pins s σ H _ I h) fun v s1 h1 => thn h1 fun itv s2 h2 => ?_)
    obtain ⟨it, fp, tn, J, H2, e, I2, T, st2, f2, hloop⟩ := h2
    subst e
    refine comp_block (RR := fun acc C => compPost (model X.prog X.w) X.A X.xe none (EP X pins σ Q) acc C) hc hk hcell cap blk c1 c2 I2 T st2 f2 hloop ?_
    intro l C H' s' m' I' q ns fC hL hcl' hfs hs0 hpin
    exact ⟨m', ns, fun h'' sb => ⟨.ref l, H', I'.turned (t' := s'.toks) (fun b o hb e => (sb.2 b hb).trans e) fC hL (.inr hs0) hcl' hpin, rfl, q⟩⟩
theorem ps_setComp {i : Nat} {y : Str} {py spos : Pos} (hN : X.N.Nodup) (hy : X.N[i]? = some y) (hyk : X.env.kindOf y = some .local) (hc : X.calm = true) (hk : scope.kind = .function) (hcell : ∀ y ∈ scope.names, y.2 ≠ .cell)
    (hnames : ∀ y ∈ scope.names, y.2 = .local → scope.names.lookup y.1 = some .local)
    (hfree : ∀ y ∈ scope.names, y.2 = .free → (X.env.kindOf y.1 = some .cell ∨ X.env.kindOf y.1 = some .free)) (cap : Cap X scope N' js) (hi : PI X tg iter wi)
    (blk : ∀ B, PG (cxComp X scope N' B) tg (g B) ∧ PIfs (cxComp X scope N' B) ifs (tc B) ∧ PE (cxComp X scope N' B) elt (te B))
    (hsw : swapsWith (.ListComp elt [⟨tg, iter, ifs, 0⟩] scope pos) (some (.Name y py)) spos.line X.env = pure true := by rfl)
    (hs : ∀ x, foldedSetIterable iter X.env x = pure x := by intro _; rfl) : PS X (.Assign [.Name y py] (.ListComp elt [⟨tg, iter, ifs, 0⟩] scope pos) spos) (tAsg (tComp js wi g tc te) (gName i)) := by
  unfold PS; unfold PI at hi
  exact by
    intro pins s σ H D I h
    obtain ⟨cl, hcl, c1, c2⟩ := closure_of (scope := scope) (env := X.env) fun x hx hxf => I.ok.has x.1 (hfree x hx hxf)
    rw [exec_Assign_Name_used _ _ _ _ hsw]
    refine wpAny_bind (wpAny_standAt (wpAny_bind ?_))
    show wpAny _ X.A (do let _ ← comprehension (.ListComp elt [⟨tg, iter, ifs, 0⟩] scope pos) scope X.env _ (newList []) false (eval iter X.env) (some (assign (.Name y py) X.env))) _ _ s
    refine wpAny_bind (wpAny_mono (wpAny_comprehension_free (use := some (assign (.Name y py) X.env)) (Q := fun _ s' => SP X pins D .next s') rfl hs hcl hk hnames
      (thn (hi pins s σ H _ I h) fun v s1 h1 => thn h1 fun itv s2 h2 => ?_)) (fun _ s' hq => wpAny_pure (wpAny_pure hq)) fun _ _ e => e)
    obtain ⟨it, fp, tn, J, H2, e, I2, T, st2, f2, hloop⟩ := h2
    subst e
    refine comp_block (RR := fun acc C => compPost (model X.prog X.w) X.A X.xe (some (assign (.Name y py) X.env)) (fun _ s' => SP X pins D .next s') acc C) hc hk hcell cap blk c1 c2 I2 T st2 f2 hloop ?_
    intro l C H' s' m' I' q ns fC hL hcl' hfs hs0 hpin
    show wpAny _ X.A (assign (.Name y py) X.env (.ref l)) _ _ _
    refine wpAny_assign_Name (store_ok2 (v := .ref l) I' hN hy (.inl hyk) rfl (fun s'' I'' sb => ?_) (.inr hyk))
    obtain ⟨a, sb, ha⟩ := sb
    have hCa : C ≠ a := by
      rcases ha with z | z
      · rw [z]; exact hL
      · exact fun z' => hcl' y a z z'.symm
    refine ⟨m', ns.sameBut sb hCa, fun h'' sb2 => ?_⟩
    exact ⟨σ.set i (some (.ref l)), H', I''.turned (t' := s''.toks) (fun b o hb e => (sb2.2 b hb).trans e) fC hL (.inr hs0) hcl' hpin, q⟩
end
end L2
namespace L2
open PySem PySem.Spec PyProof.Rows
theorem ObjOk.there {P : Program} {w : World} {H : Hp} {h : Heap} {a : Addr} {o : HO} (x : ObjOk P w H h a o) : ∃ ob, h.get? a = some ob := by
  cases o with
  | lst xs => obtain ⟨_, _, _, _, e⟩ := x; exact ⟨_, e⟩
  | tup xs => obtain ⟨_, _, _, ob, e, _⟩ := x; exact ⟨_, e⟩
  | dK kvs => obtain ⟨_, _, _, _, o, _, _, e, _⟩ := x; exact ⟨_, e⟩
  | dT kvs => obtain ⟨_, _, _, _, o, _, _, e, _⟩ := x; exact ⟨_, e⟩
  | set S n => obtain ⟨o, _, _, _, e, _⟩ := x; exact ⟨_, e⟩
  | ins C dx fs => obtain ⟨_, _, _, e, _⟩ := x; exact ⟨_, e⟩
  | own y => obtain ⟨_, e⟩ := x; exact ⟨_, e⟩
  | xd fs => obtain ⟨_, ⟨_, _, _, e, _⟩, _⟩ := x; exact ⟨_, e⟩
  | rng lo hi => obtain ⟨_, _, _, e⟩ := x; exact ⟨_, e⟩
  | frz ob u => obtain ⟨e, _⟩ := x; exact ⟨_, e⟩
  | tbl ps => exact ⟨_, (show h.get? a = some _ from x)⟩
  | met f y => exact ⟨_, (show h.get? a = some _ from x)⟩
  | ext φ => obtain ⟨_, ⟨_, e⟩, _⟩ := x; exact ⟨_, e⟩
theorem HOk.track {P : Program} {w : World} {H : Hp} {h h' : Heap} (x : HOk P w H h) (k : ∀ b u o, H b = some u → h.get? b = some o → h'.get? b = some o) : HOk P w H h' := fun a o e =>
  (x a o e).stay (fun b u hb q => by
    rcases hb with z | z
    · subst z; exact k _ _ _ e q
    · exact k _ _ _ z q) (fun _ q => q) fun _ _ q => q
theorem dict_mapF (o : Obj) (f : Array Value → Array Value) : (Obj.mapFields f o).dict = o.dict := by
  obtain ⟨c, d, dt, sl⟩ := o
  cases dt <;> rfl
def ExAt (h : Heap) (e : Addr) (C : Value) (dd : Option Addr) (t1 : Value) : Prop := ∃ oe vs, h.get? e = some oe ∧ oe.cls = C ∧ oe.dict = dd ∧ oe.data = .fields vs ∧ vs[1]? = some t1
def TrAt (h : Heap) (T : Addr) (fl : Value) : Prop := ∃ oT ts, h.get? T = some oT ∧ oT.data = .fields ts ∧ ts[3]? = some fl
structure Moved (fs : List Addr) (e : Addr) (T0 : Option Addr) (h h' : Heap) : Prop where
  keep : ∀ b o, b ≠ e → some b ≠ T0 → b ∉ fs → h.get? b = some o → h'.get? b = some o
  slot : ∀ b o, b ∈ fs → h.get? b = some o → ∃ sl, h'.get? b = some { o with slots := sl }
  there : ∀ b o, h.get? b = some o → ∃ o', h'.get? b = some o'
section
variable {M : Model} {A : Around} {E : Value → Shared → Prop} {s : Shared}
theorem up_self {h : Heap} {a : Addr} {o : Obj} {vs : Array Value} {f : Array Value → Array Value} (e : h.get? a = some o) (hd : o.data = .fields vs) : (h.update a (Obj.mapFields f)).get? a = some (Obj.mapFields f o) :=
  Heap.get?_update_self _ e (Obj.isFreed_of_fields (Obj.data_mapFields hd _))
theorem note_new {base : Heap} {env : Env} {outer : List Env} {L e : Addr} {C : Value} {dd : Option Addr} {t1 head : Value} {hadNext : Bool} {Q : Unit → Shared → Prop}
    (hfr : A.frames = some (env :: outer)) (hl : s.heap.FunFrames base (env :: outer)) (hf : env.frame = some L) (X : ExAt s.heap e C dd t1)
    (h : ∀ h' T, ExAt h' e C dd (.ref T) → TrAt h' T (rawInt L) → s.heap.objs.size ≤ T → T ≠ e → Moved (frs (env :: outer)) e none s.heap h' → Q () { s with heap := h' }) :
    wpAny M A (do let a ← frameOf env; let pl ← entryPlaceOf L hadNext; let b ← EntryCells.newEntry head a .none (rawInt L) .none pl; setField (.ref e) 1 b) Q E s := by
  obtain ⟨oe, vs, he, hC, hdd, hd, h1⟩ := X
  have ne : e ∉ frs (env :: outer) := fun hm => by
    obtain ⟨_, o, ho, hnf⟩ := hl.mem hm
    rw [he] at ho; cases ho
    exact hnf vs hd
  refine wpAny_bind (wpAny_frameOf_fun hfr hl hf fun g so => ?_)
  refine wpAny_bind (wpAny_entryPlaceOf fun pl hpl => ?_)
  unfold EntryCells.newEntry newFields
  refine wpAny_bind (wpAny_newObj_type ?_ (hpl.sizeOk5 _ _ _ _ _))
  have hg : g.get? e = some oe := (so.2.1 e ne).trans he
  have hsz := (Array.getElem?_eq_some_iff.mp h1).1
  refine wpAny_setField (Heap.get?_push_of_some _ hg) hd hsz ?_
  have nT : g.objs.size ≠ e := Nat.ne_of_gt (Heap.lt_size hg)
  refine h _ g.objs.size ⟨_, _, up_self (Heap.get?_push_of_some _ hg) hd, (Obj.cls_mapFields _ _).trans hC, (dict_mapF _ _).trans hdd, Obj.data_mapFields hd _, by simp [hsz]⟩
    ⟨_, _, (Heap.get?_update_other _ _ (Ne.symm nT)).trans (Heap.get?_push_size g rfl), rfl, ?_⟩ (Nat.le_of_eq so.1.symm) nT ⟨fun b o h1 _ h3 q => ?_, fun b o hb q => ?_, fun b o q => ?_⟩
  · rcases hpl with rfl | ⟨_, _, _, _, _, _, _, rfl⟩ <;> simp
  · rw [Heap.get?_update_other _ _ (Ne.symm h1)]
    exact Heap.get?_push_of_some _ ((so.2.1 b h3).trans q)
  · obtain ⟨sl, z⟩ := so.2.2 b o q
    refine ⟨sl, ?_⟩
    rw [Heap.get?_update_other _ _ (fun k => ne (by rw [k]; exact hb))]
    exact Heap.get?_push_of_some _ z
  · by_cases k : b = e
    · rw [k]; exact ⟨_, up_self (Heap.get?_push_of_some _ hg) hd⟩
    · obtain ⟨sl, z⟩ := so.2.2 b o q
      exact ⟨_, by rw [Heap.get?_update_other _ _ (Ne.symm k)]; exact Heap.get?_push_of_some _ z⟩
theorem note_fly {base : Heap} {env : Env} {outer : List Env} {L e : Addr} {C : Value} {dd : Option Addr} {T0 : Option Addr} {Q : Unit → Shared → Prop}
    (hfr : A.frames = some (env :: outer)) (hl : s.heap.FunFrames base (env :: outer)) (hf : env.frame = some L) (X : ExAt s.heap e C dd (T0.elim .none Value.ref)) (hT : ∀ T, T0 = some T → TrAt s.heap T .none ∧ T ≠ e)
    (h : ∀ h' T, ExAt h' e C dd (.ref T) → TrAt h' T (rawInt L) → s.heap.objs.size ≤ T → T ≠ e → Moved (frs (env :: outer)) e T0 s.heap h' → Q () { s with heap := h' }) :
    wpAny M A (noteFrame (.ref e) env) Q E s := by
  obtain ⟨oe, vs, he, hC, hdd, hd, h1⟩ := id X
  unfold noteFrame
  simp only [hf]
  refine wpAny_bind (wpAny_field he hd h1 ?_)
  cases T0 with
  | none =>
    rw [if_neg (by decide)]
    exact note_new hfr hl hf X h
  | some T =>
    obtain ⟨⟨oT, ts, hT, hdT, h3⟩, hne⟩ := hT T rfl
    show wpAny M A (if (Value.ref T != Value.none) = true then _ else _) Q E s
    rw [if_pos (by simp)]
    refine wpAny_bind (wpAny_field hT hdT h3 ?_)
    rw [if_neg (by simp [rawInt])]
    refine wpAny_bind (wpAny_setField hT hdT (Array.getElem?_eq_some_iff.mp h3).1 ?_)
    have oth : ∀ b, b ≠ T → (s.heap.update T (Obj.mapFields (·.setIfInBounds 3 Value.none))).get? b = s.heap.get? b := fun b hb => Heap.get?_update_other _ _ (Ne.symm hb)
    have nfr : ∀ b o, b ∈ frs (env :: outer) → s.heap.get? b = some o → b ≠ T := fun b o hb q z => by
      obtain ⟨_, o', ho', hnf⟩ := hl.mem hb
      rw [z, hT] at ho'; cases ho'
      exact hnf _ hdT
    have hl2 : (s.heap.update T (Obj.mapFields (·.setIfInBounds 3 Value.none))).FunFrames base (env :: outer) := hl.of_keeps fun b o hb hnf => ⟨o, (oth b fun z => by rw [z, hT] at hb; cases hb; exact hnf _ hdT).trans hb, rfl⟩
    refine note_new (s := { s with heap := s.heap.update T (Obj.mapFields (·.setIfInBounds 3 Value.none)) }) hfr hl2 hf ⟨oe, vs, (oth e (Ne.symm hne)).trans he, hC, hdd, hd, h1⟩ fun h' T2 x1 x2 x3 x4 mv => ?_
    have goneT : s.heap.objs.size ≤ T2 := Nat.le_trans (Nat.le_of_eq (Heap.size_after_update ..).symm) x3
    refine h h' T2 x1 x2 goneT x4 ⟨fun b o k1 k2 k3 q => mv.keep b o k1 (by simp) k3 ((oth b fun z => k2 (by rw [z])).trans q), fun b o hb q => mv.slot b o hb ((oth b (nfr b o hb q)).trans q), fun b o q => ?_⟩
    by_cases k : b = T
    · exact mv.there b _ (by rw [k]; exact up_self hT hdT)
    · exact mv.there b o ((oth b k).trans q)
theorem rest_fly {e T : Addr} {C : Value} {dd : Option Addr} {fl : Value} {Q : Unit → Shared → Prop} (X : ExAt s.heap e C dd (.ref T)) (hT : TrAt s.heap T fl) (hne : T ≠ e)
    (h : ∀ h', ExAt h' e C dd (.ref T) → TrAt h' T .none → (∀ b o, b ≠ T → s.heap.get? b = some o → h'.get? b = some o) → (∀ b o, s.heap.get? b = some o → ∃ o', h'.get? b = some o') → Q () { s with heap := h' }) :
    wpAny M A (setFlight (.ref e) none) Q E s := by
  obtain ⟨oe, vs, he, hC, hdd, hd, h1⟩ := X
  obtain ⟨oT, ts, hT, hdT, h3⟩ := hT
  have hsz := (Array.getElem?_eq_some_iff.mp h3).1
  unfold setFlight
  refine wpAny_bind (wpAny_field he hd h1 ?_)
  rw [if_pos (by simp)]
  have oth : ∀ b, b ≠ T → (s.heap.update T (Obj.mapFields (·.setIfInBounds 3 ((none : Option Addr).elim Value.none fun f => rawInt f)))).get? b = s.heap.get? b := fun b hb => Heap.get?_update_other _ _ (Ne.symm hb)
  refine wpAny_setField hT hdT hsz (h _ ⟨oe, vs, (oth e (Ne.symm hne)).trans he, hC, hdd, hd, h1⟩ ⟨_, _, up_self hT hdT, Obj.data_mapFields hdT _, by simp [hsz]⟩ (fun b o k q => (oth b k).trans q) fun b o q => ?_)
  by_cases k : b = T
  · rw [k]; exact ⟨_, up_self hT hdT⟩
  · exact ⟨o, (oth b k).trans q⟩
end
def CXx (P : Program) (w : World) : CXT := fun outer H s E u s' => ∃ (e : Addr) (C : Value) (dd : Option Addr) (T : Addr) (H' : Hp), u = .ref e ∧ s'.os = s.os ∧ AllBare s'.gens ∧ Un (frs outer) [] H H' s.heap s'.heap ∧ HOk P w H' s'.heap ∧
  ExAt s'.heap e C dd (.ref T) ∧ TrAt s'.heap T .none ∧ T ≠ e ∧ H' e = none ∧ H' T = none ∧ s.heap.get? e = none ∧ s.heap.get? T = none ∧ E C dd H'
def PassesS (CX : CXT) (X : Cx) (Ez : St → XK) : Prop := ∀ (pins : List (Addr × Obj)) (σ : St) (H : Hp) (s : Shared) (e : Value) (s' : Shared), Inv X pins σ H s → CX X.stack H s (Ez σ) e s' → X.xe e s'
theorem un_moved {l l' : List Env} {H H' : Hp} {h g h' : Heap} {e : Addr} {T0 : Option Addr} (u : Un (frs l') [] H H' h g) (mv : Moved (frs l) e T0 g h') (hsub : ∀ b ∈ frs l', b ∈ frs l) (hnew : ∀ b o, h.get? b = some o → b ∈ frs l → b ∈ frs l')
    (he : h.get? e = none) (hT : ∀ T, T0 = some T → h.get? T = none) : Un (frs l') [] H H' h h' := by
  have k1 : ∀ b o, h.get? b = some o → b ≠ e := fun b o q z => by rw [z, he] at q; cases q
  have k2 : ∀ b o, h.get? b = some o → some b ≠ T0 := fun b o q z => by rw [hT b z.symm] at q; cases q
  refine ⟨fun b o q n hb hx => ?_, fun b o q n hb hx => ?_, u.free, fun b o q hx => ?_, u.tups, u.frzs, u.tbls⟩
  · exact mv.keep b o (k1 b o q) (k2 b o q) (fun z => hb (hnew b o q z)) (u.keep b o q n hb hx)
  · obtain ⟨sl, q1⟩ := u.slot b o q n hb hx
    obtain ⟨sl2, q2⟩ := mv.slot b _ (hsub b hb) q1
    exact ⟨sl2, q2⟩
  · obtain ⟨o1, q1⟩ := u.there b o q hx
    exact mv.there b o1 q1
section
variable {P : Program} {w : World} {K : PySem.W.Frag} {mg : Str → Option Value} {base : Heap} {N : List Str} {qual : Str} {scope : Scope} {f : Addr} {cd : Value} {A : Around} {outer : List Env} {s₀ : Shared} {H₀ : Hp} {E : XK}
theorem frs_cons {env : Env} {outer : List Env} {L : Addr} (h : env.frame = some L) : frs (env :: outer) = L :: frs outer := by
  unfold frs
  rw [List.filterMap_cons, h]
theorem leave_fly {M : Model} {A : Around} {E : Value → Shared → Prop} {s : Shared} {base : Heap} {env : Env} {outer : List Env} {L e : Addr} {C : Value} {dd : Option Addr} {T0 : Option Addr} {Q : Unit → Shared → Prop}
    (hfr : A.frames = some (env :: outer)) (hl : s.heap.FunFrames base (env :: outer)) (hf : env.frame = some L) (X : ExAt s.heap e C dd (T0.elim .none Value.ref)) (hT : ∀ T, T0 = some T → TrAt s.heap T .none ∧ T ≠ e)
    (h : ∀ h' T, ExAt h' e C dd (.ref T) → TrAt h' T .none → s.heap.objs.size ≤ T → T ≠ e → Moved (frs (env :: outer)) e T0 s.heap h' → Q () { s with heap := h' }) :
    wpAny M A (noteFrame (.ref e) env) (fun _ s2 => wpAny M A (setFlight (.ref e) none) Q E s2) E s := by
  refine note_fly hfr hl hf X hT fun h1 T x1 x2 x3 x4 mv => ?_
  refine rest_fly (s := { s with heap := h1 }) x1 x2 x4 fun h2 y1 y2 k1 k2 => h h2 T y1 y2 x3 x4 ?_
  have nT : ∀ b o, s.heap.get? b = some o → b ≠ T := fun b o q z => absurd (Heap.lt_size q) (by rw [z]; exact Nat.not_lt.mpr x3)
  refine ⟨fun b o z1 z2 z3 q => k1 b o (nT b o q) (mv.keep b o z1 z2 z3 q), fun b o hb q => ?_, fun b o q => ?_⟩
  · obtain ⟨sl, q1⟩ := mv.slot b o hb q
    exact ⟨sl, k1 b _ (nT b o q) q1⟩
  · obtain ⟨o1, q1⟩ := mv.there b o q
    exact k2 b o1 q1
theorem funFrames_un {base h h' : Heap} : ∀ {l : List Env}, h.FunFrames base l → (∀ b o, b ∈ frs l → h.get? b = some o → ∃ sl, h'.get? b = some { o with slots := sl }) → h'.FunFrames base l
  | [], _, _ => trivial
  | env :: r, hl, k => by
    obtain ⟨hk, ⟨L, o, hf, hn, ho, hd⟩, hr⟩ := hl
    have e := frs_cons (outer := r) hf
    obtain ⟨sl, z⟩ := k L o (by rw [e]; exact List.mem_cons_self) ho
    exact ⟨hk, ⟨L, _, hf, hn, z, hd⟩, funFrames_un hr fun b o' hb q => k b o' (by rw [e]; exact List.mem_cons_of_mem _ hb) q⟩
theorem un_enter {fs : List Addr} {L : Addr} {H H1 H2 : Hp} {h h1 h2 : Heap} (a : Un fs [] H H1 h h1) (b : Un (L :: fs) [] H1 H2 h1 h2) (hL : h.get? L = none) : Un fs [] H H2 h h2 where
  keep := fun c o q n hc hx => b.keep c o (a.keep c o q n hc hx) (a.free c o q n hx) (fun z => (List.mem_cons.mp z).elim (fun y => by rw [y, hL] at q; cases q) hc) (by simp)
  slot := fun c o q n hc hx => by
    obtain ⟨sl, q1⟩ := a.slot c o q n hc hx
    obtain ⟨sl2, q2⟩ := b.slot c _ q1 (a.free c o q n hx) (List.mem_cons_of_mem _ hc) (by simp)
    exact ⟨sl2, q2⟩
  free := fun c o q n hx => by
    obtain ⟨o1, q1⟩ := a.there c o q hx
    exact b.free c o1 q1 (a.free c o q n hx) (by simp)
  there := fun c o q hx => by
    obtain ⟨o1, q1⟩ := a.there c o q hx
    exact b.there c o1 q1 (by simp)
  tups := fun c xs q => b.tups c xs (a.tups c xs q)
  frzs := fun c o xs q => b.frzs c o xs (a.frzs c o xs q)
  tbls := fun c ps q => by
    obtain ⟨m1, e1⟩ := a.tbls c ps q
    obtain ⟨m2, e2⟩ := b.tbls c _ e1
    exact ⟨m1 ++ m2, by rw [e2, Array.append_assoc]⟩
theorem pass_def : PassesS (CXx P w) (cxOf (CXx P w) P w K mg base N qual scope f cd A outer s₀ H₀ E) (fun _ => E) := by
  intro pins σ H s u s' I h
  obtain ⟨e, C, dd, T, H', rfl, os, bare, un, hok, x1, x2, x3, f1, f2, n1, n2, hE⟩ := h
  have fe : frs (envOfC qual scope s₀.heap.objs.size f cd :: outer) = s₀.heap.objs.size :: frs outer := frs_cons rfl
  have un' : Un (s₀.heap.objs.size :: frs outer) [] H H' s.heap s'.heap := by rw [← fe]; exact un
  have ib : Un (frs outer) [] H₀ H s₀.heap s.heap := I.base
  have nL : s₀.heap.get? s₀.heap.objs.size = none := Heap.get?_none_of_le (Nat.le_refl _)
  have um := un_enter ib un' nL
  have hfun : s'.heap.FunFrames base (envOfC qual scope s₀.heap.objs.size f cd :: outer) := funFrames_un I.stack fun b o hb q => un.slot b o q (I.stkFree b hb) hb (by simp)
  have ntr : ∀ b u, H' b = some u → b ∉ frs (envOfC qual scope s₀.heap.objs.size f cd :: outer) := fun b u q hb => by
    obtain ⟨_, o, ho, _⟩ := I.stack.mem hb
    have := un.free b o ho (I.stkFree b hb) (by simp)
    rw [q] at this; cases this
  show wpAny _ _ (leaving _ (.ref e)) _ _ s'
  unfold leaving
  refine wpAny_bind (leave_fly (T0 := some T) (L := s₀.heap.objs.size) I.ok.frames hfun rfl x1 (fun T' z => by cases z; exact ⟨x2, x3⟩) fun h' T2 y1 y2 y3 y4 mv => ?_)
  have none_of : ∀ b, s.heap.get? b = none → s₀.heap.get? b = none := fun b hb => by
    cases q : s₀.heap.get? b with
    | none => rfl
    | some o => obtain ⟨o1, q1⟩ := ib.there b o q (by simp); rw [hb] at q1; cases q1
  refine ⟨e, C, dd, T2, H', rfl, os.trans I.os, bare, un_moved (l := envOfC qual scope s₀.heap.objs.size f cd :: outer) um mv (fun b hb => by rw [fe]; exact List.mem_cons_of_mem _ hb) (fun b o q hb => ?_) (none_of e n1) (fun T' z => by cases z; exact none_of T n2),
    hok.track fun b u o q1 q2 => mv.keep b o (fun z => by rw [z, f1] at q1; cases q1) (fun z => by cases z; rw [f2] at q1; cases q1) (ntr b u q1) q2, y1, y2, y4, f1, ?_, none_of e n1, ?_, hE⟩
  · rw [fe] at hb
    rcases List.mem_cons.mp hb with z | z
    · rw [z, nL] at q; cases q
    · exact z
  · cases q : H' T2 with
    | none => rfl
    | some u => obtain ⟨ob, hob⟩ := (hok T2 u q).there; exact absurd (Heap.lt_size hob) (Nat.not_lt.mpr y3)
  · cases q : s₀.heap.get? T2 with
    | none => rfl
    | some o => obtain ⟨o1, q1⟩ := um.there T2 o q (by simp); exact absurd (Heap.lt_size q1) (Nat.not_lt.mpr y3)
def Rz (X : Cx) (E : XK) : Prop := ∀ (pins : List (Addr × Obj)) (σ : St) (H : Hp) (s : Shared) (h' : Heap) (e : Addr) (C : Value) (vs : List Value), Inv X pins σ H s → Heap.MadeExcOf s.heap h' e C vs → E C none H → X.xe (.ref e) { s with heap := h' }
theorem rz_def : Rz (cxOf (CXx P w) P w K mg base N qual scope f cd A outer s₀ H₀ E) E := by
  intro pins σ H s h1 e C vs I mx hE
  obtain ⟨t, he, htn, ht⟩ := mx.there
  have fe : frs (envOfC qual scope s₀.heap.objs.size f cd :: outer) = s₀.heap.objs.size :: frs outer := frs_cons rfl
  have ib : Un (frs outer) [] H₀ H s₀.heap s.heap := I.base
  have nL : s₀.heap.get? s₀.heap.objs.size = none := Heap.get?_none_of_le (Nat.le_refl _)
  have um : Un (frs outer) [] H₀ H s₀.heap h1 := ib.trans (Un.kept mx.keeps)
  have hfun : h1.FunFrames base (envOfC qual scope s₀.heap.objs.size f cd :: outer) := funFrames_un I.stack fun b o hb q => ⟨o.slots, mx.keeps b o q⟩
  have ntr : ∀ b u, H b = some u → b ∉ frs (envOfC qual scope s₀.heap.objs.size f cd :: outer) := fun b u q hb => by
    have := I.stkFree b hb
    rw [q] at this; cases this
  have hok1 : HOk P w H h1 := I.hok.kept mx.keeps
  have fE : H e = none := by
    cases q : H e with
    | none => rfl
    | some u => obtain ⟨ob, hob⟩ := (I.hok e u q).there; rw [mx.new] at hob; cases hob
  have none_of : ∀ b, s.heap.get? b = none → s₀.heap.get? b = none := fun b hb => by
    cases q : s₀.heap.get? b with
    | none => rfl
    | some o => obtain ⟨o1, q1⟩ := ib.there b o q (by simp); rw [hb] at q1; cases q1
  show wpAny _ _ (leaving _ (.ref e)) _ _ { s with heap := h1 }
  unfold leaving
  refine wpAny_bind (leave_fly (s := { s with heap := h1 }) (T0 := none) (L := s₀.heap.objs.size) (C := C) (dd := none) I.ok.frames hfun rfl ⟨_, _, he, rfl, rfl, rfl, rfl⟩ (fun T' z => by cases z) fun h' T2 y1 y2 y3 y4 mv => ?_)
  refine ⟨e, C, none, T2, H, rfl, I.os, I.bare, un_moved (l := envOfC qual scope s₀.heap.objs.size f cd :: outer) um mv (fun b hb => by rw [fe]; exact List.mem_cons_of_mem _ hb) (fun b o q hb => ?_) (none_of e mx.new) (fun T' z => by cases z),
    hok1.track fun b u o q1 q2 => mv.keep b o (fun z => by rw [z, fE] at q1; cases q1) (by simp) (ntr b u q1) q2, y1, y2, y4, fE, ?_, none_of e mx.new, ?_, hE⟩
  · rw [fe] at hb
    rcases List.mem_cons.mp hb with z | z
    · rw [z, nL] at q; cases q
    · exact z
  · cases q : H T2 with
    | none => rfl
    | some u => obtain ⟨ob, hob⟩ := (hok1 T2 u q).there; exact absurd (Heap.lt_size hob) (Nat.not_lt.mpr y3)
  · cases q : s₀.heap.get? T2 with
    | none => rfl
    | some o => obtain ⟨o1, q1⟩ := um.there T2 o q (by simp); exact absurd (Heap.lt_size q1) (Nat.not_lt.mpr y3)
end
def tCallS (sp : Sp) (dvs : List V) (Ez : St → XK) (t : TA) : TE := fun σ H Q => t σ H fun vs H1 => sp (vs ++ dvs) H1 Q (Ez σ)
section
variable {X : Cx} {CX : CXT} {k : Nat} {f C : Addr} {fd : FuncData} {ps : List Str} {sp : Sp} {dvs : List V} {ds : List Value} {Ez : St → XK} {x m : Str} {p pos apos : Pos} {e o : Expr} {es : List Expr} {ta : TE} {t : TA}
theorem run_fnS {pins : List (Addr × Obj)} {σ : St} {H : Hp} {s : Shared} {Q : VK} {us : List Value} {vs : List V} (F : FnOk X.prog X.w X.K X.mg X.base CX k f fd ps sp) (hr : Room k X.A) (hb : Binds X.K fd ps ds) (hd : Vals dvs ds) (hx : PassesS CX X Ez)
    (I : Inv X pins σ H s) (r : Vals vs us) (h : sp (vs ++ dvs) H Q (Ez σ)) : wpAny (model X.prog X.w) X.A (call (.ref f) us) (EP X pins σ Q) X.xe s := by
  have r2 : Vals (vs ++ dvs) (us ++ ds) := r.append hd
  have hl : (us ++ ds).length = ps.length := by rw [← r2.length]; exact F.len _ _ _ _ h
  refine wpAny_call (codeAny_mono (F.run X.A X.stack s H ⟨us, []⟩ (us ++ ds) (vs ++ dvs) Q (Ez σ) hr I.env0 (hb s us I.kIn hl) r2 h) fun r s' hq => ?_)
  cases r with
  | error e => exact hx pins σ H s e s' I hq
  | ok fl =>
    cases fl with
    | ret u => exact I.after hq
    | next => exact False.elim hq
    | brk => exact False.elim hq
    | cont => exact False.elim hq
theorem pe_callS (F : FnOk X.prog X.w X.K X.mg X.base CX k f fd ps sp) (hr : Room k X.A) (hg : Gl X x) (hm : X.mg x = some (.ref f)) (hk : PySem.W.keepIn X.K (.ref f) = true) (hb : Binds X.K fd ps ds) (hd : Vals dvs ds) (hx : PassesS CX X Ez)
    (ha : PA X (e :: es) t) (hdb : (x == ("__debug__" : Str)) = false := by decide) (he : starEach (e :: es) X.env = (false, eval e X.env) :: starEach es X.env := by rfl) (hpl : (backTo pos (starEach es X.env)).any (·.1) = false := by rfl) :
    PE X (.Call (.Name x p) (e :: es) [] pos) (tCallS sp dvs Ez t) := by
  unfold PE at *; unfold PA at *
  exact by
    intro pins s σ H Q I h
    refine wpAny_Call_Name_kw (ld_glob I hg hm ?_ hdb)
    refine PySem.W.callWith_K (h₀ := X.base) I.ok.mod.kin hk (thn (ha pos pins s σ H _ I h) fun us s1 ⟨vs, H1, I1, r, q⟩ => ⟨I1.kIn, ?_⟩) he hpl
    exact run_fnS F hr hb hd hx I1 r q
end
end L2
namespace L2
open PySem PySem.Spec PyProof.Rows
def vmro : List Value := [.type "ValueError", .type "Exception", .type "BaseException", .type "object"]
def NsK (K : PySem.W.Frag) (N : Addr) (es : Array DictEntry) : Prop := ∃ c d ep sl, K.lookup N = some ⟨c, d, .dict es ep, sl⟩ ∧ StrKeys es
theorem NsK.ns {K : PySem.W.Frag} {N : Addr} {es : Array DictEntry} {h : Heap} (x : NsK K N es) (X : K.In h) : h.Ns N (nsFind es) := by
  obtain ⟨c, d, ep, sl, lk, sk⟩ := x
  exact ⟨_, es, ep, X _ _ lk, rfl, sk, fun _ => rfl⟩
inductive TailK (K : PySem.W.Frag) : List Value → Prop
  | base : TailK K vmro
  | own {A : Addr} {c0 : Value} {dd : Option Addr} {cd : ClassData} {sl : Array (Option Value)} {tl : List Value} {es : Array DictEntry} :
      K.lookup A = some { cls := c0, dict := dd, data := .cls cd, slots := sl } → NsK K cd.ns es → nsFind es "__init__" = none → TailK K tl → TailK K (.ref A :: tl)
theorem TailK.own' {K : PySem.W.Frag} {h : Heap} {bm : List Value} (t : TailK K bm) (X : K.In h) : OwnTail h vmro bm := by
  induction t with
  | base => exact .base
  | own l n i _ ih => exact .own (X _ _ l) (n.ns X) i ih
structure XCls (K : PySem.W.Frag) (C : Addr) : Prop where
  ex : ∃ nm q N bs bm hdct sn sub ab col dd k0 k1 k2 k3 k5 es, K.lookup C = some (excClassObj nm q C N bs bm hdct sn sub ab col dd k0 k1 k2 k3 k5 "ValueError.__new__") ∧ NsK K N es ∧ nsFind es "__init__" = none ∧ TailK K bm
def tRaise (t : TA) (C : Value) (E : XK) : TS := fun _ σ H => t σ H fun vs H1 => vs.length ≤ sizeLine ∧ E C none H1
theorem ps_raise {X : Cx} {C : Addr} {x : Str} {np cpos pos : Pos} {e₀ : Expr} {rest : List Expr} {t : TA} {E : XK} (xc : XCls X.K C) (hc : X.calm = true) (hg : Gl X x) (hm : X.mg x = some (.ref C)) (hz : Rz X E) (ha : PA X (e₀ :: rest) t)
    (hdb : (x == ("__debug__" : Str)) = false := by decide) (he : starEach (e₀ :: rest) X.env = (false, eval e₀ X.env) :: starEach rest X.env := by rfl) (hpl : (backTo cpos (starEach rest X.env)).any (·.1) = false := by rfl) :
    PS X (.Raise (some (.Call (.Name x np) (e₀ :: rest) [] cpos)) none pos) (tRaise t (.ref C) E) := by
  unfold PA at *; unfold PS at *
  exact by
    intro pins s σ H D I h
    obtain ⟨nm, q, N, bs, bm, hdct, sn, sub, ab, col, dd, k0, k1, k2, k3, k5, es, lk, nk, ni, tl⟩ := xc.ex
    refine wpAny_Raise_call_subT (C := C) (nm := nm) (q := q) (N := N) (bs := bs) (bm := bm) (hdct := hdct) (sn := sn) (sub := sub) (ab := ab) (col := col) (dd := dd) (k0 := k0) (k1 := k1) (k2 := k2) (k3 := k3) (k5 := k5)
      F.excBase_ValueError (mN := nsFind es) ((tl.own' I.kIn).hasType F.excBase_ValueError.hasBase) (I.ok.hd hc) ?_ ni (ld_glob I hg hm ⟨rfl, ?_⟩ hdb)
    · rw [he]
      show (false || (backTo cpos (starEach rest X.env)).any (·.1)) = false
      rw [hpl]; rfl
    · have hA := ha cpos pins s σ H _ I h
      rw [he] at hA ⊢
      refine Calls.evalArgs_plain (wpAny_mono hA (fun us s2 ⟨vs, H1, I1, r, z, hE⟩ => ?_) fun _ _ y => y)
      exact ⟨rfl, by rw [← r.length]; exact z, I1.kIn _ _ lk, nk.ns I1.kIn, tl.own' I1.kIn, fun h' e mx => hz pins σ H1 s2 h' e (.ref C) us I1 mx hE⟩
theorem Fun.okx {P : Program} {w : World} {K : PySem.W.Frag} {mg : Str → Option Value} {base : Heap} {x qual : Str} {st : Stmt} {f : Addr} {fd : FuncData} {N ps : List Str} {k : Nat} {sp : Sp} (F : Fun K x qual st f fd) (S : FnScope N ps (defScope st)) (len : ∀ vs H Q E, sp vs H Q E → vs.length = ps.length)
    (hbody : ∀ (cdv : Value) (A : Around) (outer : List Env) (s : Shared) (H : Hp) (vs : List V) (Q : VK) (E : XK), Room k (A.deeper (envOfC qual (defScope st) s.heap.objs.size f cdv)) → sp vs H Q E →
      ∃ t, PSs (cxOf (CXx P w) P w K mg base N qual (defScope st) f cdv A outer s H E) (defBody st) t ∧ t { nx := fun _ H' => Q .non H', rt := Q } (start N vs) H) : FnOk P w K mg base (CXx P w) (k + 1) f fd ps sp := by
  obtain ⟨oc, od, kV, doc, pm, an, cdv, ct, osl, rfl, lk, hcd⟩ := F.ex
  exact fn_of lk hcd S len fun A outer s H vs Q E hr hsp => hbody cdv A outer s H vs Q E hr hsp
section
variable {X : Cx} {pins pins' : List (Addr × Obj)} {σ : St} {H : Hp} {s : Shared} {W : Value → Shared → Prop}
end
def exO (C : Value) (dd : Option Addr) (e : Addr) : HO := .ext fun h => ∃ oe vs, h.get? e = some oe ∧ oe.cls = C ∧ oe.dict = dd ∧ oe.data = .fields vs
section
variable {X : Cx}
end
end L2
namespace L2
open PySem PySem.Spec PyProof.Rows PySem.W
section
variable {prog : Program} {w : World} {A : Around} {E : Value → Shared → Prop} {s : Shared} {K : Frag} {e C : Addr} {oe : Obj}
theorem findX {a g : Value} {name : Str} (hc : (clsIn K C).isSome = true) (ha : findIn K (.ref C) name = some (some a)) (hg : specialIn K a "__get__" = some (some g)) (ht : takesIn K a = some true) : findObj K C none name = some (.bind g a) := by
  obtain ⟨cd, hc⟩ := Option.isSome_iff_exists.mp hc
  unfold findObj
  rw [hc, Option.bind_some, ha, Option.bind_some]
  simp [hg, ht]
structure XAsk (K : Frag) (C : Addr) : Prop where
  cs : (clsIn K C).isSome = true
  ga : findIn K (.ref C) "__getattribute__" = some (some (.builtin "BaseException.__getattribute__"))
  gt : findIn K (.ref C) "__getattr__" = some none
  ca : findIn K (.ref C) "__class__" = some (some (.builtin "object.__class__"))
  gg : specialIn K (.builtin "object.__class__") "__get__" = some (some (.builtin "getset_descriptor.__get__"))
  tk : takesIn K (.builtin "object.__class__") = some true
  mo : mroIn K C (.type "object") = some true
  sb : subIn K (.ref C) (.type "BaseException") = some true
theorem xcheck {nameV : Value} {Q : Unit → Shared → Prop} (U : XAsk K C) (X : K.In s.heap) (I : InstAt s.heap e oe C none) (hq : Q () s) :
    wpAny (model prog w) A (checkBuiltinCall "BaseException.__getattribute__" ⟨[.ref e, nameV], []⟩) Q E s := by
  have hk : builtinKind "BaseException.__getattribute__" = some .slot := by decide +kernel
  have hsplit : splitId "BaseException.__getattribute__" = some ("BaseException", "__getattribute__") := by decide +kernel
  have L0 := I.type (M := model prog w)
  have L1 := looks_subIn (M := model prog w) X U.sb
  have LI : Looks (model prog w) s.heap (isInstance (.ref e) (.type "BaseException")) true := L0.andThen L1
  have ha := F.args_bexc_ga (.ref e) nameV
  simp only [checkBuiltinCall, hk, hsplit]
  refine wpAny_bind (LI.at ?_)
  rw [if_neg (by decide)]
  exact wpAny_of_eq ha hq
theorem xentry {tk : Tok} {Q : Fin → Shared → Prop} (U : XAsk K C) (X : K.In s.heap) (I : InstAt s.heap e oe C none) (hq : Q (.done (.ret (.ref C))) s) :
    wpAny (model prog w) A (Builtin.«object.__getattribute__» ⟨[.ref e, .str "__class__" tk], []⟩) Q E s := by
  obtain ⟨hh, g, d, t, os⟩ := s
  have L0 := I.type (M := model prog w)
  have L3 := looks_find (M := model prog w) X I (findX U.cs U.ca U.gg U.tk)
  unfold Builtin.«object.__getattribute__»
  refine wpAny_bind (wpAny_of_eq (show slotArgs "__getattribute__" 1 ⟨[.ref e, .str "__class__" tk], []⟩ = pure (.ref e, [.str "__class__" tk]) from rfl) ?_)
  refine wpAny_bind (wpAny_of_eq (show Builtin.ObjectAttr.attrName (.str "__class__" tk) = pure ("__class__" : Str) from rfl) ?_)
  refine wpAny_bind (L0.at (wpAny_bind (L3.at ?_)))
  show wpAny _ _ (Builtin.ObjectAttr.bindTo (.builtin "getset_descriptor.__get__") (.builtin "object.__class__") (.ref e) (.ref C)) _ _ _
  show wpAny _ _ (holding [.builtin "object.__class__"] (call (.builtin "getset_descriptor.__get__") [.builtin "object.__class__", .ref e, .ref C]) >>= ret) _ _ _
  exact wpAny_bind (wpAny_holding (wpAny_call (class_get X I U.mo (wpAny_pure hq))))
theorem xclass {Q : Option Value → Shared → Prop} (U : XAsk K C) (X : K.In s.heap) (I : InstAt s.heap e oe C none) (h : Q (some (.ref C)) { s with toks := s.toks + 1 }) : wpAny (model prog w) A (getAttr? (.ref e) "__class__") Q E s := by
  obtain ⟨hh, g, d, t, os⟩ := s
  have L0 := I.type (M := model prog w)
  have L1 := looks_findIn (M := model prog w) X U.ga
  have L2 := looks_findIn (M := model prog w) X U.gt
  have L3 := looks_find (M := model prog w) X I (findX U.cs U.ca U.gg U.tk)
  unfold getAttr? getAttrBy? getAttrBy
  refine wpAny_bind (wpAny_mkText (wpAny_bind (wpAny_attempt (wpAny_holding (wpAny_bind (L0.at (wpAny_bind (L1.at ?_))))))))
  show wpAny _ _ (getAttrByItsOwn (.ref e) _ (.ref C) (.builtin "BaseException.__getattribute__") false false) _ _ _
  unfold getAttrByItsOwn
  refine wpAny_bind ?_
  show wpAny _ _ (typeLookup (.ref C) "__getattr__") _ _ _
  refine L2.at ?_
  refine wpAny_bind (wpAny_attempt (wpAny_holding ?_))
  show wpAny _ _ (boundAndCalled (.builtin "BaseException.__getattribute__") (.ref e) _) _ _ _
  unfold boundAndCalled
  refine wpAny_bind (wpAny_of_eq (F.attr_ValueError.ga.bind (.ref e)) ?_)
  refine wpAny_call (codeAny_call_builtin F.attr_ValueError.ga.plain F.entry_bexc_ga (xcheck U X I (xentry U X I ?_)))
  exact wpAny_pure (wpAny_pure h)
theorem kitx_exc (U : XAsk K C) : KitX K (.ref e) (.ref C) (fun h => ∃ oe, InstAt h e oe C none) where
  ty := fun M h _ ⟨_, I⟩ => I.type
  it := fun _ _ X _ => by
    obtain ⟨cd, hc⟩ := Option.isSome_iff_exists.mp U.cs
    unfold clsIn at hc
    split at hc
    · rename_i c' d' cd' sl' ho
      intro A' Q' E' s' k q
      unfold isType loadHead
      exact wpAny_bind (wpAny_loadPart (k _ _ (X _ _ ho)) (wpAny_pure q))
    · cases hc
  ne := fun h tp dd its n sl X htp => by
    obtain ⟨cd, hc⟩ := Option.isSome_iff_exists.mp U.cs
    refine Bool.eq_false_iff.mpr fun q => ?_
    have z : C = tp := Value.ref.inj (beq_iff_eq.mp q)
    subst z
    unfold clsIn at hc
    split at hc
    · rename_i c' d' cd' sl' ho
      have z := (X _ _ ho).symm.trans htp
      cases z
    · cases hc
  ca := fun X ⟨_, I⟩ k => xclass U X I k
end
theorem exO_inst {P : Program} {w : World} {H : Hp} {h : Heap} {e C : Addr} (ok : HOk P w H h) (q : H e = some (exO (.ref C) none e)) : ∃ oe, InstAt h e oe C none := by
  obtain ⟨⟨oe, vs, he, hC, hdd, hd⟩, _⟩ := ok e _ q
  refine ⟨oe, he, hC, ?_, ?_⟩
  · obtain ⟨a, b, c, d⟩ := oe
    have hd' : c = .fields vs := hd
    subst hd'
    rfl
  · rw [hdd]
    trivial
section
variable {X : Cx}
def rIsiX (K : Frag) : List V → Hp → VK → Prop := fun xs H Q => ∃ e c cv C b, xs = [.ref e, c] ∧ ClsV c cv ∧ H e = some (exO (.ref C) none e) ∧ XAsk K C ∧ kitOne K (.ref C) cv = some b ∧ Q (.bl b) H
theorem call_isiX : CallR X (.builtin "isinstance") (rIsiX X.K) := by
  unfold CallR at *
  exact by
    intro pins s σ H xs us Q I rv h
    obtain ⟨e, c, cv, C, b, rfl, hc, he, U, k, q⟩ := h
    obtain ⟨u, cu, rfl, ru, rc⟩ := rv.two
    have ec : cu = cv := by cases hc <;> exact rc
    subst ec
    cases (show u = Value.ref e from ru)
    exact kia_one (kitx_exc U) I.kIn (exO_inst I.hok he) k (fun z => nomatch z) fun tk => ⟨.bl b, H, I.tok tk, rfl, q⟩
def rIsiA (K : Frag) : List V → Hp → VK → Prop := fun xs H Q => rIsi K xs H Q ∨ rIsiX K xs H Q
theorem call_isiA : CallR X (.builtin "isinstance") (rIsiA X.K) := by
  first
  | exact (call_isi.or call_isiX)
  | (unfold CallR at *; exact (call_isi.or call_isiX))
end
end L2
namespace L2
open PySem PySem.Spec PyProof.Rows
theorem bt_len : bootBuiltins "len" = some (.builtin "len") := by decide +kernel
theorem bt_isinstance : bootBuiltins "isinstance" = some (.builtin "isinstance") := by decide +kernel
theorem bt_int : bootBuiltins "int" = some (.type "int") := by decide +kernel
theorem bt_bool : bootBuiltins "bool" = some (.type "bool") := by decide +kernel
theorem bt_str : bootBuiltins "str" = some (.type "str") := by decide +kernel
theorem bt_list : bootBuiltins "list" = some (.type "list") := by decide +kernel
theorem bt_tuple : bootBuiltins "tuple" = some (.type "tuple") := by decide +kernel
theorem bt_all : bootBuiltins "all" = some (.builtin "all") := by decide +kernel
theorem bt_min : bootBuiltins "min" = some (.builtin "min") := by decide +kernel
theorem rel_int {n : Int} {t : Tok} : RelV (.int n) (.int n t) := ⟨_, rfl⟩
theorem rel_str {n : Str} {t : Tok} : RelV (.str n) (.str n t) := ⟨_, rfl⟩
theorem Same.new {H : Hp} {p : Addr} {o : HO} (h : H p = none) : Same H (upd H p o) := fun b u q => by
  rw [upd_ne (ne_of_none q h)]
  exact q
theorem atI_in {α : Type} {xs : List α} {i : Int} (h0 : 0 ≤ i) (h1 : i < xs.length) : ∃ v, atI xs i = some v ∧ v ∈ xs := by
  have e : ((i.toNat : Nat) : Int) = i := Int.toNat_of_nonneg h0
  have hl : i.toNat < xs.length := by omega
  refine ⟨xs[i.toNat], ?_, List.getElem_mem hl⟩
  have q := atI_nat (xs := xs) (List.getElem?_eq_getElem hl)
  rw [e] at q
  exact q
theorem TyOf.same {K : PySem.W.Frag} {H H' : Hp} {x : V} {t : Value} (e : Same H H') (h : TyOf K H x t) : TyOf K H' x t := by
  cases h with
  | non => exact .non
  | bl b => exact .bl b
  | int i => exact .int i
  | str x => exact .str x
  | flt x => exact .flt x
  | lst q => exact .lst (e _ _ q)
  | frz q => exact .frz (e _ _ q)
  | tup q => exact .tup (e _ _ q)
  | dK q => exact .dK (e _ _ q)
  | dT q => exact .dT (e _ _ q)
  | ins q a b c d f => exact .ins (e _ _ q) a b c d f
def Own (K : PySem.W.Frag) (H : Hp) (x : V) : Prop := ∃ n, TyOf K H x (.type n)
theorem Own.same {K : PySem.W.Frag} {H H' : Hp} {x : V} (e : Same H H') (h : Own K H x) : Own K H' x := let ⟨n, t⟩ := h; ⟨n, t.same e⟩
theorem Own.non {K : PySem.W.Frag} {H : Hp} : Own K H .non := ⟨_, .non⟩
theorem Own.bl {K : PySem.W.Frag} {H : Hp} {b : Bool} : Own K H (.bl b) := ⟨_, .bl b⟩
theorem Own.int {K : PySem.W.Frag} {H : Hp} {i : Int} : Own K H (.int i) := ⟨_, .int i⟩
theorem Own.str {K : PySem.W.Frag} {H : Hp} {x : Str} : Own K H (.str x) := ⟨_, .str x⟩
theorem Own.lst {K : PySem.W.Frag} {H : Hp} {a : Addr} {xs : List V} (h : H a = some (.lst xs)) : Own K H (.ref a) := ⟨_, .lst h⟩
theorem Own.tup {K : PySem.W.Frag} {H : Hp} {a : Addr} {xs : List V} (h : H a = some (.tup xs)) : Own K H (.ref a) := ⟨_, .tup h⟩
theorem Own.dK {K : PySem.W.Frag} {H : Hp} {a : Addr} {xs : List (Key × V)} (h : H a = some (.dK xs)) : Own K H (.ref a) := ⟨_, .dK h⟩
def isInt : V → Bool
  | .int _ => true
  | .bl _ => true
  | _ => false
def isBool : V → Bool
  | .bl _ => true
  | _ => false
def isStr : V → Bool
  | .str _ => true
  | _ => false
theorem kit_int {K : PySem.W.Frag} {H : Hp} {x : V} {n : String} (ty : TyOf K H x (.type n)) : PySem.W.kitOne K (.type n) (.type "int") = some (isInt x) := by
  cases ty <;> rfl
theorem kit_bool {K : PySem.W.Frag} {H : Hp} {x : V} {n : String} (ty : TyOf K H x (.type n)) : PySem.W.kitOne K (.type n) (.type "bool") = some (isBool x) := by
  cases ty <;> rfl
theorem kit_str {K : PySem.W.Frag} {H : Hp} {x : V} {n : String} (ty : TyOf K H x (.type n)) : PySem.W.kitOne K (.type n) (.type "str") = some (isStr x) := by
  cases ty <;> rfl
theorem rIsiA.own {K : PySem.W.Frag} {H : Hp} {x : V} {c : String} {Q : VK} {b : Bool} (h : Own K H x) (k : ∀ n, TyOf K H x (.type n) → PySem.W.kitOne K (.type n) (.type c) = some b) (q : Q (.bl b) H) : rIsiA K [x, .ty c] H Q := by
  obtain ⟨n, t⟩ := h
  exact .inl ⟨x, .ty c, _, _, _, rfl, .ty c, t, k n t, q⟩
theorem rIsiA.int {K : PySem.W.Frag} {H : Hp} {x : V} {Q : VK} (h : Own K H x) (q : Q (.bl (isInt x)) H) : rIsiA K [x, .ty "int"] H Q := rIsiA.own h (fun _ => kit_int) q
theorem rIsiA.bool {K : PySem.W.Frag} {H : Hp} {x : V} {Q : VK} (h : Own K H x) (q : Q (.bl (isBool x)) H) : rIsiA K [x, .ty "bool"] H Q := rIsiA.own h (fun _ => kit_bool) q
theorem rIsiA.str {K : PySem.W.Frag} {H : Hp} {x : V} {Q : VK} (h : Own K H x) (q : Q (.bl (isStr x)) H) : rIsiA K [x, .ty "str"] H Q := rIsiA.own h (fun _ => kit_str) q
theorem iteB {b : Bool} {A B : Prop} (h1 : b = true → A) (h2 : b = false → B) : if b = true then A else B := by
  cases b
  · exact iteF (h2 rfl)
  · exact iteT (h1 rfl)
theorem le_ble {a b : Nat} (h : Nat.ble a b = true) : a ≤ b := Nat.le_of_ble_eq_true h
end L2
namespace L2
open PySem PySem.Spec PyProof.Rows
section
variable {X : Cx} {pins : List (Addr × Obj)} {σ : St} {H H' : Hp} {s : Shared} {h' : Heap}
theorem Inv.turns {t' : Nat} {wr : List Addr} (I : Inv X pins σ H s) (k : ∀ b o, b ∉ wr → s.heap.get? b = some o → h'.get? b = some o) (hw : ∀ b ∈ wr, FpOk X pins H b) : Inv X pins σ H { s with heap := h', toks := t' } := by
  have nit : ∀ b u, H b = some u → b ∉ wr := fun b u e z => by rw [(hw b z).1] at e; cases e
  refine I.step (g' := s.gens) (d' := s.drawn) (ch := wr) (fun b hb => ?_) (fun b o _ _ hc e _ => k b o hc e) (fun b o _ _ hc e _ => ⟨o.slots, k b o hc e⟩) (fun _ _ _ _ n => n)
    (fun b o hc e => ⟨o, k b o hc e⟩) (fun _ _ e => e) (fun _ _ _ e => e) (fun b ps e => ⟨#[], by rw [e]; simp⟩) (fun m hm => ?_) (fun b u e => ?_) I.bare
  · obtain ⟨_, f1, _, f3, f4, f5⟩ := hw b hb
    exact ⟨f3, f1, f4, f5⟩
  · obtain ⟨o, es, ep, ho, r⟩ := hm
    exact ⟨o, es, ep, k _ o (fun z => (hw _ z).2.1 rfl) ho, r⟩
  · refine (I.hok b u e).stay (fun c v hc q => k c v ?_ q) (fun _ q => q) fun _ _ q => q
    rcases hc with z | z
    · rw [z]; exact nit b u e
    · exact nit c _ z
end
def Its (x : Str) : It := ⟨fun i _ => i < x.cps.size, fun i H v H' => H' = H ∧ ∃ c, x.cps[i]? = some c ∧ v = .str ⟨#[c]⟩, fun i _ => i = x.cps.size⟩
theorem turn_str {P : Program} {w : World} {K : PySem.W.Frag} {tg : Expr} (x : Str) (t : Tok) (it : Addr) (kind : String) (hk : kind = "str_ascii_iterator" ∨ kind = "str_iterator") :
    Turn P w K tg (Its x) [it] it (fun i h => h.IsStrIter it kind x t i) where
  mem := by simp
  obj := fun i h st b hb => by
    have e : b = it := by simpa using hb
    subst e
    obtain ⟨o, e, c, d⟩ := st
    exact ⟨o, e, fun v z => by rw [d] at z; cases z⟩
  keep := fun i h h' st k => by
    obtain ⟨o, e, r⟩ := st
    exact ⟨o, k it (by simp) o e, r⟩
  item := by
    intro X hP hw hK hc i pins s σ H E I hf st hg
    subst hP hw hK
    have W : Walks X.prog X.w X.A it [it] [it] x.cps.size (SignAt x) (fun i h => h.IsStrIter it kind x t i) := by
      rcases hk with rfl | rfl
      · exact Walks.strAscii (I.ok.hd hc) it x t
      · exact Walks.strWide (I.ok.hd hc) it x t
    refine W.item i s _ _ hg st fun v h' tk hv st' hk' => ?_
    obtain ⟨c, u, hc', rfl⟩ := hv
    have I1 : Inv X pins σ H { s with heap := h', toks := tk } := I.turns (t' := tk) hk' hf
    obtain ⟨o, e, hcl, d⟩ := id st'
    refine ⟨_, rfl, go_of (s := { s with heap := h', toks := tk }) e hcl d ?_ ⟨.str ⟨#[c]⟩, H, I1, ⟨u, rfl⟩, ⟨rfl, c, hc', rfl⟩, st', fun b hb => (hf b hb).1⟩⟩
    rcases hk with rfl | rfl <;> decide
  done := by
    intro X hP hw hK hc i pins s σ H E I hf st hg
    subst hP hw hK
    have W : Walks X.prog X.w X.A it [it] [it] x.cps.size (SignAt x) (fun i h => h.IsStrIter it kind x t i) := by
      rcases hk with rfl | rfl
      · exact Walks.strAscii (I.ok.hd hc) it x t
      · exact Walks.strWide (I.ok.hd hc) it x t
    have e : i = x.cps.size := hg
    subst e
    exact W.done s _ _ st fun h' tk hk' => ⟨rfl, I.turns (t' := tk) hk' hf⟩
  self := fun A i s Q E st h => by
    rcases hk with rfl | rfl
    · exact wpAny_pyIter_striter_ascii st h
    · exact wpAny_pyIter_striter_wide st h
def iStr (tl : TE) : TI := fun σ H R => tl σ H fun x H1 => ∃ z, x = .str z ∧ R (Its z) H1
theorem pi_str {X : Cx} {tg l : Expr} {tl : TE} (hl : PE X l tl) : PI X tg l (iStr tl) := by
  unfold PE at *; unfold PI at *
  exact by
    intro pins s σ H R I h
    refine thn (hl pins s σ H _ I h) fun v s1 ⟨x, H1, I1, r1, q1⟩ => ?_
    obtain ⟨z, rfl, q⟩ := q1
    obtain ⟨t, rfl⟩ := r1
    refine wpAny_pyIter_strU ?_
    refine ⟨s1.heap.objs.size, [s1.heap.objs.size], _, _, H1, rfl, I1.kept (t' := s1.toks) fun b o e => Heap.get?_push_of_some _ e, turn_str z t _ (strIterType z) (by unfold strIterType; split <;> simp), ⟨_, Heap.get?_push_size _ rfl, rfl, rfl⟩, fun b hb => ?_, q⟩
    have e : b = s1.heap.objs.size := by simpa using hb
    subst e
    exact I1.fpOk (Nat.le_refl _) (I1.hok.fresh (Nat.le_refl _))
def Nx (n i : Nat) (P : Prop) : Prop := ∃ m', m' < n - i ∧ m' = n - (i + 1) ∧ i + 1 ≤ n ∧ P
theorem Nx.mk {n i : Nat} {P : Prop} (hi : i < n) (p : P) : Nx n i P := ⟨n - (i + 1), by omega, rfl, hi, p⟩
theorem loop_by {J : It} {l : Addr} {g : TG} {tc : TT} {te : TE} {σ : St} {H : Hp} {Q : VK} (n : Nat) (Pv : Nat → St → List V → Hp → Prop) (hsz : n ≤ sizeLine) (h0 : Pv 0 σ [] H)
    (hl : ∀ i σ acc H, i ≤ n → Pv i σ acc H → H l = some (.lst acc) ∧ acc.length ≤ i)
    (hgo : ∀ i σ acc H, i < n → Pv i σ acc H → J.go i H)
    (hs : ∀ i x σ acc H H', i < n → Pv i σ acc H → J.yld i H x H' → g x σ H' fun σ2 H2 => tc σ2 H2 fun b H3 => if b = true then
      te σ2 H3 fun v H4 => H4 l = some (.lst acc) ∧ Nx n i (Pv (i + 1) σ2 (acc ++ [v]) (upd H4 l (.lst (acc ++ [v])))) else Nx n i (Pv (i + 1) σ2 acc H3))
    (hd : ∀ σ acc H, Pv n σ acc H → J.stop n H ∧ Q (.ref l) H) : tLoop J l g tc te σ H Q := by
  refine ⟨fun i m σ acc H => m = n - i ∧ i ≤ n ∧ Pv i σ acc H, ⟨n, by simp, Nat.zero_le _, h0⟩, ?_⟩
  rintro i m σ acc H ⟨rfl, hi, p⟩
  obtain ⟨q1, q2⟩ := hl i σ acc H hi p
  refine ⟨q1, ?_⟩
  by_cases hlt : i < n
  · exact .inr ⟨hgo i σ acc H hlt p, by omega, fun x H' y => hs i x σ acc H H' hlt p y⟩
  · have e : i = n := by omega
    subst e
    exact .inl (hd σ acc H p)
theorem boolsAre_of : ∀ {bs : List Bool} {us : List Value}, Vals (bs.map V.bl) us → LSm.BoolsAre us bs
  | [], _, .nil => .nil
  | b :: r, _, .cons h t => by
    cases h
    exact .cons b (boolsAre_of t)
theorem kept_it {s : Shared} {h' : Heap} {o : Obj} (hk : ∀ b x, b ∉ [s.heap.objs.size] → (s.heap.push o).get? b = some x → h'.get? b = some x) : ∀ b x, s.heap.get? b = some x → h'.get? b = some x :=
  fun b x e => hk b x (fun hm => by rw [List.mem_singleton.mp hm] at e; exact Nat.lt_irrefl _ (Heap.lt_size e)) (Heap.get?_push_of_some _ e)
theorem call_all {X : Cx} (hc : X.calm = true) : CallR X (.builtin "all") (fun xs H Q => ∃ (a : Addr) (bs : List Bool), xs = [.ref a] ∧ SqL X.K H a (bs.map V.bl) ∧ Q (.bl (bs.all id)) H) := by
  unfold CallR at *
  exact by
    intro pins s σ H xs us Q I r h
    obtain ⟨a, bs, rfl, hq, q⟩ := h
    obtain ⟨u, rfl, ru⟩ := vals1 r
    cases ru
    obtain ⟨its, rv, pl, hz⟩ := I.list hq
    have hb := boolsAre_of rv
    have hl := pl.isList
    have hlt : a < s.heap.objs.size := by obtain ⟨_, e, _⟩ := hl; exact Heap.lt_size e
    refine call_all_walk (wpAny_pyIter_list hl ?_)
    refine ⟨s.heap.objs.size, [s.heap.objs.size, a], [s.heap.objs.size], its.toArray.size, _, _, fun i => (bs[i]?).getD true, rfl, Walks.list (A := X.A.in1) (I.ok.hd hc) _ a (Nat.ne_of_lt hlt) its.toArray,
      ⟨⟨_, Heap.get?_push_size _ rfl, rfl, rfl⟩, hl.push _⟩, fun i v s' Q' E' hP hQ => ?_, fun h' tk hk => ?_⟩
    · obtain ⟨b, e, rfl⟩ := hb.get i v (by simpa using hP)
      simp only [e, Option.getD_some] at hQ
      exact wpAny_truthy_bool hQ
    · have e : ((List.range its.toArray.size).all fun i => (bs[i]?).getD true) = bs.all id := by
        rw [List.size_toArray, hb.length]; exact LSm.range_all bs
      rw [e]
      exact ⟨.bl (bs.all id), H, I.kept (t' := tk) (kept_it hk), rfl, q⟩
end L2
namespace L2
open PySem PySem.Spec PyProof.Rows
section
variable {X : Cx}
theorem op_le_str : OpR X (compareOp .LtE) (fun x y H Q => ∃ i j, x = .str i ∧ y = .str j ∧ Q (.bl (!decide (j.cps.toList < i.cps.toList))) H) := by
  unfold OpR at *
  exact by
    intro pins s σ H x y v u Q I rx ry h
    obtain ⟨i, j, rfl, rfl, q⟩ := h
    obtain ⟨t, rfl⟩ := rx
    obtain ⟨t', rfl⟩ := ry
    exact PySem.P.le_str (fin_bl I q (by simp))
end
inductive SeqEq (K : PySem.W.Frag) (H : Hp) (R : V → V → Bool → Prop) : V → V → Bool → Prop where
  | list {a b : Addr} {xs ys : List V} {e : Nat → Bool} (ha : SqL K H a xs) (hb : SqL K H b ys) (hl : xs.length = ys.length) (he : ∀ i x y, xs[i]? = some x → ys[i]? = some y → R x y (e i)) : SeqEq K H R (.ref a) (.ref b) ((List.range xs.length).all e)
  | listN {a b : Addr} {xs ys : List V} (ha : SqL K H a xs) (hb : SqL K H b ys) (hl : xs.length ≠ ys.length) : SeqEq K H R (.ref a) (.ref b) false
  | tup {a b : Addr} {xs ys : List V} {e : Nat → Bool} (ha : SqT K H a xs) (hb : SqT K H b ys) (he : ∀ i x y, xs[i]? = some x → ys[i]? = some y → R x y (e i)) : SeqEq K H R (.ref a) (.ref b) ((List.range (min xs.length ys.length)).all e && xs.length == ys.length)
def EqD (K : PySem.W.Frag) (H : Hp) : Nat → V → V → Bool → Prop
  | 0, x, y, b => (flatV x = true ∧ flatV y = true ∧ b = eqV x y) ∨ ∃ a, x = .ref a ∧ y = .ref a ∧ b = true
  | n + 1, x, y, b => ((flatV x = true ∧ flatV y = true ∧ b = eqV x y) ∨ ∃ a, x = .ref a ∧ y = .ref a ∧ b = true) ∨ SeqEq K H (EqD K H n) x y b
theorem eqV_self {x : V} (h : flatV x = true) : eqV x x = true := by
  cases x <;> simp_all [flatV, eqV]
section
variable {X : Cx} {pins : List (Addr × Obj)} {σ : St} {H : Hp} {s : Shared}
theorem all_range {n : Nat} {e : Nat → Bool} (h : ∀ i, i < n → e i = true) : (List.range n).all e = true := by
  rw [List.all_eq_true]
  exact fun i hi => h i (List.mem_range.mp hi)
theorem EqD.self (I : Inv X pins σ H s) : ∀ {n : Nat} {x : V} {b : Bool}, EqD X.K H n x x b → b = true := by
  intro n
  induction n with
  | zero =>
    intro x b h
    rcases h with ⟨h1, _, h2⟩ | ⟨_, _, _, h⟩
    · rw [h2]; exact eqV_self h1
    · exact h
  | succ n ih =>
    intro x b h
    rcases h with (⟨h1, _, h2⟩ | ⟨_, _, _, h⟩) | h
    · rw [h2]; exact eqV_self h1
    · exact h
    · cases h with
      | @list a _ xs ys e ha hb hl he =>
        have q := I.list_inj ha hb
        subst q
        exact all_range fun i hi => ih (he i xs[i] xs[i] (by simp [hi]) (by simp [hi]))
      | listN ha hb hl => exact absurd (congrArg List.length (I.list_inj ha hb)) hl
      | @tup a _ xs ys e ha hb he =>
        have q := I.tuple_inj ha hb
        subst q
        rw [Nat.min_self, all_range fun i hi => ih (he i xs[i] xs[i] (by simp [hi]) (by simp [hi]))]
        simp
theorem SeqEq.rc {A : Around} {R : V → V → Bool → Prop} {x y : V} {b : Bool} {u v : Value} (I : Inv X pins σ H s) (h : SeqEq X.K H R x y b) (rx : RelV x u) (ry : RelV y v) (hu : A.units < cLine)
    (hR : ∀ x y b u v, R x y b → RelV x u → RelV y v → SeqAt.EqAt A.in1 s u v b) : SeqAt.RcAt A s u v b := by
  cases h with
  | @list a c xs ys e ha hb hl he =>
    cases rx; cases ry
    obtain ⟨its, r1, p1, z1⟩ := I.list ha
    obtain ⟨jts, r2, p2, z2⟩ := I.list hb
    have l1 := r1.length
    have l2 := r2.length
    have q := SeqAt.RcAt.lists (A := A) (s := s) (e := e) p1.isList p2.isList (by simp only [List.size_toArray]; omega) hu fun j h1 h2 => ?_
    · rw [List.size_toArray, ← l1] at q
      exact q
    · simp only [List.size_toArray] at h1 h2
      have g1 : xs[j]? = some xs[j] := by simp
      have g2 : ys[j]? = some ys[j] := by simp
      obtain ⟨w1, k1, rr1⟩ := r1.get g1
      obtain ⟨w2, k2, rr2⟩ := r2.get g2
      have e1 : its.toArray[j] = w1 := by
        have := List.getElem?_eq_some_iff.mp k1
        obtain ⟨_, this⟩ := this
        simpa using this
      have e2 : jts.toArray[j] = w2 := by
        have := List.getElem?_eq_some_iff.mp k2
        obtain ⟨_, this⟩ := this
        simpa using this
      rw [e1, e2]
      exact hR _ _ _ _ _ (he j _ _ g1 g2) rr1 rr2
  | @listN a c xs ys ha hb hl =>
    cases rx; cases ry
    obtain ⟨its, r1, p1, z1⟩ := I.list ha
    obtain ⟨jts, r2, p2, z2⟩ := I.list hb
    have l1 := r1.length
    have l2 := r2.length
    exact SeqAt.RcAt.lists_lengths p1.isList p2.isList (by simp only [List.size_toArray, bne_iff_ne]; omega) hu
  | @tup a c xs ys e ha hb he =>
    cases rx; cases ry
    obtain ⟨its, r1, p1, z1⟩ := I.tuple ha
    obtain ⟨jts, r2, p2, z2⟩ := I.tuple hb
    have l1 := r1.length
    have l2 := r2.length
    have q := SeqAt.RcAt.tuples (A := A) (s := s) (e := e) p1 p2 hu fun j h1 h2 => ?_
    · rw [List.size_toArray, List.size_toArray, ← l1, ← l2] at q
      exact q
    · simp only [List.size_toArray] at h1 h2
      have g1 : xs[j]? = some xs[j] := by simp
      have g2 : ys[j]? = some ys[j] := by simp
      obtain ⟨w1, k1, rr1⟩ := r1.get g1
      obtain ⟨w2, k2, rr2⟩ := r2.get g2
      have e1 : its.toArray[j] = w1 := by
        have := List.getElem?_eq_some_iff.mp k1
        obtain ⟨_, this⟩ := this
        simpa using this
      have e2 : jts.toArray[j] = w2 := by
        have := List.getElem?_eq_some_iff.mp k2
        obtain ⟨_, this⟩ := this
        simpa using this
      rw [e1, e2]
      exact hR _ _ _ _ _ (he j _ _ g1 g2) rr1 rr2
theorem SeqEq.rcNe {A : Around} {R : V → V → Bool → Prop} {x y : V} {b : Bool} {u v : Value} (I : Inv X pins σ H s) (h : SeqEq X.K H R x y b) (rx : RelV x u) (ry : RelV y v) (hu : A.units < cLine)
    (hR : ∀ x y b u v, R x y b → RelV x u → RelV y v → SeqAt.EqAt A.in1 s u v b) : SeqAt.RcNeAt A s u v (!b) := by
  cases h with
  | @list a c xs ys e ha hb hl he =>
    cases rx; cases ry
    obtain ⟨its, r1, p1, z1⟩ := I.list ha
    obtain ⟨jts, r2, p2, z2⟩ := I.list hb
    have l1 := r1.length
    have l2 := r2.length
    have q := SeqAt.RcNeAt.lists (A := A) (s := s) (e := e) p1.isList p2.isList (by simp only [List.size_toArray]; omega) hu fun j h1 h2 => ?_
    · rw [List.size_toArray, ← l1] at q
      exact q
    · simp only [List.size_toArray] at h1 h2
      have g1 : xs[j]? = some xs[j] := by simp
      have g2 : ys[j]? = some ys[j] := by simp
      obtain ⟨w1, k1, rr1⟩ := r1.get g1
      obtain ⟨w2, k2, rr2⟩ := r2.get g2
      have e1 : its.toArray[j] = w1 := by
        have := List.getElem?_eq_some_iff.mp k1
        obtain ⟨_, this⟩ := this
        simpa using this
      have e2 : jts.toArray[j] = w2 := by
        have := List.getElem?_eq_some_iff.mp k2
        obtain ⟨_, this⟩ := this
        simpa using this
      rw [e1, e2]
      exact hR _ _ _ _ _ (he j _ _ g1 g2) rr1 rr2
  | @listN a c xs ys ha hb hl =>
    cases rx; cases ry
    obtain ⟨its, r1, p1, z1⟩ := I.list ha
    obtain ⟨jts, r2, p2, z2⟩ := I.list hb
    have l1 := r1.length
    have l2 := r2.length
    exact SeqAt.RcNeAt.lists_lengths p1.isList p2.isList (by simp only [List.size_toArray, bne_iff_ne]; omega) hu
  | @tup a c xs ys e ha hb he =>
    cases rx; cases ry
    obtain ⟨its, r1, p1, z1⟩ := I.tuple ha
    obtain ⟨jts, r2, p2, z2⟩ := I.tuple hb
    have l1 := r1.length
    have l2 := r2.length
    have q := SeqAt.RcNeAt.tuples (A := A) (s := s) (e := e) p1 p2 hu fun j h1 h2 => ?_
    · rw [List.size_toArray, List.size_toArray, ← l1, ← l2] at q
      exact q
    · simp only [List.size_toArray] at h1 h2
      have g1 : xs[j]? = some xs[j] := by simp
      have g2 : ys[j]? = some ys[j] := by simp
      obtain ⟨w1, k1, rr1⟩ := r1.get g1
      obtain ⟨w2, k2, rr2⟩ := r2.get g2
      have e1 : its.toArray[j] = w1 := by
        have := List.getElem?_eq_some_iff.mp k1
        obtain ⟨_, this⟩ := this
        simpa using this
      have e2 : jts.toArray[j] = w2 := by
        have := List.getElem?_eq_some_iff.mp k2
        obtain ⟨_, this⟩ := this
        simpa using this
      rw [e1, e2]
      exact hR _ _ _ _ _ (he j _ _ g1 g2) rr1 rr2
theorem EqD.at (I : Inv X pins σ H s) : ∀ (n : Nat) (A : Around) (x y : V) (b : Bool) (u v : Value), A.units + n < cLine → EqD X.K H n x y b → RelV x u → RelV y v → SeqAt.EqAt A s u v b := by
  intro n
  induction n with
  | zero =>
    intro A x y b u v hu h rx ry
    rcases h with ⟨h1, h2, rfl⟩ | ⟨a, rfl, rfl, rfl⟩
    · exact eqAt_V rx ry h1 h2
    · cases rx; cases ry
      exact SeqAt.EqAt.same _
  | succ n ih =>
    intro A x y b u v hu h rx ry
    rcases h with (⟨h1, h2, rfl⟩ | ⟨a, rfl, rfl, rfl⟩) | h
    · exact eqAt_V rx ry h1 h2
    · cases rx; cases ry
      exact SeqAt.EqAt.same _
    · have rc := SeqEq.rc (A := A) I h rx ry (by omega) fun x y b u v hd r1 r2 => ih A.in1 x y b u v (by show A.units + 1 + n < cLine; omega) hd r1 r2
      have refs : ∃ a c, x = .ref a ∧ y = .ref c := by cases h <;> exact ⟨_, _, rfl, rfl⟩
      obtain ⟨a, c, rfl, rfl⟩ := refs
      cases rx; cases ry
      by_cases hac : a = c
      · subst hac
        have hb : b = true := EqD.self (n := n + 1) I (.inr h)
        subst hb
        exact SeqAt.EqAt.same _
      · exact SeqAt.EqAt.of_refs hac rc
def rEqD (K : PySem.W.Frag) (neg : Bool) : R2 := fun x y H Q => ∃ n b, n ≤ 60 ∧ SeqEq K H (EqD K H n) x y b ∧ Q (.bl (if neg then !b else b)) H
theorem op_eqD (hu : X.A.units + 62 < cLine) : OpR X (compareOp .Eq) (rEqD X.K false) := by
  unfold OpR at *
  exact by
    intro pins s σ H x y v u Q I rx ry h
    obtain ⟨n, b, hn, he, q⟩ := h
    exact SeqEq.rc (A := X.A) I he rx ry (by omega) (fun x y b u v hd r1 r2 => EqD.at I n X.A.in1 x y b u v (by show X.A.units + 1 + n < cLine; omega) hd r1 r2) X.prog X.w _ _ (fin_bl I q rfl)
theorem op_neD (hu : X.A.units + 62 < cLine) : OpR X (compareOp .NotEq) (rEqD X.K true) := by
  unfold OpR at *
  exact by
    intro pins s σ H x y v u Q I rx ry h
    obtain ⟨n, b, hn, he, q⟩ := h
    exact SeqEq.rcNe (A := X.A) I he rx ry (by omega) (fun x y b u v hd r1 r2 => EqD.at I n X.A.in1 x y b u v (by show X.A.units + 1 + n < cLine; omega) hd r1 r2) X.prog X.w _ _ (fin_bl I q rfl)
def eqL : List V → List V → Bool
  | [], [] => true
  | x :: xs, y :: ys => eqV x y && eqL xs ys
  | _, _ => false
end
theorem eqL_range : ∀ {xs ys : List V}, xs.length = ys.length → (List.range xs.length).all (fun i => eqV (xs.getD i .non) (ys.getD i .non)) = eqL xs ys
  | [], [], _ => rfl
  | x :: xs, y :: ys, h => by
    have h' : xs.length = ys.length := by simpa using h
    rw [List.length_cons, List.range_succ_eq_map, List.all_cons, List.all_map, eqL, ← eqL_range h']
    rfl
  | [], _ :: _, h => by simp at h
  | _ :: _, [], h => by simp at h
theorem eqL_len : ∀ {xs ys : List V}, xs.length ≠ ys.length → eqL xs ys = false
  | [], [], h => absurd rfl h
  | x :: xs, y :: ys, h => by
    rw [eqL, eqL_len (xs := xs) (ys := ys) (by simpa using h), Bool.and_false]
  | [], _ :: _, _ => rfl
  | _ :: _, [], _ => rfl
theorem SeqEq.flatL {K : PySem.W.Frag} {H : Hp} {n : Nat} {a b : Addr} {xs ys : List V} (ha : SqL K H a xs) (hb : SqL K H b ys) (fx : xs.all flatV = true) (fy : ys.all flatV = true) : SeqEq K H (EqD K H n) (.ref a) (.ref b) (eqL xs ys) := by
  by_cases hl : xs.length = ys.length
  · rw [← eqL_range hl]
    refine .list ha hb hl fun i x y hx hy => ?_
    have q : (flatV x = true ∧ flatV y = true ∧ eqV (xs.getD i .non) (ys.getD i .non) = eqV x y) := by
      refine ⟨List.all_eq_true.mp fx x (List.mem_of_getElem? hx), List.all_eq_true.mp fy y (List.mem_of_getElem? hy), ?_⟩
      rw [List.getD_eq_getElem?_getD, List.getD_eq_getElem?_getD, hx, hy]
      rfl
    cases n with
    | zero => exact .inl q
    | succ n => exact .inl (.inl q)
  · rw [eqL_len hl]
    exact .listN ha hb hl
theorem SeqEq.flatT {K : PySem.W.Frag} {H : Hp} {n : Nat} {a b : Addr} {xs ys : List V} (ha : SqT K H a xs) (hb : SqT K H b ys) (hl : xs.length = ys.length) (fx : xs.all flatV = true) (fy : ys.all flatV = true) : SeqEq K H (EqD K H n) (.ref a) (.ref b) (eqL xs ys) := by
  have q := SeqEq.tup (K := K) (H := H) (R := EqD K H n) (e := fun i => eqV (xs.getD i .non) (ys.getD i .non)) ha hb fun i x y hx hy => ?_
  · rw [← hl, Nat.min_self, eqL_range hl] at q
    simpa using q
  · have q : (flatV x = true ∧ flatV y = true ∧ eqV (xs.getD i .non) (ys.getD i .non) = eqV x y) := by
      refine ⟨List.all_eq_true.mp fx x (List.mem_of_getElem? hx), List.all_eq_true.mp fy y (List.mem_of_getElem? hy), ?_⟩
      rw [List.getD_eq_getElem?_getD, List.getD_eq_getElem?_getD, hx, hy]
      rfl
    cases n with
    | zero => exact .inl q
    | succ n => exact .inl (.inl q)
end L2
namespace L2
open PySem PySem.Spec PyProof.Rows
theorem sqT_of {K : PySem.W.Frag} {H : Hp} {a : Addr} {o : Obj} {xs : List V} {its : Array Value} {n : Nat} (hk : K.lookup a = some o) (hc : o.cls = .type "tuple") (ho : o.data = .seq its n) (hz : its.size ≤ sizeLine) (hv : Vals xs its.toList) : SqT K H a xs :=
  .inr ⟨o, its, n, hk, hc, ho, hz, hv⟩
def EntryIs (w : World) (p : Str × V) (e : DictEntry) : Prop := e.hash = PyData.keyHash w.params p.1 ∧ (∃ t, e.key = .str p.1 t) ∧ RelV p.2 e.val
structure KDict (w : World) (K : PySem.W.Frag) (a : Addr) (kvs : List (Str × V)) : Prop where
  ex : ∃ (es : List DictEntry) (ep : Nat), K.lookup a = some ⟨.type "dict", none, .dict es.toArray ep, #[]⟩ ∧ Paired (EntryIs w) kvs es
  nd : (kvs.map (·.1)).Nodup
theorem KDict.pairs {P : Program} {w : World} : ∀ {kvs : List (Str × V)} {es : List DictEntry}, Paired (EntryIs w) kvs es → ∃ vs : List (Key × Value), Pairs (mixKind P w) es vs ∧ KV (kvs.map fun p => ((Sum.inr p.1 : Key), p.2)) vs ∧ vs.map (·.1) = kvs.map fun p => (Sum.inr p.1 : Key)
  | _, _, .nil => ⟨[], .nil, .nil, rfl⟩
  | (x, v) :: r, e :: es, .cons ⟨h1, ⟨t, h2⟩, h3⟩ hr => by
    obtain ⟨vs, p1, p2, p3⟩ := KDict.pairs (P := P) hr
    refine ⟨((Sum.inr x : Key), e.val) :: vs, ?_, .cons ⟨rfl, h3⟩ p2, by rw [List.map_cons, p3]; rfl⟩
    refine .cons ?_ rfl p1
    show keyIs (.inr x) e.key = true
    rw [h2]
    exact keyIs_str x t
theorem KDict.keysOf {P : Program} {w : World} : ∀ {kvs : List (Str × V)} {es : List DictEntry}, Paired (EntryIs w) kvs es → ∀ e ∈ es, ∃ k, (mixKind P w).is k e.key = true ∧ e.hash = (mixKind P w).hash k
  | _, _, .nil, e, h => by simp at h
  | (x, v) :: r, e :: es, .cons ⟨h1, ⟨t, h2⟩, h3⟩ hr, e', h => by
    rcases List.mem_cons.mp h with q | q
    · subst q
      refine ⟨.inr x, ?_, h1⟩
      show keyIs (.inr x) e'.key = true
      rw [h2]
      exact keyIs_str x t
    · exact KDict.keysOf hr e' q
theorem KDict.dictOf {P : Program} {w : World} {K : PySem.W.Frag} {a : Addr} {kvs : List (Str × V)} {h : Heap} (D : KDict w K a kvs) (X : K.In h) : ∃ vs, KV (kvs.map fun p => ((Sum.inr p.1 : Key), p.2)) vs ∧ h.DictOf (mixKind P w) a vs := by
  obtain ⟨es, ep, hk, hp⟩ := D.ex
  obtain ⟨vs, p1, p2, p3⟩ := KDict.pairs (P := P) hp
  refine ⟨vs, p2, _, es.toArray, ep, X _ _ hk, ⟨rfl, rfl, rfl⟩, rfl, fun e he => KDict.keysOf hp e (by simpa using he), by simpa using p1, ?_⟩
  rw [p3]
  have nd := D.nd
  rw [List.nodup_iff_pairwise_ne, List.pairwise_map] at nd ⊢
  exact nd.imp fun h e => h (Sum.inr.inj e)
def rKGet (w : World) (K : PySem.W.Frag) : R2 := fun x y H Q => ∃ a kvs z v, x = .ref a ∧ y = .str z ∧ KDict w K a kvs ∧ kvs.lookup z = some v ∧ Q v H
theorem valV_str {kvs : List (Str × V)} {z : Str} : valV (kvs.map fun p => ((Sum.inr p.1 : Key), p.2)) (Sum.inr z) = kvs.lookup z := by
  unfold valV
  induction kvs with
  | nil => rfl
  | cons p r ih =>
    obtain ⟨k, v⟩ := p
    rw [List.map_cons, List.find?_cons, List.lookup_cons]
    by_cases e : k = z
    · subst e
      simp
    · have h1 : decide ((Sum.inr k : Key) = Sum.inr z) = false := by simpa using e
      have h2 : (z == k) = false := by simpa using fun q => e q.symm
      rw [h1, h2]
      exact ih
theorem ix_kdict {X : Cx} : IxR X (rKGet X.w X.K) := by
  unfold IxR at *
  exact by
    intro value slice pins s σ H x y v u Q I rx ry h hs
    obtain ⟨a, kvs, z, r, rfl, rfl, D, hl, q⟩ := h
    cases rx
    have ry' : RelV (kV (Sum.inr z)) u := ry
    obtain ⟨vs, rel, dd⟩ := D.dictOf (P := X.prog) I.kIn
    obtain ⟨w', hw, rw'⟩ := RelO.some_of (v := r) (o := valueAt vs (Sum.inr z)) (by
      have q := rel.val (Sum.inr z)
      rw [valV_str, hl] at q
      exact q)
    refine tail_any dd.mapOf.typeIs PySem.F.slot_dict_getitem.lookup ?_ hs
    exact wpAny_getItem_of (kV_is ry') dd.mapOf hw ⟨r, H, I.tok _, rw', q⟩
end L2
namespace L2
open PySem PySem.Spec PyProof.Rows
def strKeysB (es : Array DictEntry) : Bool := es.all fun e => match e.key with | .str _ _ => true | _ => false
theorem strKeys_of {es : Array DictEntry} (h : strKeysB es = true) : StrKeys es := by
  intro e he
  have q := Array.all_eq_true_iff_forall_mem.mp h e he
  split at q
  · rename_i n t hk
    exact ⟨n, t, hk⟩
  · cases q
theorem XCls.mk2 {K : PySem.W.Frag} {C N A : Addr} {nm q : Str} {bs : List Value} {hdct : Bool} {sn : List Str} {sub : List Value} {ab : Bool} {col : Option Bool} {dd : Option Addr} {k0 k1 k2 k3 k5 : Option Value} {es : Array DictEntry} {c d ep sl}
    {c0 : Value} {dd' : Option Addr} {cd : ClassData} {sl0 : Array (Option Value)} {es' : Array DictEntry} {c' d' ep' sl'}
    (l : K.lookup C = some (excClassObj nm q C N bs (.ref A :: vmro) hdct sn sub ab col dd k0 k1 k2 k3 k5 "ValueError.__new__")) (ln : K.lookup N = some ⟨c, d, .dict es ep, sl⟩) (sk : strKeysB es = true) (ni : nsFind es "__init__" = none)
    (la : K.lookup A = some { cls := c0, dict := dd', data := .cls cd, slots := sl0 }) (lna : K.lookup cd.ns = some ⟨c', d', .dict es' ep', sl'⟩) (ska : strKeysB es' = true) (nia : nsFind es' "__init__" = none) : XCls K C :=
  ⟨nm, q, N, bs, _, hdct, sn, sub, ab, col, dd, k0, k1, k2, k3, k5, es, l, ⟨c, d, ep, sl, ln, strKeys_of sk⟩, ni, .own la ⟨c', d', ep', sl', lna, strKeys_of ska⟩ nia .base⟩
theorem hu62 {A : Around} {k : Nat} (hr : Room k A) : A.units + 62 < cLine := by have := hr.un; omega
theorem cap_nil {X : Cx} {scope : Scope} {N' : List Str} {js : List (Option Nat)} (hl : js.length = N'.length) (h : js.all Option.isNone = true) : Cap X scope N' js :=
  ⟨hl, fun i j x h1 _ => by
    have q := List.all_eq_true.mp h _ (List.mem_of_getElem? h1)
    cases q⟩
theorem free_nil {X : Cx} {scope : Scope} (h : (scope.names.all fun y => match y.2 with | .free => false | _ => true) = true) : ∀ y ∈ scope.names, y.2 = .free → (X.env.kindOf y.1 = some .cell ∨ X.env.kindOf y.1 = some .free) := fun y hy e => by
  have q := List.all_eq_true.mp h y hy
  rw [e] at q
  cases q
theorem rIsiA.exc {K : PySem.W.Frag} {H : Hp} {e C c : Addr} {b : Bool} {Q : VK} (h : H e = some (exO (.ref C) none e)) (q : XAsk K C) (k : PySem.W.kitOne K (.ref C) (.ref c) = some b) (hQ : Q (.bl b) H) : rIsiA K [.ref e, .ref c] H Q :=
  .inr ⟨e, .ref c, .ref c, C, b, rfl, .own c, h, q, k, hQ⟩
theorem passE0 {P : Program} {w : World} {X : Cx} : PassesS (CXx P w) X (fun _ => E0) := by
  intro pins σ H s e s' I h
  obtain ⟨_, _, _, _, _, _, _, _, _, _, _, _, _, _, _, _, _, h⟩ := h
  exact h.elim
end L2
namespace L2
open PySem PySem.Spec PyProof.Rows
structure FunD (K : PySem.W.Frag) (x qual : Str) (st : Stmt) (dV : Value) (f : Addr) (fd : FuncData) : Prop where
  ex : ∃ (oc : Value) (od : Option Addr) (kV doc pm : Value) (an : Option Addr) (cdv ct : Value) (osl : Array (Option Value)),
    fd = PySem.W.fnOf x qual (defArgs st) (defBody st) (defScope st) dV kV doc pm an cdv ct ∧ K.lookup f = some ⟨oc, od, .func fd, osl⟩ ∧ PySem.W.codeIn K cdv qual = true
  kp : PySem.W.keepIn K (.ref f) = true
theorem FunD.okx {P : Program} {w : World} {K : PySem.W.Frag} {mg : Str → Option Value} {base : Heap} {x qual : Str} {st : Stmt} {dV : Value} {f : Addr} {fd : FuncData} {N ps : List Str} {k : Nat} {sp : Sp} (F : FunD K x qual st dV f fd) (S : FnScope N ps (defScope st)) (len : ∀ vs H Q E, sp vs H Q E → vs.length = ps.length)
    (hbody : ∀ (cdv : Value) (A : Around) (outer : List Env) (s : Shared) (H : Hp) (vs : List V) (Q : VK) (E : XK), Room k (A.deeper (envOfC qual (defScope st) s.heap.objs.size f cdv)) → sp vs H Q E →
      ∃ t, PSs (cxOf (CXx P w) P w K mg base N qual (defScope st) f cdv A outer s H E) (defBody st) t ∧ t { nx := fun _ H' => Q .non H', rt := Q } (start N vs) H) : FnOk P w K mg base (CXx P w) (k + 1) f fd ps sp := by
  obtain ⟨oc, od, kV, doc, pm, an, cdv, ct, osl, rfl, lk, hcd⟩ := F.ex
  exact fn_of lk hcd S len fun A outer s H vs Q E hr hsp => hbody cdv A outer s H vs Q E hr hsp
theorem funD_mk {K : PySem.W.Frag} {x qual : Str} {st : Stmt} {dV : Value} {f : Addr} {oc : Value} {od an : Option Addr} {osl : Array (Option Value)} {kV doc pm cdv ct : Value} (l : K.lookup f = some ⟨oc, od, .func (PySem.W.fnOf x qual (defArgs st) (defBody st) (defScope st) dV kV doc pm an cdv ct), osl⟩)
    (hc : PySem.W.codeIn K cdv qual = true) (kp : PySem.W.keepIn K (.ref f) = true) : FunD K x qual st dV f (PySem.W.fnOf x qual (defArgs st) (defBody st) (defScope st) dV kV doc pm an cdv ct) := ⟨⟨oc, od, kV, doc, pm, an, cdv, ct, osl, rfl, l, hc⟩, kp⟩
structure MkBinds (K : PySem.W.Frag) (fd : FuncData) (ps ks : List Str) (na : Nat) (g : List Value → List Value → List Value) (gV : List V → List V → List V) : Prop where
  to : ∀ (s : Shared) (x : Value) (us ws : List Value), K.In s.heap → us.length = na → ws.length = ks.length → BindsTo s fd ⟨x :: us, ks.zip ws⟩ (ps.zip (x :: g us ws)) ∧ (x :: g us ws).length = ps.length
  rel : ∀ {vs : List V} {us : List Value} {zs : List V} {ws : List Value}, Vals vs us → Vals zs ws → Vals (gV vs zs) (g us ws)
theorem MkBinds.ofD {K : PySem.W.Frag} {x qual : Str} {st : Stmt} {T f : Addr} {fd : FuncData} {ps ks : List Str} {na : Nat} {g : List Value → List Value → List Value} {gV : List V → List V → List V} {o : Obj} {items : Array Value} {n : Nat}
    (F : FunD K x qual st (.ref T) f fd) (hT : K.lookup T = some o) (hs : o.data = .seq items n) (hrel : ∀ {vs : List V} {us : List Value} {zs : List V} {ws : List Value}, Vals vs us → Vals zs ws → Vals (gV vs zs) (g us ws))
    (h : ∀ (kV doc pm : Value) (an : Option Addr) (cdv ct : Value) (y : Value) (us ws : List Value), us.length = na → ws.length = ks.length →
      (∃ k, bindArgs (PySem.W.fnOf x qual (defArgs st) (defBody st) (defScope st) (.ref T) kV doc pm an cdv ct) ⟨y :: us, ks.zip ws⟩ = seqItems? (.ref T) >>= k ∧ k (some items) = pure (ps.zip (y :: g us ws))) ∧ (y :: g us ws).length = ps.length) : MkBinds K fd ps ks na g gV := by
  obtain ⟨oc, od, kV, doc, pm, an, cdv, ct, osl, rfl, lk, hcd⟩ := F.ex
  refine ⟨fun s y us ws X h1 h2 => ?_, hrel⟩
  obtain ⟨⟨k, e1, e2⟩, e3⟩ := h kV doc pm an cdv ct y us ws h1 h2
  exact ⟨.of_defaults rfl (X _ _ hT) hs e1 e2, e3⟩
def tMakeS (C : Addr) (sp : Sp) (na nk : Nat) (gV : List V → List V → List V) (Ez : St → XK) (t tk : TA) : TE := fun σ H Q => t σ H fun vs H1 => tk σ H1 fun zs H2 => vs.length = na ∧ zs.length = nk ∧
  ∀ x dx, H2 x = none → H2 dx = none → dx ≠ x → sp (.ref x :: gV vs zs) (upd (upd H2 dx (.own x)) x (.ins C dx [])) (fun v H3 => v = .non ∧ Q (.ref x) H3) (Ez σ)
section
variable {X : Cx} {CX : CXT} {k : Nat} {f C : Addr} {fd : FuncData} {ps ks : List Str} {sp : Sp} {Ez : St → XK} {x : Str} {p pos : Pos} {e : Expr} {es : List Expr} {kws : List Keyword} {t tk : TA} {na : Nat} {g : List Value → List Value → List Value} {gV : List V → List V → List V}
theorem run_makeS {pins : List (Addr × Obj)} {σ : St} {H : Hp} {s : Shared} {Q : VK} {us ws : List Value} {vs zs : List V} (M : Mk X.K C f) (F : FnOk X.prog X.w X.K X.mg X.base CX k f fd ps sp) (hr : Room (k + 1) X.A) (hb : MkBinds X.K fd ps ks na g gV)
    (hx : PassesS CX X Ez) (I : Inv X pins σ H s) (r : Vals vs us) (rz : Vals zs ws) (hna : vs.length = na) (hnk : zs.length = ks.length)
    (h : ∀ x dx, H x = none → H dx = none → dx ≠ x → sp (.ref x :: gV vs zs) (upd (upd H dx (.own x)) x (.ins C dx [])) (fun v H2 => v = .non ∧ Q (.ref x) H2) (Ez σ)) :
    wpAny (model X.prog X.w) X.A (call (.ref C) us (ks.zip ws)) (EP X pins σ Q) X.xe s := by
  have hq := h (s.heap.objs.size + 1) s.heap.objs.size (I.hok.fresh (Nat.le_succ _)) (I.hok.fresh (Nat.le_refl _)) (Nat.ne_of_lt (Nat.lt_succ_self _))
  have I2 := Inv.made (C := C) I
  have r2 : Vals (V.ref (s.heap.objs.size + 1) :: gV vs zs) (Value.ref (s.heap.objs.size + 1) :: g us ws) := .cons rfl (hb.rel r rz)
  obtain ⟨hto, hl⟩ := hb.to { s with heap := (s.heap.push PySem.W.emptyDict).push (PySem.W.instObj C s.heap.objs.size) } (Value.ref (s.heap.objs.size + 1)) us ws I2.kIn (by rw [← r.length]; exact hna) (by rw [← rz.length]; exact hnk)
  refine wpAny_call (make_map (f := f) I.kIn M.makes M.init (beq_iff_eq.mp M.fn) (codeAny_mono (F.run _ X.stack _ _ ⟨Value.ref (s.heap.objs.size + 1) :: us, ks.zip ws⟩ (Value.ref (s.heap.objs.size + 1) :: g us ws) _ _ (Ez σ) (hr.make C us (ks.zip ws))
    (I2.env0.make C us (ks.zip ws)) hto r2 hq) fun r s' hq' => ?_))
  cases r with
  | error e => exact hx pins σ _ _ e s' I2 hq'
  | ok fl =>
    cases fl with
    | ret u =>
      obtain ⟨v, H', I3, rv, ev, q3⟩ := I2.after hq'
      subst ev
      exact ⟨rv, ⟨V.ref (s.heap.objs.size + 1), H', I3, rfl, q3⟩⟩
    | next => exact False.elim hq'
    | brk => exact False.elim hq'
    | cont => exact False.elim hq'
theorem pe_makeS (M : Mk X.K C f) (F : FnOk X.prog X.w X.K X.mg X.base CX k f fd ps sp) (hr : Room (k + 1) X.A) (hg : Gl X x) (hm : X.mg x = some (.ref C)) (hb : MkBinds X.K fd ps ks na g gV) (hx : PassesS CX X Ez)
    (ha : PA X (e :: es) t) (hkw : PK X kws tk) (hall : (backToKw pos (keywordEach kws X.env)).all (·.1.isSome) = true := by rfl) (hks : (backToKw pos (keywordEach kws X.env)).filterMap (·.1) = ks := by rfl)
    (hdb : (x == ("__debug__" : Str)) = false := by decide) (he : starEach (e :: es) X.env = (false, eval e X.env) :: starEach es X.env := by rfl)
    (hpl : ((backTo pos (starEach (e :: es) X.env)).any (·.1) || (backToKw pos (keywordEach kws X.env)).any (·.1.isNone)) = false := by rfl) :
    PE X (.Call (.Name x p) (e :: es) kws pos) (tMakeS C sp na ks.length gV Ez t tk) := by
  unfold PE at *; unfold PA at *; unfold PK at *
  exact by
    intro pins s σ H Q I h
    refine wpAny_Call_Name_kw (ld_glob I hg hm ?_ hdb)
    refine PySem.W.callWith_KW (h₀ := X.base) I.ok.mod.kin M.kp hall (thn (ha pos pins s σ H _ I h) fun us s1 ⟨vs, H1, I1, r, q⟩ => ?_) hpl he
    refine thn (hkw pos pins s1 σ H1 _ I1 q) fun ws s2 ⟨zs, H2, I2, rz, hna, hnk, q2⟩ => ⟨I2.kIn, ?_⟩
    rw [hks]
    exact run_makeS M F hr hb hx I2 r rz hna hnk q2
end
theorem free_of {X : Cx} {scope : Scope} (l : List Str) (h : (scope.names.all fun y => match y.2 with | .free => l.contains y.1 | _ => true) = true) (hl : ∀ x ∈ l, X.env.kindOf x = some .cell ∨ X.env.kindOf x = some .free) :
    ∀ y ∈ scope.names, y.2 = .free → (X.env.kindOf y.1 = some .cell ∨ X.env.kindOf y.1 = some .free) := fun y hy e => by
  have q := List.all_eq_true.mp h y hy
  rw [e] at q
  exact hl _ (List.contains_iff_mem.mp q)
def tCut (t u : TS) : TS := fun D σ H => ∃ Mid : St → Hp → Prop, t { D with nx := Mid } σ H ∧ ∀ σ' H', Mid σ' H' → u D σ' H'
theorem pss_cut {X : Cx} {st : Stmt} {rest : List Stmt} {t u : TS} (h1 : PS X st t) (h2 : PSs X rest u) : PSs X (st :: rest) (tCut t u) := by
  unfold PS at *; unfold PSs at *
  exact by
    intro pins s σ H D I h
    obtain ⟨Mid, h, hm⟩ := h
    refine wpAny_execs_cons (thn (h1 pins s σ H { D with nx := Mid } I h) fun f s1 q => ?_)
    cases f with
    | next =>
      obtain ⟨σ', H', I', q⟩ := q
      exact h2 pins s1 σ' H' D I' (hm σ' H' q)
    | ret v => exact q
    | brk => exact q
    | cont => exact q
theorem lenS {α : Type} {n : Nat} : ∀ {us : List α}, us.length = n + 1 → ∃ a r, us = a :: r ∧ r.length = n
  | a :: r, h => ⟨a, r, rfl, by simpa using h⟩
theorem len0 {α : Type} : ∀ {us : List α}, us.length = 0 → us = []
  | [], _ => rfl
theorem fm_nil {α : Type} {p : α → Prop} : ∀ x ∈ ([] : List α), p x := fun _ h => nomatch h
theorem fm_cons {α : Type} {p : α → Prop} {a : α} {l : List α} (h : p a) (r : ∀ x ∈ l, p x) : ∀ x ∈ a :: l, p x := fun x hx => by
  rcases List.mem_cons.mp hx with e | e
  · subst e; exact h
  · exact r x e
theorem cap_of {X : Cx} {scope : Scope} {N' : List Str} {js : List (Option Nat)} (hl : js.length = N'.length)
    (h : ∀ p ∈ js.zip N', ∀ j, p.1 = some j → X.N[j]? = some p.2 ∧ scope.names.lookup p.2 = some .free ∧ (X.env.kindOf p.2 = some .cell ∨ X.env.kindOf p.2 = some .free)) : Cap X scope N' js :=
  ⟨hl, fun i j x h1 h2 => h (some j, x) (List.mem_of_getElem? (i := i) (by rw [List.getElem?_zip_eq_some]; exact ⟨h1, h2⟩)) j rfl⟩
end L2
namespace L2
open PySem PySem.Spec PyProof.Rows
section
variable {X : Cx}
end
end L2
namespace L2
open PySem PySem.Spec PyProof.Rows
section
variable {X : Cx}
theorem ints_are : ∀ {ns : List Int} {us : List Value}, Vals (ns.map V.int) us → IntsAre us ns
  | [], _, .nil => .nil
  | _ :: _, _, .cons ⟨_, h⟩ r => by
    subst h
    exact .cons _ _ (ints_are r)
theorem ints_vals : ∀ {ns : List Int} {us : List Value}, IntsAre us ns → Vals (ns.map V.int) us
  | [], _, .nil => .nil
  | _ :: _, _, .cons _ _ r => .cons ⟨_, rfl⟩ (ints_vals r)
theorem call_sorted (hc : X.calm = true) : CallR X (.builtin "sorted") (fun xs H Q => ∃ (a : Addr) (ns : List Int), xs = [.ref a] ∧ SqL X.K H a (ns.map V.int) ∧ ns.length < 64 ∧
    ∀ (l : Addr) (ms : List Int), H l = none → ms.Perm ns → ms.Pairwise (· ≤ ·) → Q (.ref l) (upd H l (.lst (ms.map V.int)))) := by
  unfold CallR at *
  exact by
    intro pins s σ H xs us Q I r h
    obtain ⟨a, ns, rfl, hq, hl, q⟩ := h
    obtain ⟨u, rfl, rx⟩ := vals1 r
    cases rx
    obtain ⟨its, r', pl, hz⟩ := I.list hq
    have hlen := r'.length
    rw [List.length_map] at hlen
    refine sorted_ints pl.isList (ints_are r') (by omega) fun out ns' a1 a2 a3 => ?_
    obtain ⟨e, he⟩ := sortedAll_at s.heap its out
    have hn := a2.length_eq
    have h64 : 64 ≤ sizeLine := le_ble rfl
    exact ⟨.ref (s.heap.objs.size + 1), _, I.laid (t' := s.toks) (fun _ _ => sortedAll_old) (Nat.le_succ _) (show ObjOk X.prog X.w _ _ _ (.lst (ns'.map V.int)) from ⟨by rw [List.length_map]; omega, out.toList, e, ints_vals a1, he⟩), rfl, q _ _ (I.hok.fresh (Nat.le_succ _)) a2 a3⟩
end
structure CDivB (i j : Int) : Prop where
  lo : 0 < j
  hi : j < 2 ^ 200
theorem op_fdivB {X : Cx} : OpR X (binaryOp .FloorDiv) (rI CDivB fun i j => .int (i / j)) := opI fun i j _ _ _ _ _ hc q => by
  have h1 : (0 : Int) < j := hc.lo
  have h2 : j < 2 ^ 200 := hc.hi
  refine floordiv_int (by omega) (by rw [Int.fdiv_eq_ediv_of_nonneg i (by omega)]; exact q) (.inl (PyProof.noPylong_of_log2 ?_))
  have h3 : j.natAbs < 2 ^ 200 := by omega
  have h4 := (Nat.log2_lt (n := j.natAbs) (k := 200) (by omega)).mpr h3
  omega
theorem own_def {P : Program} {w : World} {K : PySem.W.Frag} {mg : Str → Option Value} {base : Heap} {N : List Str} {qual : Str} {scope : Scope} {f : Addr} {cd : Value} {A : Around} {outer : List Env} {s₀ : Shared} {H₀ : Hp} {E : XK} {CX : CXT} :
    PassesOwn (model P w) (cxOf CX P w K mg base N qual scope f cd A outer s₀ H₀ E).A (cxOf CX P w K mg base N qual scope f cd A outer s₀ H₀ E).env (cxOf CX P w K mg base N qual scope f cd A outer s₀ H₀ E).xe := PassesOwn.leaving
theorem MtM.r {X : Cx} {id : String} {r : V → List V → Hp → VK → Prop} (h : MtM X id r) : MtR X id r := by
  first
  | exact (h)
  | (unfold MtR at *; unfold MtM at *; exact (h))
theorem bt_sorted : bootBuiltins "sorted" = some (.builtin "sorted") := by decide +kernel
end L2
namespace L2
open PySem PySem.Spec PyProof.Rows
theorem loop_lst {K : PySem.W.Frag} {a l : Addr} {xs : List V} {g : TG} {tc : TT} {te : TE} {σ : St} {H : Hp} {Q : VK} (Pv : Nat → St → List V → Hp → Prop) (hsz : xs.length ≤ sizeLine) (h0 : Pv 0 σ [] H)
    (hl : ∀ i σ acc H, i ≤ xs.length → Pv i σ acc H → H l = some (.lst acc) ∧ SqL K H a xs ∧ acc.length ≤ i)
    (hs : ∀ i x σ acc H, xs[i]? = some x → Pv i σ acc H → g x σ H fun σ2 H2 => tc σ2 H2 fun b H3 => if b = true then
      te σ2 H3 fun v H4 => H4 l = some (.lst acc) ∧ Nx xs.length i (Pv (i + 1) σ2 (acc ++ [v]) (upd H4 l (.lst (acc ++ [v])))) else Nx xs.length i (Pv (i + 1) σ2 acc H3))
    (hd : ∀ σ acc H, Pv xs.length σ acc H → Q (.ref l) H) : tLoop (Itl K a) l g tc te σ H Q :=
  loop_by xs.length Pv hsz h0 (fun i σ acc H hi p => ⟨(hl i σ acc H hi p).1, (hl i σ acc H hi p).2.2⟩)
    (fun i σ acc H hi p => ⟨xs, xs[i], (hl i σ acc H (Nat.le_of_lt hi) p).2.1, List.getElem?_eq_getElem hi⟩)
    (fun i x σ acc H H' hi p y => by
      obtain ⟨e, y⟩ := y
      subst e
      exact hs i x σ acc _ (y xs (hl i σ acc _ (Nat.le_of_lt hi) p).2.1) p)
    (fun σ acc H p => ⟨⟨xs, (hl _ σ acc H (Nat.le_refl _) p).2.1, Nat.le_refl _⟩, hd σ acc H p⟩)
def Tr : Nat → Type
  | 0 => Int
  | n + 1 => List (Tr n)
abbrev ls {n : Nat} (ts : Tr (n + 1)) : List (Tr n) := ts
abbrev Ow := Addr → Option (List Nat)
def AtR (H : Hp) : (n : Nat) → V → Tr n → Prop
  | 0, v, i => v = .int i
  | n + 1, v, ts => ∃ a vs, v = .ref a ∧ H a = some (.lst vs) ∧ vs.length = (ls ts).length ∧ ∀ (j : Nat) w t, vs[j]? = some w → (ls ts)[j]? = some t → AtR H n w t
def At (o : Ow) (H : Hp) : (n : Nat) → List Nat → V → Tr n → Prop
  | 0, _, v, i => v = .int i
  | n + 1, p, v, ts => ∃ a vs, v = .ref a ∧ o a = some p ∧ H a = some (.lst vs) ∧ vs.length = (ls ts).length ∧ ∀ (j : Nat) w t, vs[j]? = some w → (ls ts)[j]? = some t → At o H n (j :: p) w t
theorem At.r {o : Ow} {H : Hp} : ∀ {n : Nat} {p : List Nat} {v : V} {t : Tr n}, At o H n p v t → AtR H n v t
  | 0, _, _, _, h => h
  | n + 1, _, _, _, ⟨a, vs, e, _, h, l, k⟩ => ⟨a, vs, e, h, l, fun j w t hw ht => (k j w t hw ht).r⟩
theorem AtR.keep {H H' : Hp} (s : ∀ a xs, H a = some (.lst xs) → H' a = some (.lst xs)) : ∀ {n : Nat} {v : V} {t : Tr n}, AtR H n v t → AtR H' n v t
  | 0, _, _, h => h
  | n + 1, _, _, ⟨a, vs, e, h, l, k⟩ => ⟨a, vs, e, s _ _ h, l, fun j w t hw ht => (k j w t hw ht).keep s⟩
theorem AtR.same {H H' : Hp} (s : Same H H') {n : Nat} {v : V} {t : Tr n} (h : AtR H n v t) : AtR H' n v t := h.keep fun a xs e => s a _ e
theorem At.frame {o o' : Ow} {H H' : Hp} : ∀ {n : Nat} {p : List Nat} {v : V} {t : Tr n}, At o H n p v t → (∀ a r xs, o a = some r → p <:+ r → H a = some (.lst xs) → H' a = some (.lst xs) ∧ o' a = some r) → At o' H' n p v t
  | 0, _, _, _, h, _ => h
  | n + 1, p, _, _, ⟨a, vs, e, ho, h, l, k⟩, f =>
    have q := f a p vs ho (List.suffix_refl p) h
    ⟨a, vs, e, q.2, q.1, l, fun j w t hw ht => (k j w t hw ht).frame fun b r xs hb hs hx => f b r xs hb ((List.suffix_cons j p).trans hs) hx⟩
theorem At.under {o : Ow} {H : Hp} (q : List Nat) : ∀ {n : Nat} {p : List Nat} {v : V} {t : Tr n}, At o H n p v t → At (fun a => (o a).map (· ++ q)) H n (p ++ q) v t
  | 0, _, _, _, h => h
  | n + 1, p, _, _, ⟨a, vs, e, ho, h, l, k⟩ => ⟨a, vs, e, (by show (o a).map (· ++ q) = _; rw [ho]; rfl), h, l, fun j w t hw ht => (k j w t hw ht).under q⟩
theorem cons_not_suffix {j : Nat} {p : List Nat} : ¬ (j :: p) <:+ p := fun h => by
  have := h.length_le
  rw [List.length_cons] at this
  omega
theorem cons_ne_suffix {j i : Nat} {p r : List Nat} (h : (j :: p) <:+ r) (h' : (i :: p) <:+ r) : j = i := by
  have e1 : (j :: p) = r.drop (r.length - (j :: p).length) := List.suffix_iff_eq_drop.mp h
  have e2 : (i :: p) = r.drop (r.length - (i :: p).length) := List.suffix_iff_eq_drop.mp h'
  rw [List.length_cons] at e1 e2
  rw [← e2] at e1
  exact (List.cons.inj e1).1
theorem At.put {o o' : Ow} {H H' : Hp} {n : Nat} {p : List Nat} {a : Addr} {ts : Tr (n + 1)} {vs : List V} {i : Nat} {w : V} {t : Tr n} (h : At o H (n + 1) p (.ref a) ts) (hv : H a = some (.lst vs)) (hi : i < vs.length)
    (hf : ∀ b r xs, o b = some r → b ≠ a → ¬ (i :: p) <:+ r → H b = some (.lst xs) → H' b = some (.lst xs)) (ho : ∀ b r, o b = some r → ¬ (i :: p) <:+ r → o' b = some r)
    (e : H' a = some (.lst (vs.set i w))) (hw : At o' H' n (i :: p) w t) : At o' H' (n + 1) p (.ref a) ((ls ts).set i t : List (Tr n)) := by
  obtain ⟨a', vs', ea, ho', h', l, k⟩ := h
  cases ea
  rw [hv] at h'
  cases h'
  refine ⟨a, _, rfl, ho _ _ ho' cons_not_suffix, e, by show (vs.set i w).length = ((ls ts).set i t).length; rw [List.length_set, List.length_set, l], fun j x u hx hu => ?_⟩
  have hu : ((ls ts).set i t)[j]? = some u := hu
  by_cases q : i = j
  · subst q
    rw [List.getElem?_set_self (by omega)] at hx
    rw [List.getElem?_set_self (by omega)] at hu
    cases hx
    cases hu
    exact hw
  · rw [List.getElem?_set_ne q] at hx hu
    refine (k j x u hx hu).frame fun b r xs hb hs hx => ?_
    have hne : b ≠ a := fun z => by
      subst z
      rw [ho'] at hb
      cases hb
      exact cons_not_suffix hs
    have hni : ¬ (i :: p) <:+ r := fun z => q (cons_ne_suffix z hs)
    exact ⟨hf b r xs hb hne hni hx, ho b r hb hni⟩
theorem At.lst {o : Ow} {H : Hp} {n : Nat} {p : List Nat} {v : V} {ts : Tr (n + 1)} (h : At o H (n + 1) p v ts) : ∃ a vs, v = .ref a ∧ o a = some p ∧ H a = some (.lst vs) ∧ vs.length = (ls ts).length :=
  let ⟨a, vs, e, ho, h, l, _⟩ := h
  ⟨a, vs, e, ho, h, l⟩
theorem At.kid {o : Ow} {H : Hp} {n : Nat} {p : List Nat} {a : Addr} {ts : Tr (n + 1)} {vs : List V} {j : Nat} (h : At o H (n + 1) p (.ref a) ts) (hv : H a = some (.lst vs)) (hj : j < vs.length) : ∃ w t, vs[j]? = some w ∧ (ls ts)[j]? = some t ∧ At o H n (j :: p) w t := by
  obtain ⟨a', vs', ea, ho', h', l, k⟩ := h
  cases ea
  rw [hv] at h'
  cases h'
  have h1 : vs[j]? = some vs[j] := List.getElem?_eq_getElem hj
  have hj' : j < (ls ts).length := by omega
  have h2 : (ls ts)[j]? = some (ls ts)[j] := List.getElem?_eq_getElem hj'
  exact ⟨_, _, h1, h2, k j _ _ h1 h2⟩
theorem AtR.kid {H : Hp} {n : Nat} {a : Addr} {ts : Tr (n + 1)} {vs : List V} {j : Nat} (h : AtR H (n + 1) (.ref a) ts) (hv : H a = some (.lst vs)) (hj : j < vs.length) : ∃ w t, vs[j]? = some w ∧ (ls ts)[j]? = some t ∧ AtR H n w t := by
  obtain ⟨a', vs', ea, h', l, k⟩ := h
  cases ea
  rw [hv] at h'
  cases h'
  have h1 : vs[j]? = some vs[j] := List.getElem?_eq_getElem hj
  have hj' : j < (ls ts).length := by omega
  have h2 : (ls ts)[j]? = some (ls ts)[j] := List.getElem?_eq_getElem hj'
  exact ⟨_, _, h1, h2, k j _ _ h1 h2⟩
theorem AtR.lst {H : Hp} {n : Nat} {v : V} {ts : Tr (n + 1)} (h : AtR H (n + 1) v ts) : ∃ a vs, v = .ref a ∧ H a = some (.lst vs) ∧ vs.length = (ls ts).length :=
  let ⟨a, vs, e, h, l, _⟩ := h
  ⟨a, vs, e, h, l⟩
def New (H H' : Hp) (n : Nat) (w : V) (t : Tr n) : Prop := ∃ o, At o H' n [] w t ∧ ∀ a r, o a = some r → H a = none ∧ H' a ≠ none
def NewL (H H' : Hp) (l : Addr) (n : Nat) (ws : List V) (ts : List (Tr n)) : Prop :=
  ws.length = ts.length ∧ ∃ o : Ow, (∀ (j : Nat) w t, ws[j]? = some w → ts[j]? = some t → At o H' n [j] w t) ∧ ∀ a r, o a = some r → H a = none ∧ H' a ≠ none ∧ a ≠ l ∧ r ≠ []
theorem New.r {H H' : Hp} {n : Nat} {w : V} {t : Tr n} (h : New H H' n w t) : AtR H' n w t := let ⟨_, h, _⟩ := h; h.r
theorem NewL.nil {H H' : Hp} {l : Addr} {n : Nat} : NewL H H' l n [] [] := ⟨rfl, fun _ => none, fun j w t h => (by rw [List.getElem?_nil] at h; cases h), fun a r h => nomatch h⟩
theorem NewL.frame {H H' H'' : Hp} {l : Addr} {n : Nat} {ws : List V} {ts : List (Tr n)} (h : NewL H H' l n ws ts) (f : ∀ a xs, a ≠ l → H a = none → H' a = some (.lst xs) → H'' a = some (.lst xs)) (g : ∀ a, H' a ≠ none → H'' a ≠ none) : NewL H H'' l n ws ts := by
  obtain ⟨e, o, k, d⟩ := h
  exact ⟨e, o, fun j w t hw ht => (k j w t hw ht).frame fun a r xs ho _ hx => ⟨f a xs (d a r ho).2.2.1 (d a r ho).1 hx, ho⟩, fun a r ho => ⟨(d a r ho).1, g a (d a r ho).2.1, (d a r ho).2.2⟩⟩
theorem New.frame {H H' H'' : Hp} {n : Nat} {w : V} {t : Tr n} (h : New H H' n w t) (f : ∀ a xs, H a = none → H' a = some (.lst xs) → H'' a = some (.lst xs)) (g : ∀ a, H' a ≠ none → H'' a ≠ none) : New H H'' n w t := by
  obtain ⟨o, k, d⟩ := h
  exact ⟨o, k.frame fun a r xs ho _ hx => ⟨f a xs (d a r ho).1 hx, ho⟩, fun a r ho => ⟨(d a r ho).1, g a (d a r ho).2⟩⟩
theorem New.same {H H' H'' : Hp} {n : Nat} {w : V} {t : Tr n} (h : New H H' n w t) (s : Same H' H'') : New H H'' n w t := h.frame (fun a xs _ e => s a _ e) fun a e => by
  cases q : H' a with
  | none => exact absurd q e
  | some u => rw [s a u q]; intro z; cases z
theorem New.int {H H' : Hp} {i : Int} : New H H' 0 (.int i) i := ⟨fun _ => none, rfl, fun a r h => nomatch h⟩
theorem NewL.snoc {H H' H'' : Hp} {l : Addr} {n : Nat} {ws : List V} {ts : List (Tr n)} {w : V} {t : Tr n} (h : NewL H H' l n ws ts) (hl : H' l ≠ none) (fr : ∀ a, H' a = none → H a = none) (f : ∀ a xs, a ≠ l → H a = none → H' a = some (.lst xs) → H'' a = some (.lst xs)) (g : ∀ a, H' a ≠ none → H'' a ≠ none)
    (hn : New H' H'' n w t) : NewL H H'' l n (ws ++ [w]) (ts ++ [t]) := by
  obtain ⟨e, o, k, d⟩ := h
  obtain ⟨o2, k2, d2⟩ := hn
  have old : ∀ a r, o a = some r → o2 a = none := fun a r ho => by
    cases q : o2 a with
    | none => rfl
    | some r2 => exact absurd (d2 a r2 q).1 (d a r ho).2.1
  refine ⟨by rw [List.length_append, List.length_append, e]; rfl, fun a => match o2 a with | some r => some (r ++ [ws.length]) | none => o a, fun j x u hx hu => ?_, fun a r hr => ?_⟩
  · rcases Nat.lt_trichotomy j ws.length with q | q | q
    · rw [List.getElem?_append_left q] at hx
      rw [List.getElem?_append_left (by omega)] at hu
      refine (k j x u hx hu).frame fun a r xs ho _ hx => ⟨f a xs (d a r ho).2.2.1 (d a r ho).1 hx, ?_⟩
      show (match o2 a with | some r => some (r ++ [ws.length]) | none => o a) = some r
      rw [old a r ho]
      exact ho
    · subst q
      rw [List.getElem?_append_right (Nat.le_refl _), Nat.sub_self] at hx
      rw [List.getElem?_append_right (by omega), show ws.length - ts.length = 0 by omega] at hu
      cases hx
      cases hu
      refine (k2.under [ws.length]).frame fun a r xs ho _ hx => ⟨hx, ?_⟩
      show (match o2 a with | some r => some (r ++ [ws.length]) | none => o a) = some r
      cases q : o2 a with
      | none => rw [q] at ho; cases ho
      | some r2 => rw [q] at ho; exact ho
    · rw [List.getElem?_append_right (by omega)] at hx
      have : [w].length ≤ j - ws.length := by rw [List.length_singleton]; omega
      rw [List.getElem?_eq_none this] at hx
      cases hx
  · have hr : (match o2 a with | some r => some (r ++ [ws.length]) | none => o a) = some r := hr
    cases q : o2 a with
    | none =>
      rw [q] at hr
      exact ⟨(d a r hr).1, g a (d a r hr).2.1, (d a r hr).2.2⟩
    | some r2 =>
      rw [q] at hr
      cases hr
      refine ⟨fr a (d2 a r2 q).1, (d2 a r2 q).2, fun z => ?_, fun z => ?_⟩
      · subst z
        exact hl (d2 a r2 q).1
      · have := congrArg List.length z
        rw [List.length_append] at this
        simp at this
theorem NewL.done {H H' : Hp} {l : Addr} {n : Nat} {ws : List V} {ts : List (Tr n)} (h : NewL H H' l n ws ts) (hl : H l = none) (e : H' l = some (.lst ws)) : New H H' (n + 1) (.ref l) ts := by
  obtain ⟨el, o, k, d⟩ := h
  have nl : o l = none := by
    cases q : o l with
    | none => rfl
    | some r => exact absurd rfl (d l r q).2.2.1
  refine ⟨fun a => if a = l then some [] else o a, ⟨l, ws, rfl, if_pos rfl, e, el, fun j w t hw ht => (k j w t hw ht).frame fun a r xs ho _ hx => ⟨hx, ?_⟩⟩, fun a r hr => ?_⟩
  · show (if a = l then some [] else o a) = some r
    rw [if_neg (d a r ho).2.2.1]
    exact ho
  · have hr : (if a = l then some [] else o a) = some r := hr
    by_cases q : a = l
    · subst q
      exact ⟨hl, by rw [e]; intro z; cases z⟩
    · rw [if_neg q] at hr
      exact ⟨(d a r hr).1, (d a r hr).2.1⟩
def flat : (n : Nat) → Tr n → List Int
  | 0, i => [i]
  | n + 1, ts => (ls ts).flatMap (flat n)
def full : (n : Nat) → Tr n → Prop
  | 0, _ => True
  | n + 1, ts => ls ts ≠ [] ∧ ∀ t ∈ ls ts, full n t
theorem rIsiA.ty {K : PySem.W.Frag} {H : Hp} {x : V} {n c : String} {b : Bool} {Q : VK} (t : TyOf K H x (.type n)) (k : PySem.W.kitOne K (.type n) (.type c) = some b) (q : Q (.bl b) H) : rIsiA K [x, .ty c] H Q := .inl ⟨x, .ty c, _, _, _, rfl, .ty c, t, k, q⟩
def Dom (o : Ow) (H : Hp) : Prop := ∀ b r, o b = some r → H b ≠ none
structure Ext (o o' : Ow) (H H1 : Hp) : Prop where
  old : ∀ b, H b ≠ none → o' b = o b
  new : ∀ b r, o' b = some r → H b = none → H1 b ≠ none
def ovr (H : Hp) (o oN : Ow) (q : List Nat) : Ow := fun b => match H b with | none => (oN b).map (· ++ q) | some _ => o b
theorem New.put {o : Ow} {H H1 : Hp} {n : Nat} {w : V} {t : Tr n} (nw : New H H1 n w t) (q : List Nat) : ∃ o', Ext o o' H H1 ∧ ∀ H2, (∀ b xs, H b = none → H1 b = some (.lst xs) → H2 b = some (.lst xs)) → At o' H2 n q w t := by
  obtain ⟨oN, k, d⟩ := nw
  refine ⟨ovr H o oN q, ⟨fun b hb => ?_, fun b r hr hb => ?_⟩, fun H2 f => ?_⟩
  · unfold ovr
    cases e : H b with
    | none => exact absurd e hb
    | some u => rfl
  · unfold ovr at hr
    rw [hb] at hr
    cases e : oN b with
    | none =>
      have hr : (oN b).map (· ++ q) = some r := hr
      rw [e] at hr
      cases hr
    | some r' => exact (d b r' e).2
  · refine (k.under q).frame fun b r xs hr _ hx => ?_
    have hr : (oN b).map (· ++ q) = some r := hr
    cases e : oN b with
    | none => rw [e] at hr; cases hr
    | some r' =>
      refine ⟨f b xs (d b r' e).1 hx, ?_⟩
      unfold ovr
      rw [(d b r' e).1]
      exact hr
theorem Ext.after {o o' : Ow} {H H1 : Hp} {c : Addr} {u : HO} (x : Ext o o' H H1) (dm : Dom o H) (s : Same H H1) : Dom o' (upd H1 c u) := fun b r hr => by
  by_cases q : b = c
  · rw [q, upd_same]; intro z; cases z
  · rw [upd_ne q]
    cases e : H b with
    | none => exact x.new b r hr e
    | some v => rw [s b v e]; intro z; cases z
end L2
namespace L2
open PySem PySem.Spec PyProof.Rows
def rCatT1 (K : PySem.W.Frag) : R2 := fun x y H Q => ∃ a b xs ys, x = .ref a ∧ y = .ref b ∧ SqT K H a xs ∧ SqT K H b ys ∧ ys ≠ [] ∧ xs.length + ys.length ≤ sizeLine ∧
  (xs = [] → Q (.ref b) H) ∧ (xs ≠ [] → ∀ p, H p = none → Q (.ref p) (upd H p (.tup (xs ++ ys))))
theorem op_catT1 {X : Cx} : OpR X (binaryOp .Add) (rCatT1 X.K) := by
  unfold OpR at *
  exact by
    intro pins s σ H x y v u Q I rx ry h
    obtain ⟨a, b, xs, ys, rfl, rfl, ha, hb, hy, hz, q1, q2⟩ := h
    cases rx
    cases ry
    by_cases hx : xs = []
    · obtain ⟨its, r1, p1, _⟩ := I.tuple ha
      obtain ⟨its2, r2, p2, _⟩ := I.tuple hb
      have hv : its = [] := r1.nil_iff.mpr hx
      obtain ⟨⟨cls, dd, data, sl⟩, ho, hc, n, hd⟩ := id p1
      obtain ⟨⟨cls2, dd2, data2, sl2⟩, ho2, hc2, n2, hd2⟩ := id p2
      simp only at hc hd hc2 hd2
      subst hc hd hc2 hd2
      exact concat_meets ⟨_, ho, rfl⟩ ⟨_, ho2, rfl⟩ noFill_tuple_add seq_tuple_add PySem.F.slot_tuple_add PySem.F.entry_tuple_add (PySem.F.args_tuple_add_2 _ _)
        (tuple_addW0 a b its.toArray its2.toArray n n2 dd dd2 sl sl2 (by simp [hv])) ⟨ho, ho2, ⟨.ref b, H, I, rfl, q1 hx⟩⟩
    · have op := op_catT (X := X)
      unfold OpR at op
      exact op pins s σ H (.ref a) (.ref b) _ _ Q I rfl rfl ⟨a, b, xs, ys, rfl, rfl, ha, hb, hx, hz, fun e => absurd e hy, fun _ => q2 hx⟩
end L2
namespace L2
open PySem PySem.Spec PyProof.Rows
theorem rel_key {k : Key} {v : Value} (h : keyIs k v = true) : RelV (kV k) v := by
  rcases keyIs_shape h with ⟨i, t, rfl, rfl⟩ | ⟨x, t, rfl, rfl⟩
  · exact ⟨t, rfl⟩
  · exact ⟨t, rfl⟩
theorem vals_get : ∀ {xs : List V} {us : List Value}, xs.length = us.length → (∀ (j : Nat) x u, xs[j]? = some x → us[j]? = some u → RelV x u) → Vals xs us
  | [], [], _, _ => .nil
  | [], _ :: _, h, _ => nomatch h
  | _ :: _, [], h, _ => nomatch h
  | x :: xs, u :: us, h, k => .cons (k 0 x u rfl rfl) (vals_get (Nat.succ.inj h) fun j x' u' h1 h2 => k (j + 1) x' u' h1 h2)
theorem paired_get {α β : Type} {F : α → β → Prop} : ∀ {l₁ : List α} {l₂ : List β} {i : Nat} {a : α}, Paired F l₁ l₂ → l₁[i]? = some a → ∃ b, l₂[i]? = some b ∧ F a b
  | _, _, 0, _, .cons h _, e => by cases e; exact ⟨_, rfl, h⟩
  | _, _, i + 1, _, .cons _ r, e => paired_get (i := i) r e
end L2
namespace L2
open PySem PySem.Spec PyProof.Rows
theorem vals_strs : ∀ {ys : List Str} {us : List Value}, Vals (ys.map V.str) us → StrsAre us ys
  | [], _, .nil => .nil
  | _ :: _, _, .cons ⟨_, h⟩ r => by
    subst h
    exact .cons _ _ (vals_strs r)
theorem mt_join {X : Cx} : MtR X "str.join" (fun x xs H Q => ∃ sep a ys, x = .str sep ∧ xs = [.ref a] ∧ SqL X.K H a (ys.map V.str) ∧ sep.length ≤ 16 ∧ (ys.map (·.length)).sum + ys.length ≤ 1048576 ∧ Q (.str (Txt.join sep ys)) H) := by
  unfold MtR at *
  exact by
    intro pins s σ H x xs v us Q I rx r h
    obtain ⟨sep, a, ys, rfl, rfl, hq, h1, h2, q⟩ := h
    obtain ⟨t, rfl⟩ := rx
    obtain ⟨u, rfl, ru⟩ := vals1 r
    cases ru
    obtain ⟨its, rv, pl, _⟩ := I.list hq
    exact join_listW pl.isList (vals_strs rv) h1 h2 fun t' k => ⟨.str _, H, I.tok _, ⟨_, rfl⟩, q⟩
structure IAsk (K : PySem.W.Frag) (C : Addr) : Prop where
  ha : PySem.W.findIn K (.ref C) "__class__" = some (some (.builtin "object.__class__"))
  hn : PySem.W.specialIn K (.builtin "object.__class__") "__get__" = some (some (.builtin "getset_descriptor.__get__"))
  htk : PySem.W.takesIn K (.builtin "object.__class__") = some true
  hm : PySem.W.mroIn K C (.type "object") = some true
theorem rIsiA.ins {K : PySem.W.Frag} {H : Hp} {a C D dx : Addr} {fs : List (Str × V)} {b : Bool} {Q : VK} (h : H a = some (.ins C dx fs)) (cl : Cls K C) (q : IAsk K C) (k : PySem.W.kitOne K (.ref C) (.ref D) = some b) (hQ : Q (.bl b) H) : rIsiA K [.ref a, .ref D] H Q :=
  .inl ⟨.ref a, .ref D, _, _, _, rfl, .own D, .ins h cl q.ha q.hn q.htk q.hm, k, hQ⟩
theorem rIsiA.tyC {K : PySem.W.Frag} {H : Hp} {x : V} {n : String} {D : Addr} {b : Bool} {Q : VK} (t : TyOf K H x (.type n)) (k : PySem.W.kitOne K (.type n) (.ref D) = some b) (q : Q (.bl b) H) : rIsiA K [x, .ref D] H Q := .inl ⟨x, .ref D, _, _, _, rfl, .own D, t, k, q⟩
end L2
namespace L2
open PySem PySem.Spec PyProof.Rows
section
variable {X : Cx}
end
structure Pk {n : Nat} (ws : List V) (ts : List (Tr n)) (i : Nat) (idx : List Nat) (acc : List V) (us : List (Tr n)) : Prop where
  la : acc.length = idx.length
  lu : us.length = idx.length
  lt : ∀ k ∈ idx, k < i
  nd : idx.Nodup
  at_ : ∀ j k : Nat, idx[j]? = some k → acc[j]? = ws[k]? ∧ us[j]? = ts[k]?
theorem Pk.nil {n : Nat} {ws : List V} {ts : List (Tr n)} : Pk ws ts 0 [] [] [] := ⟨rfl, rfl, fun _ h => (nomatch h), List.nodup_nil, fun _ _ h => (by rw [List.getElem?_nil] at h; cases h)⟩
theorem Pk.drop {n : Nat} {ws : List V} {ts : List (Tr n)} {i : Nat} {idx : List Nat} {acc : List V} {us : List (Tr n)} (h : Pk ws ts i idx acc us) : Pk ws ts (i + 1) idx acc us :=
  ⟨h.la, h.lu, fun k hk => Nat.lt_succ_of_lt (h.lt k hk), h.nd, h.at_⟩
theorem Pk.keep {n : Nat} {ws : List V} {ts : List (Tr n)} {i : Nat} {idx : List Nat} {acc : List V} {us : List (Tr n)} {w : V} {t : Tr n} (h : Pk ws ts i idx acc us) (hw : ws[i]? = some w) (ht : ts[i]? = some t) : Pk ws ts (i + 1) (idx ++ [i]) (acc ++ [w]) (us ++ [t]) := by
  refine ⟨by rw [List.length_append, List.length_append, h.la]; rfl, by rw [List.length_append, List.length_append, h.lu]; rfl, fun k hk => ?_, ?_, fun j k hk => ?_⟩
  · rcases List.mem_append.mp hk with q | q
    · exact Nat.lt_succ_of_lt (h.lt k q)
    · rw [List.mem_singleton.mp q]; exact Nat.lt_succ_self i
  · rw [List.nodup_append]
    exact ⟨h.nd, List.nodup_cons.mpr ⟨List.not_mem_nil, List.nodup_nil⟩, fun x hx y hy e => by rw [e, List.mem_singleton.mp hy] at hx; exact Nat.lt_irrefl _ (h.lt _ hx)⟩
  · by_cases q : j < idx.length
    · rw [List.getElem?_append_left q] at hk
      rw [List.getElem?_append_left (by rw [h.la]; exact q), List.getElem?_append_left (by rw [h.lu]; exact q)]
      exact h.at_ j k hk
    · rw [List.getElem?_append_right (by omega)] at hk
      obtain ⟨h1, e1⟩ := List.getElem?_eq_some_iff.mp hk
      have j0 : j - idx.length = 0 := by simpa using h1
      rw [j0] at hk
      cases (Option.some.inj hk : i = k)
      rw [List.getElem?_append_right (by rw [h.la]; omega), List.getElem?_append_right (by rw [h.lu]; omega), h.la, h.lu, j0]
      exact ⟨hw.symm, ht.symm⟩
end L2
namespace L2
open PySem PySem.Spec PyProof.Rows
theorem cut_last {xs : List V} (h : xs ≠ []) : cutV xs none (some (-1)) = xs.dropLast := by
  have hp : 0 < xs.length := List.length_pos_iff.mpr h
  unfold cutV HT.sIx
  rw [List.dropLast_eq_take]
  simp
  omega
theorem cut_part {xs : List V} (h : xs ≠ []) : ¬ (HT.sIx xs.length 0 none = 0 ∧ HT.sIx xs.length xs.length (some (-1)) = xs.length) := by
  have hp : 0 < xs.length := List.length_pos_iff.mpr h
  unfold HT.sIx
  simp
  omega
end L2
namespace L2
open PySem PySem.Spec PyProof.Rows
section
variable {X : Cx} {pins : List (Addr × Obj)} {σ : St} {H : Hp} {s : Shared}
end
section
variable {X : Cx} {pins : List (Addr × Obj)} {σ : St} {H : Hp} {s : Shared} {d : Addr} {u0 u1 : HO}
def NF (X : Cx) (d : Addr) : Prop := ∀ o u, X.H₀ d ≠ some (.frz o u)
theorem HOk.swap {P : Program} {w : World} {h : Heap} (ok : HOk P w H h) (e : H d = some u0) (h1 : ∀ y, u0 ≠ .own y) (h2 : ∀ xs, u0 ≠ .tup xs) (new : ObjOk P w (upd H d u1) h d u1) : HOk P w (upd H d u1) h := fun b u q => by
  by_cases hb : b = d
  · subst hb
    rw [upd_same] at q
    cases q
    exact new
  · rw [upd_ne hb] at q
    refine (ok b u q).stay (fun c v _ r => r) (fun c r => ?_) fun c xs r => ?_
    · rw [upd_ne (fun z => by rw [z, e] at r; exact h1 _ (Option.some.inj r))]; exact r
    · rw [upd_ne (fun z => by rw [z, e] at r; exact h2 _ (Option.some.inj r))]; exact r
theorem Inv.swap (I : Inv X pins σ H s) (e : H d = some u0) (h1 : ∀ y, u0 ≠ .own y) (h2 : ∀ xs, u0 ≠ .tup xs) (h3 : ∀ ps, u0 ≠ .tbl ps) (h4 : (∀ o u, u0 ≠ .frz o u) ∨ NF X d) (new : ObjOk X.prog X.w (upd H d u1) s.heap d u1) : Inv X pins σ (upd H d u1) s := by
  have ne : ∀ {b : Addr}, H b = none → upd H d u1 b = none := fun {b} hb => by
    rw [upd_ne (fun z => by rw [z, e] at hb; cases hb)]; exact hb
  refine ⟨I.ok, I.os, I.bare, ⟨I.base.keep, I.base.slot, fun b o q n hx => ne (I.base.free b o q n hx), I.base.there, fun b xs q => ?_, fun b o u q => ?_, fun b ps q => ?_⟩, I.loc, I.cell, ne I.free, fun x c q => ne (I.freeC x c q), fun p hp => ?_, I.hok.swap e h1 h2 new, I.len⟩
  · have q' := I.base.tups b xs q
    rw [upd_ne (fun z => by rw [z, e] at q'; exact h2 _ (Option.some.inj q'))]
    exact q'
  · have q' := I.base.frzs b o u q
    rw [upd_ne (fun z => by
      rcases h4 with h4 | h4
      · rw [z, e] at q'; exact h4 _ _ (Option.some.inj q')
      · rw [z] at q; exact h4 _ _ q)]
    exact q'
  · obtain ⟨more, q'⟩ := I.base.tbls b ps q
    refine ⟨more, ?_⟩
    rw [upd_ne (fun z => by rw [z, e] at q'; exact h3 _ (Option.some.inj q'))]
    exact q'
  · obtain ⟨a, b, r⟩ := I.pin p hp
    exact ⟨a, ne b, r⟩
def Thaw (X : Cx) (H H' : Hp) : Prop := ∃ d o kvs, H d = some (.frz o (.dK kvs)) ∧ NF X d ∧ H' = upd H d (.dK kvs)
theorem Inv.thaw {H' : Hp} (I : Inv X pins σ H s) (t : Thaw X H H') : Inv X pins σ H' s := by
  obtain ⟨d, o, kvs, e, nf, rfl⟩ := t
  obtain ⟨g, ok⟩ : s.heap.get? d = some o ∧ ObjOk X.prog X.w H s.heap d (.dK kvs) := I.hok d _ e
  exact I.swap e (fun y z => nomatch z) (fun xs z => nomatch z) (fun ps z => nomatch z) (.inr nf) (show ObjOk X.prog X.w _ s.heap d (.dK kvs) from ok)
def thawD (X : Cx) (D : Ends) : Ends := { D with nx := fun σ H => ∃ H', Thaw X H H' ∧ D.nx σ H', rt := fun v H => ∃ H', Thaw X H H' ∧ D.rt v H' }
theorem ps_thaw {st : Stmt} {t : TS} (h : PS X st t) : PS X st (fun D σ H => t (thawD X D) σ H) := by
  unfold PS at *
  exact by
    intro pins s σ H D I q
    refine thn (h pins s σ H (thawD X D) I q) fun f s1 q1 => ?_
    cases f with
    | next => obtain ⟨σ', H', I', H2, tw, n⟩ := q1; exact ⟨σ', H2, I'.thaw tw, n⟩
    | brk => exact q1
    | cont => exact q1
    | ret u => obtain ⟨v, σ', H', I', r, H2, tw, n⟩ := q1; exact ⟨v, σ', H2, I'.thaw tw, r, n⟩
def Itv (d : Addr) (o : Obj) (kvs : List (Key × V)) : It :=
  ⟨fun i H => H d = some (.frz o (.dK kvs)) ∧ i < kvs.length, fun i H x H' => H' = H ∧ ∃ p, kvs[i]? = some p ∧ x = p.2, fun i H => H d = some (.frz o (.dK kvs)) ∧ i = kvs.length⟩
theorem frz_at {o : Obj} {kvs : List (Key × V)} {es : Array DictEntry} {ep : Nat} (I : Inv X pins σ H s) (e : H d = some (.frz o (.dK kvs))) (ho : o.data = .dict es ep) : ∃ vs, KV kvs vs ∧ s.heap.DictAt (mixKind X.prog X.w) d vs ep := by
  obtain ⟨g, _, _, vs, r, o', es', ep', g', c, hd, k⟩ : s.heap.get? d = some o ∧ kvs.length ≤ sizeLine ∧ (d == sysModules) = false ∧ ∃ vs, KV kvs vs ∧ s.heap.DictOf (mixKind X.prog X.w) d vs := I.hok d _ e
  rw [g] at g'
  cases g'
  rw [ho] at hd
  cases hd
  exact ⟨vs, r, o, es, g, c, ho, k⟩
theorem turn_vals {P : Program} {w : World} {K : PySem.W.Frag} {tg : Expr} {o : Obj} {kvs : List (Key × V)} {es : Array DictEntry} {ep : Nat} (d it : Addr) (ho : o.data = .dict es ep) : Turn P w K tg (Itv d o kvs) [it] it (fun i h => h.IsValIter it d i kvs.length ep) where
  mem := by simp
  obj := fun i h st b hb => by
    have e : b = it := by simpa using hb
    subst e
    obtain ⟨o, e, c, d⟩ := st
    exact ⟨o, e, fun v z => by rw [d] at z; cases z⟩
  keep := fun i h h' st k => by
    obtain ⟨o, e, c⟩ := st
    exact ⟨o, k it (by simp) o e, c⟩
  item := by
    intro X hP hw hK hc i pins s σ H E I hf st hg
    subst hP hw hK
    obtain ⟨e, hi⟩ := hg
    obtain ⟨vs, r, dd⟩ := frz_at I e ho
    have hl : kvs.length = vs.length := KV.length r
    obtain ⟨f0, f1, f2, f3, f4, f5⟩ := hf it (by simp)
    obtain ⟨p, hp⟩ : ∃ p, kvs[i]? = some p := ⟨_, List.getElem?_eq_getElem hi⟩
    obtain ⟨q, hq, h1, h2⟩ := paired_get r hp
    obtain ⟨q1, q2⟩ := q
    rw [hl] at st
    refine wpAny_pyNext_values_item st dd hq fun h' st' sb => ?_
    have I1 : Inv X pins σ H { s with heap := h' } := I.turned (t' := s.toks) (fun b o hb e => (sb.2 b hb).trans e) f0 f1 f3 f4 f5
    obtain ⟨oi, ei, c, dt⟩ := id st'
    exact ⟨q2, rfl, go_of (s := { s with heap := h' }) ei c dt (by decide) ⟨p.2, H, I1, h2, ⟨rfl, p, hp, rfl⟩, by rw [hl]; exact st', fun b hb => (hf b hb).1⟩⟩
  done := by
    intro X hP hw hK hc i pins s σ H E I hf st hg
    subst hP hw hK
    obtain ⟨e, hi⟩ := hg
    obtain ⟨vs, r, dd⟩ := frz_at I e ho
    have hl : kvs.length = vs.length := KV.length r
    obtain ⟨f0, f1, f2, f3, f4, f5⟩ := hf it (by simp)
    rw [hl] at st
    exact wpAny_pyNext_values_end (I.ok.hd hc) st dd (by simp; omega) fun h' eb => ⟨rfl, I.turned (t' := s.toks) (fun b o hb e => eb b o hb e) f0 f1 f3 f4 f5⟩
  self := fun _ _ _ _ _ st h => wpAny_pyIter_valiter st h
theorem Inv.freeze {kvs : List (Key × V)} (I : Inv X pins σ H s) (e : H d = some (.dK kvs)) : ∃ o es ep vs, o.data = .dict es ep ∧ NF X d ∧ Inv X pins σ (upd H d (.frz o (.dK kvs))) s ∧ KV kvs vs ∧ (d == sysModules) = false ∧ s.heap.DictAt (mixKind X.prog X.w) d vs ep := by
  obtain ⟨z, lo, vs, r, o, es, ep, g, c, hd, k⟩ := dk_of I.hok e
  refine ⟨o, es, ep, vs, hd, fun o u q => ?_, ?_, r, lo, o, es, g, c, hd, k⟩
  · have := I.base.frzs d o u q
    rw [e] at this
    cases this
  · exact I.swap e (fun y z => nomatch z) (fun xs z => nomatch z) (fun ps z => nomatch z) (.inl fun o u z => nomatch z) (show ObjOk X.prog X.w _ s.heap d (.frz o (.dK kvs)) from ⟨g, z, lo, vs, r, o, es, ep, g, c, hd, k⟩)
def iVals (X : Cx) (tl : TE) : TI := fun σ H R => tl σ H fun x H1 => ∃ d kvs, x = .ref d ∧ H1 d = some (.dK kvs) ∧ ∀ o, NF X d → R (Itv d o kvs) (upd H1 d (.frz o (.dK kvs)))
theorem pi_vals {tg o : Expr} {to : TE} {apos cpos : Pos} (ho : PE X o to) (hbase : attributeBase o "values" X.env (eval o X.env) = eval o X.env := by rfl) (hline : (apos.endLine == cpos.line) = true := by rfl) : PI X tg (.Call (.Attribute o "values" apos) [] [] cpos) (iVals X to) := by
  unfold PE at *; unfold PI at *
  exact by
    intro pins s σ H R I h
    refine wpAny_Call_method0_late hbase hline (thn (ho pins s σ H _ I h) fun v s1 ⟨x, H1, I1, r1, q1⟩ => ?_)
    obtain ⟨d, kvs, e, hd, q⟩ := q1
    subst e
    cases r1
    obtain ⟨t1, t2, _⟩ := isD_at I1 (.inl ⟨kvs, .inl hd⟩)
    obtain ⟨o, es, ep, vs, ho, nf, I2, r, lo, dd⟩ := I1.freeze hd
    refine ⟨"dict", "dict.values", PySem.F.plainAttrs_dict, PySem.F.slot_dict_values, PySem.F.type_dict_values, t1, t2, Calls.callWith_builtin rfl (PySem.evalArgs_none ?_)⟩
    refine call_meetsIn PySem.F.slot_dict_values t1 PySem.F.entry_dict_values (PySem.F.args_dict_values_1 _) (meets_dict_values (mixKind X.prog X.w) d lo) ⟨⟨vs, dd.dictOf⟩, ?_⟩
    have I3 : Inv X pins σ _ { s1 with heap := s1.heap.push { cls := .type "dict_values", data := .fields #[.ref d] } } := I2.kept (t' := s1.toks) fun b o e => Heap.get?_push_of_some _ e
    refine wpAny_pyIter_values (s := { s1 with heap := s1.heap.push { cls := .type "dict_values", data := .fields #[.ref d] } }) ⟨_, Heap.get?_push_size _ rfl, rfl, rfl⟩ (dd.push _) ?_
    refine ⟨_, [_], _, _, _, rfl, I3.kept (t' := s1.toks) fun b o e => Heap.get?_push_of_some _ e, turn_vals d _ ho, ⟨_, Heap.get?_push_size _ rfl, rfl, by rw [KV.length r]; rfl⟩, fun b hb => ?_, q o nf⟩
    rw [List.mem_singleton.mp hb]
    exact I3.fpOk (Nat.le_refl _) (I3.hok.fresh (Nat.le_refl _))
theorem for_dict {kvs : List (Key × V)} {o : Obj} {J : It} {f : Key × V → V} (hJ : J = ⟨fun i H => H d = some (.frz o (.dK kvs)) ∧ i < kvs.length, fun i H x H' => H' = H ∧ ∃ p, kvs[i]? = some p ∧ x = f p, fun i H => H d = some (.frz o (.dK kvs)) ∧ i = kvs.length⟩) {g : TG} {tb : TS} {D : Ends} {σ : St} {H : Hp} (Pv : Nat → St → Hp → Prop) (h0 : Pv 0 σ H) (hl : ∀ i σ H, i ≤ kvs.length → Pv i σ H → H d = some (.frz o (.dK kvs)))
    (hs : ∀ i p σ H, kvs[i]? = some p → Pv i σ H → g (f p) σ H fun σ2 H2 => tb { D with nx := Pv (i + 1), ct := Pv (i + 1), bk := D.nx } σ2 H2) (hd : ∀ σ H, Pv kvs.length σ H → D.nx σ H) :
    ∃ W : Nat → Nat → St → Hp → Prop, (∃ m, W 0 m σ H) ∧ ∀ i m σ H, W i m σ H →
      (J.stop i H ∧ D.nx σ H) ∨ (J.go i H ∧ ∃ N : St → Hp → Prop, (∀ σ' H', N σ' H' → ∃ m', m' < m ∧ W (i + 1) m' σ' H') ∧ ∀ x H', J.yld i H x H' → g x σ H' fun σ2 H2 => tb { D with nx := N, ct := N, bk := D.nx } σ2 H2) := by
  subst hJ
  refine ⟨fun i m σ H => m = kvs.length - i ∧ i ≤ kvs.length ∧ Pv i σ H, ⟨kvs.length, by simp, Nat.zero_le _, h0⟩, ?_⟩
  rintro i m σ H ⟨rfl, hi, p⟩
  have q := hl i σ H hi p
  by_cases hlt : i < kvs.length
  · refine .inr ⟨⟨q, hlt⟩, Pv (i + 1), fun σ' H' p' => ⟨kvs.length - (i + 1), by omega, rfl, hlt, p'⟩, fun x H' y => ?_⟩
    obtain ⟨rfl, p', e1, rfl⟩ := y
    exact hs i p' σ _ e1 p
  · have e : i = kvs.length := by omega
    subst e
    exact .inl ⟨⟨q, rfl⟩, hd σ H p⟩
end
end L2
namespace L2
open PySem PySem.Spec PyProof.Rows
section
variable {X : Cx} {CX : CXT} {k : Nat} {f C : Addr} {fd : FuncData} {ps : List Str} {sp : Sp} {dvs : List V} {ds : List Value} {Ez : St → XK} {x m : Str} {p pos apos : Pos} {e o : Expr} {es : List Expr} {ta : TE} {t : TA}
end
end L2
namespace L2
open PySem PySem.Spec PyProof.Rows
theorem vals_at : ∀ {xs : List V} {us : List Value} {i : Nat} {u : Value}, Vals xs us → us[i]? = some u → ∃ x, xs[i]? = some x ∧ RelV x u
  | _, _, 0, _, .cons h _, e => by cases e; exact ⟨_, rfl, h⟩
  | _, _, i + 1, _, .cons _ r, e => vals_at (i := i) r e
end L2
namespace L2
open PySem PySem.Spec PyProof.Rows
section
variable {prog : Program} {w : World} {A : Around} {E : Value → Shared → Prop} {s : Shared} {T : String} {r d : Addr} {n : Nat} {P : Nat → Value → Prop} {OK : Heap → Prop}
theorem collect_src (K : PySem.W.KdlSrc prog w T r d n P OK) (hh : A.handled = none) (hok : OK s.heap) (hn : n ≤ sizeLine) {Q : List Value → Shared → Prop}
    (hQ : ∀ h' tk acc' c', (∀ b o, s.heap.get? b = some o → h'.get? b = some o) → h'.get? s.heap.objs.size = some { cls := .type "list", dict := none, data := .seq acc' c', slots := #[] } → ItemsOf P acc' n → Q acc'.toList { s with heap := h', toks := tk }) :
    wpAny (model prog w) A (collect (.ref r)) Q E s := by
  have hlt := K.there _ hok
  unfold collect
  refine wpAny_bind (wpAny_runValue (codeAny_builtin entry_proto_collect' ?_))
  show wpAny _ _ (do again (.builtin "list.__iadd__" ⟨[← newList [], .ref r], []⟩)) _ _ s
  refine wpAny_bind (wpAny_newList (wpAny_pure ⟨Code.quiet_builtin _ (by decide +kernel), codeAny_builtin entry_list_iadd' ?_⟩))
  show wpAny _ _ (Builtin.List.listExtendWith (.ref s.heap.objs.size) (.ref r) (.ref s.heap.objs.size)) _ _ { s with heap := s.heap.push (seqObj "list" #[] 0) }
  refine PySem.W.kdl_extend (A := A) (R := fun r s' => match r with
      | Except.ok (Flow.ret v) => wpAny (model prog w) A (match v with
          | Value.ref a => do
            let o ← load a
            match o.data with
            | Data.seq xs _ => pure xs.toList
            | _ => unsupported "internal:collect"
          | _ => unsupported "internal:collect") Q E s'
      | Except.ok _ => False
      | Except.error e => E e s') (s := { s with heap := s.heap.push (seqObj "list" #[] 0) }) K (by exact hh) (K.keep _ _ hok fun b _ o e => Heap.get?_push_of_some _ e) s.heap.objs.size (Nat.ne_of_gt hlt.1) (Nat.ne_of_gt hlt.2) _ 0 (Heap.get?_push_size _ rfl) (fun h' tk acc' c' hk hS hacc => ?_) hn
  show wpAny (model prog w) A (do
      let o ← load s.heap.objs.size
      match o.data with
      | .seq xs _ => pure xs.toList
      | _ => unsupported "internal:collect") Q E _
  refine wpAny_bind (wpAny_load hS ?_)
  show wpAny _ _ (pure acc'.toList) Q E _
  exact wpAny_pure (hQ h' tk acc' c' (fun b o e => hk b o (Nat.ne_of_lt (Heap.lt_size e)) (Heap.get?_push_of_some _ e)) hS hacc)
theorem sorted_src {ns : List Int} {Q : Value → Shared → Prop} (K : PySem.W.KdlSrc prog w T r d n P OK) (hh : A.handled = none) (hok : OK s.heap) (h64 : n < 64) (hI : ∀ acc', ItemsOf P acc' n → IntsAre acc'.toList ns)
    (h : ∀ h' tk l e (out : Array Value) (ns' : List Int), (∀ b o, s.heap.get? b = some o → h'.get? b = some o) → s.heap.objs.size ≤ l → h'.get? l = some (seqObj "list" out e) → IntsAre out.toList ns' → ns'.Perm ns → ns'.Pairwise (· ≤ ·) → Q (.ref l) { s with heap := h', toks := tk }) :
    wpAny (model prog w) A (call (.builtin "sorted") [.ref r]) Q E s := by
  have sz : 64 ≤ sizeLine := le_ble rfl
  refine Calls.call_function_entry kind_sorted plain_sorted entry_sorted (args_sorted1 _) ?_
  unfold Builtin.«sorted»
  refine wpAny_bind (m := checkCount "sorted" 1 1 _) (wpAny_pure ?_)
  refine wpAny_bind (collect_src K (by exact hh) hok (by omega) fun h' tk acc' c' hk hS hacc => ?_)
  refine wpAny_bind (wpAny_newList (hsz := by rw [Array.length_toList, hacc.1]; omega) ?_)
  have hoL : (h'.push (seqObj "list" acc'.toList.toArray 0)).get? h'.objs.size = some (seqObj "list" acc'.toList.toArray 0) := Heap.get?_push_size _ rfl
  have hl : acc'.toList.length < 64 := by rw [Array.length_toList, hacc.1]; exact h64
  refine wpAny_bind (wpAny_holding (wpAny_call_entry slot_list_sort ⟨_, hoL, rfl⟩ entry_list_sort (list_sort_tree hoL (hI _ hacc) hl fun out ns' a1 a2 a3 => ⟨_, rfl, ?_⟩) (args_list_sort _)))
  obtain ⟨e, he⟩ := sortedHeap_at (out := out) hoL
  refine wpAny_pure ⟨_, rfl, h _ tk h'.objs.size e out ns' (fun b o hb => ?_) (Nat.le_of_lt (Heap.lt_size hS)) he a1 a2 a3⟩
  have hb' := hk b o hb
  have hlt := Heap.lt_size hb'
  rw [sortedHeap_old (Nat.ne_of_lt hlt) (by rw [size_push']; exact Nat.lt_succ_of_lt hlt)]
  exact Heap.get?_push_of_some _ hb'
end
section
variable {X : Cx}
theorem call_sorted_dK (hc : X.calm = true) : CallR X (.builtin "sorted") (fun xs H Q => ∃ (d : Addr) (kvs : List (Key × V)) (ns : List Int), xs = [.ref d] ∧ H d = some (.dK kvs) ∧ kvs.map (·.1) = ns.map Sum.inl ∧ ns.length < 64 ∧
    ∀ (l : Addr) (ms : List Int), H l = none → ms.Perm ns → ms.Pairwise (· ≤ ·) → Q (.ref l) (upd H l (.lst (ms.map V.int)))) := by
  unfold CallR at *
  exact by
    intro pins s σ H xs us Q I r h
    obtain ⟨d, kvs, ns, rfl, hd, hk, hl, q⟩ := h
    obtain ⟨u, rfl, rx⟩ := vals1 r
    cases rx
    obtain ⟨hz, lo, vs, kv, o, es, ep, ho, hx, hdat, hke, hp, hn⟩ := I.hok d _ hd
    have hlv : kvs.length = vs.length := Paired.length kv
    have hln : kvs.length = ns.length := by rw [← List.length_map (f := fun p : Key × V => p.1), hk, List.length_map]
    have h64 : 64 ≤ sizeLine := le_ble rfl
    refine sorted_src (ns := ns) (PySem.W.kdl_dict (kvs := vs) (ep := ep) (knd := mixKind X.prog X.w) lo) (I.ok.hd hc) ⟨o, es, ho, hx, hdat, hke, hp, hn⟩ (by omega) (fun acc' hacc => ?_) fun h' tk l e out ns' hkk hle hS a1 a2 a3 => ?_
    · have hv : Vals (ns.map V.int) acc'.toList := by
        refine vals_get (by have h1 : acc'.toList.length = acc'.size := Array.length_toList; have h2 : acc'.size = vs.length := hacc.1; rw [List.length_map]; omega) fun j x u hx hu => ?_
        obtain ⟨k, y, e1, e2⟩ := hacc.2 j u (by rw [← Array.getElem?_toList]; exact hu)
        obtain ⟨p, hp'⟩ : ∃ p, kvs[j]? = some p := ⟨_, List.getElem?_eq_getElem (by rw [hlv]; exact (List.getElem?_eq_some_iff.mp e1).1)⟩
        obtain ⟨p', e4, e5, _⟩ := paired_get kv hp'
        rw [e1] at e4
        cases e4
        have e6 : (kvs.map (·.1))[j]? = some k := by rw [List.getElem?_map, hp']; exact congrArg some e5
        rw [hk, List.getElem?_map] at e6
        rw [List.getElem?_map] at hx
        cases hj : ns[j]? with
        | none => rw [hj] at hx; cases hx
        | some m =>
          rw [hj] at hx e6
          cases hx
          cases e6
          exact rel_key (k := Sum.inl m) e2
      exact ints_are hv
    · have hn' := a2.length_eq
      exact ⟨.ref l, _, I.laid (t' := tk) hkk hle (show ObjOk X.prog X.w _ _ _ (.lst (ns'.map V.int)) from ⟨by rw [List.length_map]; omega, out.toList, e, ints_vals a1, hS⟩), rfl, q _ _ (I.hok.fresh hle) a2 a3⟩
end
theorem sorted_one : ∀ {a b : List Int}, a.Pairwise (· ≤ ·) → b.Pairwise (· ≤ ·) → a.Perm b → a = b
  | [], b, _, _, h => h.nil_eq
  | x :: a, b, ha, hb, h => by
    cases b with
    | nil => exact absurd h.length_eq (by simp)
    | cons y b =>
      rw [List.pairwise_cons] at ha hb
      have hx : x ∈ y :: b := h.subset (List.mem_cons_self ..)
      have hy : y ∈ x :: a := h.symm.subset (List.mem_cons_self ..)
      have e : x = y := by
        rcases List.mem_cons.mp hx with q | q
        · exact q
        · rcases List.mem_cons.mp hy with q2 | q2
          · exact q2.symm
          · exact Int.le_antisymm (ha.1 y q2) (hb.1 x q)
      subst e
      rw [sorted_one ha.2 hb.2 (List.perm_cons x |>.mp h)]
section
variable {X : Cx}
end
end L2
namespace L2
open PySem PySem.Spec PyProof.Rows
theorem dict_anyW {P P' : Program} {w w' : World} {h : Heap} {a : Addr} {vs : List (Key × Value)} (d : h.DictOf (mixKind P w) a vs) (hi : ∀ p ∈ vs, ∃ n : Int, p.1 = Sum.inl n) : h.DictOf (mixKind P' w') a vs := by
  obtain ⟨o, es, ep, g, c, hd, hk, hp, hn⟩ := d
  have pp : ∀ {el : List DictEntry} {vl : List (Key × Value)}, Pairs (mixKind P w) el vl → (∀ p ∈ vl, ∃ n : Int, p.1 = Sum.inl n) → Pairs (mixKind P' w') el vl ∧ ∀ e ∈ el, ∃ n : Int, keyIs (Sum.inl n) e.key = true := by
    intro el vl h
    induction h with
    | nil => intro _; exact ⟨.nil, fun _ h => nomatch h⟩
    | @cons e kv es kvs h1 h2 _ ih =>
      intro hi
      obtain ⟨i1, i2⟩ := ih fun p hp => hi p (List.mem_cons_of_mem _ hp)
      refine ⟨.cons h1 h2 i1, fun x hx => ?_⟩
      rcases List.mem_cons.mp hx with q | q
      · obtain ⟨n, hn⟩ := hi kv (List.mem_cons_self ..)
        rw [q]
        exact ⟨n, by rw [← hn]; exact h1⟩
      · exact i2 x q
  obtain ⟨p1, p2⟩ := pp hp hi
  refine ⟨o, es, ep, g, c, hd, fun e he => ?_, p1, hn⟩
  obtain ⟨k, k1, k2⟩ := hk e he
  obtain ⟨n, hn'⟩ := p2 e (by simpa using he)
  have e1 : k = Sum.inl n := (mixKind P w).inj e.key k (Sum.inl n) k1 hn'
  subst e1
  exact ⟨_, k1, k2⟩
theorem kv_ints {ka : List (Key × V)} {va : List (Key × Value)} (r : KV ka va) (hi : ∀ p ∈ ka, ∃ n : Int, p.1 = Sum.inl n) : ∀ p ∈ va, ∃ n : Int, p.1 = Sum.inl n := by
  unfold KV at r
  induction r with
  | nil => exact fun _ h => nomatch h
  | @cons p q ps qs h t ih =>
    intro x hx
    rcases List.mem_cons.mp hx with e | e
    · obtain ⟨n, hn⟩ := hi p (List.mem_cons_self ..)
      rw [e, ← h.1]
      exact ⟨n, hn⟩
    · exact ih (fun p hp => hi p (List.mem_cons_of_mem _ hp)) x e
def DEq (K : PySem.W.Frag) (H : Hp) (n : Nat) (u v : V) : Prop := ∃ a b ka kb, u = .ref a ∧ v = .ref b ∧ Rd H a (.dK ka) ∧ Rd H b (.dK kb) ∧ ka.length = kb.length ∧ (∀ p ∈ ka, ∃ y, valV kb p.1 = some y ∧ EqD K H n p.2 y true) ∧ (∀ p ∈ ka, ∃ m : Int, p.1 = Sum.inl m) ∧ ∀ p ∈ kb, ∃ m : Int, p.1 = Sum.inl m
section
variable {X : Cx} {pins : List (Addr × Obj)} {σ : St} {H : Hp} {s : Shared}
theorem hits_at (I : Inv X pins σ H s) {A : Around} {n : Nat} {kb : List (Key × V)} {vb : List (Key × Value)} (rb : KV kb vb) (hu : A.units + n < cLine) : ∀ {ka : List (Key × V)} {va : List (Key × Value)}, KV ka va →
    (∀ p ∈ ka, ∃ y, valV kb p.1 = some y ∧ EqD X.K H n p.2 y true) → PySem.W.KeqHits A s vb va true := by
  intro ka va r
  unfold KV at r
  induction r with
  | nil => intro _; exact .nil
  | @cons p q ps qs h t ih =>
    intro hall
    obtain ⟨y, hy, he⟩ := hall p (List.mem_cons_self ..)
    obtain ⟨w, hw, rw'⟩ := RelO.some_of (v := y) (o := valueAt vb q.1) (by rw [← hy, h.1]; exact rb.val q.1)
    obtain ⟨q1, q2⟩ := q
    exact PySem.W.KeqHits.hit (e := true) (b := true) hw (EqD.at I n A p.2 y true q2 w hu he h.2 rw') (ih fun p' hp' => hall p' (List.mem_cons_of_mem _ hp'))
theorem DEq.at (I : Inv X pins σ H s) {A : Around} {n : Nat} {x y : V} {u v : Value} (hu : A.units + 1 + n < cLine) (h : DEq X.K H n x y) (rx : RelV x u) (ry : RelV y v) : SeqAt.EqAt A s u v true := by
  obtain ⟨a, b, ka, kb, rfl, rfl, ha, hb, hl, hall, ia, ib⟩ := h
  cases rx
  cases ry
  obtain ⟨za, da, va, ra, oa⟩ := dk_rd I.hok ha
  obtain ⟨zb, db, vb, rb, ob⟩ := dk_rd I.hok hb
  by_cases hab : a = b
  · subst hab
    exact SeqAt.EqAt.same _
  · refine SeqAt.EqAt.of_refs hab fun prog w E Q hq => ?_
    have oa' := dict_anyW (P' := prog) (w' := w) oa (kv_ints ra ia)
    have ob' := dict_anyW (P' := prog) (w' := w) ob (kv_ints rb ib)
    refine PySem.W.keq_eq da db oa' ob' (by omega) (fun _ => hits_at (A := A.in1) I rb (by show A.units + 1 + n < cLine; exact hu) ra hall) ?_
    rw [← ra.length, ← rb.length, hl, beq_self_eq_true, Bool.true_and]
    exact hq
end
end L2
namespace L2
open PySem PySem.Spec PyProof.Rows
end L2
namespace L2
open PySem PySem.Spec PyProof.Rows
structure RoomH (k : Nat) (A : Around) : Prop where
  dp : A.depth + 3 * k + 5 < recursionLimit
  un : A.units + 16 * k + 200 < cLine
theorem RoomH.mono {j k : Nat} {A : Around} (r : RoomH k A) (h : j ≤ k) : RoomH j A := ⟨by have := r.dp; omega, by have := r.un; omega⟩
theorem RoomH.deeper {k : Nat} {A : Around} (r : RoomH (k + 1) A) (env : Env) : RoomH k (A.deeper env) :=
  ⟨by have := r.dp; show A.depth + 1 + 3 * k + 5 < _; omega, by have := r.un; show A.units + 3 + 16 * k + 200 < _; omega⟩
theorem RoomH.depth {k : Nat} {A : Around} (r : RoomH k A) : A.depth < recursionLimit := by have := r.dp; omega
section
variable {X : Cx} {CX : CXT} {k : Nat} {f C : Addr} {fd : FuncData} {ps : List Str} {sp : Sp} {dvs : List V} {ds : List Value} {E : XK} {x m : Str} {p pos apos : Pos} {e o : Expr} {es : List Expr} {ta : TE} {t : TA}
end
section
variable {P : Program} {w : World} {K : PySem.W.Frag} {mg : Str → Option Value} {base : Heap}
end
end L2
namespace L2
open PySem PySem.Spec PyProof.Rows
section
variable {prog : Program} {w : World} {A : Around} {E : Value → Shared → Prop} {s : Shared}
end
section
variable {prog : Program} {w : World} {A : Around} {E : Value → Shared → Prop} {s : Shared}
end
section
variable {X : Cx}
def OptT (H : Hp) (v : V) (nm : Option (List Str)) : Prop := match nm with | none => v = .non | some z => ∃ t, v = .ref t ∧ H t = some (.tup (z.map V.str))
end
theorem eqL_txt : ∀ (a b : List Str), eqL (a.map V.str) (b.map V.str) = decide (a = b)
  | [], [] => rfl
  | [], _ :: _ => rfl
  | _ :: _, [] => rfl
  | x :: a, y :: b => by
    show (eqV (.str x) (.str y) && eqL (a.map V.str) (b.map V.str)) = _
    rw [eqL_txt a b]
    by_cases h : x = y
    · subst h
      rw [eqV_self rfl, Bool.true_and]
      by_cases q : a = b
      · rw [decide_eq_true q, decide_eq_true (by rw [q])]
      · rw [decide_eq_false q, decide_eq_false (fun z => q (List.cons.inj z).2)]
    · have e : eqV (.str x) (.str y) = false := by
        simp [eqV]
        exact h
      rw [e, decide_eq_false (fun z => h (List.cons.inj z).1)]
      rfl
theorem flat_txt (zs : List Str) : (zs.map V.str).all flatV = true := by
  rw [List.all_eq_true]
  intro x hx
  obtain ⟨z, _, rfl⟩ := List.mem_map.mp hx
  rfl
theorem tup_txt {K : PySem.W.Frag} {H : Hp} {n : Nat} {t u : Addr} {a b : List Str} (h1 : H t = some (.tup (a.map V.str))) (h2 : H u = some (.tup (b.map V.str))) : SeqEq K H (EqD K H n) (.ref t) (.ref u) (decide (a = b)) := by
  by_cases hl : a.length = b.length
  · have h := SeqEq.flatT (K := K) (H := H) (n := n) (SqT.of h1) (SqT.of h2) (by rw [List.length_map, List.length_map, hl]) (flat_txt a) (flat_txt b)
    rw [eqL_txt] at h
    exact h
  · have h := SeqEq.tup (K := K) (H := H) (R := EqD K H n) (e := fun i => eqV ((a.map V.str).getD i .non) ((b.map V.str).getD i .non)) (SqT.of h1) (SqT.of h2) fun i x y hx hy => ?_
    · have e1 : ((a.map V.str).length == (b.map V.str).length) = false := by
        rw [List.length_map, List.length_map]
        exact beq_eq_false_iff_ne.mpr hl
      rw [e1, Bool.and_false] at h
      rw [decide_eq_false (fun z => hl (by rw [z]))]
      exact h
    · have q : flatV x = true ∧ flatV y = true ∧ eqV ((a.map V.str).getD i .non) ((b.map V.str).getD i .non) = eqV x y := by
        refine ⟨List.all_eq_true.mp (flat_txt a) x (List.mem_of_getElem? hx), List.all_eq_true.mp (flat_txt b) y (List.mem_of_getElem? hy), ?_⟩
        rw [List.getD_eq_getElem?_getD, List.getD_eq_getElem?_getD, hx, hy]
        rfl
      cases n with
      | zero => exact .inl q
      | succ n => exact .inl (.inl q)
theorem OptT.eqd {K : PySem.W.Frag} {H : Hp} {x y : V} {a : Option (List Str)} (h1 : OptT H x a) (h2 : OptT H y a) (n : Nat) : EqD K H (n + 1) x y true := by
  cases a with
  | none =>
    obtain rfl : x = .non := h1
    obtain rfl : y = .non := h2
    exact .inl (.inl ⟨rfl, rfl, rfl⟩)
  | some z =>
    obtain ⟨t, rfl, ht⟩ := h1
    obtain ⟨u, rfl, hu⟩ := h2
    have h := tup_txt (K := K) (n := n) ht hu
    rw [decide_eq_true rfl] at h
    exact .inr h
end L2
namespace L2
open PySem PySem.Spec PyProof.Rows
theorem AtR.eqd {K : PySem.W.Frag} {H : Hp} : ∀ {n : Nat} {v w : V} {t : Tr n}, AtR H n v t → AtR H n w t → EqD K H n v w true
  | 0, v, w, t, h1, h2 => by
    have e1 : v = .int t := h1
    have e2 : w = .int t := h2
    subst e1 e2
    exact .inl ⟨rfl, rfl, (eqV_self (x := V.int t) rfl).symm⟩
  | n + 1, v, w, t, h1, h2 => by
    obtain ⟨a, vs, rfl, hA, la⟩ := h1.lst
    obtain ⟨b, ws, rfl, hB, lb⟩ := h2.lst
    have h := SeqEq.list (K := K) (R := EqD K H n) (e := fun _ => true) (SqL.of hA) (SqL.of hB) (by omega) fun i x y hx hy => by
      obtain ⟨x', t1, e1, e2, k1⟩ := h1.kid hA (List.getElem?_eq_some_iff.mp hx).1
      obtain ⟨y', t2, e3, e4, k2⟩ := h2.kid hB (List.getElem?_eq_some_iff.mp hy).1
      rw [hx] at e1; cases e1
      rw [hy] at e3; cases e3
      rw [e2] at e4; cases e4
      exact AtR.eqd k1 k2
    rw [all_range fun i _ => rfl] at h
    exact .inr h
theorem AtR.seq {K : PySem.W.Frag} {H : Hp} {n : Nat} {v w : V} {t : Tr (n + 1)} (h1 : AtR H (n + 1) v t) (h2 : AtR H (n + 1) w t) : SeqEq K H (EqD K H n) v w true := by
  rcases AtR.eqd (K := K) h1 h2 with (⟨e, _, _⟩ | ⟨a, e1, e2, _⟩) | h
  · obtain ⟨a, vs, rfl, _⟩ := h1.lst
    exact absurd e (by intro z; cases z)
  · subst e1 e2
    obtain ⟨_, vs, e, hA, la⟩ := h1.lst
    cases e
    have h := SeqEq.list (K := K) (R := EqD K H n) (e := fun _ => true) (SqL.of hA) (SqL.of hA) rfl fun i x y hx hy => by
      obtain ⟨x', t1, e1, e2, k1⟩ := h1.kid hA (List.getElem?_eq_some_iff.mp hx).1
      rw [hx] at hy; cases hy
      rw [hx] at e1; cases e1
      exact AtR.eqd k1 k1
    rw [all_range fun i _ => rfl] at h
    exact h
  · exact h
end L2
namespace L2
open PySem PySem.Spec PyProof.Rows PySem.W
section
variable {prog : Program} {w : World} {A : Around} {E : Value → Shared → Prop} {h : Heap} {g : Array GenState} {d : Drawn} {t : Nat} {os : OsState}
variable {nm q : Str} {C N : Addr} {bs bm : List Value} {hdct : Bool} {sn : List Str} {sub : List Value} {ab : Bool} {col : Option Bool} {dd : Option Addr} {k0 k1 k2 k3 k5 : Option Value} {K : Frag}
end
structure XCli (K : Frag) (C f : Addr) : Prop where
  ex : ∃ nm q N bs bm hdct sn sub ab col dd k0 k1 k2 k3 k5 es, K.lookup C = some (excClassObj nm q C N bs bm hdct sn sub ab col dd k0 k1 k2 k3 k5 "ValueError.__new__") ∧ NsK K N es ∧ nsFind es "__init__" = some (.ref f) ∧ TailK K bm
  fn : typeIn K (.ref f) = some (.type "function")
  kp : keepIn K (.ref C) = true
def exF (C : Value) (dd : Option Addr) (e : Addr) : HO := .ext fun h => ∃ oe vs, h.get? e = some oe ∧ oe.cls = C ∧ oe.dict = dd ∧ oe.data = .fields vs ∧ vs[1]? = some .none ∧ 0 < vs.size
section
variable {X : Cx} {k : Nat} {f C : Addr} {fd : FuncData} {ps : List Str} {sp : Sp} {x : Str} {p pos : Pos} {e : Expr} {es : List Expr} {t : TA} {na : Nat} {g : List Value → List Value → List Value} {gV : List V → List V → List V}
end
section
variable {M : Model} {A : Around} {E : Value → Shared → Prop} {s : Shared} {env : Env}
variable {nm q : Str} {C N : Addr} {bs bm : List Value} {hdct : Bool} {sn : List Str} {sub : List Value} {ab : Bool} {col : Option Bool} {dd : Option Addr} {k0 k1 k2 k3 k5 : Option Value} {newId : String}
end
section
variable {P : Program} {w : World} {K : PySem.W.Frag} {mg : Str → Option Value} {base : Heap} {N : List Str} {qual : Str} {scope : Scope} {f : Addr} {cd : Value} {A : Around} {outer : List Env} {s₀ : Shared} {H₀ : Hp} {E : XK}
end
section
variable {X : Cx} {k : Nat} {f C : Addr} {fd : FuncData} {ps : List Str} {sp : Sp} {x : Str} {np cpos pos : Pos} {e₀ : Expr} {rest : List Expr} {t : TA} {na : Nat} {g : List Value → List Value → List Value} {gV : List V → List V → List V} {E : XK}
end
theorem vals2X {x y : V} {us : List Value} (r : Vals [x, y] us) : ∃ u v, us = [u, v] ∧ RelV x u ∧ RelV y v := by
  cases r with
  | cons a r => cases r with
    | cons b r => cases r; exact ⟨_, _, rfl, a, b⟩
section
variable {X : Cx} {B : Addr} {x : Str} {p apos pos : Pos} {a b : Expr} {t : TA}
end
end L2
namespace L2
open PySem PySem.Spec PyProof.Rows PySem.W
section
variable {prog : Program} {w : World} {A : Around} {E : Value → Shared → Prop} {s : Shared} {K : Frag} {e C : Addr} {oe : Obj} {od : Option Obj}
end
def XD (H : Hp) (e C dx : Addr) (fs : List (Str × V)) : Prop := (H e = some (exF (.ref C) (some dx) e) ∨ H e = some (exO (.ref C) (some dx) e)) ∧ H dx = some (.xd fs)
section
variable {X : Cx}
def rIsiD (K : Frag) : List V → Hp → VK → Prop := fun xs H Q => ∃ e c cv C dx fs b, xs = [.ref e, c] ∧ ClsV c cv ∧ XD H e C dx fs ∧ XAsk K C ∧ kitOne K (.ref C) cv = some b ∧ Q (.bl b) H
def rIsiE (K : Frag) : List V → Hp → VK → Prop := fun xs H Q => rIsiA K xs H Q ∨ rIsiD K xs H Q
end
section
variable {prog : Program} {w : World} {A : Around} {E : Value → Shared → Prop} {K : Frag} {e C fI : Addr} {oe : Obj} {name : Str} {v : Value} {h : Heap} {g : Array GenState} {d : Drawn} {t : Nat} {os : OsState}
end
section
variable {X : Cx} {o value : Expr} {f : Str} {ta tv : TE} {pos pos' : Pos}
end
theorem XCli.mk2 {K : Frag} {C N A f : Addr} {nm q : Str} {bs : List Value} {hdct : Bool} {sn : List Str} {sub : List Value} {ab : Bool} {col : Option Bool} {dd : Option Addr} {k0 k1 k2 k3 k5 : Option Value} {es : Array DictEntry} {c d ep sl}
    {c0 : Value} {dd' : Option Addr} {cd : ClassData} {sl0 : Array (Option Value)} {es' : Array DictEntry} {c' d' ep' sl'}
    (l : K.lookup C = some (excClassObj nm q C N bs (.ref A :: vmro) hdct sn sub ab col dd k0 k1 k2 k3 k5 "ValueError.__new__")) (ln : K.lookup N = some ⟨c, d, .dict es ep, sl⟩) (sk : strKeysB es = true) (ni : nsFind es "__init__" = some (.ref f))
    (la : K.lookup A = some { cls := c0, dict := dd', data := .cls cd, slots := sl0 }) (lna : K.lookup cd.ns = some ⟨c', d', .dict es' ep', sl'⟩) (ska : strKeysB es' = true) (nia : nsFind es' "__init__" = none)
    (fn : isFn K (.ref f) = true) (kp : keepIn K (.ref C) = true) : XCli K C f :=
  ⟨⟨_, _, _, _, _, _, _, _, _, _, _, _, _, _, _, _, _, l, ⟨_, _, _, _, ln, strKeys_of sk⟩, ni, .own la ⟨_, _, _, _, lna, strKeys_of ska⟩ nia .base⟩, beq_iff_eq.mp fn, kp⟩
theorem rIsiE.a {K : Frag} {xs : List V} {H : Hp} {Q : VK} (h : rIsiA K xs H Q) : rIsiE K xs H Q := .inl h
theorem rIsiE.xd {K : Frag} {H : Hp} {e C c dx : Addr} {fs : List (Str × V)} {b : Bool} {Q : VK} (h : XD H e C dx fs) (q : XAsk K C) (k : kitOne K (.ref C) (.ref c) = some b) (hQ : Q (.bl b) H) : rIsiE K [.ref e, .ref c] H Q :=
  .inr ⟨e, .ref c, _, C, dx, fs, b, rfl, .own c, h, q, k, hQ⟩
theorem XD.same {H H' : Hp} {e C dx : Addr} {fs : List (Str × V)} (h : XD H e C dx fs) (s : Same H H') : XD H' e C dx fs := ⟨h.1.imp (s _ _) (s _ _), s _ _ h.2⟩
def XE (H : Hp) (e C : Addr) : Prop := H e = some (exO (.ref C) none e) ∨ ∃ dx fs, XD H e C dx fs
theorem XE.same {H H' : Hp} {e C : Addr} (h : XE H e C) (s : Same H H') : XE H' e C := h.imp (s _ _) fun ⟨dx, fs, x⟩ => ⟨dx, fs, x.same s⟩
theorem rIsiE.xe {K : Frag} {H : Hp} {e C c : Addr} {b : Bool} {Q : VK} (h : XE H e C) (q : XAsk K C) (k : kitOne K (.ref C) (.ref c) = some b) (hQ : Q (.bl b) H) : rIsiE K [.ref e, .ref c] H Q := by
  rcases h with h | ⟨dx, fs, h⟩
  · exact .inl (rIsiA.exc h q k hQ)
  · exact .xd h q k hQ
end L2
namespace L2
open PySem PySem.Spec PyProof.Rows
section
variable {prog : Program} {w : World} {A : Around} {E : Value → Shared → Prop} {s : Shared}
def IsPairKey (prog : Program) (w : World) (h : Heap) (k : Key × List Key) (a : Addr) : Prop := ∃ o n u b, h.get? a = some o ∧ o.cls = .type "tuple" ∧ o.data = .seq #[u, .ref b] n ∧ (mixKind prog w).is k.1 u = true ∧ IsTupleKey (mixKind prog w) h k.2 b
theorem IsPairKey.typeIs {k : Key × List Key} {a : Addr} (x : IsPairKey prog w s.heap k a) : s.TypeIs (.ref a) "tuple" := let ⟨o, _, _, _, ho, hc, _⟩ := x; ⟨o, ho, hc⟩
theorem IsPairKey.inj {h : Heap} {a : Addr} {x y : Key × List Key} (hx : IsPairKey prog w h x a) (hy : IsPairKey prog w h y a) : x = y := by
  obtain ⟨o, n, u, b, ho, _, hd, h1, h2⟩ := hx
  obtain ⟨o', n', u', b', ho', _, hd', h1', h2'⟩ := hy
  obtain rfl : o = o' := Option.some.inj (ho.symm.trans ho')
  rw [hd] at hd'
  injection hd' with e _
  have e1 : [u, Value.ref b] = [u', Value.ref b'] := by simpa using congrArg Array.toList e
  injection e1 with e2 e3
  injection e3 with e4 _
  injection e4 with e5
  subst e2 e5
  obtain ⟨x1, x2⟩ := x
  obtain ⟨y1, y2⟩ := y
  exact Prod.ext ((mixKind prog w).inj _ _ _ h1 h1') (h2.inj h2')
theorem IsPairKey.keeps {h h' : Heap} {k : Key × List Key} {a d : Addr} {o : Obj} {es ep} (x : IsPairKey prog w h k a) (ho : h.get? d = some o) (hd : o.data = .dict es ep) (hs : Heap.SameBut d h h') : IsPairKey prog w h' k a := by
  obtain ⟨o', n, u, b, ho', hc, hd', h1, h2⟩ := x
  have hne : a ≠ d := by
    rintro rfl
    obtain rfl : o' = o := Option.some.inj (ho'.symm.trans ho)
    rw [hd] at hd'; exact nomatch hd'
  exact ⟨o', n, u, b, (hs.2 a hne).trans ho', hc, hd', h1, h2.keeps ho hd hs⟩
def pairHash (prog : Program) (w : World) (k : Key × List Key) : Int := reduceHash (Builtin.Tuple.tupleHashOf [(mixKind prog w).hash k.1, tupleKeyHash (mixKind prog w) k.2])
theorem pair_hash {k : Key × List Key} {a : Addr} {Q : Int → Shared → Prop} (hu : A.units + 4 < cLine) (hk : IsPairKey prog w s.heap k a) (h : Q (pairHash prog w k) { s with toks := s.toks + (1 + (k.2.length + 1) + 1) }) :
    wpAny (model prog w) A (pyHash (.ref a)) Q E s := by
  have hT := hk.typeIs
  obtain ⟨o, n, u, b, ho, _, hd, h1, h2⟩ := hk
  unfold pyHash
  first | unfold pyHashByItsType | skip
  first | refine wpAny_bind (wpAny_cRoomFor_or (.inr (by omega)) ?_) | skip
  refine wpAny_bind (wpAny_specialOf hT F.slot_tuple_hash.lookup ?_)
  show wpAny _ _ (if (some (Value.builtin "tuple.__hash__") == some Value.none) = true then _ else _) Q E s
  rw [if_neg (by rw [beq_builtin_none]; exact Bool.false_ne_true)]
  refine wpAny_bind (wpAny_specialOf hT F.slot_tuple_hash.lookup ?_)
  show wpAny _ _ (callSpecialIfBoundUnlessNone? (.ref a) "__hash__" _ >>= _) Q E s
  refine wpAny_bind (wpAny_callSpecialIfBoundUnlessNone?_slot hT F.slot_tuple_hash (wpAny_call_entry F.slot_tuple_hash hT F.entry_tuple_hash ?_ (F.args_tuple_hash_1 _)))
  show wpAny _ _ (Builtin.Tuple.tupleItemsOf (.ref a) >>= _) _ _ s
  refine wpAny_bind (wpAny_tupleItemsOf ho hd ?_)
  refine wpAny_bind ?_
  rw [← Array.forIn_toList]
  simp only [List.forIn_cons, List.forIn_nil]
  refine wpAny_bind (wpAny_bind ((mixKind prog w).pyHash h1 ?_))
  refine wpAny_pure (wpAny_bind (wpAny_bind (wpAny_pyHash_tuple (s := { s with toks := s.toks + 1 }) (by show A.units + 1 < cLine; omega) h2 ?_)))
  refine wpAny_pure (wpAny_pure ?_)
  show wpAny _ _ (retInt (Builtin.Tuple.tupleHashOf [(mixKind prog w).hash k.1, tupleKeyHash (mixKind prog w) k.2])) _ _ _
  refine wpAny_ret_mkInt ?_
  show wpAny _ _ (if (decide (-(2 : Int) ^ 63 ≤ Builtin.Tuple.tupleHashOf [(mixKind prog w).hash k.1, tupleKeyHash (mixKind prog w) k.2]) && decide (Builtin.Tuple.tupleHashOf [(mixKind prog w).hash k.1, tupleKeyHash (mixKind prog w) k.2] < 2 ^ 63)) = true then _ else _) Q E _
  unfold pairHash reduceHash at h
  by_cases hr : (decide (-(2 : Int) ^ 63 ≤ Builtin.Tuple.tupleHashOf [(mixKind prog w).hash k.1, tupleKeyHash (mixKind prog w) k.2]) && decide (Builtin.Tuple.tupleHashOf [(mixKind prog w).hash k.1, tupleKeyHash (mixKind prog w) k.2] < 2 ^ 63)) = true
  · rw [if_pos hr]
    rw [if_pos hr] at h
    exact wpAny_pure (by simpa [Nat.add_assoc] using h)
  · rw [if_neg hr]
    rw [if_neg hr] at h
    exact wpAny_bind (wpAny_rule (wpAny_pure (by simpa [Nat.add_assoc] using h)))
theorem pair_eq_tree {x y : Key × List Key} {a b : Addr} {P : Fin → Shared → Prop} (hu : A.units + 1 < cLine) (hx : IsPairKey prog w s.heap x a) (hy : IsPairKey prog w s.heap y b) (h : P (.done (.ret (.bool (decide (x = y))))) s) :
    wpAny (model prog w) A (Builtin.«tuple.__eq__» ⟨[.ref a, .ref b], []⟩) P E s := by
  have hTb := hy.typeIs
  obtain ⟨oa, na, u1, b1, hoa, _, hda, h11, h12⟩ := hx
  obtain ⟨ob, nb, u2, b2, hob, _, hdb, h21, h22⟩ := hy
  obtain ⟨x1, x2⟩ := x
  obtain ⟨y1, y2⟩ := y
  show wpAny _ _ (isInstance (.ref b) (.type "tuple") >>= _) _ _ s
  refine wpAny_bind (wpAny_isInstance hTb isSubtype_tuple_tuple ?_)
  simp only [Bool.not_true, Bool.false_eq_true, if_false]
  refine wpAny_bind (wpAny_tupleItemsOf hoa hda ?_)
  refine wpAny_bind (wpAny_tupleItemsOf hob hdb ?_)
  refine wpAny_bind ?_
  simp only [List.zip_cons_cons, List.zip_nil_right, List.forIn_cons, List.forIn_nil]
  refine wpAny_bind (wpAny_bind ((mixKind prog w).eqBool (a := x1) (b := y1) h11 h21 ?_))
  by_cases hk : x1 = y1
  · subst hk
    rw [decide_eq_true rfl]
    simp only [Bool.not_true, Bool.false_eq_true, if_false]
    refine wpAny_pure ?_
    refine wpAny_bind (wpAny_bind (wpAny_eqBool_tuple (by omega) h12 h22 ?_))
    by_cases h2 : x2 = y2
    · subst h2
      rw [decide_eq_true rfl]
      simp only [Bool.not_true, Bool.false_eq_true, if_false]
      rw [decide_eq_true rfl] at h
      exact wpAny_pure (wpAny_pure (wpAny_pure h))
    · rw [decide_eq_false h2]
      simp only [Bool.not_false, if_true]
      rw [decide_eq_false (fun z => h2 (congrArg Prod.snd z))] at h
      exact wpAny_bind (wpAny_pure (wpAny_pure (wpAny_pure (wpAny_pure h))))
  · rw [decide_eq_false hk]
    simp only [Bool.not_false, if_true]
    rw [decide_eq_false (fun z => hk (congrArg Prod.fst z))] at h
    exact wpAny_bind (wpAny_pure (wpAny_pure (wpAny_pure (wpAny_pure h))))
theorem pair_eqBool {x y : Key × List Key} {a b : Addr} {Q : Bool → Shared → Prop} (hu : A.units + 4 < cLine) (hx : IsPairKey prog w s.heap x a) (hy : IsPairKey prog w s.heap y b) (h : Q (decide (x = y)) s) :
    wpAny (model prog w) A (eqBool (.ref a) (.ref b)) Q E s := by
  unfold eqBool
  try with_reducible refine wpAny_holding ?_
  show wpAny _ _ (if (Value.ref a == Value.ref b) = true then _ else _) Q E s
  by_cases hab : (Value.ref a == Value.ref b) = true
  · rw [if_pos hab]
    have e : a = b := by have := eq_of_beq hab; injection this
    subst e
    obtain rfl := hx.inj hy
    exact wpAny_bind (wpAny_rule (wpAny_pure (by simpa using h)))
  · rw [if_neg hab]
    exact wpAny_bind (wpAny_richCompare_same_room (op := .Eq) hx.typeIs hy.typeIs F.slot_tuple_eq
      (wpAny_call_entry F.slot_tuple_eq hx.typeIs F.entry_tuple_eq (pair_eq_tree (by show A.units + 1 + 1 < cLine; omega) hx hy ⟨_, rfl, (fun e => nomatch e), wpAny_truthy_bool h⟩) (F.args_tuple_eq_2 _ _)) (by omega))
theorem quiet_tuple {m : Nat} {ks : List Key} {a : Addr} {Q : Bool → Shared → Prop} (hk : IsTupleKey (mixKind prog w) s.heap ks a) (h : Q true s) : wpAny (model prog w) A (eqIsQuiet (m + 1) (.ref a)) Q E s := by
  have hT := hk.typeIs
  obtain ⟨o, items, n, ho, _, hd, hi⟩ := hk
  unfold eqIsQuiet
  refine wpAny_bind (wpAny_specialOf hT F.slot_tuple_eq.lookup ?_)
  show wpAny _ _ (isInstance (.ref a) (.type "tuple") >>= _) _ _ s
  refine wpAny_bind (wpAny_isInstance hT isSubtype_tuple_tuple ?_)
  simp only [Bool.not_true, Bool.false_eq_true, if_false]
  refine wpAny_bind (wpAny_seqItems ho hd ?_)
  refine wpAny_bind ?_
  show wpAny _ _ (forIn items _ _) _ _ s
  rw [← Array.forIn_toList]
  refine wpAny_forIn_list _ (fun rest r s' => r.1 = none ∧ s' = s ∧ ∀ v ∈ rest, carriedByValue v = true) _ ?_ ?_ _ _ ⟨rfl, rfl, hi.byValue⟩
  · rintro v rest r s' ⟨hr, rfl, hall⟩
    rw [eqIsQuiet_byValue _ (hall v List.mem_cons_self)]
    refine wpAny_bind (wpAny_pure ?_)
    simp only [Bool.not_true, Bool.false_eq_true, if_false]
    exact wpAny_pure ⟨rfl, rfl, fun u hu' => hall u (List.mem_cons_of_mem _ hu')⟩
  · rintro ⟨r1, r2⟩ s' ⟨hr, rfl, _⟩
    simp only at hr
    subst hr
    exact wpAny_pure h
theorem pair_quiet {k : Key × List Key} {a : Addr} {Q : Bool → Shared → Prop} (hk : IsPairKey prog w s.heap k a) (h : Q true s) : wpAny (model prog w) A (eqIsQuiet 8 (.ref a)) Q E s := by
  have hT := hk.typeIs
  obtain ⟨o, n, u, b, ho, _, hd, h1, h2⟩ := hk
  unfold eqIsQuiet
  refine wpAny_bind (wpAny_specialOf hT F.slot_tuple_eq.lookup ?_)
  show wpAny _ _ (isInstance (.ref a) (.type "tuple") >>= _) _ _ s
  refine wpAny_bind (wpAny_isInstance hT isSubtype_tuple_tuple ?_)
  simp only [Bool.not_true, Bool.false_eq_true, if_false]
  refine wpAny_bind (wpAny_seqItems ho hd ?_)
  refine wpAny_bind ?_
  show wpAny _ _ (forIn #[u, Value.ref b] _ _) _ _ s
  rw [← Array.forIn_toList]
  simp only [List.forIn_cons, List.forIn_nil]
  rw [eqIsQuiet_byValue _ ((mixKind prog w).byValue _ _ h1)]
  refine wpAny_bind (wpAny_bind (wpAny_pure ?_))
  simp only [Bool.not_true, Bool.false_eq_true, if_false]
  refine wpAny_pure (wpAny_bind (wpAny_bind (quiet_tuple (m := 6) h2 ?_)))
  simp only [Bool.not_true, Bool.false_eq_true, if_false]
  exact wpAny_pure (wpAny_pure (wpAny_pure h))
end
def pairKind (prog : Program) (w : World) : HeapKind prog w (Key × List Key) where
  is := IsPairKey prog w
  hash := pairHash prog w
  draws := fun k => 1 + (k.2.length + 1) + 1
  room := fun A => A.units + 4 < cLine
  inj := fun hx hy => hx.inj hy
  keeps := fun x ho hd hs => x.keeps ho hd hs
  pyHash := fun hu hk h => pair_hash hu hk h
  eqBool := fun hu hx hy h => pair_eqBool hu hx hy h
  quiet := fun hk h => pair_quiet hk h
def KeyAt (H : Hp) (k : Key × List Key) (a : Addr) : Prop := ∃ b, H a = some (.tup [kV k.1, .ref b]) ∧ H b = some (.tup (k.2.map kV))
theorem pair_key {P : Program} {w : World} {H : Hp} {h : Heap} {a : Addr} {k : Key × List Key} (ok : HOk P w H h) (e : KeyAt H k a) : IsPairKey P w h k a := by
  obtain ⟨b, e1, e2⟩ := e
  obtain ⟨_, its, r, o, h1, h2, n, h3⟩ := (show ObjOk P w H h a (.tup [kV k.1, .ref b]) from ok a _ e1)
  obtain ⟨u, v, rfl, ru, rv⟩ := vals2X r
  obtain rfl : v = Value.ref b := rv
  exact ⟨o, n, u, b, h1, h2, h3, kV_is ru, key_of ok e2⟩
abbrev NK := Key × List Key
def dNO (P : Program) (w : World) (a : Addr) (xs : List (NK × Addr × Value)) : HO := .ext fun h => (a == sysModules) = false ∧ ∃ o es ep, h.get? a = some o ∧ o.ExactDict ∧ o.data = .dict es ep ∧ es.toList = xs.map (entryOfKey (pairKind P w)) ∧ (xs.map (·.1)).Nodup
def KN (H : Hp) (kvs : List (NK × V)) (xs : List (NK × Addr × Value)) : Prop := Paired (fun (p : NK × V) (q : NK × Addr × Value) => p.1 = q.1 ∧ KeyAt H q.1 q.2.1 ∧ RelV p.2 q.2.2) kvs xs
def DN (P : Program) (w : World) (H : Hp) (a : Addr) (kvs : List (NK × V)) : Prop := ∃ xs, H a = some (dNO P w a xs) ∧ KN H kvs xs ∧ kvs.length ≤ 1000
theorem KeyAt.keep {H H' : Hp} {k : NK} {a : Addr} (h : KeyAt H k a) (f : ∀ b ys, H b = some (.tup ys) → H' b = some (.tup ys)) : KeyAt H' k a := let ⟨b, e1, e2⟩ := h; ⟨b, f _ _ e1, f _ _ e2⟩
theorem KN.keep {H H' : Hp} {kvs : List (NK × V)} {xs : List (NK × Addr × Value)} (h : KN H kvs xs) (f : ∀ b ys, H b = some (.tup ys) → H' b = some (.tup ys)) : KN H' kvs xs :=
  Paired.mapP h fun _ _ z => ⟨z.1, z.2.1.keep f, z.2.2⟩
theorem DN.same {P : Program} {w : World} {H H' : Hp} {a : Addr} {kvs : List (NK × V)} (d : DN P w H a kvs) (s : Same H H') : DN P w H' a kvs := let ⟨xs, e, k, l⟩ := d; ⟨xs, s _ _ e, k.keep fun b ys q => s _ _ q, l⟩
theorem DN.new {P : Program} {w : World} {H : Hp} {a : Addr} : DN P w (upd H a (dNO P w a [])) a [] := ⟨[], upd_same, .nil, Nat.zero_le _⟩
theorem KN.val {H : Hp} {kvs : List (NK × V)} {xs : List (NK × Addr × Value)} (h : KN H kvs xs) (k : NK) : (valV kvs k).isSome = (atKey xs k).isSome := by
  induction h with
  | nil => rfl
  | @cons p q ps qs e t ih =>
    obtain ⟨q1, q2⟩ := q
    have e1 : p.1 = q1 := e.1
    by_cases z : p.1 = k
    · rw [valV_pos z]
      unfold atKey
      rw [List.find?_cons_of_pos (by simp [← e1, z])]
      rfl
    · rw [valV_neg z, ih]
      unfold atKey
      rw [List.find?_cons_of_neg (by simp [← e1, z])]
theorem DN.at {P : Program} {w : World} {H : Hp} {h : Heap} {a : Addr} {kvs : List (NK × V)} (ok : HOk P w H h) (d : DN P w H a kvs) : ∃ xs, KN H kvs xs ∧ h.DictOfH (pairKind P w) a xs ∧ (a == sysModules) = false ∧ H a = some (dNO P w a xs) ∧ kvs.length ≤ 1000 := by
  obtain ⟨xs, e, kn, l⟩ := d
  obtain ⟨⟨hs, o, es, ep, h1, h2, h3, h4, h5⟩, _⟩ := ok a _ e
  refine ⟨xs, kn, ⟨o, es, ep, h1, h2, h3, h4, fun x hx => ?_, h5⟩, hs, e, l⟩
  have all : ∀ {l : List (NK × V)} {m : List (NK × Addr × Value)}, KN H l m → ∀ x ∈ m, IsPairKey P w h x.1 x.2.1 := by
    intro l m q
    induction q with
    | nil => intro x hx; exact nomatch hx
    | @cons p q ps qs hq t ih =>
      intro x hx
      rcases List.mem_cons.mp hx with e | hx
      · subst e
        exact pair_key ok hq.2.1
      · exact ih x hx
  exact all kn x hx
section
variable {X : Cx}
def rInN (P : Program) (w : World) (neg : Bool) : R2 := fun x y H Q => ∃ a t k kvs, x = .ref t ∧ y = .ref a ∧ KeyAt H k t ∧ DN P w H a kvs ∧ Q (.bl (if neg then !(valV kvs k).isSome else (valV kvs k).isSome)) H
theorem op_inN (hu : X.A.units + 62 < cLine) : OpR X (compareOp .In) (rInN X.prog X.w false) := by
  unfold OpR at *
  exact by
    intro pins s σ H x y v u Q I rx ry h
    obtain ⟨a, t, k, kvs, rfl, rfl, hk, hd, q⟩ := h
    cases rx
    cases ry
    obtain ⟨xs, kn, dd, hs, _, _⟩ := hd.at I.hok
    refine wpAny_in_heap (knd := pairKind X.prog X.w) (by show X.A.units + 1 + 4 < cLine; omega) (pair_key I.hok hk) hs dd ?_
    rw [← kn.val k]
    exact ⟨.bl _, H, I.tok _, rfl, q⟩
def rSetN (P : Program) (w : World) : TSet := fun o i v H Q => ∃ a t k kvs, o = .ref a ∧ i = .ref t ∧ KeyAt H k t ∧ DN P w H a kvs ∧ kvs.length < 1000 ∧ valV kvs k = none ∧ ∀ H', (∀ b u, b ≠ a → H b = some u → H' b = some u) → DN P w H' a (kvs ++ [(k, v)]) → Q H'
theorem set_dN (hu : X.A.units + 62 < cLine) : PSet X (rSetN X.prog X.w) := by
  unfold PSet at *
  exact by
    intro pins s σ H o i v ov iv u Q I ro ri rv h
    obtain ⟨a, t, k, kvs, rfl, rfl, hk, hd, hl, hn, q⟩ := h
    cases ro
    cases ri
    obtain ⟨xs, kn, dd, hs, e, hl0⟩ := hd.at I.hok
    have sz : 1000 ≤ sizeLine := le_ble rfl
    have lx := Paired.length kn
    have hx : atKey xs k = none := by
      have := kn.val k
      rw [hn] at this
      cases z : atKey xs k with
      | none => rfl
      | some p => rw [z] at this; cases this
    refine wpAny_setItem_heap (knd := pairKind X.prog X.w) (hsz := by omega) (by show X.A.units + 1 + 4 < cLine; omega) (pair_key I.hok hk) dd fun h' dd' sb => ?_
    rw [storedH_new hx] at dd'
    obtain ⟨ob, es, ep, h1, h2, h3, h4, _, h5⟩ := dd'
    have ne : ∀ b ys, H b = some (.tup ys) → upd H a (dNO X.prog X.w a (xs ++ [(k, t, u)])) b = some (.tup ys) := fun b ys hb => by
      rw [upd_ne (ne_of hb e (by intro z; cases z))]
      exact hb
    refine ⟨_, I.write (x := a) (e := a) (o := dNO X.prog X.w a (xs ++ [(k, t, u)])) (by rw [e]; exact True.intro) (.inl rfl) (fun b z hb y => (sb.2 b hb).trans y) ⟨ob, h1⟩ ⟨⟨hs, ob, es, ep, h1, h2, h3, h4, h5⟩, ⟨ob, h1⟩, fun g1 g2 ⟨z0, o, es, ep, q1, q2⟩ kk => ⟨z0, o, es, ep, kk o q1, q2⟩⟩, q _ (fun b z nb hb => by rw [upd_ne nb]; exact hb) ⟨_, upd_same, ?_, ?_⟩⟩
    · exact Paired.snoc (kn.keep ne) ⟨rfl, hk.keep ne, rv⟩
    · rw [List.length_append]
      show kvs.length + 1 ≤ 1000
      omega
def tDNewN (P : Program) (w : World) : TE := fun _ H Q => ∀ p, H p = none → Q (.ref p) (upd H p (dNO P w p []))
theorem pe_dnewN {pos : Pos} : PE X (.Dict [] [] pos) (tDNewN X.prog X.w) := by
  unfold PE at *
  exact by
    intro pins s σ H Q I h
    have hne : (s.heap.objs.size == sysModules) = false := beq_eq_false_iff_ne.mpr (Ne.symm (Nat.ne_of_lt I.big))
    have e1 : (s.heap.push { cls := .type "dict", data := .dict #[] }).get? s.heap.objs.size = some { cls := .type "dict", data := .dict #[] } := Heap.get?_push_size s.heap rfl
    exact wpAny_Dict_empty ⟨.ref s.heap.objs.size, _, I.laid (a := s.heap.objs.size) (o := dNO X.prog X.w s.heap.objs.size []) (t' := s.toks) (fun _ _ q => Heap.get?_push_of_some _ q) (Nat.le_refl _) ⟨⟨hne, _, _, _, e1, ⟨rfl, rfl, rfl⟩, rfl, rfl, List.nodup_nil⟩, ⟨_, e1⟩, fun g1 g2 ⟨z0, o, es, ep, q1, q2⟩ kk => ⟨z0, o, es, ep, kk o q1, q2⟩⟩, rfl, h _ (I.hok.fresh (Nat.le_refl _))⟩
end
end L2
namespace L2
open PySem PySem.Spec PyProof.Rows
section
variable {X : Cx}
theorem mt_index (hu : X.A.units + 62 < cLine) : MtR X "list.index" (fun x vs H Q => ∃ l xs r j n, ∃ f : Nat → Bool, x = .ref l ∧ vs = [.ref r] ∧ SqL X.K H l xs ∧ xs[j]? = some (.ref r) ∧ n ≤ 50 ∧
    (∀ (i : Nat) z, xs[i]? = some z → ∃ a, z = .ref a ∧ EqD X.K H n z (.ref r) (f i)) ∧ (∀ i : Nat, f i = true → i = j) ∧ Q (.int j) H) := by
  unfold MtR at *
  exact by
    classical
    intro pins s σ H x vs v us Q I rx rv h
    obtain ⟨l, xs, r, j, n, f, rfl, rfl, hq, hj, hn, he, hf, q⟩ := h
    cases rx
    obtain ⟨u, rfl, ru⟩ := vals1 rv
    obtain rfl : u = Value.ref r := ru
    obtain ⟨its, rr, pl, hz⟩ := I.list hq
    have hl := rr.length
    have hl1 := pl.isList
    obtain ⟨⟨cls, dd, data, sl⟩, ho, hc, m, hd⟩ := id hl1
    simp only at hc hd
    subst hc hd
    have hjl : j < its.length := by rw [← hl]; exact (List.getElem?_eq_some_iff.mp hj).1
    have item : ∀ (i : Nat) w, its[i]? = some w → ∃ a, w = .ref a ∧ xs[i]? = some (.ref a) ∧ SeqAt.EqAt X.A.in1 s w (.ref r) (f i) := fun i w hi => by
      obtain ⟨z, hz', rz⟩ := vals_at rr hi
      obtain ⟨a, rfl, e⟩ := he i z hz'
      obtain rfl : w = Value.ref a := rz
      exact ⟨a, rfl, hz', EqD.at I n X.A.in1 _ _ (f i) _ _ (by show X.A.units + 1 + n < cLine; omega) e rfl rfl⟩
    have same : ∀ (i : Nat), xs[i]? = some (.ref r) → i = j := fun i hi => by
      obtain ⟨a, e1, e2⟩ := he i _ hi
      cases e1
      exact hf i (EqD.self I e2)
    let g : Value → Bool := fun w => decide (w = Value.ref r)
    have hj1 : its[j] = Value.ref r := by
      obtain ⟨a, e1, e2, _⟩ := item j its[j] (List.getElem?_eq_getElem hjl)
      rw [hj] at e2
      cases e2
      exact e1
    refine call_meets F.slot_list_index ⟨_, ho, rfl⟩ F.entry_list_index (F.args_list_index_2 _ _) (SeqAt.list_indexAt l its.toArray m dd sl (.ref r) g j (by simpa using hjl) ?_ ?_ ?_) ⟨ho, fun y hy => ?_, ⟨.int j, H, I.tok _, ⟨_, rfl⟩, q⟩⟩
    · have : (sizeLine : Nat) ≤ 2 ^ 62 := le_ble rfl
      have h2 : j < 2 ^ 62 := by omega
      omega
    · exact decide_eq_true (by simpa using hj1)
    · intro k hk hkj
      refine decide_eq_false fun z => ?_
      have hk' : k < its.length := by simpa using hk
      obtain ⟨a, e1, e2, _⟩ := item k its[k] (List.getElem?_eq_getElem hk')
      have : Value.ref a = Value.ref r := e1.symm.trans (by simpa using z)
      cases this
      have := same k e2
      omega
    · obtain ⟨i, hi⟩ := List.getElem?_of_mem (show y ∈ its by simpa using hy)
      obtain ⟨a, rfl, e2, e3⟩ := item i y hi
      by_cases z : a = r
      · subst z
        have : g (Value.ref a) = true := decide_eq_true rfl
        rw [this]
        have e4 := same i e2
        obtain ⟨b, e5, e6⟩ := he i _ e2
        cases e5
        rw [EqD.self I e6] at e3
        exact e3
      · have : g (Value.ref a) = false := decide_eq_false fun y => z (Value.ref.inj y)
        rw [this]
        have : f i = false := by
          cases q : f i with
          | false => rfl
          | true =>
            have := hf i q
            subst this
            rw [hj] at e2
            cases e2
            exact absurd rfl z
        rw [this] at e3
        exact e3
end
end L2
set_option maxHeartbeats 200000
namespace My
open PySem L2
local macro_rules | `(tactic| walk_at "rd") => `(tactic| repeat (first
  | refine ⟨_, rfl, ?_⟩
  | refine ⟨_, _, rfl, rfl, ?_⟩
  | refine ⟨_, _, rfl, ?_⟩
  | refine ⟨(by show (0 : Int) < _; decide), ?_⟩
  | refine ⟨(⟨by decide, by decide⟩ : CDiv _ _), ?_⟩
  | refine ⟨(⟨by decide, by decide⟩ : CDivB _ _), ?_⟩
  | refine ⟨(⟨by decide, by decide, by decide⟩ : CPow _ _), ?_⟩
  | refine ⟨(.inr ⟨by decide, by decide⟩ : CMul _ _), ?_⟩
  | refine ⟨(.inl ⟨by decide, by decide⟩ : CMul _ _), ?_⟩
  | refine ⟨Own.int, ?_⟩
  | refine ⟨Own.bl, ?_⟩
  | refine ⟨Own.str, ?_⟩
  | refine ⟨Own.non, ?_⟩
  | refine ⟨rfl, ?_⟩))
def isI : V → Bool
  | .int _ => true
  | _ => false
def inR (m : Int) : V → Bool
  | .int i => decide (1 ≤ i) && decide (i ≤ m)
  | _ => false
def spW (K : PySem.W.Frag) : Sp := fun vs H Q _ => ∃ x, vs = [x] ∧ Own K H x ∧ Q (.bl (isI x)) H
def spR (K : PySem.W.Frag) (m : Int) : Sp := fun vs H Q _ => ∃ x, vs = [x] ∧ Own K H x ∧ Q (.bl (inR m x)) H
def ranks : List V := [.str "genus", .str "species", .str "form"]
def letter (c : Nat) : Bool := decide (97 ≤ c) && decide (c ≤ 122)
def isWord : V → Bool
  | .str z => (decide (1 ≤ (z.length : Int)) && decide ((z.length : Int) ≤ 12)) && z.cps.toList.all letter
  | _ => false
theorem isWord_str (z : Str) : isWord (.str z) = ((decide (1 ≤ (z.length : Int)) && decide ((z.length : Int) ≤ 12)) && z.cps.toList.all letter) := rfl
def isRank : V → Bool
  | .str z => inV (.str z) ranks
  | _ => false
def fits : V → Prop
  | .str z => z.length ≤ sizeLine
  | _ => True
def spWord (K : PySem.W.Frag) : Sp := fun vs H Q _ => ∃ x, vs = [x] ∧ Own K H x ∧ fits x ∧ ∀ H', Same H H' → Q (.bl (isWord x)) H'
def spRank (K : PySem.W.Frag) : Sp := fun vs H Q _ => ∃ x, vs = [x] ∧ Own K H x ∧ Q (.bl (isRank x)) H
theorem le_one (a c : Nat) : (!decide ((⟨#[c]⟩ : Str).cps.toList < (⟨#[a]⟩ : Str).cps.toList)) = decide (a ≤ c) := by
  have e : ((⟨#[c]⟩ : Str).cps.toList < (⟨#[a]⟩ : Str).cps.toList) ↔ c < a := by
    show [c] < [a] ↔ c < a
    rw [List.cons_lt_cons_iff]
    simp
  by_cases h : c < a
  · rw [decide_eq_true (e.mpr h), decide_eq_false (by omega)]; rfl
  · rw [decide_eq_false (fun z => h (e.mp z)), decide_eq_true (by omega)]; rfl
theorem le_a (c : Nat) : (!decide ((⟨#[c]⟩ : Str).cps.toList < (Str.ofString "a").cps.toList)) = decide (97 ≤ c) := le_one 97 c
theorem le_z (c : Nat) : (!decide ((Str.ofString "z").cps.toList < (⟨#[c]⟩ : Str).cps.toList)) = decide (c ≤ 122) := le_one c 122
theorem take_one {α : Type} {l : List α} {i : Nat} {x : α} (h : l[i]? = some x) : l.take (i + 1) = l.take i ++ [x] := by
  rw [List.take_succ, h]; rfl
def underFits (r u : V) : Bool := if r = .str "genus" then decide (u = .non) else inR 1000000000 u
def tieFits (r s b : V) : Bool := if b = .non then inR 1000000000 s else (!decide (r = .str "genus")) && (decide (s = .non) && inR 1000000000 b)
def whyH (n d r w : V) : Nat := if inR 1000000000 n = false then 1 else if inR 1000000 d = false then 2 else if isRank r = false then 3 else if isWord w = false then 4 else 0
def why (n d r w u s b : V) : Nat := if whyH n d r w ≠ 0 then whyH n d r w else if underFits r u = false then 5 else if tieFits r s b = false then 5 else 0
set_option genInjectivity false in
set_option genSizeOfSpec false in
set_option genSizeOf false in
structure Ex where
  c1 : Addr
  c2 : Addr
  c3 : Addr
  c4 : Addr
  c5 : Addr
def Ex.at (x : Ex) : Nat → Addr
  | 1 => x.c1
  | 2 => x.c2
  | 3 => x.c3
  | 4 => x.c4
  | _ => x.c5
def spHead (K : PySem.W.Frag) (x : Ex) : Sp := fun vs H Q E => ∃ n d r w, vs = [n, d, r, w] ∧ Own K H n ∧ Own K H d ∧ Own K H r ∧ Own K H w ∧ fits w ∧
  ∀ H', Same H H' → (whyH n d r w = 0 → Q .non H') ∧ (whyH n d r w ≠ 0 → E (.ref (x.at (whyH n d r w))) none H')
def spUnder (K : PySem.W.Frag) : Sp := fun vs H Q _ => ∃ z u, vs = [.str z, u] ∧ Own K H u ∧ Q (.bl (underFits (.str z) u)) H
def spTie (K : PySem.W.Frag) : Sp := fun vs H Q _ => ∃ z s b, vs = [.str z, s, b] ∧ Own K H s ∧ Own K H b ∧ Q (.bl (tieFits (.str z) s b)) H
def fields (n d r w u s b k : V) : List (Str × V) := [("number", n), ("day", d), ("rank", r), ("word", w), ("under", u), ("sheet", s), ("base", b), ("described", k)]
def spInit (K : PySem.W.Frag) (C : Addr) (x : Ex) : Sp := fun vs H Q E => ∃ a dx n d r w u s b k, vs = [.ref a, n, d, r, w, u, s, b, k] ∧ H a = some (.ins C dx []) ∧ Own K H n ∧ Own K H d ∧ Own K H r ∧ Own K H w ∧ fits w ∧ Own K H u ∧ Own K H s ∧ Own K H b ∧
  ∀ H', Same H H' → (why n d r w u s b = 0 → Q .non (upd H' a (.ins C dx (fields n d r w u s b k)))) ∧ (why n d r w u s b ≠ 0 → E (.ref (x.at (why n d r w u s b))) none H')
theorem Same.upd {H H' : Hp} {p : Addr} {o : HO} (e : Same H H') (h : H p = none) : Same H (L2.upd H' p o) := fun b u q => by
  rw [upd_ne (ne_of_none q h)]
  exact e b u q
theorem under_g (u : V) : underFits (.str "genus") u = decide (u = .non) := by unfold underFits; rw [if_pos rfl]
theorem under_n {z : Str} (h : z ≠ "genus") (u : V) : underFits (.str z) u = inR 1000000000 u := by unfold underFits; rw [if_neg (fun q => h (V.str.inj q))]
theorem tie_n (r s : V) : tieFits r s .non = inR 1000000000 s := by unfold tieFits; rw [if_pos rfl]
theorem tie_b {b : V} (r s : V) (h : b ≠ .non) : tieFits r s b = ((!decide (r = .str "genus")) && (decide (s = .non) && inR 1000000000 b)) := by unfold tieFits; rw [if_neg h]
theorem Same.made {H : Hp} {x dx : Addr} {o o' : HO} (h1 : H x = none) (h2 : H dx = none) (ne : dx ≠ x) : Same H (L2.upd (L2.upd H dx o) x o') := fun b u q => by
  rw [upd_ne (ne_of_none q h1), upd_ne (ne_of_none q h2)]
  exact q
structure En where
  n : Int
  d : Int
  r : Str
  w : Str
  u : Option Int
  s : Option Int
  b : Option Int
  k : Bool
def optV : Option Int → V
  | none => .non
  | some i => .int i
def fieldsE (e : En) : List (Str × V) := fields (.int e.n) (.int e.d) (.str e.r) (.str e.w) (optV e.u) (optV e.s) (optV e.b) (.bl e.k)
def EntAt (H : Hp) (C : Addr) (v : V) (e : En) : Prop := ∃ a dx, v = .ref a ∧ H a = some (.ins C dx (fieldsE e))
def okE (e : En) : Prop := why (.int e.n) (.int e.d) (.str e.r) (.str e.w) (optV e.u) (optV e.s) (optV e.b) = 0
def aheadE (x y : En) : Bool := HT.lexLt [x.d, x.n] [y.d, y.n]
theorem EntAt.same {H H' : Hp} {C : Addr} {v : V} {e : En} (h : EntAt H C v e) (s : Same H H') : EntAt H' C v e := let ⟨a, dx, e1, h1⟩ := h; ⟨a, dx, e1, s _ _ h1⟩
inductive ItAt (K : PySem.W.Frag) (H : Hp) (C : Addr) : V → Option En → Prop where
  | ent {v : V} {e : En} (h : EntAt H C v e) : ItAt K H C v (some e)
  | oth {v : V} {n : String} (t : TyOf K H v (.type n)) (hn : PySem.W.kitOne K (.type n) (.ref C) = some false) : ItAt K H C v none
def spAhead (C : Addr) : Sp := fun vs H Q _ => ∃ x y e f, vs = [x, y] ∧ EntAt H C x e ∧ EntAt H C y f ∧ ∀ H', Same H H' → Q (.bl (aheadE e f)) H'
def lastOk : Option En → En → Bool
  | none, _ => true
  | some l, e => aheadE l e
def bookOk : List Int → Option En → List (Option En) → Bool
  | _, _, [] => true
  | _, _, none :: _ => false
  | seen, last, some e :: r => !seen.contains e.n && (lastOk last e && bookOk (seen ++ [e.n]) (some e) r)
def ItsAt (K : PySem.W.Frag) (H : Hp) (C : Addr) (vs : List V) (is : List (Option En)) : Prop := vs.length = is.length ∧ ∀ (j : Nat) v i, vs[j]? = some v → is[j]? = some i → ItAt K H C v i
def spBook (K : PySem.W.Frag) (C X : Addr) : Sp := fun vs H Q E => ∃ x, vs = [x] ∧ ((∃ l ws is, x = .ref l ∧ H l = some (.lst ws) ∧ ItsAt K H C ws is ∧ ws.length ≤ 1000 ∧ (bookOk [] none is = true → ∀ q H', Same H H' → H q = none → H' q = some (.lst ws) → Q (.ref q) H') ∧ (bookOk [] none is = false → ∀ H', Same H H' → E (.ref X) none H')) ∨
  ∃ n, TyOf K H x (.type n) ∧ PySem.W.kitOne K (.type n) (.type "list") = some false ∧ ∀ H', Same H H' → E (.ref X) none H')
def EntsAt (H : Hp) (C : Addr) (ws : List V) (es : List En) : Prop := ws.length = es.length ∧ ∀ (j : Nat) v e, ws[j]? = some v → es[j]? = some e → EntAt H C v e
theorem EntsAt.same {H H' : Hp} {C : Addr} {ws : List V} {es : List En} (h : EntsAt H C ws es) (s : Same H H') : EntsAt H' C ws es := ⟨h.1, fun j v e a b => (h.2 j v e a b).same s⟩
theorem EntsAt.its {K : PySem.W.Frag} {H : Hp} {C : Addr} {ws : List V} {es : List En} (h : EntsAt H C ws es) : ItsAt K H C ws (es.map some) := by
  refine ⟨by rw [List.length_map]; exact h.1, fun j v i hv hi => ?_⟩
  rw [List.getElem?_map] at hi
  cases e : es[j]? with
  | none => rw [e] at hi; cases hi
  | some x => rw [e] at hi; cases hi; exact .ent (h.2 j v x hv e)
def BadB (K : PySem.W.Frag) (H : Hp) (C : Addr) (x : V) : Prop := (∃ l ws is, x = .ref l ∧ H l = some (.lst ws) ∧ ItsAt K H C ws is ∧ ws.length ≤ 1000 ∧ bookOk [] none is = false) ∨ ∃ n, TyOf K H x (.type n) ∧ PySem.W.kitOne K (.type n) (.type "list") = some false
theorem all_app (a b : Str) (f : Nat → Bool) : (a ++ b).cps.toList.all f = (a.cps.toList.all f && b.cps.toList.all f) := by
  rw [Str.cps_append, Array.toList_append, List.all_append]
theorem seqNil {K : PySem.W.Frag} {H : Hp} {n : Nat} {a b : Addr} {xs : List V} (ha : SqL K H a xs) (hb : SqL K H b []) : SeqEq K H (EqD K H n) (.ref a) (.ref b) xs.isEmpty := by
  cases xs with
  | nil => exact .list (e := fun _ => true) ha hb rfl fun i x y h => (by rw [List.getElem?_nil] at h; cases h)
  | cons x r => exact .listN ha hb (by intro z; cases z)
theorem inR_int (m i : Int) : inR m (.int i) = (decide (1 ≤ i) && decide (i ≤ m)) := rfl
theorem inR_of {m i : Int} (h1 : 1 ≤ i) (h2 : i ≤ m) : inR m (.int i) = true := by rw [inR_int, decide_eq_true h1, decide_eq_true h2]; rfl
def spCell (K : PySem.W.Frag) : Sp := fun vs H Q _ => ∃ (a : Addr) (k : Int) (ns : List Int), vs = [.ref a, .int k] ∧ 0 ≤ k ∧ SqL K H a (ns.map V.int) ∧ ∀ i, Q (.int i) H
structure Rt where
  e : En
  nm : List Str
structure Rs where
  o : List (Int × Str)
  n : List (Int × Option (List Str))
  r : List Rt
def findN (R : List Rt) (n : Int) : Option Rt := R.find? fun x => decide (x.e.n = n)
def aboveS (r : Str) : Str := if r = Str.ofString "species" then Str.ofString "genus" else Str.ofString "species"
def nameE (R : List Rt) (e : En) : Option (List Str) :=
  if e.r = Str.ofString "genus" then some [e.w] else
    match findN R (e.u.getD 0) with
    | none => none
    | some x => if x.e.r = aboveS e.r then some (x.nm ++ [e.w]) else none
def alikeE (R : List Rt) (nm : List Str) : Str := if R.any (fun x => decide (x.nm = nm)) = true then Str.ofString "alike" else Str.ofString "right"
def basedE (R : List Rt) (e : En) (b : Int) (nm : List Str) : Str :=
  match findN R b with
  | none => Str.ofString "baseless"
  | some x => if x.e.r ≠ e.r ∨ x.e.b ≠ none then Str.ofString "baseless" else if x.e.w ≠ e.w then Str.ofString "reworded" else alikeE R nm
def outE (R : List Rt) (e : En) (nm : Option (List Str)) : Str :=
  if e.b = none ∧ e.k = false then Str.ofString "undescribed" else
    match nm with
    | none => Str.ofString "unplaced"
    | some nm => match e.b with
      | none => alikeE R nm
      | some b => basedE R e b nm
def outS (s : Rs) (e : En) : Str := outE s.r e (nameE s.r e)
def stepE (s : Rs) (e : En) : Rs := ⟨s.o ++ [(e.n, outS s e)], s.n ++ [(e.n, nameE s.r e)], if outS s e = Str.ofString "right" then s.r ++ [⟨e, (nameE s.r e).getD []⟩] else s.r⟩
def resE (es : List En) : Rs := es.foldl stepE ⟨[], [], []⟩
theorem resE_snoc (es : List En) (e : En) : resE (es ++ [e]) = stepE (resE es) e := by unfold resE; rw [List.foldl_append]; rfl
def rootN (R : List Rt) (x : Rt) : En := match x.e.b with | none => x.e | some b => ((findN R b).map (·.e)).getD x.e
def depthR (r : Str) : Nat := if r = Str.ofString "genus" then 1 else if r = Str.ofString "species" then 2 else 3
structure RsOk (s : Rs) : Prop where
  nd : (s.o.map (·.1)).Nodup
  nk : s.n.map (·.1) = s.o.map (·.1)
  sub : ∀ x ∈ s.r, x.e.n ∈ s.o.map (·.1)
  rn : (s.r.map (·.e.n)).Nodup
  nm : ∀ x ∈ s.r, (x.e.n, some x.nm) ∈ s.n
  dp : ∀ x ∈ s.r, x.nm.length = depthR x.e.r
  bs : ∀ x ∈ s.r, ∀ b, x.e.b = some b → ∃ y, findN s.r b = some y ∧ y.e.b = none ∧ y.e.r = x.e.r ∧ y.e.w = x.e.w
  ok : ∀ x ∈ s.r, okE x.e
theorem nd_len {xs ys : List Int} : ∀ (nd : xs.Nodup) (h : ∀ x ∈ xs, x ∈ ys), xs.length ≤ ys.length := by
  induction xs generalizing ys with
  | nil => intro _ _; exact Nat.zero_le _
  | cons x r ih =>
    intro nd h
    rw [List.nodup_cons] at nd
    have h1 := ih (ys := ys.erase x) nd.2 fun y hy => (List.mem_erase_of_ne (fun z => nd.1 (by rw [← z]; exact hy))).mpr (h y (List.mem_cons_of_mem _ hy))
    have hx := h x (List.mem_cons_self ..)
    rw [List.length_erase_of_mem hx] at h1
    have : 0 < ys.length := List.length_pos_of_mem hx
    rw [List.length_cons]
    omega
theorem findN_mem {R : List Rt} {n : Int} {x : Rt} (h : findN R n = some x) : x ∈ R ∧ x.e.n = n := ⟨List.mem_of_find?_eq_some h, of_decide_eq_true (List.find?_some (p := fun x : Rt => decide (x.e.n = n)) h)⟩
theorem findN_app {R Q : List Rt} {n : Int} {x : Rt} (h : findN R n = some x) : findN (R ++ Q) n = some x := by
  unfold findN at h ⊢
  rw [List.find?_append, h]
  rfl
theorem findN_self {R : List Rt} (nd : (R.map (·.e.n)).Nodup) {x : Rt} (hx : x ∈ R) : findN R x.e.n = some x := by
  induction R with
  | nil => cases hx
  | cons y r ih =>
    rw [List.map_cons, List.nodup_cons] at nd
    unfold findN
    rcases List.mem_cons.mp hx with e | e
    · subst e
      rw [List.find?_cons_of_pos (p := fun y : Rt => decide (y.e.n = x.e.n)) (decide_eq_true rfl)]
    · have ne : y.e.n ≠ x.e.n := fun z => nd.1 (by rw [z]; exact List.mem_map_of_mem e)
      rw [List.find?_cons_of_neg (p := fun y : Rt => decide (y.e.n = x.e.n)) (by rw [decide_eq_false ne]; decide)]
      exact ih nd.2 e
theorem okE_rank {e : En} (h : okE e) : e.r = Str.ofString "genus" ∨ e.r = Str.ofString "species" ∨ e.r = Str.ofString "form" := by
  unfold okE why at h
  by_cases h1 : whyH (.int e.n) (.int e.d) (.str e.r) (.str e.w) = 0
  · unfold whyH at h1
    by_cases a1 : inR 1000000000 (V.int e.n) = false
    · rw [if_pos a1] at h1; cases h1
    · rw [if_neg a1] at h1
      by_cases a2 : inR 1000000 (V.int e.d) = false
      · rw [if_pos a2] at h1; cases h1
      · rw [if_neg a2] at h1
        by_cases a3 : isRank (V.str e.r) = false
        · rw [if_pos a3] at h1; cases h1
        · have a4 : isRank (V.str e.r) = true := by cases q : isRank (V.str e.r) with | true => rfl | false => exact absurd q a3
          have a5 : inV (.str e.r) ranks = true := a4
          have a6 : (eqV (.str (Str.ofString "genus")) (.str e.r) || (eqV (.str (Str.ofString "species")) (.str e.r) || (eqV (.str (Str.ofString "form")) (.str e.r) || false))) = true := a5
          simp [eqV] at a6
          rcases a6 with q | q | q
          · exact .inl q.symm
          · exact .inr (.inl q.symm)
          · exact .inr (.inr q.symm)
  · rw [if_pos h1] at h
    exact absurd h h1
theorem okE_u {e : En} (h : okE e) (hr : e.r ≠ Str.ofString "genus") : ∃ u, e.u = some u := by
  unfold okE why at h
  by_cases h1 : whyH (.int e.n) (.int e.d) (.str e.r) (.str e.w) ≠ 0
  · rw [if_pos h1] at h; exact absurd h h1
  · rw [if_neg h1] at h
    by_cases h2 : underFits (.str e.r) (optV e.u) = false
    · rw [if_pos h2] at h; cases h
    · rw [under_n hr] at h2
      cases hu : e.u with
      | none => rw [hu] at h2; exact absurd rfl h2
      | some u => exact ⟨u, rfl⟩
theorem okE_word {e : En} (h : okE e) : isWord (.str e.w) = true := by
  unfold okE why at h
  by_cases h1 : whyH (.int e.n) (.int e.d) (.str e.r) (.str e.w) = 0
  · unfold whyH at h1
    cases q : isWord (V.str e.w) with
    | true => rfl
    | false =>
      exfalso
      by_cases a1 : inR 1000000000 (V.int e.n) = false
      · rw [if_pos a1] at h1; cases h1
      · rw [if_neg a1] at h1
        by_cases a2 : inR 1000000 (V.int e.d) = false
        · rw [if_pos a2] at h1; cases h1
        · rw [if_neg a2] at h1
          by_cases a3 : isRank (V.str e.r) = false
          · rw [if_pos a3] at h1; cases h1
          · rw [if_neg a3, if_pos q] at h1; cases h1
  · rw [if_pos h1] at h
    exact absurd h h1
theorem okE_s {e : En} (h : okE e) (hb : e.b = none) : ∃ s, e.s = some s := by
  unfold okE why at h
  by_cases h1 : whyH (.int e.n) (.int e.d) (.str e.r) (.str e.w) ≠ 0
  · rw [if_pos h1] at h; exact absurd h h1
  · rw [if_neg h1] at h
    by_cases h2 : underFits (.str e.r) (optV e.u) = false
    · rw [if_pos h2] at h; cases h
    · rw [if_neg h2] at h
      by_cases h3 : tieFits (.str e.r) (optV e.s) (optV e.b) = false
      · rw [if_pos h3] at h; cases h
      · rw [hb] at h3
        have h3 : ¬ tieFits (.str e.r) (optV e.s) .non = false := h3
        rw [tie_n] at h3
        cases hs : e.s with
        | none => rw [hs] at h3; exact absurd rfl h3
        | some s => exact ⟨s, rfl⟩
theorem outE_right {R : List Rt} {e : En} {nm : Option (List Str)} (h : outE R e nm = Str.ofString "right") : ∃ z, nm = some z ∧ R.any (fun x => decide (x.nm = z)) = false ∧ ∀ b, e.b = some b → ∃ y, findN R b = some y ∧ y.e.b = none ∧ y.e.r = e.r ∧ y.e.w = e.w := by
  have al : ∀ z, alikeE R z = Str.ofString "right" → R.any (fun x => decide (x.nm = z)) = false := fun z hz => by
    unfold alikeE at hz
    cases q : R.any (fun x => decide (x.nm = z)) with
    | false => rfl
    | true => rw [q, if_pos rfl] at hz; exact absurd hz (by decide +kernel)
  unfold outE at h
  by_cases h1 : e.b = none ∧ e.k = false
  · rw [if_pos h1] at h; exact absurd h (by decide +kernel)
  · rw [if_neg h1] at h
    cases nm with
    | none =>
      have h : Str.ofString "unplaced" = Str.ofString "right" := h
      exact absurd h (by decide +kernel)
    | some z =>
      cases hb : e.b with
      | none =>
        rw [hb] at h
        exact ⟨z, rfl, al z h, fun b q => nomatch q⟩
      | some b =>
        rw [hb] at h
        have h : basedE R e b z = Str.ofString "right" := h
        unfold basedE at h
        cases hf : findN R b with
        | none =>
          rw [hf] at h
          have h : Str.ofString "baseless" = Str.ofString "right" := h
          exact absurd h (by decide +kernel)
        | some y =>
          rw [hf] at h
          have h : (if y.e.r ≠ e.r ∨ y.e.b ≠ none then Str.ofString "baseless" else if y.e.w ≠ e.w then Str.ofString "reworded" else alikeE R z) = Str.ofString "right" := h
          by_cases h2 : y.e.r ≠ e.r ∨ y.e.b ≠ none
          · rw [if_pos h2] at h; exact absurd h (by decide +kernel)
          · rw [if_neg h2] at h
            by_cases h3 : y.e.w ≠ e.w
            · rw [if_pos h3] at h; exact absurd h (by decide +kernel)
            · rw [if_neg h3] at h
              refine ⟨z, rfl, al z h, fun b' q => ?_⟩
              cases Option.some.inj q
              refine ⟨y, hf, ?_, ?_, ?_⟩
              · exact Decidable.of_not_not fun q => h2 (.inr q)
              · exact Decidable.of_not_not fun q => h2 (.inl q)
              · exact Decidable.of_not_not h3
theorem nameE_len {R : List Rt} {e : En} {z : List Str} (h : nameE R e = some z) (ok : okE e) (dp : ∀ x ∈ R, x.nm.length = depthR x.e.r) : z.length = depthR e.r := by
  unfold nameE at h
  by_cases h1 : e.r = Str.ofString "genus"
  · rw [if_pos h1] at h
    cases h
    unfold depthR
    rw [if_pos h1]
    rfl
  · rw [if_neg h1] at h
    cases hf : findN R (e.u.getD 0) with
    | none => rw [hf] at h; cases h
    | some x =>
      rw [hf] at h
      have h : (if x.e.r = aboveS e.r then some (x.nm ++ [e.w]) else none) = some z := h
      by_cases h2 : x.e.r = aboveS e.r
      · rw [if_pos h2] at h
        cases h
        have hl := dp x (findN_mem hf).1
        rw [List.length_append, hl, h2]
        rcases okE_rank ok with q | q | q
        · exact absurd q h1
        · rw [q]
          show depthR (aboveS (Str.ofString "species")) + 1 = _
          decide +kernel
        · rw [q]
          show depthR (aboveS (Str.ofString "form")) + 1 = _
          decide +kernel
      · rw [if_neg h2] at h; cases h
theorem RsOk.nil : RsOk ⟨[], [], []⟩ := ⟨List.nodup_nil, rfl, fun _ h => (nomatch h), List.nodup_nil, fun _ h => (nomatch h), fun _ h => (nomatch h), fun _ h => (nomatch h), fun _ h => (nomatch h)⟩
theorem RsOk.step {s : Rs} {e : En} (h : RsOk s) (ok : okE e) (fr : e.n ∉ s.o.map (·.1)) : RsOk (stepE s e) := by
  have nd : ((stepE s e).o.map (·.1)).Nodup := by
    show ((s.o ++ [(e.n, outS s e)]).map (·.1)).Nodup
    rw [List.map_append, List.nodup_append]
    exact ⟨h.nd, List.nodup_cons.mpr ⟨List.not_mem_nil, List.nodup_nil⟩, fun x hx y hy z => fr (by rw [z, (List.mem_singleton.mp hy : y = e.n)] at hx; exact hx)⟩
  have nk : (stepE s e).n.map (·.1) = (stepE s e).o.map (·.1) := by
    show (s.n ++ [(e.n, nameE s.r e)]).map (·.1) = (s.o ++ [(e.n, outS s e)]).map (·.1)
    rw [List.map_append, List.map_append, h.nk]
    rfl
  have up : ∀ x ∈ s.r, x.e.n ∈ (stepE s e).o.map (·.1) := fun x hx => by
    show _ ∈ (s.o ++ [(e.n, outS s e)]).map (·.1)
    rw [List.map_append]
    exact List.mem_append_left _ (h.sub x hx)
  by_cases hr : outS s e = Str.ofString "right"
  · obtain ⟨z, hz, _, hb⟩ := outE_right hr
    have er : (stepE s e).r = s.r ++ [⟨e, z⟩] := by
      show (if outS s e = Str.ofString "right" then s.r ++ [⟨e, (nameE s.r e).getD []⟩] else s.r) = _
      rw [if_pos hr, hz]
      rfl
    have frr : e.n ∉ s.r.map (·.e.n) := fun q => by
      obtain ⟨x, hx, ex⟩ := List.mem_map.mp q
      exact fr (ex ▸ h.sub x hx)
    refine ⟨nd, nk, ?_, ?_, ?_, ?_, ?_, ?_⟩ <;> rw [er]
    · intro x hx
      rcases List.mem_append.mp hx with q | q
      · exact up x q
      · rw [List.mem_singleton.mp q]
        show _ ∈ (s.o ++ [(e.n, outS s e)]).map (·.1)
        rw [List.map_append]
        exact List.mem_append_right _ (List.mem_singleton.mpr rfl)
    · rw [List.map_append, List.nodup_append]
      exact ⟨h.rn, List.nodup_cons.mpr ⟨List.not_mem_nil, List.nodup_nil⟩, fun x hx y hy q => frr (by rw [q, (List.mem_singleton.mp hy : y = e.n)] at hx; exact hx)⟩
    · intro x hx
      show _ ∈ s.n ++ [(e.n, nameE s.r e)]
      rcases List.mem_append.mp hx with q | q
      · exact List.mem_append_left _ (h.nm x q)
      · rw [List.mem_singleton.mp q, hz]
        exact List.mem_append_right _ (List.mem_singleton.mpr rfl)
    · intro x hx
      rcases List.mem_append.mp hx with q | q
      · exact h.dp x q
      · rw [List.mem_singleton.mp q]
        exact nameE_len hz ok h.dp
    · intro x hx b hxb
      rcases List.mem_append.mp hx with q | q
      · obtain ⟨y, hy, r⟩ := h.bs x q b hxb
        exact ⟨y, findN_app hy, r⟩
      · rw [List.mem_singleton.mp q] at hxb ⊢
        obtain ⟨y, hy, r⟩ := hb b hxb
        exact ⟨y, findN_app hy, r⟩
    · intro x hx
      rcases List.mem_append.mp hx with q | q
      · exact h.ok x q
      · rw [List.mem_singleton.mp q]; exact ok
  · have er : (stepE s e).r = s.r := by
      show (if outS s e = Str.ofString "right" then s.r ++ [⟨e, (nameE s.r e).getD []⟩] else s.r) = _
      rw [if_neg hr]
    refine ⟨nd, nk, ?_, ?_, ?_, ?_, ?_, ?_⟩ <;> rw [er]
    · exact up
    · exact h.rn
    · intro x hx
      show _ ∈ s.n ++ [(e.n, nameE s.r e)]
      exact List.mem_append_left _ (h.nm x hx)
    · exact h.dp
    · exact h.bs
    · exact h.ok
theorem resE_keys : ∀ (es : List En), (resE es).o.map (·.1) = es.map (·.n) := by
  intro es
  unfold resE
  have : ∀ (es : List En) (s : Rs), (es.foldl stepE s).o.map (·.1) = s.o.map (·.1) ++ es.map (·.n) := by
    intro es
    induction es with
    | nil => intro s; rw [List.foldl_nil, List.map_nil, List.append_nil]
    | cons e r ih =>
      intro s
      rw [List.foldl_cons, ih]
      show (s.o ++ [(e.n, outS s e)]).map (·.1) ++ _ = _
      rw [List.map_append, List.append_assoc]
      rfl
  exact this es ⟨[], [], []⟩
theorem resE_ok {es : List En} (ok : ∀ e ∈ es, okE e) (nd : (es.map (·.n)).Nodup) : ∀ i, i ≤ es.length → RsOk (resE (es.take i)) := by
  intro i
  induction i with
  | zero => intro _; exact RsOk.nil
  | succ i ih =>
    intro hi
    have e1 : es[i]? = some es[i] := List.getElem?_eq_getElem (by omega)
    rw [take_one e1, resE_snoc]
    refine (ih (by omega)).step (ok _ (List.getElem_mem _)) fun z => ?_
    rw [resE_keys] at z
    have := nd
    have e2 : es.map (·.n) = (es.take i).map (·.n) ++ es[i].n :: (es.drop (i + 1)).map (·.n) := by
      rw [← List.map_cons, List.getElem_cons_drop, ← List.map_append, List.take_append_drop]
    rw [e2, List.nodup_append] at this
    exact this.2.2 _ z _ (List.mem_cons_self ..) rfl
theorem book_nd : ∀ {es : List En} {seen : List Int} {last : Option En}, bookOk seen last (es.map some) = true → (es.map (·.n)).Nodup ∧ ∀ e ∈ es, e.n ∉ seen
  | [], _, _, _ => ⟨List.nodup_nil, fun _ h => nomatch h⟩
  | e :: r, seen, last, h => by
    have h : (!seen.contains e.n && (lastOk last e && bookOk (seen ++ [e.n]) (some e) (r.map some))) = true := h
    rw [Bool.and_eq_true, Bool.and_eq_true] at h
    obtain ⟨h1, _, h2⟩ := h
    obtain ⟨i1, i2⟩ := book_nd h2
    have n1 : e.n ∉ seen := fun z => by
      rw [List.contains_iff_mem.mpr z] at h1
      cases h1
    refine ⟨List.nodup_cons.mpr ⟨fun z => ?_, i1⟩, fun x hx => ?_⟩
    · obtain ⟨x, hx, ex⟩ := List.mem_map.mp z
      exact i2 x hx (ex ▸ List.mem_append_right _ (List.mem_singleton.mpr rfl))
    · rcases List.mem_cons.mp hx with q | q
      · rw [q]; exact n1
      · exact fun z => i2 x q (List.mem_append_left _ z)
structure RA where
  a : Addr
  dx : Addr
  o1 : Addr
  o2 : Addr
  o3 : Addr
  o4 : Addr
def NameV (H : Hp) (v : V) (nm : Option (List Str)) : Prop := match nm with | none => v = .non | some z => ∃ t, v = .ref t ∧ H t = some (.tup (z.map V.str))
theorem NameV.same {H H' : Hp} {v : V} {nm : Option (List Str)} (h : NameV H v nm) (s : ∀ t xs, H t = some (.tup xs) → H' t = some (.tup xs)) : NameV H' v nm := by
  cases nm with
  | none => exact h
  | some z => obtain ⟨t, e, h⟩ := h; exact ⟨t, e, s _ _ h⟩
theorem EntAt.keep {H H' : Hp} {C : Addr} {v : V} {e : En} (h : EntAt H C v e) (s : ∀ t dx fs, H t = some (.ins C dx fs) → H' t = some (.ins C dx fs)) : EntAt H' C v e := let ⟨a, dx, e1, h1⟩ := h; ⟨a, dx, e1, s _ _ _ h1⟩
def resF (A : RA) : List (Str × V) := [("outs", .ref A.o1), ("names", .ref A.o2), ("rights", .ref A.o3), ("holders", .ref A.o4)]
def RightP (H : Hp) (CE : Addr) (x : Rt) (q : Key × V) : Prop := q.1 = Sum.inl x.e.n ∧ EntAt H CE q.2 x.e
def HoldP (H : Hp) (CE : Addr) (x : Rt) (q : List Key × V) : Prop := q.1 = x.nm.map Sum.inr ∧ EntAt H CE q.2 x.e
def NameP (H : Hp) (x : Int × Option (List Str)) (q : Key × V) : Prop := q.1 = Sum.inl x.1 ∧ NameV H q.2 x.2
def outsD (s : Rs) : List (Key × V) := s.o.map fun p => (Sum.inl p.1, .str p.2)
structure ResAt (H : Hp) (CR CE : Addr) (A : RA) (s : Rs) : Prop where
  at_ : H A.a = some (.ins CR A.dx (resF A))
  outs : H A.o1 = some (.dK (outsD s))
  names : ∃ kn, H A.o2 = some (.dK kn) ∧ Paired (NameP H) s.n kn
  rights : ∃ kr, H A.o3 = some (.dK kr) ∧ Paired (RightP H CE) s.r kr
  holders : ∃ kh, H A.o4 = some (.dT kh) ∧ Paired (HoldP H CE) s.r kh
  d12 : A.o1 ≠ A.o2
  d13 : A.o1 ≠ A.o3
  d23 : A.o2 ≠ A.o3
def FrR (A : RA) (H H' : Hp) : Prop := ∀ b u, b ≠ A.o1 → b ≠ A.o2 → b ≠ A.o3 → b ≠ A.o4 → H b = some u → H' b = some u
theorem ResAt.same {H H' : Hp} {CR CE : Addr} {A : RA} {s : Rs} (h : ResAt H CR CE A s) (sm : Same H H') : ResAt H' CR CE A s := by
  obtain ⟨a, b, ⟨kn, n1, n2⟩, ⟨kr, r1, r2⟩, ⟨kh, h1, h2⟩, d1, d2, d3⟩ := h
  exact ⟨sm _ _ a, sm _ _ b, ⟨kn, sm _ _ n1, Paired.mapP n2 fun x q z => ⟨z.1, z.2.same fun t xs e => sm _ _ e⟩⟩, ⟨kr, sm _ _ r1, Paired.mapP r2 fun x q z => ⟨z.1, z.2.same sm⟩⟩, ⟨kh, sm _ _ h1, Paired.mapP h2 fun x q z => ⟨z.1, z.2.same sm⟩⟩, d1, d2, d3⟩
theorem FrR.refl (A : RA) (H : Hp) : FrR A H H := fun b u _ _ _ _ h => h
theorem FrR.trans {A : RA} {H H1 H2 : Hp} (a : FrR A H H1) (b : FrR A H1 H2) : FrR A H H2 := fun c u n1 n2 n3 n4 h => b c u n1 n2 n3 n4 (a c u n1 n2 n3 n4 h)
theorem Same.frR {A : RA} {H H' : Hp} (s : Same H H') : FrR A H H' := fun b u _ _ _ _ h => s b u h
theorem rights_at {H : Hp} {CE : Addr} {R : List Rt} {kr : List (Key × V)} (h : Paired (RightP H CE) R kr) (n : Int) : (findN R n = none ∧ valV kr (Sum.inl n) = none) ∨ ∃ x v, findN R n = some x ∧ valV kr (Sum.inl n) = some v ∧ EntAt H CE v x.e := by
  induction h with
  | nil => exact .inl ⟨rfl, rfl⟩
  | @cons x q R kr hq t ih =>
    obtain ⟨h1, h2⟩ := hq
    by_cases e : x.e.n = n
    · refine .inr ⟨x, q.2, ?_, ?_, h2⟩
      · unfold findN; rw [List.find?_cons_of_pos (p := fun y : Rt => decide (y.e.n = n)) (decide_eq_true e)]
      · rw [valV_pos (by rw [h1, e])]
    · have e1 : findN (x :: R) n = findN R n := by unfold findN; rw [List.find?_cons_of_neg (p := fun y : Rt => decide (y.e.n = n)) (by rw [decide_eq_false e]; decide)]
      rw [e1, valV_neg (by rw [h1]; exact fun z => e (Sum.inl.inj z))]
      exact ih
theorem names_at {H : Hp} {ns : List (Int × Option (List Str))} {kn : List (Key × V)} (h : Paired (NameP H) ns kn) (nd : (ns.map (·.1)).Nodup) {n : Int} {nm : Option (List Str)} (hm : (n, nm) ∈ ns) : ∃ v, valV kn (Sum.inl n) = some v ∧ NameV H v nm := by
  induction h with
  | nil => cases hm
  | @cons x q ns kn hq t ih =>
    obtain ⟨h1, h2⟩ := hq
    rw [List.map_cons, List.nodup_cons] at nd
    rcases List.mem_cons.mp hm with e | e
    · subst e
      exact ⟨q.2, valV_pos (by rw [h1]), h2⟩
    · have ne : x.1 ≠ n := fun z => nd.1 (by rw [z]; exact List.mem_map_of_mem (f := fun p : Int × Option (List Str) => p.1) e)
      rw [valV_neg (by rw [h1]; exact fun z => ne (Sum.inl.inj z))]
      exact ih nd.2 e
theorem map_inr_inj : ∀ {a b : List Str}, a.map (Sum.inr : Str → Key) = b.map Sum.inr → a = b
  | [], [], _ => rfl
  | [], _ :: _, h => by cases h
  | _ :: _, [], h => by cases h
  | x :: a, y :: b, h => by
    rw [List.map_cons, List.map_cons] at h
    injection h with h1 h2
    rw [Sum.inr.inj h1, map_inr_inj h2]
theorem holders_at {H : Hp} {CE : Addr} {R : List Rt} {kh : List (List Key × V)} (h : Paired (HoldP H CE) R kh) (z : List Str) : (valV kh (z.map Sum.inr)).isSome = R.any (fun x => decide (x.nm = z)) := by
  induction h with
  | nil => rfl
  | @cons x q R kh hq t ih =>
    obtain ⟨h1, h2⟩ := hq
    rw [List.any_cons]
    by_cases e : x.nm = z
    · rw [valV_pos (by rw [h1, e]), decide_eq_true e]; rfl
    · rw [valV_neg (by rw [h1]; exact fun q => e (map_inr_inj q)), decide_eq_false e, Bool.false_or]
      exact ih
theorem outs_none {s : Rs} {n : Int} (h : n ∉ s.o.map (·.1)) : valV (outsD s) (Sum.inl n) = none := by
  unfold outsD
  generalize s.o = l at h
  induction l with
  | nil => rfl
  | cons p r ih =>
    rw [List.map_cons] at h ⊢
    rw [valV_neg (fun z => h (by rw [← Sum.inl.inj z]; exact List.mem_cons_self ..))]
    exact ih fun z => h (List.mem_cons_of_mem _ z)
theorem putK_new {κ : Type} [DecidableEq κ] {kvs : List (κ × V)} {k : κ} {v : V} (h : valV kvs k = none) : putK kvs k v = kvs ++ [(k, v)] := by
  unfold putK
  rw [if_neg (by rw [valV_any, h]; decide)]
theorem names_none {H : Hp} {ns : List (Int × Option (List Str))} {kn : List (Key × V)} (h : Paired (NameP H) ns kn) {n : Int} (hm : n ∉ ns.map (·.1)) : valV kn (Sum.inl n) = none := by
  induction h with
  | nil => rfl
  | @cons x q ns kn hq t ih =>
    rw [List.map_cons] at hm
    rw [valV_neg (by rw [hq.1]; exact fun z => hm (by rw [← Sum.inl.inj z]; exact List.mem_cons_self ..))]
    exact ih fun z => hm (List.mem_cons_of_mem _ z)
theorem key_strs (z : List Str) : (z.map (Sum.inr : Str → Key)).map kV = z.map V.str := by rw [List.map_map]; rfl
def spTabE (K : PySem.W.Frag) : Sp := fun vs H Q _ => ∃ z, vs = [.str z] ∧ (z = Str.ofString "species" ∨ z = Str.ofString "form") ∧ Q (.str (aboveS z)) H
def spResInit (CR CE : Addr) : Sp := fun vs H Q _ => ∃ a dx, vs = [.ref a] ∧ H a = some (.ins CR dx []) ∧ ∀ A H', A.a = a → A.dx = dx → (∀ b u, b ≠ a → H b = some u → H' b = some u) → ResAt H' CR CE A ⟨[], [], []⟩ → H A.o1 = none → H A.o2 = none → H A.o3 = none → H A.o4 = none → Q .non H'
def spNameOf (CR CE : Addr) : Sp := fun vs H Q _ => ∃ A s v e, vs = [.ref A.a, v] ∧ ResAt H CR CE A s ∧ RsOk s ∧ EntAt H CE v e ∧ okE e ∧ ∀ w H', Same H H' → NameV H' w (nameE s.r e) → Q w H'
def spOutOf (CR CE : Addr) : Sp := fun vs H Q _ => ∃ A s v e w nm, vs = [.ref A.a, v, w] ∧ ResAt H CR CE A s ∧ EntAt H CE v e ∧ okE e ∧ NameV H w nm ∧ Q (.str (outE s.r e nm)) H
def spPutR (CR CE : Addr) : Sp := fun vs H Q _ => ∃ A s v e, vs = [.ref A.a, v] ∧ ResAt H CR CE A s ∧ RsOk s ∧ EntAt H CE v e ∧ okE e ∧ e.n ∉ s.o.map (·.1) ∧ s.o.length ≤ 1000 ∧ ∀ H', FrR A H H' → ResAt H' CR CE A (stepE s e) → Q (.str (outS s e)) H'
def spRootOf (CR CE : Addr) : Sp := fun vs H Q _ => ∃ A R kr v x, vs = [.ref A.a, v] ∧ H A.a = some (.ins CR A.dx (resF A)) ∧ Rd H A.o3 (.dK kr) ∧ Paired (RightP H CE) R kr ∧ EntAt H CE v x.e ∧ (∀ b, x.e.b = some b → ∃ y, findN R b = some y) ∧ ∀ w, EntAt H CE w (rootN R x) → Q w H
def spResultsOf (CR CE : Addr) : Sp := fun vs H Q _ => ∃ l ws es, vs = [.ref l] ∧ H l = some (.lst ws) ∧ EntsAt H CE ws es ∧ (∀ e ∈ es, okE e) ∧ (es.map (·.n)).Nodup ∧ ws.length ≤ 1000 ∧ ∀ A H', Same H H' → ResAt H' CR CE A (resE es) → H A.a = none → H A.o1 = none → H A.o2 = none → H A.o3 = none → H A.o4 = none → Q (.ref A.a) H'
def GoodB (H : Hp) (CE : Addr) (x : V) (es : List En) : Prop := ∃ l ws, x = .ref l ∧ H l = some (.lst ws) ∧ EntsAt H CE ws es ∧ (∀ e ∈ es, okE e) ∧ ws.length ≤ 1000 ∧ bookOk [] none (es.map some) = true
theorem GoodB.same {H H' : Hp} {CE : Addr} {x : V} {es : List En} (h : GoodB H CE x es) (s : Same H H') : GoodB H' CE x es := let ⟨l, ws, e, h1, h2, r⟩ := h; ⟨l, ws, e, s _ _ h1, h2.same s, r⟩
def rootsD (R : List Rt) : List (Key × V) := R.map fun x => (Sum.inl x.e.n, .int (rootN R x).n)
def tiedD (R : List Rt) : List (Key × V) := R.map fun x => (Sum.inl x.e.n, optV (rootN R x).s)
def spOuts (K : PySem.W.Frag) (CE X : Addr) : Sp := fun vs H Q E => ∃ x, vs = [x] ∧ ((∃ es, GoodB H CE x es ∧ ∀ d H', Same H H' → H d = none → H' d = some (.dK (outsD (resE es))) → Q (.ref d) H') ∨ (BadB K H CE x ∧ ∀ H', Same H H' → E (.ref X) none H'))
def spNames (K : PySem.W.Frag) (CE X : Addr) : Sp := fun vs H Q E => ∃ x, vs = [x] ∧ ((∃ es, GoodB H CE x es ∧ ∀ d kn H', Same H H' → H d = none → H' d = some (.dK kn) → Paired (NameP H') (resE es).n kn → Q (.ref d) H') ∨ (BadB K H CE x ∧ ∀ H', Same H H' → E (.ref X) none H'))
def spRoots (K : PySem.W.Frag) (CE X : Addr) (f : List Rt → List (Key × V)) : Sp := fun vs H Q E => ∃ x, vs = [x] ∧ ((∃ es, GoodB H CE x es ∧ ∀ d H', Same H H' → H d = none → H' d = some (.dK (f (resE es).r)) → Q (.ref d) H') ∨ (BadB K H CE x ∧ ∀ H', Same H H' → E (.ref X) none H'))
def lastW : Option En → List En → Option En
  | o, [] => o
  | _, x :: r => lastW (some x) r
theorem lastW_mem : ∀ {es : List En} {o : Option En} {x : En}, lastW o es = some x → o = some x ∨ x ∈ es
  | [], _, _, h => .inl h
  | y :: r, _, _, h => by
    rcases lastW_mem (es := r) h with q | q
    · cases q; exact .inr (List.mem_cons_self ..)
    · exact .inr (List.mem_cons_of_mem _ q)
theorem book_add : ∀ (es : List En) (seen : List Int) (last : Option En) (e : En), bookOk seen last (es.map some) = true → e.n ∉ seen → (∀ x ∈ es, x.n ≠ e.n) → lastOk (lastW last es) e = true → bookOk seen last ((es ++ [e]).map some) = true
  | [], seen, last, e, _, h1, _, h3 => by
    show (!seen.contains e.n && (lastOk last e && true)) = true
    have h3 : lastOk last e = true := h3
    have h1' : seen.contains e.n = false := by
      cases q : seen.contains e.n with
      | false => rfl
      | true => exact absurd (List.contains_iff_mem.mp q) h1
    rw [h1', h3]
    rfl
  | x :: r, seen, last, e, h, h1, h2, h3 => by
    have h : (!seen.contains x.n && (lastOk last x && bookOk (seen ++ [x.n]) (some x) (r.map some))) = true := h
    show (!seen.contains x.n && (lastOk last x && bookOk (seen ++ [x.n]) (some x) ((r ++ [e]).map some))) = true
    rw [Bool.and_eq_true, Bool.and_eq_true] at h ⊢
    refine ⟨h.1, h.2.1, book_add r _ _ e h.2.2 (fun z => ?_) (fun y hy => h2 y (List.mem_cons_of_mem _ hy)) h3⟩
    rcases List.mem_append.mp z with q | q
    · exact h1 q
    · exact h2 x (List.mem_cons_self ..) (List.mem_singleton.mp q).symm
theorem ahead_of {x e : En} (hd : x.d ≤ e.d) (hn : x.n < e.n) : aheadE x e = true := by
  show (if x.d = e.d then (if x.n = e.n then false else decide (x.n < e.n)) else decide (x.d < e.d)) = true
  by_cases h : x.d = e.d
  · rw [if_pos h, if_neg (by omega), decide_eq_true hn]
  · rw [if_neg h, decide_eq_true (by omega)]
structure Rise (es : List En) (n d : Int) : Prop where
  bk : bookOk [] none (es.map some) = true
  le : ∀ e ∈ es, e.n ≤ n ∧ e.d ≤ d
theorem Rise.nil (n d : Int) : Rise [] n d := ⟨rfl, fun _ h => nomatch h⟩
theorem Rise.add {es : List En} {n d : Int} {e : En} (h : Rise es n d) (hn : n < e.n) (hd : d ≤ e.d) : Rise (es ++ [e]) e.n e.d := by
  refine ⟨book_add es [] none e h.bk List.not_mem_nil (fun x hx z => by have := (h.le x hx).1; omega) ?_, fun x hx => ?_⟩
  · cases q : lastW none es with
    | none => rfl
    | some x =>
      rcases lastW_mem q with z | z
      · cases z
      · have := h.le x z
        exact ahead_of (by omega) (by omega)
  · rcases List.mem_append.mp hx with q | q
    · have := h.le x q
      exact ⟨by omega, by omega⟩
    · rw [List.mem_singleton.mp q]; exact ⟨Int.le_refl _, Int.le_refl _⟩
theorem okE_of {e : En} (h1 : inR 1000000000 (.int e.n) = true) (h2 : inR 1000000 (.int e.d) = true) (h3 : isRank (.str e.r) = true) (h4 : isWord (.str e.w) = true) (h5 : underFits (.str e.r) (optV e.u) = true) (h6 : tieFits (.str e.r) (optV e.s) (optV e.b) = true) : okE e := by
  have hw : whyH (.int e.n) (.int e.d) (.str e.r) (.str e.w) = 0 := by
    unfold whyH
    rw [if_neg (by rw [h1]; decide), if_neg (by rw [h2]; decide), if_neg (by rw [h3]; decide), if_neg (by rw [h4]; decide)]
  unfold okE why
  rw [hw, if_neg (fun z => z rfl), if_neg (by rw [h5]; decide), if_neg (by rw [h6]; decide)]
def spMixC : Sp := fun vs H Q _ => ∃ n k, vs = [.int n, .int k] ∧ 0 ≤ k ∧ k < 100 ∧ ∀ r, 0 ≤ r → r < 2147483629 → Q (.int r) H
theorem isWord_le {z : Str} (h : isWord (.str z) = true) : z.length ≤ 12 ∧ 1 ≤ z.length ∧ z.cps.toList.all letter = true := by
  rw [isWord_str, Bool.and_eq_true, Bool.and_eq_true] at h
  have h1 := of_decide_eq_true h.1.1
  have h2 := of_decide_eq_true h.1.2
  exact ⟨by omega, by omega, h.2⟩
theorem isWord_of {z : Str} (h1 : 1 ≤ z.length) (h2 : z.length ≤ 12) (h3 : z.cps.toList.all letter = true) : isWord (.str z) = true := by
  rw [isWord_str, h3, decide_eq_true (by omega), decide_eq_true (by omega)]
  rfl
def RowG (H : Hp) (v : V) (e : En) : Prop := ∃ a s, v = .ref a ∧ e.s = some s ∧ H a = some (.lst [.int e.n, .int e.d, .str e.w, .int s, .bl e.k])
theorem RowG.same {H H' : Hp} {v : V} {e : En} (h : RowG H v e) (s : Same H H') : RowG H' v e := let ⟨a, x, e1, e2, h1⟩ := h; ⟨a, x, e1, e2, s _ _ h1⟩
def RowsG (H : Hp) (ws : List V) (es : List En) : Prop := ws.length = es.length ∧ ∀ (j : Nat) v e, ws[j]? = some v → es[j]? = some e → RowG H v e
theorem RowsG.same {H H' : Hp} {ws : List V} {es : List En} (h : RowsG H ws es) (s : Same H H') : RowsG H' ws es := ⟨h.1, fun j v e a b => (h.2 j v e a b).same s⟩
theorem rel_push {α : Type} {P : V → α → Prop} {ws : List V} {es : List α} {w : V} {e : α} (h : ws.length = es.length ∧ ∀ (j : Nat) v e, ws[j]? = some v → es[j]? = some e → P v e) (hw : P w e) : (ws ++ [w]).length = (es ++ [e]).length ∧ ∀ (j : Nat) v x, (ws ++ [w])[j]? = some v → (es ++ [e])[j]? = some x → P v x := by
  refine ⟨by rw [List.length_append, List.length_append, h.1]; rfl, fun j v x hv hx => ?_⟩
  by_cases hj : j < ws.length
  · rw [List.getElem?_append_left hj] at hv
    rw [List.getElem?_append_left (by rw [← h.1]; exact hj)] at hx
    exact h.2 j v x hv hx
  · rw [List.getElem?_append_right (by omega)] at hv
    rw [List.getElem?_append_right (by rw [← h.1]; omega)] at hx
    obtain ⟨h1, e1⟩ := List.getElem?_eq_some_iff.mp hv
    have j0 : j - ws.length = 0 := by simpa using h1
    rw [j0] at hv
    rw [← h.1, j0] at hx
    cases Option.some.inj hv
    cases Option.some.inj hx
    exact hw
theorem RowsG.ne {H : Hp} {l a : Addr} {ws r : List V} {es : List En} {n : Int} (hR : RowsG H ws es) (hL : H l = some (.lst ws)) (ha : H a = some (.lst (.int n :: r))) : a ≠ l := fun z => by
  rw [z, hL] at ha
  have e : ws = .int n :: r := by injection ha with ha; injection ha
  have h0 : ws[0]? = some (.int n) := by rw [e]; rfl
  have hl : 0 < es.length := by rw [← hR.1, e]; exact Nat.succ_pos _
  obtain ⟨_, _, q, _⟩ := hR.2 0 _ _ h0 (List.getElem?_eq_getElem hl)
  cases q
def LikeD (K : PySem.W.Frag) (H : Hp) (ka kb : List (Key × V)) : Prop := ka.length = kb.length ∧ (∀ p ∈ ka, ∃ y, valV kb p.1 = some y ∧ EqD K H 2 p.2 y true) ∧ ∀ p ∈ ka, ∃ n : Int, p.1 = Sum.inl n
theorem valV_self {kvs : List (Key × V)} (nd : (kvs.map (·.1)).Nodup) {p : Key × V} (h : p ∈ kvs) : valV kvs p.1 = some p.2 := by
  induction kvs with
  | nil => cases h
  | cons q r ih =>
    rw [List.map_cons, List.nodup_cons] at nd
    rcases List.mem_cons.mp h with e | e
    · subst e; exact valV_pos rfl
    · rw [valV_neg (fun z => nd.1 (by rw [z]; exact List.mem_map_of_mem (f := fun p : Key × V => p.1) e))]
      exact ih nd.2 e
theorem LikeD.refl {K : PySem.W.Frag} {H : Hp} {ka : List (Key × V)} (nd : (ka.map (·.1)).Nodup) (hf : ∀ p ∈ ka, flatV p.2 = true) (hn : ∀ p ∈ ka, ∃ n : Int, p.1 = Sum.inl n) : LikeD K H ka ka :=
  ⟨rfl, fun p hp => ⟨p.2, valV_self nd hp, .inl (.inl ⟨hf p hp, hf p hp, (eqV_self (hf p hp)).symm⟩)⟩, hn⟩
def rowU (e : En) : List V := [.int e.n, .int e.d, .str e.r, .str e.w, optV e.u, .bl e.k]
def RowU (H : Hp) (v : V) (e : En) : Prop := ∃ a, v = .ref a ∧ H a = some (.lst (rowU e))
theorem RowU.same {H H' : Hp} {v : V} {e : En} (h : RowU H v e) (s : Same H H') : RowU H' v e := let ⟨a, e1, h1⟩ := h; ⟨a, e1, s _ _ h1⟩
def RowsU (H : Hp) (ws : List V) (es : List En) : Prop := ws.length = es.length ∧ ∀ (j : Nat) v e, ws[j]? = some v → es[j]? = some e → RowU H v e
theorem RowsU.same {H H' : Hp} {ws : List V} {es : List En} (h : RowsU H ws es) (s : Same H H') : RowsU H' ws es := ⟨h.1, fun j v e a b => (h.2 j v e a b).same s⟩
theorem RowsU.ne {H : Hp} {l a : Addr} {ws r : List V} {es : List En} {n : Int} (hR : RowsU H ws es) (hL : H l = some (.lst ws)) (ha : H a = some (.lst (.int n :: r))) : a ≠ l := fun z => by
  rw [z, hL] at ha
  have e : ws = .int n :: r := by injection ha with ha; injection ha
  have h0 : ws[0]? = some (.int n) := by rw [e]; rfl
  have hl : 0 < es.length := by rw [← hR.1, e]; exact Nat.succ_pos _
  obtain ⟨_, q, _⟩ := hR.2 0 _ _ h0 (List.getElem?_eq_getElem hl)
  cases q
theorem flatS (zs : List Str) : (zs.map V.str).all flatV = true := by
  rw [List.all_eq_true]
  intro x hx
  obtain ⟨z, _, rfl⟩ := List.mem_map.mp hx
  rfl
theorem same_put {H G : Hp} {l : Addr} {o : HO} (h : H l = none) (s : Same H G) : Same H (upd G l o) := fun b u hb => by
  rw [upd_ne (ne_of_none hb h)]
  exact s _ _ hb
theorem join_ones : ∀ ys : List Str, (∀ y ∈ ys, y.length = 1 ∧ y.cps.toList.all letter = true) → (Str.join (Str.ofString "") ys).length = ys.length ∧ (Str.join (Str.ofString "") ys).cps.toList.all letter = true
  | [], _ => ⟨rfl, rfl⟩
  | [x], h => h x (List.mem_cons_self ..)
  | x :: y :: r, h => by
    have h1 := h x (List.mem_cons_self ..)
    have h2 := join_ones (y :: r) fun z hz => h z (List.mem_cons_of_mem _ hz)
    have e : Str.join (Str.ofString "") (x :: y :: r) = x ++ Str.ofString "" ++ Str.join (Str.ofString "") (y :: r) := rfl
    have e0 : (Str.ofString "").length = 0 := by decide +kernel
    have e1 : (Str.ofString "").cps.toList.all letter = true := by decide +kernel
    rw [e, Str.length_append, Str.length_append, all_app, all_app, h1.1, h1.2, h2.1, h2.2, e0, e1]
    exact ⟨by show _ = (y :: r).length + 1; omega, rfl⟩
theorem join_word {ys : List Str} (h : ∀ y ∈ ys, y.length = 1 ∧ y.cps.toList.all letter = true) (l1 : 1 ≤ ys.length) (l2 : ys.length ≤ 12) : isWord (.str (Txt.join (Str.ofString "") ys)) = true := by
  have e : Txt.join (Str.ofString "") ys = Str.join (Str.ofString "") ys := StrLaws.glued_eq_join _ _
  rw [e]
  obtain ⟨q1, q2⟩ := join_ones ys h
  exact isWord_of (by omega) (by omega) q2
theorem ones_sum : ∀ ys : List Str, (∀ y ∈ ys, y.length = 1 ∧ y.cps.toList.all letter = true) → (ys.map (·.length)).sum = ys.length
  | [], _ => rfl
  | x :: r, h => by
    rw [List.map_cons, List.sum_cons, (h x (List.mem_cons_self ..)).1, ones_sum r fun z hz => h z (List.mem_cons_of_mem _ hz), List.length_cons]
    omega
def Drawn (d : Int) : Prop := 0 ≤ d ∧ d < 10000000000
def spDraws : Sp := fun vs H Q _ => ∃ n k fr, vs = [.int n, .int k, .bl fr] ∧ 0 ≤ k ∧ k < 100 ∧ ∀ (ds : List Int) l H', ds.length = 10 → (∀ d ∈ ds, Drawn d) → Same H H' → H l = none → H' l = some (.lst (ds.map V.int)) → Q (.ref l) H'
def spWordsF (m : Nat) : Sp := fun vs H Q _ => ∃ n fr, vs = [.int n, .bl fr] ∧ ∀ (zs : List Str) l H', zs.length = m → (∀ z ∈ zs, isWord (.str z) = true) → Same H H' → H l = none → H' l = some (.lst (zs.map V.str)) → Q (.ref l) H'
def spAnyW : Sp := fun vs H Q _ => ∃ n, vs = [.int n] ∧ ∀ z, isWord (.str z) = true → Q (.str z) H
theorem push_drawn {ds : List Int} {x : Int} (h : ∀ d ∈ ds, Drawn d) (hx : Drawn x) : ∀ d ∈ ds ++ [x], Drawn d := fun d hd => by
  rcases List.mem_append.mp hd with q | q
  · exact h d q
  · rw [List.mem_singleton.mp q]; exact hx
def rowB (e : En) : List V := [.int e.n, .int e.d, .str e.r, .str e.w, optV e.u, optV e.s, optV e.b, .bl e.k]
def RowB (H : Hp) (v : V) (e : En) : Prop := ∃ a, v = .ref a ∧ H a = some (.lst (rowB e))
theorem RowB.same {H H' : Hp} {v : V} {e : En} (h : RowB H v e) (s : Same H H') : RowB H' v e := let ⟨a, e1, h1⟩ := h; ⟨a, e1, s _ _ h1⟩
def RowsB (H : Hp) (ws : List V) (es : List En) : Prop := ws.length = es.length ∧ ∀ (j : Nat) v e, ws[j]? = some v → es[j]? = some e → RowB H v e
theorem RowsB.same {H H' : Hp} {ws : List V} {es : List En} (h : RowsB H ws es) (s : Same H H') : RowsB H' ws es := ⟨h.1, fun j v e a b => (h.2 j v e a b).same s⟩
structure BkB (es : List En) : Prop where
  bk : bookOk [] none (es.map some) = true
  ok : ∀ e ∈ es, okE e
  nn : ∀ e ∈ es, 1 ≤ e.n ∧ e.n ≤ 999000000 + 2000 * es.length
  dd : ∀ e ∈ es, 1 ≤ e.d ∧ e.d ≤ 9000 * es.length
  le : es.length ≤ 84
theorem lastW_snoc : ∀ (es : List En) (o : Option En) (e : En), lastW o (es ++ [e]) = some e
  | [], _, _ => rfl
  | x :: r, _, e => lastW_snoc r (some x) e
theorem RowsB.last {H : Hp} {ws : List V} {es : List En} (h : RowsB H ws es) (hw : ws ≠ []) : ∃ e ra, lastW none es = some e ∧ e ∈ es ∧ atI ws (-1) = some (.ref ra) ∧ H ra = some (.lst (rowB e)) := by
  have hl := h.1
  have he : es ≠ [] := fun z => hw (List.eq_nil_of_length_eq_zero (by rw [hl, z]; rfl))
  obtain ⟨w0, wv, rfl⟩ : ∃ w0 wv, ws = w0 ++ [wv] := ⟨_, _, (List.dropLast_concat_getLast hw).symm⟩
  obtain ⟨e0, ev, rfl⟩ : ∃ e0 ev, es = e0 ++ [ev] := ⟨_, _, (List.dropLast_concat_getLast he).symm⟩
  have hl0 : w0.length = e0.length := by
    rw [List.length_append, List.length_append] at hl
    exact Nat.succ.inj hl
  obtain ⟨ra, rfl, hr⟩ := h.2 w0.length wv ev (by simp) (by rw [hl0]; simp)
  exact ⟨ev, ra, lastW_snoc _ _ _, by simp, atI_last _ _, hr⟩
theorem flatI (ns : List Int) : (ns.map V.int).all flatV = true := by
  rw [List.all_eq_true]
  intro x hx
  obtain ⟨z, _, rfl⟩ := List.mem_map.mp hx
  rfl
theorem inV_ints {n : Int} : ∀ {ns : List Int}, inV (.int n) (ns.map V.int) = true ↔ n ∈ ns := by
  intro ns
  unfold inV
  rw [List.any_eq_true]
  constructor
  · rintro ⟨v, hv, q⟩
    obtain ⟨z, hz, rfl⟩ := List.mem_map.mp hv
    have : z = n := by simpa [eqV] using q
    exact this ▸ hz
  · intro h
    exact ⟨_, List.mem_map_of_mem h, by simp [eqV]⟩
def spStamp : Sp := fun vs H Q _ => ∃ l ws es x y, vs = [.ref l, .int x, .int y] ∧ H l = some (.lst ws) ∧ RowsB H ws es ∧ BkB es ∧ es.length < 84 ∧ Drawn x ∧ Drawn y ∧ ∀ (n d : Int) t H', Same H H' → H' t = some (.tup [.int n, .int d]) → (∀ e ∈ es, e.n ≠ n) → 1 ≤ n → n ≤ 999000000 + 2000 * (es.length + 1) → 1 ≤ d → d ≤ 9000 * (es.length + 1) → (∀ e, lastW none es = some e → e.d < d ∨ e.d = d ∧ e.n < n) → Q (.ref t) H'
def Some (H : Hp) (es : List En) (acc : List V) : Prop := acc.length ≤ es.length ∧ ∀ v ∈ acc, ∃ e ∈ es, RowB H v e
theorem Some.same {H H' : Hp} {es : List En} {acc : List V} (h : Some H es acc) (s : Same H H') : Some H' es acc := ⟨h.1, fun v hv => let ⟨e, he, hr⟩ := h.2 v hv; ⟨e, he, hr.same s⟩⟩
theorem RowsB.some {H : Hp} {ws : List V} {es : List En} (h : RowsB H ws es) : Some H es ws := ⟨by rw [h.1]; exact Nat.le_refl _, fun v hv => by
  obtain ⟨j, hj⟩ := List.getElem?_of_mem hv
  have hl : j < es.length := by rw [← h.1]; exact (List.getElem?_eq_some_iff.mp hj).1
  exact ⟨_, List.getElem_mem hl, h.2 j v _ hj (List.getElem?_eq_getElem hl)⟩⟩
def spPick : Sp := fun vs H Q _ => ∃ l ws es rk x y, vs = [.ref l, .str rk, .int x, .int y] ∧ H l = some (.lst ws) ∧ RowsB H ws es ∧ BkB es ∧ es ≠ [] ∧ ∀ (r : Int) H', Same H H' → 1 ≤ r → r ≤ 1000000000 → Q (.int r) H'
def spBaseB : Sp := fun vs H Q _ => ∃ l ws es rk x y, vs = [.ref l, .str rk, .int x, .int y] ∧ H l = some (.lst ws) ∧ RowsB H ws es ∧ BkB es ∧ es ≠ [] ∧ ∀ v e H', Same H H' → e ∈ es → RowB H' v e → Q v H'
structure NextE (es : List En) (e : En) : Prop where
  ok : okE e
  nw : ∀ x ∈ es, x.n ≠ e.n
  n1 : 1 ≤ e.n
  n2 : e.n ≤ 999000000 + 2000 * (es.length + 1)
  d1 : 1 ≤ e.d
  d2 : e.d ≤ 9000 * (es.length + 1)
  la : ∀ x, lastW none es = some x → x.d < e.d ∨ x.d = e.d ∧ x.n < e.n
def spEntry : Sp := fun vs H Q _ => ∃ l ws es wl, ∃ zs : List Str, ∃ n i fr, vs = [.ref l, .ref wl, .int n, .int i, .bl fr] ∧ H l = some (.lst ws) ∧ RowsB H ws es ∧ BkB es ∧ es.length < 84 ∧ H wl = some (.lst (zs.map V.str)) ∧ zs.length = 4 ∧ (∀ z ∈ zs, isWord (.str z) = true) ∧ 0 ≤ i ∧ i < 100 ∧ ∀ v e H', Same H H' → RowB H' v e → NextE es e → Q v H'
theorem BkB.add {es : List En} {e : En} (h : BkB es) (n : NextE es e) (hl : es.length < 84) : BkB (es ++ [e]) := by
  have ll : ((es ++ [e]).length : Int) = es.length + 1 := by rw [List.length_append]; rfl
  have mem : ∀ x ∈ es ++ [e], x ∈ es ∨ x = e := fun x hx => (List.mem_append.mp hx).imp id List.mem_singleton.mp
  refine ⟨book_add es [] none e h.bk List.not_mem_nil n.nw ?_, fun x hx => ?_, fun x hx => ?_, fun x hx => ?_, ?_⟩
  · cases q : lastW none es with
    | none => rfl
    | some x =>
      show aheadE x e = true
      show (if x.d = e.d then (if x.n = e.n then false else decide (x.n < e.n)) else decide (x.d < e.d)) = true
      rcases n.la x q with z | z
      · rw [if_neg (by omega), decide_eq_true z]
      · rw [if_pos z.1, if_neg (by omega), decide_eq_true z.2]
  · rcases mem x hx with q | rfl
    · exact h.ok x q
    · exact n.ok
  · rw [ll]
    rcases mem x hx with q | rfl
    · have := h.nn x q
      exact ⟨this.1, by omega⟩
    · exact ⟨n.n1, n.n2⟩
  · rw [ll]
    rcases mem x hx with q | rfl
    · have := h.dd x q
      exact ⟨this.1, by omega⟩
    · exact ⟨n.d1, n.d2⟩
  · omega
theorem BkB.nil : BkB [] := ⟨rfl, fun _ h => (nomatch h), fun _ h => (nomatch h), fun _ h => (nomatch h), Nat.zero_le _⟩
theorem RowB.ne {H : Hp} {ws : List V} {es : List En} {l a : Addr} {e : En} (hR : RowsB H ws es) (hL : H l = some (.lst ws)) (ha : H a = some (.lst (rowB e))) : a ≠ l := fun z => by
  rw [z, hL] at ha
  have e' : ws = rowB e := by injection ha with ha; injection ha
  have h0 : ws[0]? = some (.int e.n) := by rw [e']; rfl
  have hl : 0 < es.length := by rw [← hR.1, e']; exact Nat.succ_pos _
  obtain ⟨_, q, _⟩ := hR.2 0 _ _ h0 (List.getElem?_eq_getElem hl)
  cases q
def spBookB (K : PySem.W.Frag) : Sp := fun vs H Q _ => ∃ (a : Addr) (st : Int) (ns : List Int), vs = [.ref a, .int st] ∧ 0 ≤ st ∧ st ≤ 63 ∧ SqL K H a (ns.map V.int) ∧ ns.length ≤ 63 ∧ ∀ l ws es H', Same H H' → H' l = some (.lst ws) → RowsB H' ws es → BkB es → es.length < 64 → Q (.ref l) H'
def spMade (CE : Addr) : Sp := fun vs H Q _ => ∃ l ws es, vs = [.ref l] ∧ H l = some (.lst ws) ∧ RowsB H ws es ∧ (∀ e ∈ es, okE e) ∧ es.length ≤ 84 ∧ ∀ q acc H', Same H H' → H q = none → H' q = some (.lst acc) → EntsAt H' CE acc es → Q (.ref q) H'
theorem RowB.keep {H H' : Hp} {v : V} {e : En} (h : RowB H v e) (s : ∀ t xs, H t = some (.lst xs) → H' t = some (.lst xs)) : RowB H' v e := let ⟨a, e1, h1⟩ := h; ⟨a, e1, s _ _ h1⟩
theorem eqL_self : ∀ {xs : List V}, xs.all flatV = true → eqL xs xs = true
  | [], _ => rfl
  | x :: r, h => by
    rw [List.all_cons, Bool.and_eq_true] at h
    rw [eqL, eqV_self h.1, eqL_self h.2]
    rfl
theorem fold_ext : ∀ (ys : List En) (s : Rs), ∃ o n r, (ys.foldl stepE s).o = s.o ++ o ∧ (ys.foldl stepE s).n = s.n ++ n ∧ (ys.foldl stepE s).r = s.r ++ r ∧ ∀ x ∈ r, x.e ∈ ys
  | [], s => ⟨[], [], [], by rw [List.append_nil]; rfl, by rw [List.append_nil]; rfl, by rw [List.append_nil]; rfl, fun _ h => nomatch h⟩
  | y :: ys, s => by
    obtain ⟨o, n, r, h1, h2, h3, h4⟩ := fold_ext ys (stepE s y)
    rw [List.foldl_cons]
    obtain ⟨r', hr, hm⟩ : ∃ r', (stepE s y).r = s.r ++ r' ∧ ∀ x ∈ r', x.e = y := by
      by_cases h : outS s y = Str.ofString "right"
      · exact ⟨[⟨y, (nameE s.r y).getD []⟩], by show (if _ then _ else _) = _; rw [if_pos h], fun x hx => by rw [List.mem_singleton.mp hx]⟩
      · exact ⟨[], by show (if _ then _ else _) = _; rw [if_neg h, List.append_nil], fun _ h => nomatch h⟩
    refine ⟨(y.n, outS s y) :: o, (y.n, nameE s.r y) :: n, r' ++ r, ?_, ?_, ?_, fun x hx => ?_⟩
    · rw [h1]; show (s.o ++ [(y.n, outS s y)]) ++ o = _; rw [List.append_assoc]; rfl
    · rw [h2]; show (s.n ++ [(y.n, nameE s.r y)]) ++ n = _; rw [List.append_assoc]; rfl
    · rw [h3, hr, List.append_assoc]
    · rcases List.mem_append.mp hx with q | q
      · rw [hm x q]; exact List.mem_cons_self ..
      · exact List.mem_cons_of_mem _ (h4 x q)
theorem resE_ext (xs ys : List En) : ∃ o n r, (resE (xs ++ ys)).o = (resE xs).o ++ o ∧ (resE (xs ++ ys)).n = (resE xs).n ++ n ∧ (resE (xs ++ ys)).r = (resE xs).r ++ r ∧ ∀ x ∈ r, x.e ∈ ys := by
  have e : resE (xs ++ ys) = ys.foldl stepE (resE xs) := by unfold resE; rw [List.foldl_append]
  rw [e]
  exact fold_ext ys (resE xs)
theorem right_iff (es : List En) : (∀ x ∈ (resE es).r, x.e ∈ es ∧ (x.e.n, Str.ofString "right") ∈ (resE es).o) ∧ ∀ e ∈ es, ∃ o, (e.n, o) ∈ (resE es).o ∧ (o = Str.ofString "right" → ∃ x ∈ (resE es).r, x.e = e) := by
  have key : ∀ n, ∀ es : List En, es.length = n → (∀ x ∈ (resE es).r, x.e ∈ es ∧ (x.e.n, Str.ofString "right") ∈ (resE es).o) ∧ ∀ e ∈ es, ∃ o, (e.n, o) ∈ (resE es).o ∧ (o = Str.ofString "right" → ∃ x ∈ (resE es).r, x.e = e) := by
    intro n
    induction n with
    | zero =>
      intro es h
      obtain rfl : es = [] := List.eq_nil_of_length_eq_zero h
      exact ⟨fun _ h => (nomatch h), fun _ h => (nomatch h)⟩
    | succ n ih =>
      intro es h
      have hne : es ≠ [] := fun z => by rw [z] at h; cases h
      obtain ⟨p, e, rfl⟩ : ∃ p e, es = p ++ [e] := ⟨_, _, (List.dropLast_concat_getLast hne).symm⟩
      obtain ⟨i1, i2⟩ := ih p (by rw [List.length_append] at h; exact Nat.succ.inj h)
      rw [resE_snoc]
      have ho : (stepE (resE p) e).o = (resE p).o ++ [(e.n, outS (resE p) e)] := rfl
      by_cases hr : outS (resE p) e = Str.ofString "right"
      · have er : (stepE (resE p) e).r = (resE p).r ++ [⟨e, (nameE (resE p).r e).getD []⟩] := by show (if _ then _ else _) = _; rw [if_pos hr]
        rw [ho, er, hr]
        refine ⟨fun x hx => ?_, fun y hy => ?_⟩
        · rcases List.mem_append.mp hx with q | q
          · exact ⟨List.mem_append_left _ (i1 x q).1, List.mem_append_left _ (i1 x q).2⟩
          · rw [List.mem_singleton.mp q]
            exact ⟨List.mem_append_right _ (List.mem_singleton.mpr rfl), List.mem_append_right _ (List.mem_singleton.mpr rfl)⟩
        · rcases List.mem_append.mp hy with q | q
          · obtain ⟨o, h1, h2⟩ := i2 y q
            exact ⟨o, List.mem_append_left _ h1, fun z => let ⟨x, hx, ex⟩ := h2 z; ⟨x, List.mem_append_left _ hx, ex⟩⟩
          · rw [List.mem_singleton.mp q]
            exact ⟨_, List.mem_append_right _ (List.mem_singleton.mpr rfl), fun _ => ⟨_, List.mem_append_right _ (List.mem_singleton.mpr rfl), rfl⟩⟩
      · have er : (stepE (resE p) e).r = (resE p).r := by show (if _ then _ else _) = _; rw [if_neg hr]
        rw [ho, er]
        refine ⟨fun x hx => ⟨List.mem_append_left _ (i1 x hx).1, List.mem_append_left _ (i1 x hx).2⟩, fun y hy => ?_⟩
        rcases List.mem_append.mp hy with q | q
        · obtain ⟨o, h1, h2⟩ := i2 y q
          exact ⟨o, List.mem_append_left _ h1, h2⟩
        · rw [List.mem_singleton.mp q]
          exact ⟨_, List.mem_append_right _ (List.mem_singleton.mpr rfl), fun z => absurd z hr⟩
  exact key _ es rfl
theorem outs_mem {S : Rs} (rok : RsOk S) {n : Int} {o : Str} (h : (n, o) ∈ S.o) : valV (outsD S) (Sum.inl n) = some (.str o) := by
  have nd : ((outsD S).map (·.1)).Nodup := by
    unfold outsD
    rw [List.map_map]
    have e : (((fun p : Key × V => p.1) ∘ fun p : Int × Str => ((Sum.inl p.1 : Key), V.str p.2)) : Int × Str → Key) = (Sum.inl : Int → Key) ∘ fun p : Int × Str => p.1 := rfl
    rw [e, ← List.map_map]
    exact rok.nd.map _ fun a b h z => h (Sum.inl.inj z)
  exact valV_self nd (p := (Sum.inl n, V.str o)) (List.mem_map.mpr ⟨(n, o), h, rfl⟩)
theorem at_turn {es : List En} {i : Nat} (hi : i < es.length) : (es[i].n, outS (resE (es.take i)) es[i]) ∈ (resE es).o ∧ (es[i].n, nameE (resE (es.take i)).r es[i]) ∈ (resE es).n := by
  obtain ⟨o, n, r, h1, h2, _⟩ := resE_ext (es.take (i + 1)) (es.drop (i + 1))
  rw [List.take_append_drop] at h1 h2
  have e1 : es[i]? = some es[i] := List.getElem?_eq_getElem hi
  rw [take_one e1, resE_snoc] at h1 h2
  rw [h1, h2]
  exact ⟨List.mem_append_left _ (List.mem_append_right _ (List.mem_singleton.mpr rfl)), List.mem_append_left _ (List.mem_append_right _ (List.mem_singleton.mpr rfl))⟩
theorem eqL_strs : ∀ (a b : List Str), eqL (a.map V.str) (b.map V.str) = decide (a = b)
  | [], [] => rfl
  | [], _ :: _ => rfl
  | _ :: _, [] => rfl
  | x :: a, y :: b => by
    show (eqV (.str x) (.str y) && eqL (a.map V.str) (b.map V.str)) = _
    rw [eqL_strs a b]
    by_cases h : x = y
    · subst h
      rw [eqV_self rfl, Bool.true_and]
      by_cases q : a = b
      · rw [decide_eq_true q, decide_eq_true (by rw [q])]
      · rw [decide_eq_false q, decide_eq_false (fun z => q (List.cons.inj z).2)]
    · have e : eqV (.str x) (.str y) = false := by
        simp [eqV]
        exact h
      rw [e, decide_eq_false (fun z => h (List.cons.inj z).1)]
      rfl
theorem one_of {α : Type} {l : List (Int × α)} (nd : (l.map (·.1)).Nodup) {n : Int} {a b : α} (h1 : (n, a) ∈ l) (h2 : (n, b) ∈ l) : a = b := by
  induction l with
  | nil => cases h1
  | cons p r ih =>
    rw [List.map_cons, List.nodup_cons] at nd
    rcases List.mem_cons.mp h1 with e1 | e1 <;> rcases List.mem_cons.mp h2 with e2 | e2
    · rw [← e1] at e2; exact ((Prod.mk.inj e2).2).symm
    · exact absurd (List.mem_map_of_mem (f := fun p : Int × α => p.1) e2) (by rw [← e1] at nd; exact nd.1)
    · exact absurd (List.mem_map_of_mem (f := fun p : Int × α => p.1) e1) (by rw [← e2] at nd; exact nd.1)
    · exact ih nd.2 e1 e2
theorem all_ok {es : List En} (okk : ∀ e ∈ es, okE e) (nd : (es.map (·.n)).Nodup) : RsOk (resE es) := by
  have := resE_ok okk nd es.length (Nat.le_refl _)
  rw [List.take_of_length_le (Nat.le_refl _)] at this
  exact this
theorem right_turn {es : List En} (okk : ∀ e ∈ es, okE e) (nd : (es.map (·.n)).Nodup) {x : Rt} (hx : x ∈ (resE es).r) {j : Nat} (hj : es[j]? = some x.e) : outS (resE (es.take j)) x.e = Str.ofString "right" ∧ nameE (resE (es.take j)).r x.e = some x.nm := by
  obtain ⟨hl, e⟩ := List.getElem?_eq_some_iff.mp hj
  have rok := all_ok okk nd
  obtain ⟨t1, t2⟩ := at_turn hl
  rw [e] at t1 t2
  exact ⟨one_of rok.nd t1 ((right_iff es).1 x hx).2, one_of (by rw [rok.nk]; exact rok.nd) t2 (rok.nm x hx)⟩
theorem sub_take {es : List En} (i : Nat) : ∀ x ∈ (resE (es.take i)).r, x ∈ (resE es).r := fun x hx => by
  obtain ⟨o, n, r, _, _, h3, _⟩ := resE_ext (es.take i) (es.drop i)
  rw [List.take_append_drop] at h3
  rw [h3]
  exact List.mem_append_left _ hx
structure RightF (es : List En) (x : Rt) (j : Nat) : Prop where
  nm : (x.nm = [x.e.w] ∧ x.e.r = Str.ofString "genus") ∨ ∃ y ∈ (resE es).r, x.e.r ≠ Str.ofString "genus" ∧ x.e.u = some y.e.n ∧ x.nm = y.nm ++ [x.e.w]
  root : ∃ y ∈ (resE es).r, ∃ k, k ≤ j ∧ es[k]? = some y.e ∧ rootN (resE es).r x = y.e ∧ y.e.b = none ∧ y.e.r = x.e.r ∧ y.e.w = x.e.w ∧ (x.e.b = none ↔ y.e.n = x.e.n)
theorem right_f {es : List En} (okk : ∀ e ∈ es, okE e) (nd : (es.map (·.n)).Nodup) {x : Rt} (hx : x ∈ (resE es).r) {j : Nat} (hj : es[j]? = some x.e) : RightF es x j := by
  obtain ⟨t1, t2⟩ := right_turn okk nd hx hj
  have rok := all_ok okk nd
  obtain ⟨z, _, _, hb⟩ := outE_right t1
  refine ⟨?_, ?_⟩
  · by_cases g : x.e.r = Str.ofString "genus"
    · unfold nameE at t2
      rw [if_pos g] at t2
      exact .inl ⟨(Option.some.inj t2).symm, g⟩
    · obtain ⟨u, hu⟩ := okE_u (rok.ok x hx) g
      unfold nameE at t2
      rw [if_neg g, hu] at t2
      cases hf : findN (resE (es.take j)).r u with
      | none => rw [show (some u).getD 0 = u from rfl, hf] at t2; cases t2
      | some y =>
        rw [show (some u).getD 0 = u from rfl, hf] at t2
        have t2 : (if y.e.r = aboveS x.e.r then some (y.nm ++ [x.e.w]) else none) = some x.nm := t2
        by_cases q : y.e.r = aboveS x.e.r
        · rw [if_pos q] at t2
          obtain ⟨f1, f2⟩ := findN_mem hf
          exact .inr ⟨y, sub_take j y f1, g, by rw [hu, f2], (Option.some.inj t2).symm⟩
        · rw [if_neg q] at t2; cases t2
  · cases hb' : x.e.b with
    | none => exact ⟨x, hx, j, Nat.le_refl _, hj, by unfold rootN; rw [hb'], hb', rfl, rfl, fun _ => rfl, fun _ => rfl⟩
    | some b =>
      obtain ⟨y, f1, f2, f3, f4⟩ := hb b hb'
      obtain ⟨g1, g2⟩ := findN_mem f1
      have hy := sub_take j y g1
      obtain ⟨k, hk⟩ := List.getElem?_of_mem ((right_iff (es.take j)).1 y g1).1
      have kl : k < j := by
        have := (List.getElem?_eq_some_iff.mp hk).1
        rw [List.length_take] at this
        omega
      rw [List.getElem?_take_of_lt kl] at hk
      have fR : findN (resE es).r b = some y := by rw [← g2]; exact findN_self rok.rn hy
      refine ⟨y, hy, k, Nat.le_of_lt kl, hk, ?_, f2, f3, f4, (fun h => nomatch h), fun h => ?_⟩
      · unfold rootN
        rw [hb']
        show ((findN (resE es).r b).map (·.e)).getD x.e = _
        rw [fR]
        rfl
      · exfalso
        have h1 := findN_self rok.rn hy
        rw [h, findN_self rok.rn hx] at h1
        rw [Option.some.inj h1, f2] at hb'
        cases hb'
theorem right_pos {es : List En} {x : Rt} (hx : x ∈ (resE es).r)   : ∃ j : Nat, es[j]? = some x.e := List.getElem?_of_mem ((right_iff es).1 x hx).1
theorem names_apart {es : List En} (okk : ∀ e ∈ es, okE e) (nd : (es.map (·.n)).Nodup) {x y : Rt} (hx : x ∈ (resE es).r) (hy : y ∈ (resE es).r) (h : x.nm = y.nm) : x.e.n = y.e.n := by
  have key : ∀ {x y : Rt} {i j : Nat}, x ∈ (resE es).r → y ∈ (resE es).r → es[i]? = some x.e → es[j]? = some y.e → i < j → x.nm ≠ y.nm := fun {x y i j} hx hy hi hj hij e => by
    obtain ⟨a1, a2⟩ := right_turn okk nd hx hi
    obtain ⟨b1, b2⟩ := right_turn okk nd hy hj
    obtain ⟨z, c1, c2, _⟩ := outE_right b1
    rw [b2] at c1
    cases c1
    have m1 : x ∈ (resE (es.take (i + 1))).r := by
      rw [take_one hi, resE_snoc]
      show x ∈ (if outS (resE (es.take i)) x.e = Str.ofString "right" then (resE (es.take i)).r ++ [⟨x.e, (nameE (resE (es.take i)).r x.e).getD []⟩] else (resE (es.take i)).r)
      rw [if_pos a1, a2]
      exact List.mem_append_right _ (List.mem_singleton.mpr rfl)
    have m2 : x ∈ (resE (es.take j)).r := by
      refine sub_take (es := es.take j) (i + 1) x ?_
      rw [List.take_take, Nat.min_eq_left (by omega)]
      exact m1
    have := List.any_eq_false.mp c2 x m2
    exact this (decide_eq_true e)
  obtain ⟨i, hi⟩ := right_pos hx
  obtain ⟨j, hj⟩ := right_pos hy
  rcases Nat.lt_trichotomy i j with q | q | q
  · exact absurd h (key hx hy hi hj q)
  · subst q
    rw [hi] at hj
    rw [Option.some.inj hj]
  · exact absurd h.symm (key hy hx hj hi q)
def keyR (x : Rt) : NK := (Sum.inr x.e.r, x.nm.map Sum.inr)
def knownD (R : List Rt) : List (NK × V) := R.map fun y => (keyR y, V.bl true)
theorem valV_map {α κ : Type} [DecidableEq κ] {f : α → κ} {v : V} {k : κ} : ∀ {l : List α}, (∀ y ∈ l, f y ≠ k) → valV (l.map fun y => (f y, v)) k = none
  | [], _ => rfl
  | y :: l, h => by
    rw [List.map_cons, valV_neg (h y (List.mem_cons_self ..))]
    exact valV_map fun z hz => h z (List.mem_cons_of_mem _ hz)
theorem known_none {es : List En} (okk : ∀ e ∈ es, okE e) (nd : (es.map (·.n)).Nodup) {i : Nat} {x : Rt} (hx : (resE es).r[i]? = some x) : valV (knownD ((resE es).r.take i)) (keyR x) = none := by
  have rok := all_ok okk nd
  refine valV_map fun y hy e => ?_
  have e2 : y.nm = x.nm := map_inr_inj (Prod.mk.inj e).2
  have e3 := names_apart okk nd (List.mem_of_mem_take hy) (List.mem_of_getElem? hx) e2
  have q := rok.rn
  have e4 := (List.getElem?_eq_some_iff.mp hx).2
  have e5 : (resE es).r.map (·.e.n) = ((resE es).r.take i).map (·.e.n) ++ x.e.n :: ((resE es).r.drop (i + 1)).map (·.e.n) := by
    rw [← List.map_cons (f := fun p : Rt => p.e.n), ← e4, List.getElem_cons_drop, ← List.map_append, List.take_append_drop]
  rw [e5, List.nodup_append] at q
  exact q.2.2 _ (List.mem_map_of_mem (f := fun p : Rt => p.e.n) hy) _ (List.mem_cons_self ..) e3
theorem roots_at {R : List Rt} (rn : (R.map (·.e.n)).Nodup) {x : Rt} (hx : x ∈ R) {f : Rt → V} : valV (R.map fun x => ((Sum.inl x.e.n : Key), f x)) (Sum.inl x.e.n) = some (f x) := by
  refine valV_self (p := (Sum.inl x.e.n, f x)) ?_ (List.mem_map.mpr ⟨x, hx, rfl⟩)
  rw [List.map_map]
  have e : (((fun p : Key × V => p.1) ∘ fun x : Rt => ((Sum.inl x.e.n : Key), f x)) : Rt → Key) = (Sum.inl : Int → Key) ∘ fun x : Rt => x.e.n := rfl
  rw [e, ← List.map_map]
  exact rn.map _ fun a b h z => h (Sum.inl.inj z)
theorem flat8 (e : En) : (rowB e).all flatV = true := by
  cases e with
  | mk n d r w u s b k => cases u <;> cases s <;> cases b <;> rfl
theorem eqL_row {a b : En} (h : a.n ≠ b.n) : eqL (rowB a) (rowB b) = false := by
  have e : eqV (.int a.n) (.int b.n) = false := by
    simp [eqV]
    exact h
  show (eqV (.int a.n) (.int b.n) && _) = false
  rw [e]
  rfl
theorem opt_none {o : Option Int} : optV o = V.non ↔ o = none := by
  cases o with
  | none => exact ⟨fun _ => rfl, fun _ => rfl⟩
  | some n => exact ⟨fun h => (nomatch h), fun h => (nomatch h)⟩
theorem int_iff {a b : Int} : a = b ↔ V.int a = V.int b := ⟨fun h => by rw [h], fun h => V.int.inj h⟩
theorem dec_iff {a b : Prop} [Decidable a] [Decidable b] (h : a ↔ b) : decide a = decide b := by
  by_cases q : a
  · rw [decide_eq_true q, decide_eq_true (h.mp q)]
  · rw [decide_eq_false q, decide_eq_false (fun z => q (h.mpr z))]
def manyD : List (Key × V) := [(Sum.inr (Str.ofString "genus"), V.int 1), (Sum.inr (Str.ofString "species"), V.int 2), (Sum.inr (Str.ofString "form"), V.int 3)]
theorem many_at {e : En} (h : okE e) : valV (mergeK [] manyD) (Sum.inr e.r) = some (.int (depthR e.r)) := by
  rcases okE_rank h with q | q | q <;> rw [q] <;> decide +kernel
structure Told (H : Hp) (es : List En) (dw dn df ds : Addr) (kn : List (Key × V)) : Prop where
  w : H dw = some (.dK (outsD (resE es)))
  n : H dn = some (.dK kn)
  nm : Paired (NameP H) (resE es).n kn
  f : H df = some (.dK (rootsD (resE es).r))
  s : H ds = some (.dK (tiedD (resE es).r))
theorem Told.same {H H' : Hp} {es : List En} {dw dn df ds : Addr} {kn : List (Key × V)} (h : Told H es dw dn df ds kn) (s : Same H H') : Told H' es dw dn df ds kn := ⟨s _ _ h.w, s _ _ h.n, Paired.mapP h.nm fun x q z => ⟨z.1, z.2.same fun t xs e => s _ _ e⟩, s _ _ h.f, s _ _ h.s⟩
def spRight : Sp := fun vs H Q _ => ∃ ra l tt ws es x, ∃ j : Nat, ∃ dw dn df ds kn, vs = [.ref ra, .ref l, .ref tt] ∧ H l = some (.lst ws) ∧ RowsB H ws es ∧ (∀ e ∈ es, okE e) ∧ (es.map (·.n)).Nodup ∧ es.length ≤ 84 ∧ ws[j]? = some (.ref ra) ∧ es[j]? = some x.e ∧ x ∈ (resE es).r ∧ H tt = some (.tup [.ref dw, .ref dn, .ref df, .ref ds]) ∧ Told H es dw dn df ds kn ∧ ∀ H', Same H H' → Q (.bl true) H'
def spLaw (K : PySem.W.Frag) : Sp := fun vs H Q _ => ∃ (a : Addr) (ns : List Int), vs = [.ref a] ∧ SqL K H a (ns.map V.int) ∧ ns.length ≤ 63 ∧ ∀ H', Q (.bl true) H'
def top (i : Nat) : Stmt := PySem.Challenge.pw_rightname_k18_whole_unlike_names.main.body.getD i (.Pass ⟨0, 0, 0, 0⟩)
abbrev s_is_whole : Stmt := top 14
abbrev s_is_day : Stmt := top 15
abbrev s_is_number : Stmt := top 16
abbrev s_is_word : Stmt := top 17
abbrev s_is_rank : Stmt := top 18
abbrev s_above : Stmt := top 19
abbrev s_refuse_head : Stmt := top 22
abbrev s_under_fits : Stmt := top 23
abbrev s_tie_fits : Stmt := top 24
abbrev s_ahead : Stmt := top 25
abbrev s_book_list : Stmt := top 26
abbrev s_results_of : Stmt := top 29
abbrev s_outcomes : Stmt := top 30
abbrev s_full_names : Stmt := top 31
abbrev s_roots : Stmt := top 32
abbrev s_tied : Stmt := top 33
abbrev s_Lcell_at : Stmt := top 35
abbrev s_Lwhole : Stmt := top 36
abbrev s_Lmixed : Stmt := top 37
abbrev s_Ldraws : Stmt := top 38
abbrev s_Lwords : Stmt := top 39
abbrev s_Lany_word : Stmt := top 40
abbrev s_Lstamp : Stmt := top 41
abbrev s_Lpick : Stmt := top 42
abbrev s_Lbase : Stmt := top 43
abbrev s_Lentry : Stmt := top 44
abbrev s_Lbook : Stmt := top 45
abbrev s_Lmade : Stmt := top 46
abbrev s_Lright : Stmt := top 47
abbrev s_law : Stmt := top 48
abbrev s_Entry_init : Stmt := inClass (top 21) 0
abbrev s_Results_init : Stmt := inClass (top 28) 0
abbrev s_Results_put : Stmt := inClass (top 28) 1
abbrev s_Results_name_of : Stmt := inClass (top 28) 2
abbrev s_Results_outcome_of : Stmt := inClass (top 28) 3
abbrev s_Results_root_of : Stmt := inClass (top 28) 4
theorem rb_Entry_8 {vs : List V} {us : List Value} {zs : List V} {ws : List Value} (r : Vals vs us) (rz : Vals zs ws) : Vals ((fun us ws => us ++ (match ws with | [] => [] | _ => []) : List V → List V → List V) vs zs) ((fun us ws => us ++ (match ws with | [] => [] | _ => []) : List Value → List Value → List Value) us ws) := by
  refine r.append ?_
  cases rz with
  | nil => exact .nil
  | cons _ _ => exact .nil
theorem mb_Entry_8 {K : PySem.W.Frag} {T f : Addr} {fd : FuncData} {o : Obj} {n : Nat} (F : FunD K "__init__" "Entry.__init__" s_Entry_init (.ref T) f fd) (hT : K.lookup T = some o) (hs : o.data = .seq #[.none, .none, .none, .bool true] n) : MkBinds K fd ["self", "number", "day", "rank", "word", "under", "sheet", "base", "described"] [] 8 (fun us ws => us ++ (match ws with | [] => [] | _ => [])) (fun us ws => us ++ (match ws with | [] => [] | _ => [])) :=
  .ofD F hT hs rb_Entry_8 fun _ _ _ _ _ _ y us ws h1 h2 => by
    obtain ⟨a0, us0, rfl, g0⟩ := lenS h1
    obtain ⟨a1, us1, rfl, g1⟩ := lenS g0
    obtain ⟨a2, us2, rfl, g2⟩ := lenS g1
    obtain ⟨a3, us3, rfl, g3⟩ := lenS g2
    obtain ⟨a4, us4, rfl, g4⟩ := lenS g3
    obtain ⟨a5, us5, rfl, g5⟩ := lenS g4
    obtain ⟨a6, us6, rfl, g6⟩ := lenS g5
    obtain ⟨a7, us7, rfl, g7⟩ := lenS g6
    obtain rfl := len0 g7
    obtain rfl := len0 h2
    exact ⟨⟨_, rfl, rfl⟩, rfl⟩
structure Fn (K : PySem.W.Frag) (mg : Str → Option Value) (x : Str) (st : Stmt) (ps : List Str) (f : Addr) (fd : FuncData) : Prop where
  fn : Fun K x x st f fd
  mgf : mg x = some (.ref f)
  bi : Binds K fd ps []
theorem Fn.kp {K : PySem.W.Frag} {mg : Str → Option Value} {x : Str} {st : Stmt} {ps : List Str} {f : Addr} {fd : FuncData} (F : Fn K mg x st ps f fd) : PySem.W.keepIn K (.ref f) = true := F.fn.kp
set_option genInjectivity false in
set_option genSizeOfSpec false in
set_option genSizeOf false in
structure Ad where
  a_is_whole : Addr
  d_is_whole : FuncData
  a_is_day : Addr
  d_is_day : FuncData
  a_is_number : Addr
  d_is_number : FuncData
  a_is_word : Addr
  d_is_word : FuncData
  a_is_rank : Addr
  d_is_rank : FuncData
  a_above : Addr
  d_above : FuncData
  a_refuse_head : Addr
  d_refuse_head : FuncData
  a_under_fits : Addr
  d_under_fits : FuncData
  a_tie_fits : Addr
  d_tie_fits : FuncData
  a_ahead : Addr
  d_ahead : FuncData
  a_book_list : Addr
  d_book_list : FuncData
  a_results_of : Addr
  d_results_of : FuncData
  a_outcomes : Addr
  d_outcomes : FuncData
  a_full_names : Addr
  d_full_names : FuncData
  a_roots : Addr
  d_roots : FuncData
  a_tied : Addr
  d_tied : FuncData
  a_Lcell_at : Addr
  d_Lcell_at : FuncData
  a_Lwhole : Addr
  d_Lwhole : FuncData
  a_Lmixed : Addr
  d_Lmixed : FuncData
  a_Ldraws : Addr
  d_Ldraws : FuncData
  a_Lwords : Addr
  d_Lwords : FuncData
  a_Lany_word : Addr
  d_Lany_word : FuncData
  a_Lstamp : Addr
  d_Lstamp : FuncData
  a_Lpick : Addr
  d_Lpick : FuncData
  a_Lbase : Addr
  d_Lbase : FuncData
  a_Lentry : Addr
  d_Lentry : FuncData
  a_Lbook : Addr
  d_Lbook : FuncData
  a_Lmade : Addr
  d_Lmade : FuncData
  a_Lright : Addr
  d_Lright : FuncData
  a_law : Addr
  d_law : FuncData
  c_Entry : Addr
  a_Entry_init : Addr
  t_Entry_init : Addr
  d_Entry_init : FuncData
  c_Results : Addr
  a_Results_init : Addr
  d_Results_init : FuncData
  a_Results_put : Addr
  d_Results_put : FuncData
  a_Results_name_of : Addr
  d_Results_name_of : FuncData
  a_Results_outcome_of : Addr
  d_Results_outcome_of : FuncData
  a_Results_root_of : Addr
  d_Results_root_of : FuncData
  u_MOST_LETTERS : Value
  u_LAST_DAY : Value
  u_LAST_NUMBER : Value
  u_RANKS : Addr
  u_ABOVE : Addr
  c_NoRank : Addr
  c_NoNumber : Addr
  c_NoDay : Addr
  c_NoWord : Addr
  c_NoBook : Addr
  c_NoEntry : Addr
structure Txt (w : World) (K : PySem.W.Frag) (mg : Str → Option Value) (c : Ad) : Prop where
  is_whole : Fn K mg "is_whole" s_is_whole ["thing"] c.a_is_whole c.d_is_whole
  is_day : Fn K mg "is_day" s_is_day ["thing"] c.a_is_day c.d_is_day
  is_number : Fn K mg "is_number" s_is_number ["thing"] c.a_is_number c.d_is_number
  is_word : Fn K mg "is_word" s_is_word ["thing"] c.a_is_word c.d_is_word
  is_rank : Fn K mg "is_rank" s_is_rank ["thing"] c.a_is_rank c.d_is_rank
  above : Fn K mg "above" s_above ["rank"] c.a_above c.d_above
  refuse_head : Fn K mg "refuse_head" s_refuse_head ["number", "day", "rank", "word"] c.a_refuse_head c.d_refuse_head
  under_fits : Fn K mg "under_fits" s_under_fits ["rank", "under"] c.a_under_fits c.d_under_fits
  tie_fits : Fn K mg "tie_fits" s_tie_fits ["rank", "sheet", "base"] c.a_tie_fits c.d_tie_fits
  ahead : Fn K mg "ahead" s_ahead ["one", "other"] c.a_ahead c.d_ahead
  book_list : Fn K mg "book_list" s_book_list ["entries"] c.a_book_list c.d_book_list
  results_of : Fn K mg "results_of" s_results_of ["book"] c.a_results_of c.d_results_of
  outcomes : Fn K mg "outcomes" s_outcomes ["entries"] c.a_outcomes c.d_outcomes
  full_names : Fn K mg "full_names" s_full_names ["entries"] c.a_full_names c.d_full_names
  roots : Fn K mg "roots" s_roots ["entries"] c.a_roots c.d_roots
  tied : Fn K mg "tied" s_tied ["entries"] c.a_tied c.d_tied
  Lcell_at : Fn K mg "_law_cell_at" s_Lcell_at ["_law_script", "_law_k"] c.a_Lcell_at c.d_Lcell_at
  Lwhole : Fn K mg "_law_whole" s_Lwhole ["_law_found"] c.a_Lwhole c.d_Lwhole
  Lmixed : Fn K mg "_law_mixed" s_Lmixed ["_law_cell", "_law_k"] c.a_Lmixed c.d_Lmixed
  Ldraws : Fn K mg "_law_draws" s_Ldraws ["_law_cell", "_law_k", "_law_free"] c.a_Ldraws c.d_Ldraws
  Lwords : Fn K mg "_law_words" s_Lwords ["_law_cell", "_law_free"] c.a_Lwords c.d_Lwords
  Lany_word : Fn K mg "_law_any_word" s_Lany_word ["_law_number"] c.a_Lany_word c.d_Lany_word
  Lstamp : Fn K mg "_law_stamp" s_Lstamp ["_law_book_here", "_law_one", "_law_other"] c.a_Lstamp c.d_Lstamp
  Lpick : Fn K mg "_law_pick" s_Lpick ["_law_book_here", "_law_rank", "_law_one", "_law_other"] c.a_Lpick c.d_Lpick
  Lbase : Fn K mg "_law_base" s_Lbase ["_law_book_here", "_law_rank", "_law_one", "_law_other"] c.a_Lbase c.d_Lbase
  Lentry : Fn K mg "_law_entry" s_Lentry ["_law_book_here", "_law_words_here", "_law_cell", "_law_k", "_law_free"] c.a_Lentry c.d_Lentry
  Lbook : Fn K mg "_law_book" s_Lbook ["_law_script", "_law_start"] c.a_Lbook c.d_Lbook
  Lmade : Fn K mg "_law_made" s_Lmade ["_law_book_here"] c.a_Lmade c.d_Lmade
  Lright : Fn K mg "_law_right" s_Lright ["_law_one", "_law_book_here", "_law_told_all"] c.a_Lright c.d_Lright
  law : Fn K mg "law" s_law ["_law_script"] c.a_law c.d_law
  mg_Entry : mg "Entry" = some (.ref c.c_Entry)
  cl_Entry : Cls K c.c_Entry
  mk_Entry : Mk K c.c_Entry c.a_Entry_init
  Entry_init : FunD K "__init__" "Entry.__init__" s_Entry_init (.ref c.t_Entry_init) c.a_Entry_init c.d_Entry_init
  na_Entry_number : NoAttr K c.c_Entry "number"
  na_Entry_day : NoAttr K c.c_Entry "day"
  na_Entry_rank : NoAttr K c.c_Entry "rank"
  na_Entry_word : NoAttr K c.c_Entry "word"
  na_Entry_under : NoAttr K c.c_Entry "under"
  na_Entry_sheet : NoAttr K c.c_Entry "sheet"
  na_Entry_base : NoAttr K c.c_Entry "base"
  na_Entry_described : NoAttr K c.c_Entry "described"
  b_Entry_8 : MkBinds K c.d_Entry_init ["self", "number", "day", "rank", "word", "under", "sheet", "base", "described"] [] 8 (fun us ws => us ++ (match ws with | [] => [] | _ => [])) (fun us ws => us ++ (match ws with | [] => [] | _ => []))
  mg_Results : mg "Results" = some (.ref c.c_Results)
  cl_Results : Cls K c.c_Results
  Results_init : Fun K "__init__" "Results.__init__" s_Results_init c.a_Results_init c.d_Results_init
  bi_Results_init : Binds K c.d_Results_init ["self"] []
  mk_Results : Mk K c.c_Results c.a_Results_init
  na_Results_outs : NoAttr K c.c_Results "outs"
  na_Results_names : NoAttr K c.c_Results "names"
  na_Results_rights : NoAttr K c.c_Results "rights"
  na_Results_holders : NoAttr K c.c_Results "holders"
  Results_put : Fun K "put" "Results.put" s_Results_put c.a_Results_put c.d_Results_put
  bi_Results_put : Binds K c.d_Results_put ["self", "entry"] []
  m_Results_put : Meth K c.c_Results "put" c.a_Results_put
  Results_name_of : Fun K "name_of" "Results.name_of" s_Results_name_of c.a_Results_name_of c.d_Results_name_of
  bi_Results_name_of : Binds K c.d_Results_name_of ["self", "entry"] []
  m_Results_name_of : Meth K c.c_Results "name_of" c.a_Results_name_of
  Results_outcome_of : Fun K "outcome_of" "Results.outcome_of" s_Results_outcome_of c.a_Results_outcome_of c.d_Results_outcome_of
  bi_Results_outcome_of : Binds K c.d_Results_outcome_of ["self", "entry", "name"] []
  m_Results_outcome_of : Meth K c.c_Results "outcome_of" c.a_Results_outcome_of
  Results_root_of : Fun K "root_of" "Results.root_of" s_Results_root_of c.a_Results_root_of c.d_Results_root_of
  bi_Results_root_of : Binds K c.d_Results_root_of ["self", "entry"] []
  m_Results_root_of : Meth K c.c_Results "root_of" c.a_Results_root_of
  mg_MOST_LETTERS : mg "MOST_LETTERS" = some c.u_MOST_LETTERS
  rl_MOST_LETTERS : RelV (.int 12) c.u_MOST_LETTERS
  mg_LAST_DAY : mg "LAST_DAY" = some c.u_LAST_DAY
  rl_LAST_DAY : RelV (.int 1000000) c.u_LAST_DAY
  mg_LAST_NUMBER : mg "LAST_NUMBER" = some c.u_LAST_NUMBER
  rl_LAST_NUMBER : RelV (.int 1000000000) c.u_LAST_NUMBER
  mg_RANKS : mg "RANKS" = some (.ref c.u_RANKS)
  sq_RANKS : ∀ H, SqT K H c.u_RANKS [.str "genus", .str "species", .str "form"]
  mg_ABOVE : mg "ABOVE" = some (.ref c.u_ABOVE)
  kd_ABOVE : KDict w K c.u_ABOVE ([("genus", .non), ("species", .str "genus"), ("form", .str "species")] : List (Str × V))
  mg_NoRank : mg "NoRank" = some (.ref c.c_NoRank)
  mg_NoNumber : mg "NoNumber" = some (.ref c.c_NoNumber)
  mg_NoDay : mg "NoDay" = some (.ref c.c_NoDay)
  mg_NoWord : mg "NoWord" = some (.ref c.c_NoWord)
  mg_NoBook : mg "NoBook" = some (.ref c.c_NoBook)
  mg_NoEntry : mg "NoEntry" = some (.ref c.c_NoEntry)
  x_NoRank : XCls K c.c_NoRank
  q_NoRank : XAsk K c.c_NoRank
  x_NoNumber : XCls K c.c_NoNumber
  q_NoNumber : XAsk K c.c_NoNumber
  x_NoDay : XCls K c.c_NoDay
  q_NoDay : XAsk K c.c_NoDay
  x_NoWord : XCls K c.c_NoWord
  q_NoWord : XAsk K c.c_NoWord
  x_NoBook : XCls K c.c_NoBook
  q_NoBook : XAsk K c.c_NoBook
  x_NoEntry : XCls K c.c_NoEntry
  q_NoEntry : XAsk K c.c_NoEntry
  w_Entry : IAsk K c.c_Entry
  ws_Entry : PySem.W.kitOne K (.ref c.c_Entry) (.ref c.c_Entry) = some true
  wn_Entry_NoneType : PySem.W.kitOne K (.type "NoneType") (.ref c.c_Entry) = some false
  wn_Entry_int : PySem.W.kitOne K (.type "int") (.ref c.c_Entry) = some false
  wn_Entry_str : PySem.W.kitOne K (.type "str") (.ref c.c_Entry) = some false
  wn_Entry_bool : PySem.W.kitOne K (.type "bool") (.ref c.c_Entry) = some false
  wn_Entry_list : PySem.W.kitOne K (.type "list") (.ref c.c_Entry) = some false
  wn_Entry_tuple : PySem.W.kitOne K (.type "tuple") (.ref c.c_Entry) = some false
  wn_Entry_dict : PySem.W.kitOne K (.type "dict") (.ref c.c_Entry) = some false
  no_len : mg "len" = none
  no_isinstance : mg "isinstance" = none
  no_str : mg "str" = none
  no_bool : mg "bool" = none
  no_all : mg "all" = none
  no_range : mg "range" = none
  no_int : mg "int" = none
  no_list : mg "list" = none
  no_min : mg "min" = none
  no_max : mg "max" = none
  no_dict : mg "dict" = none
  no_sorted : mg "sorted" = none
  no_tuple : mg "tuple" = none
theorem sc_is_whole : FnScope ["thing"] ["thing"] (defScope s_is_whole) := ⟨rfl, rfl, rfl, by decide +kernel, rfl, by decide +kernel, by decide +kernel⟩
theorem sc_is_day : FnScope ["thing"] ["thing"] (defScope s_is_day) := ⟨rfl, rfl, rfl, by decide +kernel, rfl, by decide +kernel, by decide +kernel⟩
theorem sc_is_number : FnScope ["thing"] ["thing"] (defScope s_is_number) := ⟨rfl, rfl, rfl, by decide +kernel, rfl, by decide +kernel, by decide +kernel⟩
theorem sc_is_word : FnScope ["thing"] ["thing"] (defScope s_is_word) := ⟨rfl, rfl, rfl, by decide +kernel, rfl, by decide +kernel, by decide +kernel⟩
theorem sc_is_rank : FnScope ["thing"] ["thing"] (defScope s_is_rank) := ⟨rfl, rfl, rfl, by decide +kernel, rfl, by decide +kernel, by decide +kernel⟩
theorem sc_above : FnScope ["rank"] ["rank"] (defScope s_above) := ⟨rfl, rfl, rfl, by decide +kernel, rfl, by decide +kernel, by decide +kernel⟩
theorem sc_refuse_head : FnScope ["number", "day", "rank", "word"] ["number", "day", "rank", "word"] (defScope s_refuse_head) := ⟨rfl, rfl, rfl, by decide +kernel, rfl, by decide +kernel, by decide +kernel⟩
theorem sc_under_fits : FnScope ["rank", "under"] ["rank", "under"] (defScope s_under_fits) := ⟨rfl, rfl, rfl, by decide +kernel, rfl, by decide +kernel, by decide +kernel⟩
theorem sc_tie_fits : FnScope ["rank", "sheet", "base"] ["rank", "sheet", "base"] (defScope s_tie_fits) := ⟨rfl, rfl, rfl, by decide +kernel, rfl, by decide +kernel, by decide +kernel⟩
theorem sc_ahead : FnScope ["one", "other"] ["one", "other"] (defScope s_ahead) := ⟨rfl, rfl, rfl, by decide +kernel, rfl, by decide +kernel, by decide +kernel⟩
theorem sc_book_list : FnScope ["entries", "book", "seen", "last", "entry"] ["entries"] (defScope s_book_list) := ⟨rfl, rfl, rfl, by decide +kernel, rfl, by decide +kernel, by decide +kernel⟩
theorem sc_results_of : FnScope ["book", "results", "entry"] ["book"] (defScope s_results_of) := ⟨rfl, rfl, rfl, by decide +kernel, rfl, by decide +kernel, by decide +kernel⟩
theorem sc_outcomes : FnScope ["entries"] ["entries"] (defScope s_outcomes) := ⟨rfl, rfl, rfl, by decide +kernel, rfl, by decide +kernel, by decide +kernel⟩
theorem sc_full_names : FnScope ["entries"] ["entries"] (defScope s_full_names) := ⟨rfl, rfl, rfl, by decide +kernel, rfl, by decide +kernel, by decide +kernel⟩
theorem sc_roots : FnScope ["entries", "results", "found", "entry"] ["entries"] (defScope s_roots) := ⟨rfl, rfl, rfl, by decide +kernel, rfl, by decide +kernel, by decide +kernel⟩
theorem sc_tied : FnScope ["entries", "results", "found", "entry"] ["entries"] (defScope s_tied) := ⟨rfl, rfl, rfl, by decide +kernel, rfl, by decide +kernel, by decide +kernel⟩
theorem sc_Lcell_at : FnScope ["_law_script", "_law_k"] ["_law_script", "_law_k"] (defScope s_Lcell_at) := ⟨rfl, rfl, rfl, by decide +kernel, rfl, by decide +kernel, by decide +kernel⟩
theorem sc_Lwhole : FnScope ["_law_found"] ["_law_found"] (defScope s_Lwhole) := ⟨rfl, rfl, rfl, by decide +kernel, rfl, by decide +kernel, by decide +kernel⟩
theorem sc_Lmixed : FnScope ["_law_cell", "_law_k"] ["_law_cell", "_law_k"] (defScope s_Lmixed) := ⟨rfl, rfl, rfl, by decide +kernel, rfl, by decide +kernel, by decide +kernel⟩
theorem sc_Ldraws : FnScope ["_law_cell", "_law_k", "_law_free", "_law_found", "_law_left", "_law_mixed_here", "_law_j"] ["_law_cell", "_law_k", "_law_free"] (defScope s_Ldraws) := ⟨rfl, rfl, rfl, by decide +kernel, rfl, by decide +kernel, by decide +kernel⟩
theorem sc_Lwords : FnScope ["_law_cell", "_law_free", "_law_letters", "_law_size", "_law_at", "_law_left", "_law_numbers", "_law_j", "_law_number", "_law_words_here", "_law_k", "_law_signs"] ["_law_cell", "_law_free"] (defScope s_Lwords) := ⟨rfl, rfl, rfl, by decide +kernel, rfl, by decide +kernel, by decide +kernel⟩
theorem sc_Lany_word : FnScope ["_law_number", "_law_size", "_law_word", "_law_j"] ["_law_number"] (defScope s_Lany_word) := ⟨rfl, rfl, rfl, by decide +kernel, rfl, by decide +kernel, by decide +kernel⟩
theorem sc_Lstamp : FnScope ["_law_book_here", "_law_one", "_law_other", "_law_day", "_law_number"] ["_law_book_here", "_law_one", "_law_other"] (defScope s_Lstamp) := ⟨rfl, rfl, rfl, by decide +kernel, rfl, by decide +kernel, by decide +kernel⟩
theorem sc_Lpick : FnScope ["_law_book_here", "_law_rank", "_law_one", "_law_other", "_law_some"] ["_law_book_here", "_law_rank", "_law_one", "_law_other"] (defScope s_Lpick) := ⟨rfl, rfl, rfl, by decide +kernel, rfl, by decide +kernel, by decide +kernel⟩
theorem sc_Lbase : FnScope ["_law_book_here", "_law_rank", "_law_one", "_law_other", "_law_some"] ["_law_book_here", "_law_rank", "_law_one", "_law_other"] (defScope s_Lbase) := ⟨rfl, rfl, rfl, by decide +kernel, rfl, by decide +kernel, by decide +kernel⟩
theorem sc_Lentry : FnScope ["_law_book_here", "_law_words_here", "_law_cell", "_law_k", "_law_free", "_law_draws_here", "_law_number", "_law_day", "_law_word", "_law_sheet", "_law_described", "_law_rank", "_law_under", "_law_base_here", "_law_root"] ["_law_book_here", "_law_words_here", "_law_cell", "_law_k", "_law_free"] (defScope s_Lentry) := ⟨rfl, rfl, rfl, by decide +kernel, rfl, by decide +kernel, by decide +kernel⟩
theorem sc_Lbook : FnScope ["_law_script", "_law_start", "_law_free", "_law_words_here", "_law_book_here", "_law_k"] ["_law_script", "_law_start"] (defScope s_Lbook) := ⟨rfl, rfl, rfl, by decide +kernel, rfl, by decide +kernel, by decide +kernel⟩
theorem sc_Lmade : FnScope ["_law_book_here", "_law_found", "_law_one"] ["_law_book_here"] (defScope s_Lmade) := ⟨rfl, rfl, rfl, by decide +kernel, rfl, by decide +kernel, by decide +kernel⟩
theorem sc_Lright : FnScope ["_law_one", "_law_book_here", "_law_told_all", "_law_words_here", "_law_names", "_law_first", "_law_sheets", "_law_name", "_law_many", "_law_root", "_law_place", "_law_there"] ["_law_one", "_law_book_here", "_law_told_all"] (defScope s_Lright) := ⟨rfl, rfl, rfl, by decide +kernel, rfl, by decide +kernel, by decide +kernel⟩
theorem sc_law : FnScope ["_law_script", "_law_book_here", "_law_entries", "_law_words_here", "_law_names", "_law_told_all", "_law_right_here", "_law_known", "_law_one"] ["_law_script"] (defScope s_law) := ⟨rfl, rfl, rfl, by decide +kernel, rfl, by decide +kernel, by decide +kernel⟩
theorem sc_Entry_init : FnScope ["self", "number", "day", "rank", "word", "under", "sheet", "base", "described"] ["self", "number", "day", "rank", "word", "under", "sheet", "base", "described"] (defScope s_Entry_init) := ⟨rfl, rfl, rfl, by decide +kernel, rfl, by decide +kernel, by decide +kernel⟩
theorem sc_Results_init : FnScope ["self"] ["self"] (defScope s_Results_init) := ⟨rfl, rfl, rfl, by decide +kernel, rfl, by decide +kernel, by decide +kernel⟩
theorem sc_Results_put : FnScope ["self", "entry", "name", "out"] ["self", "entry"] (defScope s_Results_put) := ⟨rfl, rfl, rfl, by decide +kernel, rfl, by decide +kernel, by decide +kernel⟩
theorem sc_Results_name_of : FnScope ["self", "entry", "upper"] ["self", "entry"] (defScope s_Results_name_of) := ⟨rfl, rfl, rfl, by decide +kernel, rfl, by decide +kernel, by decide +kernel⟩
theorem sc_Results_outcome_of : FnScope ["self", "entry", "name", "base"] ["self", "entry", "name"] (defScope s_Results_outcome_of) := ⟨rfl, rfl, rfl, by decide +kernel, rfl, by decide +kernel, by decide +kernel⟩
theorem sc_Results_root_of : FnScope ["self", "entry"] ["self", "entry"] (defScope s_Results_root_of) := ⟨rfl, rfl, rfl, by decide +kernel, rfl, by decide +kernel, by decide +kernel⟩
section
variable {P : Program} {w : World} {K : PySem.W.Frag} {mg : Str → Option Value} {base : Heap} {c : Ad}
set_option maxHeartbeats 4000000 in
theorem ok_is_whole (T : Txt w K mg c) : FnOk P w K mg base CX0 1 c.a_is_whole c.d_is_whole ["thing"] (spW K) := by
  refine T.is_whole.fn.ok sc_is_whole (fun vs H Q E h => ?_) (fun cdv A outer s H vs Q E hr h => ?_)
  · obtain ⟨x, rfl, _⟩ := h
    rfl
  · obtain ⟨x, rfl, ow, k⟩ := h
    refine ⟨_, (pss_one (ps_ret (pe_and (pe_callB call_isiA rfl T.no_isinstance bt_isinstance (pa_cons (pv 0) (pa_cons (pe_bltn (v := .ty "int") rfl T.no_int bt_int rfl) pa_nil))) (pe_one (pe_not (pe_callB call_isiA rfl T.no_isinstance bt_isinstance (pa_cons (pv 0) (pa_cons (pe_bltn (v := .ty "bool") rfl T.no_bool bt_bool rfl) pa_nil)))))))), ?_⟩
    refine ⟨x, rfl, rIsiA.int ow ⟨_, rfl, ?_⟩⟩
    cases x with
    | int i => exact iteT ⟨_, rfl, rIsiA.bool ow ⟨_, rfl, k⟩⟩
    | bl b => exact iteT ⟨_, rfl, rIsiA.bool ow ⟨_, rfl, k⟩⟩
    | _ => exact iteF k
set_option maxHeartbeats 4000000 in
theorem ok_is_day (T : Txt w K mg c) : FnOk P w K mg base CX0 2 c.a_is_day c.d_is_day ["thing"] (spR K 1000000) := by
  refine T.is_day.fn.ok sc_is_day (fun vs H Q E h => ?_) (fun cdv A outer s H vs Q E hr h => ?_)
  · obtain ⟨x, rfl, _⟩ := h
    rfl
  · obtain ⟨x, rfl, ow, k⟩ := h
    refine ⟨_, (pss_one (ps_ret (pe_and (pe_call (ok_is_whole T) (hr.mono (by decide)) rfl T.is_whole.mgf T.is_whole.kp T.is_whole.bi .nil pass0 (pa_cons (pv 0) pa_nil)) (pe_one (pe_chain op_le op_le pe_int (pv 0) (pe_glob rfl T.mg_LAST_DAY T.rl_LAST_DAY)))))), ?_⟩
    refine ⟨x, rfl, x, rfl, ow, _, rfl, ?_⟩
    cases x with
    | int i =>
      refine iteT ⟨_, rfl, _, _, rfl, rfl, _, rfl, ?_⟩
      by_cases h1 : 1 ≤ i
      · rw [if_pos (decide_eq_true h1)]
        refine ⟨_, _, rfl, rfl, ?_⟩
        simpa [inR, h1] using k
      · rw [if_neg (by simp [h1])]
        simpa [inR, h1] using k
    | _ => exact iteF k
set_option maxHeartbeats 4000000 in
theorem ok_is_number (T : Txt w K mg c) : FnOk P w K mg base CX0 2 c.a_is_number c.d_is_number ["thing"] (spR K 1000000000) := by
  refine T.is_number.fn.ok sc_is_number (fun vs H Q E h => ?_) (fun cdv A outer s H vs Q E hr h => ?_)
  · obtain ⟨x, rfl, _⟩ := h
    rfl
  · obtain ⟨x, rfl, ow, k⟩ := h
    refine ⟨_, (pss_one (ps_ret (pe_and (pe_call (ok_is_whole T) (hr.mono (by decide)) rfl T.is_whole.mgf T.is_whole.kp T.is_whole.bi .nil pass0 (pa_cons (pv 0) pa_nil)) (pe_one (pe_chain op_le op_le pe_int (pv 0) (pe_glob rfl T.mg_LAST_NUMBER T.rl_LAST_NUMBER)))))), ?_⟩
    refine ⟨x, rfl, x, rfl, ow, _, rfl, ?_⟩
    cases x with
    | int i =>
      refine iteT ⟨_, rfl, _, _, rfl, rfl, _, rfl, ?_⟩
      by_cases h1 : 1 ≤ i
      · rw [if_pos (decide_eq_true h1)]
        refine ⟨_, _, rfl, rfl, ?_⟩
        simpa [inR, h1] using k
      · rw [if_neg (by simp [h1])]
        simpa [inR, h1] using k
    | _ => exact iteF k
set_option maxHeartbeats 4000000 in
theorem ok_is_word (T : Txt w K mg c) : FnOk P w K mg base CX0 1 c.a_is_word c.d_is_word ["thing"] (spWord K) := by
  refine T.is_word.fn.ok sc_is_word (fun vs H Q E h => ?_) (fun cdv A outer s H vs Q E hr h => ?_)
  · obtain ⟨x, rfl, _⟩ := h
    rfl
  · obtain ⟨x, rfl, ow, hz, k⟩ := h
    refine ⟨_, (pss_cons (ps_if (PW.pt (pw_or (pt_not (pt_val (pe_callB call_isiA rfl T.no_isinstance bt_isinstance (pa_cons (pv 0) (pa_cons (pe_bltn (v := .ty "str") rfl T.no_str bt_str rfl) pa_nil))))) (pw_or1 (pt_not (pt_chain op_le op_le pe_int (pe_callB call_len_str rfl T.no_len bt_len (pa_cons (pv 0) pa_nil)) (pe_glob rfl T.mg_MOST_LETTERS T.rl_MOST_LETTERS))))))
        (pss_one (ps_ret pe_bl))
        pss_nil)
      (pss_one (ps_ret (pe_callB (call_all rfl) rfl T.no_all bt_all (pa_cons (pe_comp (N' := ["sign"]) (js := [none]) rfl rfl (by decide +kernel) (by decide +kernel) (free_nil (by decide +kernel)) (cap_nil rfl rfl) (pi_str (pv 0)) (fun B => ⟨(pg_name (i := 0) (show List.Nodup (["sign"] : List Str) by decide +kernel) rfl (Or.inl rfl)), pifs_nil, (pe_chain op_le_str op_le_str pe_str (pv 0) pe_str)⟩)) pa_nil))))), ?_⟩
    refine ⟨x, rfl, rIsiA.str ow ⟨_, rfl, ?_⟩⟩
    cases x with
    | str z =>
      have hz : z.length ≤ sizeLine := hz
      refine iteF ?_
      walk_at "rd"
      refine ⟨hz, ?_⟩
      walk_at "rd"
      refine ite2 (fun h1 => ?_) (fun h1 => ?_)
      · walk_at "rd"
        by_cases h2 : ((z.length : Int) ≤ 12)
        · rw [decide_eq_true h2]
          refine iteF ⟨_, rfl, _, rfl, fun l B hl => ?_⟩
          have en : z.cps.toList.length = z.length := by simp [Str.length]
          refine loop_by z.cps.size (fun i σ acc H' => (∃ o, σ = [o]) ∧ acc = (z.cps.toList.take i).map (fun c => V.bl (letter c)) ∧ H' = upd H l (.lst acc)) hz ?_ ?_ ?_ ?_ ?_
          · exact ⟨⟨_, rfl⟩, rfl, rfl⟩
          · rintro i σ acc H' hi ⟨_, e, e'⟩
            refine ⟨by rw [e']; exact upd_same, ?_⟩
            rw [e, List.length_map, List.length_take]
            omega
          · intro i σ acc H' hi _
            exact hi
          · rintro i x σ acc H' H'' hi ⟨⟨o, rfl⟩, e, e'⟩ ⟨rfl, c, hc, rfl⟩
            have hc' : z.cps.toList[i]? = some c := by simpa using hc
            have fin : ∀ b, b = letter c → H'' l = some (.lst acc) ∧ Nx z.cps.size i ((∃ o, ([o].set 0 (some (V.str ⟨#[c]⟩)) : St) = [o]) ∧ acc ++ [V.bl b] = (z.cps.toList.take (i + 1)).map (fun c => V.bl (letter c)) ∧ upd H'' l (.lst (acc ++ [V.bl b])) = upd H l (.lst (acc ++ [V.bl b]))) := by
              intro b eb
              refine ⟨by rw [e']; exact upd_same, Nx.mk hi ⟨⟨_, rfl⟩, ?_, by rw [e', upd_upd]⟩⟩
              rw [take_one hc', List.map_append, ← e, eb]
              rfl
            walk_at "rd"
            rw [le_a]
            refine ite2 (fun g1 => ?_) (fun g1 => ?_)
            · walk_at "rd"
              refine fin _ ?_
              rw [le_z]
              unfold letter
              rw [g1]
              rfl
            · refine fin _ ?_
              unfold letter
              rw [eq_false_of_ne_true g1]
              rfl
          · rintro σ acc H' ⟨_, e, e'⟩
            refine ⟨rfl, l, z.cps.toList.map letter, rfl, SqL.of (by rw [e', upd_same, e, List.take_of_length_le (by simp)]; simp), ?_⟩
            have q := k H' (by rw [e']; exact Same.new hl)
            have ev : isWord (.str z) = (z.cps.toList.map letter).all id := by
              rw [isWord_str, h1, decide_eq_true h2, List.all_map]
              rfl
            rw [ev] at q
            exact q
        · rw [decide_eq_false h2]
          refine iteT ?_
          have ev : isWord (.str z) = false := by
            rw [isWord_str, decide_eq_false h2, Bool.and_false, Bool.false_and]
          have q := k H (Same.refl H)
          rw [ev] at q
          exact q
      · have ev : isWord (.str z) = false := by
          rw [isWord_str, eq_false_of_ne_true h1, Bool.false_and, Bool.false_and]
        have q := k H (Same.refl H)
        rw [ev] at q
        walk_at "rd"
        exact q
    | _ => exact iteT (k _ (Same.refl H))
set_option maxHeartbeats 4000000 in
theorem ok_is_rank (T : Txt w K mg c) : FnOk P w K mg base CX0 1 c.a_is_rank c.d_is_rank ["thing"] (spRank K) := by
  refine T.is_rank.fn.ok sc_is_rank (fun vs H Q E h => ?_) (fun cdv A outer s H vs Q E hr h => ?_)
  · obtain ⟨x, rfl, _⟩ := h
    rfl
  · obtain ⟨x, rfl, ow, k⟩ := h
    refine ⟨_, (pss_one (ps_ret (pe_and (pe_callB call_isiA rfl T.no_isinstance bt_isinstance (pa_cons (pv 0) (pa_cons (pe_bltn (v := .ty "str") rfl T.no_str bt_str rfl) pa_nil))) (pe_one (pe_cmpR op_in_seq (pv 0) (pe_glob (v := .ref c.u_RANKS) rfl T.mg_RANKS rfl) (by with_unfolding_all rfl)))))), ?_⟩
    refine ⟨x, rfl, rIsiA.str ow ⟨_, rfl, ?_⟩⟩
    cases x with
    | str z => exact iteT ⟨_, rfl, c.u_RANKS, ranks, rfl, .inr (T.sq_RANKS _), rfl, rfl, k⟩
    | _ => exact iteF k
set_option maxHeartbeats 4000000 in
theorem ok_refuse_head (T : Txt w K mg c) : FnOk P w K mg base (CXx P w) 3 c.a_refuse_head c.d_refuse_head ["number", "day", "rank", "word"] (spHead K ⟨c.c_NoNumber, c.c_NoDay, c.c_NoRank, c.c_NoWord, c.c_NoEntry⟩) := by
  refine T.refuse_head.fn.okx sc_refuse_head (fun vs H Q E h => ?_) (fun cdv A outer s H vs Q E hr h => ?_)
  · obtain ⟨n, d, r, w, rfl, _⟩ := h
    rfl
  · obtain ⟨n, d, r, w, rfl, on, od, or', ow, fw, k⟩ := h
    refine ⟨_, (pss_cons (ps_if (pt_not (pt_val (pe_call (ok_is_number T) (hr.mono (by decide)) rfl T.is_number.mgf T.is_number.kp T.is_number.bi .nil pass0 (pa_cons (pv 0) pa_nil))))
        (pss_one (ps_raise T.x_NoNumber rfl rfl T.mg_NoNumber rz_def (pa_cons pe_str pa_nil)))
        pss_nil)
      (pss_cons (ps_if (pt_not (pt_val (pe_call (ok_is_day T) (hr.mono (by decide)) rfl T.is_day.mgf T.is_day.kp T.is_day.bi .nil pass0 (pa_cons (pv 1) pa_nil))))
        (pss_one (ps_raise T.x_NoDay rfl rfl T.mg_NoDay rz_def (pa_cons pe_str pa_nil)))
        pss_nil)
      (pss_cons (ps_if (pt_not (pt_val (pe_call (ok_is_rank T) (hr.mono (by decide)) rfl T.is_rank.mgf T.is_rank.kp T.is_rank.bi .nil pass0 (pa_cons (pv 2) pa_nil))))
        (pss_one (ps_raise T.x_NoRank rfl rfl T.mg_NoRank rz_def (pa_cons pe_str pa_nil)))
        pss_nil)
      (pss_one (ps_if (pt_not (pt_val (pe_call (ok_is_word T) (hr.mono (by decide)) rfl T.is_word.mgf T.is_word.kp T.is_word.bi .nil pass0 (pa_cons (pv 3) pa_nil))))
        (pss_one (ps_raise T.x_NoWord rfl rfl T.mg_NoWord rz_def (pa_cons pe_str pa_nil)))
        pss_nil))))), ?_⟩
    walk_at "rd"
    refine ⟨on, ?_⟩
    walk_at "rd"
    refine iteB (fun h1 => ?_) (fun h1 => ?_)
    · have h1 : inR 1000000000 n = false := by simpa using h1
      have e : whyH n d r w = 1 := by unfold whyH; rw [if_pos h1]
      have q := (k H (Same.refl H)).2 (by rw [e]; decide)
      rw [e] at q
      exact ⟨le_ble rfl, q⟩
    have h1 : ¬ inR 1000000000 n = false := by simpa using h1
    walk_at "rd"
    refine ⟨od, ?_⟩
    walk_at "rd"
    refine iteB (fun h2 => ?_) (fun h2 => ?_)
    · have h2 : inR 1000000 d = false := by simpa using h2
      have e : whyH n d r w = 2 := by unfold whyH; rw [if_neg h1, if_pos h2]
      have q := (k H (Same.refl H)).2 (by rw [e]; decide)
      rw [e] at q
      exact ⟨le_ble rfl, q⟩
    have h2 : ¬ inR 1000000 d = false := by simpa using h2
    walk_at "rd"
    refine ⟨or', ?_⟩
    walk_at "rd"
    refine iteB (fun h3 => ?_) (fun h3 => ?_)
    · have h3 : isRank r = false := by simpa using h3
      have e : whyH n d r w = 3 := by unfold whyH; rw [if_neg h1, if_neg h2, if_pos h3]
      have q := (k H (Same.refl H)).2 (by rw [e]; decide)
      rw [e] at q
      exact ⟨le_ble rfl, q⟩
    have h3 : ¬ isRank r = false := by simpa using h3
    walk_at "rd"
    refine ⟨ow, fw, fun H' s1 => ?_⟩
    walk_at "rd"
    refine iteB (fun h4 => ?_) (fun h4 => ?_)
    · have h4 : isWord w = false := by simpa using h4
      have e : whyH n d r w = 4 := by unfold whyH; rw [if_neg h1, if_neg h2, if_neg h3, if_pos h4]
      have q := (k H' s1).2 (by rw [e]; decide)
      rw [e] at q
      exact ⟨le_ble rfl, q⟩
    have h4 : ¬ isWord w = false := by simpa using h4
    exact (k H' s1).1 (by unfold whyH; rw [if_neg h1, if_neg h2, if_neg h3, if_neg h4])
set_option maxHeartbeats 4000000 in
theorem ok_under_fits (T : Txt w K mg c) : FnOk P w K mg base CX0 3 c.a_under_fits c.d_under_fits ["rank", "under"] (spUnder K) := by
  refine T.under_fits.fn.ok sc_under_fits (fun vs H Q E h => ?_) (fun cdv A outer s H vs Q E hr h => ?_)
  · obtain ⟨z, u, rfl, _⟩ := h
    rfl
  · obtain ⟨z, u, rfl, ou, k⟩ := h
    refine ⟨_, (pss_cons (ps_if (pt_cmpR op_eq (pv 0) pe_str (nomark _))
        (pss_one (ps_ret (pe_cmp (pc_isN (pv 1)))))
        pss_nil)
      (pss_one (ps_ret (pe_call (ok_is_number T) (hr.mono (by decide)) rfl T.is_number.mgf T.is_number.kp T.is_number.bi .nil pass0 (pa_cons (pv 1) pa_nil))))), ?_⟩
    walk_at "rd"
    refine ite2 (fun h => ?_) (fun h => ?_)
    · have e : underFits (.str z) u = decide (u = .non) := by unfold underFits; rw [if_pos (of_decide_eq_true h)]
      rw [e] at k
      walk_at "rd"
      exact k
    · have e : underFits (.str z) u = inR 1000000000 u := by unfold underFits; rw [if_neg (fun q => h (decide_eq_true q))]
      rw [e] at k
      exact ⟨_, rfl, u, rfl, ou, k⟩
set_option maxHeartbeats 4000000 in
theorem ok_tie_fits (T : Txt w K mg c) : FnOk P w K mg base CX0 3 c.a_tie_fits c.d_tie_fits ["rank", "sheet", "base"] (spTie K) := by
  refine T.tie_fits.fn.ok sc_tie_fits (fun vs H Q E h => ?_) (fun cdv A outer s H vs Q E hr h => ?_)
  · obtain ⟨z, s', b, rfl, _⟩ := h
    rfl
  · obtain ⟨z, s', b, rfl, os, ob, k⟩ := h
    refine ⟨_, (pss_cons (ps_if (pt_cmp (pc_isN (pv 2)))
        (pss_one (ps_ret (pe_call (ok_is_number T) (hr.mono (by decide)) rfl T.is_number.mgf T.is_number.kp T.is_number.bi .nil pass0 (pa_cons (pv 1) pa_nil))))
        pss_nil)
      (pss_one (ps_ret (pe_and (pe_cmpR op_ne (pv 0) pe_str (nomark _)) (pe_and (pe_cmp (pc_isN (pv 1))) (pe_one (pe_call (ok_is_number T) (hr.mono (by decide)) rfl T.is_number.mgf T.is_number.kp T.is_number.bi .nil pass0 (pa_cons (pv 2) pa_nil)))))))), ?_⟩
    walk_at "rd"
    refine ite2 (fun h => ?_) (fun h => ?_)
    · have e : tieFits (.str z) s' b = inR 1000000000 s' := by unfold tieFits; rw [if_pos (of_decide_eq_true h)]
      rw [e] at k
      exact ⟨_, rfl, s', rfl, os, k⟩
    have hb : ¬ b = .non := fun q => h (decide_eq_true q)
    walk_at "rd"
    refine iteB (fun h1 => ?_) (fun h1 => ?_)
    · walk_at "rd"
      refine iteB (fun h2 => ?_) (fun h2 => ?_)
      · have e : tieFits (.str z) s' b = inR 1000000000 b := by
          unfold tieFits
          rw [if_neg hb, h1, h2]
          rfl
        rw [e] at k
        exact ⟨_, rfl, b, rfl, ob, k⟩
      · have e : tieFits (.str z) s' b = false := by
          unfold tieFits
          rw [if_neg hb, h2]
          simp
        rw [e] at k
        exact k
    · have e : tieFits (.str z) s' b = false := by
        unfold tieFits
        rw [if_neg hb, h1]
        rfl
      rw [e] at k
      exact k
set_option maxHeartbeats 4000000 in
theorem ok_Entry_init (T : Txt w K mg c) : FnOk P w K mg base (CXx P w) 4 c.a_Entry_init c.d_Entry_init ["self", "number", "day", "rank", "word", "under", "sheet", "base", "described"] (spInit K c.c_Entry ⟨c.c_NoNumber, c.c_NoDay, c.c_NoRank, c.c_NoWord, c.c_NoEntry⟩) := by
  refine T.Entry_init.okx sc_Entry_init (fun vs H Q E h => ?_) (fun cdv A outer s H vs Q E hr h => ?_)
  · obtain ⟨a, dx, n, d, r, w, u, s', b, kk, rfl, _⟩ := h
    rfl
  · obtain ⟨a, dx, n, d, r, w, u, s', b, kk, rfl, ha, on, od, or', ow, fw, ou, os, ob, k⟩ := h
    refine ⟨_, (pss_cons (ps_expr (pe_callS (ok_refuse_head T) (hr.mono (by decide)) rfl T.refuse_head.mgf T.refuse_head.kp T.refuse_head.bi .nil pass_def (pa_cons (pv 1) (pa_cons (pv 2) (pa_cons (pv 3) (pa_cons (pv 4) pa_nil))))))
      (pss_cons (ps_if (pt_not (pt_val (pe_call (ok_under_fits T) (hr.mono (by decide)) rfl T.under_fits.mgf T.under_fits.kp T.under_fits.bi .nil pass0 (pa_cons (pv 3) (pa_cons (pv 5) pa_nil)))))
        (pss_one (ps_raise T.x_NoEntry rfl rfl T.mg_NoEntry rz_def (pa_cons pe_str pa_nil)))
        pss_nil)
      (pss_cons (ps_if (pt_not (pt_val (pe_call (ok_tie_fits T) (hr.mono (by decide)) rfl T.tie_fits.mgf T.tie_fits.kp T.tie_fits.bi .nil pass0 (pa_cons (pv 3) (pa_cons (pv 6) (pa_cons (pv 7) pa_nil))))))
        (pss_one (ps_raise T.x_NoEntry rfl rfl T.mg_NoEntry rz_def (pa_cons pe_str pa_nil)))
        pss_nil)
      (pss_cons (ps_fld (pv 0) (pv 1) rfl)
      (pss_cons (ps_fld (pv 0) (pv 2) rfl)
      (pss_cons (ps_fld (pv 0) (pv 3) rfl)
      (pss_cons (ps_fld (pv 0) (pv 4) rfl)
      (pss_cons (ps_fld (pv 0) (pv 5) rfl)
      (pss_cons (ps_fld (pv 0) (pv 6) rfl)
      (pss_cons (ps_fld (pv 0) (pv 7) rfl)
      (pss_one (ps_fld (pv 0) (pv 8) rfl)))))))))))), ?_⟩
    refine ⟨_, rfl, _, rfl, _, rfl, _, rfl, n, d, r, w, rfl, on, od, or', ow, fw, fun H' s1 => ⟨fun h0 => ?_, fun h0 => ?_⟩⟩
    rotate_left
    · have e : why n d r w u s' b = whyH n d r w := by unfold why; rw [if_pos h0]
      have q := (k H' s1).2 (by rw [e]; exact h0)
      rw [e] at q
      exact q
    have hr3 : ∃ z : Str, r = .str z := by
      unfold whyH at h0
      split at h0
      · cases h0
      · split at h0
        · cases h0
        · split at h0
          · cases h0
          · rename_i q
            cases r <;> first | exact ⟨_, rfl⟩ | exact absurd rfl q
    obtain ⟨z, rfl⟩ := hr3
    refine ⟨_, rfl, _, rfl, z, u, rfl, ou.same s1, _, rfl, ?_⟩
    refine iteB (fun h1 => ?_) (fun h1 => ?_)
    · have h1 : underFits (.str z) u = false := by simpa using h1
      have e : why n d (.str z) w u s' b = 5 := by unfold why; rw [if_neg (by rw [h0]; decide), if_pos h1]
      have q := (k H' s1).2 (by rw [e]; decide)
      rw [e] at q
      exact ⟨le_ble rfl, q⟩
    have h1 : ¬ underFits (.str z) u = false := by simpa using h1
    refine ⟨_, rfl, _, rfl, _, rfl, z, s', b, rfl, os.same s1, ob.same s1, _, rfl, ?_⟩
    refine iteB (fun h2 => ?_) (fun h2 => ?_)
    · have h2 : tieFits (.str z) s' b = false := by simpa using h2
      have e : why n d (.str z) w u s' b = 5 := by unfold why; rw [if_neg (by rw [h0]; decide), if_neg h1, if_pos h2]
      have q := (k H' s1).2 (by rw [e]; decide)
      rw [e] at q
      exact ⟨le_ble rfl, q⟩
    have h2 : ¬ tieFits (.str z) s' b = false := by simpa using h2
    have q := (k H' s1).1 (by unfold why; rw [if_neg (by rw [h0]; decide), if_neg h1, if_neg h2])
    have a0 := s1 _ _ ha
    refine ⟨_, rfl, _, rfl, a, c.c_Entry, dx, _, rfl, a0, T.cl_Entry, T.na_Entry_number, le_ble rfl, ?_⟩
    refine ⟨_, rfl, _, rfl, a, c.c_Entry, dx, _, rfl, upd_same, T.cl_Entry, T.na_Entry_day, le_ble rfl, ?_⟩
    refine ⟨_, rfl, _, rfl, a, c.c_Entry, dx, _, rfl, upd_same, T.cl_Entry, T.na_Entry_rank, le_ble rfl, ?_⟩
    refine ⟨_, rfl, _, rfl, a, c.c_Entry, dx, _, rfl, upd_same, T.cl_Entry, T.na_Entry_word, le_ble rfl, ?_⟩
    refine ⟨_, rfl, _, rfl, a, c.c_Entry, dx, _, rfl, upd_same, T.cl_Entry, T.na_Entry_under, le_ble rfl, ?_⟩
    refine ⟨_, rfl, _, rfl, a, c.c_Entry, dx, _, rfl, upd_same, T.cl_Entry, T.na_Entry_sheet, le_ble rfl, ?_⟩
    refine ⟨_, rfl, _, rfl, a, c.c_Entry, dx, _, rfl, upd_same, T.cl_Entry, T.na_Entry_base, le_ble rfl, ?_⟩
    refine ⟨_, rfl, _, rfl, a, c.c_Entry, dx, _, rfl, upd_same, T.cl_Entry, T.na_Entry_described, le_ble rfl, ?_⟩
    rw [upd_upd, upd_upd, upd_upd, upd_upd, upd_upd, upd_upd, upd_upd]
    exact q
set_option maxHeartbeats 4000000 in
theorem ok_ahead (T : Txt w K mg c) : FnOk P w K mg base CX0 1 c.a_ahead c.d_ahead ["one", "other"] (spAhead c.c_Entry) := by
  refine T.ahead.fn.ok sc_ahead (fun vs H Q E h => ?_) (fun cdv A outer s H vs Q E hr h => ?_)
  · obtain ⟨x, y, e, f, rfl, _⟩ := h
    rfl
  · obtain ⟨x, y, e, f, rfl, hx, hy, k⟩ := h
    refine ⟨_, (pss_one (ps_ret (pe_cmpR (op_ltT hr.units0) (pe_tup (pa_cons (pe_fld (pv 0) rfl) (pa_cons (pe_fld (pv 0) rfl) pa_nil))) (pe_tup (pa_cons (pe_fld (pv 1) rfl) (pa_cons (pe_fld (pv 1) rfl) pa_nil))) (nomark _)))), ?_⟩
    obtain ⟨a, dx, rfl, ha⟩ := hx
    obtain ⟨b, dy, rfl, hb⟩ := hy
    refine ⟨_, rfl, a, _, dx, _, _, rfl, ha, T.cl_Entry, T.na_Entry_day, rfl, ?_⟩
    refine ⟨_, rfl, a, _, dx, _, _, rfl, ha, T.cl_Entry, T.na_Entry_number, rfl, le_ble rfl, fun p hp => ?_⟩
    have s1 := Same.new (o := HO.tup [.int e.d, .int e.n]) hp
    refine ⟨_, rfl, b, _, dy, _, _, rfl, s1 _ _ hb, T.cl_Entry, T.na_Entry_day, rfl, ?_⟩
    refine ⟨_, rfl, b, _, dy, _, _, rfl, s1 _ _ hb, T.cl_Entry, T.na_Entry_number, rfl, le_ble rfl, fun q hq => ?_⟩
    have s2 := Same.new (o := HO.tup [.int f.d, .int f.n]) hq
    exact ⟨p, q, [e.d, e.n], [f.d, f.n], rfl, rfl, SqT.of (s2 _ _ upd_same), SqT.of upd_same, k _ (s1.trans s2)⟩
set_option maxHeartbeats 4000000 in
theorem ok_book_list (T : Txt w K mg c) : FnOk P w K mg base (CXx P w) 2 c.a_book_list c.d_book_list ["entries"] (spBook K c.c_Entry c.c_NoBook) := by
  refine T.book_list.fn.okx sc_book_list (fun vs H Q E h => ?_) (fun cdv A outer s H vs Q E hr h => ?_)
  · obtain ⟨x, rfl, _⟩ := h
    rfl
  · obtain ⟨x, rfl, h0⟩ := h
    refine ⟨_, (pss_cons (ps_if (pt_not (pt_val (pe_callB call_isiA rfl T.no_isinstance bt_isinstance (pa_cons (pv 0) (pa_cons (pe_bltn (v := .ty "list") rfl T.no_list bt_list rfl) pa_nil)))))
        (pss_one (ps_raise T.x_NoBook rfl rfl T.mg_NoBook rz_def (pa_cons pe_str pa_nil)))
        pss_nil)
      (pss_cons (ps_set (i := 1) sc_book_list.nd rfl (Or.inl rfl) (pe_callTy call_list_of rfl T.no_list bt_list (pa_cons (pv 0) pa_nil)))
      (pss_cons (ps_set (i := 2) sc_book_list.nd rfl (Or.inl rfl) pe_dnewK)
      (pss_cons (ps_set (i := 3) sc_book_list.nd rfl (Or.inl rfl) pe_non)
      (pss_cons (ps_for own_def rfl (pi_list (pv 1)) (pg_name (i := 4) sc_book_list.nd rfl (Or.inl rfl))
        (pss_cons (ps_if (pt_not (pt_val (pe_callB call_isiA rfl T.no_isinstance bt_isinstance (pa_cons (pv 4) (pa_cons (pe_glob (v := .ref c.c_Entry) rfl T.mg_Entry rfl) pa_nil)))))
        (pss_one (ps_raise T.x_NoBook rfl rfl T.mg_NoBook rz_def (pa_cons pe_str pa_nil)))
        pss_nil)
      (pss_cons (ps_if (pt_cmp (pc_din (hu_of hr) (pe_fld (pv 4) rfl) (pv 2)))
        (pss_one (ps_raise T.x_NoBook rfl rfl T.mg_NoBook rz_def (pa_cons pe_str pa_nil)))
        pss_nil)
      (pss_cut (ps_if (PW.pt (pw_and (pt_cmp (pc_notN (pv 3))) (pw_and1 (pt_not (pt_val (pe_call (ok_ahead T) (hr.mono (by decide)) rfl T.ahead.mgf T.ahead.kp T.ahead.bi .nil pass0 (pa_cons (pv 3) (pa_cons (pv 4) pa_nil))))))))
        (pss_one (ps_raise T.x_NoBook rfl rfl T.mg_NoBook rz_def (pa_cons pe_str pa_nil)))
        pss_nil)
      (pss_cons (ps_dput (hu_of hr) (pv 2) (pe_fld (pv 4) rfl) pe_bl rfl)
      (pss_one (ps_set (i := 3) sc_book_list.nd rfl (Or.inl rfl) (pv 4))))))))
      (pss_one (ps_ret (pv 1)))))))), ?_⟩
    rcases h0 with ⟨l, ws, is, rfl, hL, hI, hz, k1, k2⟩ | ⟨n, ty, hn, k⟩
    rotate_left
    · exact ⟨_, rfl, rIsiA.ty ty hn ⟨_, rfl, iteT ⟨le_ble rfl, k H (Same.refl H)⟩⟩⟩
    have sz : 2000 < sizeLine := le_ble rfl
    refine ⟨_, rfl, rIsiA.ty (.lst hL) rfl ⟨_, rfl, iteF ?_⟩⟩
    refine ⟨_, rfl, l, _, rfl, .inl (SqL.of hL), fun q hq => ?_⟩
    have s1 := Same.new (o := HO.lst ws) hq
    have hq1 := upd_same (H := H) (a := q) (o := .lst ws)
    generalize upd H q (.lst ws) = G1 at s1 hq1
    refine fun d hd => ?_
    have s2 := s1.trans (Same.new (o := HO.dK []) hd)
    have hd2 := upd_same (H := G1) (a := d) (o := .dK [])
    have hq2 := Same.new (o := HO.dK []) hd _ _ hq1
    have nHd : H d = none := s1.free hd
    generalize upd G1 d (.dK []) = G2 at s2 hd2 hq2
    refine ⟨_, rfl, q, rfl, ⟨_, SqL.of hq2⟩, ?_⟩
    refine for_list (xs := ws) (fun i σ G => ∃ seen last lv kvs z, σ = [some (.ref l), some (.ref q), some (.ref d), some lv, z] ∧ ((last = none ∧ lv = .non) ∨ ∃ e, last = some e ∧ EntAt G c.c_Entry lv e) ∧ G d = some (.dK kvs) ∧ (∀ s : Int, valV kvs (Sum.inl s) = none ↔ seen.contains s = false) ∧ kvs.length ≤ i ∧ bookOk [] none is = bookOk seen last (is.drop i) ∧ Same H G ∧ G q = some (.lst ws)) ?_ ?_ ?_ ?_
    · exact ⟨[], none, .non, [], _, rfl, .inl ⟨rfl, rfl⟩, hd2, fun s => ⟨fun _ => rfl, fun _ => rfl⟩, Nat.le_refl _, rfl, s2, hq2⟩
    · rintro i σ G _ ⟨_, _, _, _, _, _, _, _, _, _, _, _, h⟩
      exact SqL.of h
    · rintro i x σ G hx ⟨seen, last, lv, kvs, z, rfl, g1, g2, g3, g4, g5, g6, g7⟩
      have hi : i < ws.length := (List.getElem?_eq_some_iff.mp hx).1
      have hii : i < is.length := by rw [← hI.1]; exact hi
      have it := hI.2 i x _ hx (List.getElem?_eq_getElem hii)
      have ed : is.drop i = is[i] :: is.drop (i + 1) := (List.getElem_cons_drop hii).symm
      rw [ed] at g5
      generalize is[i] = y at it g5
      cases it with
      | oth t hn =>
        refine ⟨_, rfl, rIsiA.tyC (t.same g6) hn ⟨_, rfl, iteT ⟨le_ble rfl, k2 g5 G g6⟩⟩⟩
      | @ent e h =>
        have h' := h.same g6
        obtain ⟨a, dx, rfl, ha⟩ := h'
        refine ⟨_, rfl, rIsiA.ins ha T.cl_Entry T.w_Entry T.ws_Entry ⟨_, rfl, iteF ?_⟩⟩
        refine ⟨_, rfl, a, _, dx, _, _, rfl, ha, T.cl_Entry, T.na_Entry_number, rfl, _, rfl, d, _, rfl, DGet.k (k := Sum.inl e.n) g2, ?_⟩
        have g5 : bookOk [] none is = (!seen.contains e.n && (lastOk last e && bookOk (seen ++ [e.n]) (some e) (is.drop (i + 1)))) := g5
        cases hv : valV kvs (Sum.inl e.n) with
        | some u =>
          have hc : seen.contains e.n = true := by
            cases q : seen.contains e.n with
            | true => rfl
            | false => rw [(g3 e.n).mpr q] at hv; cases hv
          rw [hc] at g5
          exact ⟨_, rfl, iteT ⟨le_ble rfl, k2 g5 G g6⟩⟩
        | none =>
          have hc := (g3 e.n).mp hv
          rw [hc] at g5
          refine ⟨_, rfl, iteF ?_⟩
          have g5 : bookOk [] none is = (lastOk last e && bookOk (seen ++ [e.n]) (some e) (is.drop (i + 1))) := g5
          refine ⟨fun σ' G' => σ' = [some (.ref l), some (.ref q), some (.ref d), some lv, some (.ref a)] ∧ Same G G' ∧ bookOk [] none is = bookOk (seen ++ [e.n]) (some e) (is.drop (i + 1)), ?_, ?_⟩
          · rcases g1 with ⟨rfl, rfl⟩ | ⟨e0, rfl, he0⟩
            · refine ⟨_, rfl, _, rfl, iteF ?_⟩
              exact ⟨rfl, Same.refl G, g5⟩
            · have h3 := he0
              obtain ⟨a0, dx0, rfl, ha0⟩ := he0
              refine ⟨_, rfl, _, rfl, iteT ?_⟩
              refine ⟨_, rfl, _, rfl, _, _, e0, e, rfl, h3, ⟨a, dx, rfl, ha⟩, fun G' s' => ?_⟩
              have g5 : bookOk [] none is = (aheadE e0 e && bookOk (seen ++ [e.n]) (some e) (is.drop (i + 1))) := g5
              cases hb : aheadE e0 e with
              | true =>
                rw [hb] at g5
                exact ⟨_, rfl, iteF ⟨rfl, s', g5⟩⟩
              | false =>
                rw [hb] at g5
                exact ⟨_, rfl, iteT ⟨le_ble rfl, k2 g5 G' (g6.trans s')⟩⟩
          rintro σ' G' ⟨rfl, s', g5⟩
          have ha' := s' _ _ ha
          refine ⟨_, rfl, _, rfl, a, _, dx, _, _, rfl, ha', T.cl_Entry, T.na_Entry_number, rfl, d, _, rfl, DPut.k (k := Sum.inl e.n) (s' _ _ g2) (by omega), ?_⟩
          have nad : a ≠ d := ne_of ha' (s' _ _ g2) (by intro z; cases z)
          have nqd : q ≠ d := ne_of (s' _ _ g7) (s' _ _ g2) (by intro z; cases z)
          refine ⟨_, rfl, seen ++ [e.n], some e, .ref a, _, _, rfl, .inr ⟨e, rfl, a, dx, rfl, by rw [upd_ne nad]; exact ha'⟩, upd_same, fun s => ?_, ?_, g5, fun b u hb => ?_, by rw [upd_ne nqd]; exact s' _ _ g7⟩
          · rw [valV_put]
            by_cases es : s = e.n
            · subst es
              rw [if_pos rfl]
              refine ⟨fun z => (nomatch z), fun z => ?_⟩
              rw [List.contains_iff_mem.mpr (List.mem_append_right _ (List.mem_singleton.mpr rfl))] at z
              cases z
            · rw [if_neg (fun z => es (Sum.inl.inj z)), g3 s]
              have : (seen ++ [e.n]).contains s = seen.contains s := by
                rw [Bool.eq_iff_iff, List.contains_iff_mem, List.contains_iff_mem, List.mem_append, List.mem_singleton]
                exact ⟨fun z => z.resolve_right es, fun z => .inl z⟩
              rw [this]
          · unfold putK
            rw [if_neg (by rw [valV_any, hv]; decide), List.length_append]
            show kvs.length + 1 ≤ _
            omega
          · rw [upd_ne (fun z => by rw [z, nHd] at hb; cases hb)]
            exact s' _ _ (g6 _ _ hb)
    · rintro σ G ⟨seen, last, lv, kvs, z, rfl, g1, g2, g3, g4, g5, g6, g7⟩
      rw [hI.1, List.drop_length] at g5
      exact ⟨_, rfl, k1 g5 q G g6 hq g7⟩
set_option maxHeartbeats 4000000 in
theorem ok_above (T : Txt w K mg c) : FnOk P w K mg base (CXx P w) 2 c.a_above c.d_above ["rank"] (spTabE K) := by
  refine T.above.fn.okx sc_above (fun vs H Q E h => ?_) (fun cdv A outer s H vs Q E hr h => ?_)
  · obtain ⟨z, rfl, _⟩ := h
    rfl
  · obtain ⟨z, rfl, hz, k⟩ := h
    refine ⟨_, (pss_cons (ps_if (pt_not (pt_val (pe_call (ok_is_rank T) (hr.mono (by decide)) rfl T.is_rank.mgf T.is_rank.kp T.is_rank.bi .nil pass0 (pa_cons (pv 0) pa_nil))))
        (pss_one ps_never)
        pss_nil)
      (pss_one (ps_ret (pe_ix ix_kdict (pe_glob (v := .ref c.u_ABOVE) rfl T.mg_ABOVE rfl) (pv 0) (fun _ _ => rfl))))), ?_⟩
    refine ⟨_, rfl, _, rfl, Own.str, _, rfl, ?_⟩
    rcases hz with rfl | rfl
    · exact iteF ⟨_, rfl, c.u_ABOVE, _, _, _, rfl, rfl, T.kd_ABOVE, rfl, k⟩
    · exact iteF ⟨_, rfl, c.u_ABOVE, _, _, _, rfl, rfl, T.kd_ABOVE, rfl, k⟩
set_option maxHeartbeats 4000000 in
theorem ok_Results_init (T : Txt w K mg c) : FnOk P w K mg base CX0 1 c.a_Results_init c.d_Results_init ["self"] (spResInit c.c_Results c.c_Entry) := by
  refine T.Results_init.ok sc_Results_init (fun vs H Q E h => ?_) (fun cdv A outer s H vs Q E hr h => ?_)
  · obtain ⟨a, dx, rfl, _⟩ := h
    rfl
  · obtain ⟨a, dx, rfl, ha, k⟩ := h
    refine ⟨_, (pss_cut (ps_fld (pv 0) pe_dnewK rfl)
      (pss_cut (ps_fld (pv 0) pe_dnewK rfl)
      (pss_cut (ps_fld (pv 0) pe_dnewK rfl)
      (pss_one (ps_fld (pv 0) pe_dnewT rfl))))), ?_⟩
    have na : ∀ d, H d = none → d ≠ a := fun d hd z => by rw [z, ha] at hd; cases hd
    refine ⟨fun σ G => σ = [some (.ref a)] ∧ ∃ d0, (∀ b u, b ≠ a → H b = some u → G b = some u) ∧ G a = some (.ins c.c_Results dx [("outs", .ref d0)]) ∧ G d0 = some (.dK []) ∧ H d0 = none, ?_, ?_⟩
    · refine fun d0 e => ⟨_, rfl, a, _, dx, _, rfl, Same.new e _ _ ha, T.cl_Results, T.na_Results_outs, le_ble rfl, rfl, d0, fun b u nb hb => ?_, upd_same, ?_, ?_⟩
      · rw [upd_ne nb, upd_ne (ne_of_none (hb) e)]; exact hb
      · rw [upd_ne (na _ e), upd_same]
      · exact e
    rintro σ G ⟨rfl, d0, fr, ka, k0, h0⟩
    refine ⟨fun σ G => σ = [some (.ref a)] ∧ ∃ d0 d1, (∀ b u, b ≠ a → H b = some u → G b = some u) ∧ G a = some (.ins c.c_Results dx [("outs", .ref d0), ("names", .ref d1)]) ∧ G d0 = some (.dK []) ∧ H d0 = none ∧ G d1 = some (.dK []) ∧ H d1 = none ∧ d0 ≠ d1, ?_, ?_⟩
    · refine fun d1 e => ⟨_, rfl, a, _, dx, _, rfl, Same.new e _ _ ka, T.cl_Results, T.na_Results_names, le_ble rfl, rfl, d0, d1, fun b u nb hb => ?_, upd_same, ?_, ?_, ?_, ?_, ?_⟩
      · rw [upd_ne nb, upd_ne (ne_of_none (fr b u nb hb) e)]; exact fr b u nb hb
      · rw [upd_ne (na _ h0), upd_ne (ne_of_none k0 e)]; exact k0
      · exact h0
      · rw [upd_ne (na _ (show H d1 = none by
          cases q : H d1 with
          | none => rfl
          | some u => rw [fr d1 u (fun z => by rw [z, ka] at e; cases e) q] at e; cases e)), upd_same]
      · exact (show H d1 = none by
          cases q : H d1 with
          | none => rfl
          | some u => rw [fr d1 u (fun z => by rw [z, ka] at e; cases e) q] at e; cases e)
      · exact ne_of_none k0 e
    rintro σ G ⟨rfl, d0, d1, fr, ka, k0, h0, k1, h1, n01⟩
    refine ⟨fun σ G => σ = [some (.ref a)] ∧ ∃ d0 d1 d2, (∀ b u, b ≠ a → H b = some u → G b = some u) ∧ G a = some (.ins c.c_Results dx [("outs", .ref d0), ("names", .ref d1), ("rights", .ref d2)]) ∧ G d0 = some (.dK []) ∧ H d0 = none ∧ G d1 = some (.dK []) ∧ H d1 = none ∧ G d2 = some (.dK []) ∧ H d2 = none ∧ d0 ≠ d1 ∧ d0 ≠ d2 ∧ d1 ≠ d2, ?_, ?_⟩
    · refine fun d2 e => ⟨_, rfl, a, _, dx, _, rfl, Same.new e _ _ ka, T.cl_Results, T.na_Results_rights, le_ble rfl, rfl, d0, d1, d2, fun b u nb hb => ?_, upd_same, ?_, ?_, ?_, ?_, ?_, ?_, ?_, ?_, ?_⟩
      · rw [upd_ne nb, upd_ne (ne_of_none (fr b u nb hb) e)]; exact fr b u nb hb
      · rw [upd_ne (na _ h0), upd_ne (ne_of_none k0 e)]; exact k0
      · exact h0
      · rw [upd_ne (na _ h1), upd_ne (ne_of_none k1 e)]; exact k1
      · exact h1
      · rw [upd_ne (na _ (show H d2 = none by
          cases q : H d2 with
          | none => rfl
          | some u => rw [fr d2 u (fun z => by rw [z, ka] at e; cases e) q] at e; cases e)), upd_same]
      · exact (show H d2 = none by
          cases q : H d2 with
          | none => rfl
          | some u => rw [fr d2 u (fun z => by rw [z, ka] at e; cases e) q] at e; cases e)
      · exact n01
      · exact ne_of_none k0 e
      · exact ne_of_none k1 e
    rintro σ G ⟨rfl, d0, d1, d2, fr, ka, k0, h0, k1, h1, k2, h2, n01, n02, n12⟩
    refine fun d3 e => ⟨_, rfl, a, _, dx, _, rfl, Same.new e _ _ ka, T.cl_Results, T.na_Results_holders, le_ble rfl, ?_⟩
    have hf : H d3 = none := by
      cases q : H d3 with
      | none => rfl
      | some u => rw [fr d3 u (fun z => by rw [z, ka] at e; cases e) q] at e; cases e
    have m3 : ∀ b u, b ≠ a → G b = some u → upd (upd G d3 (.dT [])) a (.ins c.c_Results dx (putF "holders" (V.ref d3) [("outs", .ref d0), ("names", .ref d1), ("rights", .ref d2)])) b = some u := fun b u nb hb => by
      rw [upd_ne nb, upd_ne (ne_of_none hb e)]; exact hb
    refine k ⟨a, dx, d0, d1, d2, d3⟩ _ rfl rfl (fun b u nb hb => m3 b u nb (fr b u nb hb)) ⟨upd_same, m3 _ _ (na _ h0) k0, ⟨_, m3 _ _ (na _ h1) k1, .nil⟩, ⟨_, m3 _ _ (na _ h2) k2, .nil⟩, ⟨_, ?_, .nil⟩, n01, n02, n12⟩ h0 h1 h2 hf
    show upd (upd G d3 (.dT [])) a _ d3 = _
    rw [upd_ne (na _ hf), upd_same]
set_option maxHeartbeats 4000000 in
theorem ok_Results_name_of (T : Txt w K mg c) : FnOk P w K mg base CX0 3 c.a_Results_name_of c.d_Results_name_of ["self", "entry"] (spNameOf c.c_Results c.c_Entry) := by
  refine T.Results_name_of.ok sc_Results_name_of (fun vs H Q E h => ?_) (fun cdv A outer s H vs Q E hr h => ?_)
  · obtain ⟨A, s, v, e, rfl, _⟩ := h
    rfl
  · obtain ⟨A, s, v, e, rfl, rs, rok, hv, okk, k⟩ := h
    refine ⟨_, (pss_cons (ps_if (pt_cmpR op_eq (pe_fld (pv 1) rfl) pe_str (nomark _))
        (pss_one (ps_ret (pe_tup (pa_cons (pe_fld (pv 1) rfl) pa_nil))))
        pss_nil)
      (pss_cons (ps_set (i := 2) sc_Results_name_of.nd rfl (Or.inl rfl) (pe_dget1 (hu_of hr) (pe_fld (pv 0) rfl) (pe_fld (pv 1) rfl) ⟨rfl, rfl, rfl, rfl⟩))
      (pss_cons (ps_if (PW.pt (pw_or (pt_cmp (pc_isN (pv 2))) (pw_or1 (pt_cmpR op_ne (pe_fld (pv 2) rfl) (pe_callS (ok_above T) (hr.mono (by decide)) rfl T.above.mgf T.above.kp T.above.bi .nil passE0 (pa_cons (pe_fld (pv 1) rfl) pa_nil)) (nomark _)))))
        (pss_one (ps_ret pe_non))
        pss_nil)
      (pss_one (ps_ret (pe_op op_catT1 (pe_dget (hu_of hr) (pe_fld (pv 0) rfl) (pe_fld (pv 2) rfl) (fun _ _ => rfl)) (pe_tup (pa_cons (pe_fld (pv 1) rfl) pa_nil)))))))), ?_⟩
    have hv0 := hv
    obtain ⟨a, dx, rfl, ha⟩ := hv
    refine ⟨_, rfl, a, _, dx, _, _, rfl, ha, T.cl_Entry, T.na_Entry_rank, rfl, rfl, _, rfl, ?_⟩
    refine ite2 (fun z => ?_) (fun z => ?_)
    · have z : e.r = Str.ofString "genus" := V.str.inj (of_decide_eq_true z)
      refine ⟨_, rfl, a, _, dx, _, _, rfl, ha, T.cl_Entry, T.na_Entry_word, rfl, le_ble rfl, fun t ht => ?_⟩
      refine k _ _ (Same.new ht) ?_
      have en : nameE s.r e = some [e.w] := by unfold nameE; rw [if_pos z]
      rw [en]
      exact ⟨t, rfl, upd_same⟩
    have z : e.r ≠ Str.ofString "genus" := fun q => z (decide_eq_true (congrArg V.str q))
    obtain ⟨u, hu⟩ := okE_u okk z
    have lu : (fieldsE e).lookup (Str.ofString "under") = some (V.int u) := by show some (optV e.u) = _; rw [hu]; rfl
    obtain ⟨kr, hR, pR⟩ := rs.rights
    obtain ⟨kn, hN, pN⟩ := rs.names
    have en : nameE s.r e = match findN s.r u with | none => none | some x => if x.e.r = aboveS e.r then some (x.nm ++ [e.w]) else none := by
      unfold nameE
      rw [if_neg z, hu]
      rfl
    refine ⟨_, rfl, A.a, _, A.dx, _, _, rfl, rs.at_, T.cl_Results, T.na_Results_rights, rfl, A.o3, rfl, .inl ⟨_, .inl hR⟩, _, rfl, a, _, dx, _, _, rfl, ha, T.cl_Entry, T.na_Entry_under, lu, _, DGet.k (k := Sum.inl u) hR, ?_⟩
    rcases rights_at pR u with ⟨f1, f2⟩ | ⟨x, w, f1, f2, hx⟩
    · rw [f2]
      refine ⟨_, rfl, _, rfl, iteT ?_⟩
      refine k _ _ (Same.refl H) ?_
      rw [en, f1]
      rfl
    have hx0 := hx
    obtain ⟨xa, xdx, rfl, hxa⟩ := hx
    rw [f2]
    refine ⟨_, rfl, _, rfl, iteF ?_⟩
    rw [f1] at en
    have en : nameE s.r e = if x.e.r = aboveS e.r then some (x.nm ++ [e.w]) else none := en
    refine ⟨_, rfl, xa, _, xdx, _, _, rfl, hxa, T.cl_Entry, T.na_Entry_rank, rfl, _, rfl, a, _, dx, _, _, rfl, ha, T.cl_Entry, T.na_Entry_rank, rfl, e.r, rfl, (okE_rank okk).resolve_left z, rfl, _, rfl, ?_⟩
    refine ite2 (fun y => ?_) (fun y => ?_)
    · have y : x.e.r ≠ aboveS e.r := fun q => by rw [q, decide_eq_true rfl] at y; exact absurd y (by decide)
      refine k _ _ (Same.refl H) ?_
      rw [en, if_neg y]
      rfl
    have y : x.e.r = aboveS e.r := V.str.inj (Decidable.of_not_not (p := V.str x.e.r = V.str (aboveS e.r)) (fun q => y (by rw [decide_eq_false q]; rfl)))
    rw [if_pos y] at en
    have hm := (findN_mem f1).1
    obtain ⟨nv, hnv, nt, rfl, hnt⟩ := names_at pN (by rw [rok.nk]; exact rok.nd) (rok.nm x hm)
    have dp := rok.dp x hm
    have d3 : depthR x.e.r ≤ 3 := by
      unfold depthR
      split
      · decide
      · split <;> decide
    have d0 : 0 < depthR x.e.r := by
      unfold depthR
      split
      · decide
      · split <;> decide
    have sz : 2000 < sizeLine := le_ble rfl
    refine ⟨_, rfl, A.a, _, A.dx, _, _, rfl, rs.at_, T.cl_Results, T.na_Results_names, rfl, _, rfl, xa, _, xdx, _, _, rfl, hxa, T.cl_Entry, T.na_Entry_number, rfl, A.o2, .ref nt, rfl, ?_, ?_⟩
    · rw [← hnv]
      exact DGet.k (k := Sum.inl x.e.n) hN
    refine ⟨_, rfl, a, _, dx, _, _, rfl, ha, T.cl_Entry, T.na_Entry_word, rfl, le_ble rfl, fun t ht => ?_⟩
    have s1 := Same.new (o := HO.tup [V.str e.w]) ht
    refine ⟨nt, t, x.nm.map V.str, [V.str e.w], rfl, rfl, SqT.of (s1 _ _ hnt), SqT.of upd_same, (by intro q; cases q), ?_, fun q => ?_, fun _ p hp => ?_⟩
    · rw [List.length_map, dp]
      show _ + 1 ≤ _
      omega
    · exfalso
      have := congrArg List.length q
      rw [List.length_map, dp] at this
      have : depthR x.e.r = 0 := this
      omega
    refine k _ _ (s1.trans (Same.new hp)) ?_
    rw [en]
    exact ⟨p, rfl, by rw [upd_same, List.map_append]; rfl⟩
set_option maxHeartbeats 4000000 in
theorem ok_Results_outcome_of (T : Txt w K mg c) : FnOk P w K mg base CX0 1 c.a_Results_outcome_of c.d_Results_outcome_of ["self", "entry", "name"] (spOutOf c.c_Results c.c_Entry) := by
  refine T.Results_outcome_of.ok sc_Results_outcome_of (fun vs H Q E h => ?_) (fun cdv A outer s H vs Q E hr h => ?_)
  · obtain ⟨A, s, v, e, w, nm, rfl, _⟩ := h
    rfl
  · obtain ⟨A, s, v, e, w, nm, rfl, rs, hv, okk, hw, k⟩ := h
    refine ⟨_, (pss_cut (ps_if (PW.pt (pw_and (pt_cmp (pc_isN (pe_fld (pv 1) rfl))) (pw_and1 (pt_not (pt_val (pe_fld (pv 1) rfl))))))
        (pss_one (ps_ret pe_str))
        pss_nil)
      (pss_cons (ps_if (pt_cmp (pc_isN (pv 2)))
        (pss_one (ps_ret pe_str))
        pss_nil)
      (pss_cut (ps_if (pt_cmp (pc_notN (pe_fld (pv 1) rfl)))
        (pss_cons (ps_set (i := 3) sc_Results_outcome_of.nd rfl (Or.inl rfl) (pe_dget1 (hu_of hr) (pe_fld (pv 0) rfl) (pe_fld (pv 1) rfl) ⟨rfl, rfl, rfl, rfl⟩))
      (pss_cons (ps_if (PW.pt (pw_or (pt_cmp (pc_isN (pv 3))) (pw_or (pt_cmpR op_ne (pe_fld (pv 3) rfl) (pe_fld (pv 1) rfl) (nomark _)) (pw_or1 (pt_cmp (pc_notN (pe_fld (pv 3) rfl)))))))
        (pss_one (ps_ret pe_str))
        pss_nil)
      (pss_one (ps_if (pt_cmpR op_ne (pe_fld (pv 3) rfl) (pe_fld (pv 1) rfl) (nomark _))
        (pss_one (ps_ret pe_str))
        pss_nil))))
        pss_nil)
      (pss_cons (ps_if (pt_cmp (pc_din (hu_of hr) (pv 2) (pe_fld (pv 0) rfl)))
        (pss_one (ps_ret pe_str))
        pss_nil)
      (pss_one (ps_ret pe_str)))))), ?_⟩
    obtain ⟨a, dx, rfl, ha⟩ := hv
    obtain ⟨kr, hR, pR⟩ := rs.rights
    obtain ⟨kh, hH, pH⟩ := rs.holders
    have basef : ∀ b, e.b = some b → (fieldsE e).lookup (Str.ofString "base") = some (V.int b) := fun b hb => by show some (optV e.b) = _; rw [hb]; rfl
    have basen : e.b = none → (fieldsE e).lookup (Str.ofString "base") = some V.non := fun hb => by show some (optV e.b) = _; rw [hb]; rfl
    refine ⟨fun σ G => σ = [some (.ref A.a), some (.ref a), some w, none] ∧ G = H ∧ ¬ (e.b = none ∧ e.k = false), ?_, ?_⟩
    · cases hb : e.b with
      | some b => exact ⟨_, rfl, a, _, dx, _, _, rfl, ha, T.cl_Entry, T.na_Entry_base, basef b hb, _, rfl, iteF ⟨rfl, rfl, fun z => nomatch z.1⟩⟩
      | none =>
        refine ⟨_, rfl, a, _, dx, _, _, rfl, ha, T.cl_Entry, T.na_Entry_base, basen hb, _, rfl, iteT ?_⟩
        refine ⟨_, rfl, a, _, dx, _, _, rfl, ha, T.cl_Entry, T.na_Entry_described, rfl, ?_⟩
        cases hk : e.k with
        | true => exact ⟨_, rfl, iteF ⟨rfl, rfl, fun z => nomatch z.2⟩⟩
        | false =>
          refine ⟨_, rfl, iteT ?_⟩
          have eo : outE s.r e nm = Str.ofString "undescribed" := by unfold outE; rw [if_pos ⟨hb, hk⟩]
          rw [eo] at k
          exact k
    rintro σ G ⟨rfl, rfl, hd⟩
    cases nm with
    | none =>
      obtain rfl : w = .non := hw
      refine ⟨_, rfl, _, rfl, iteT ?_⟩
      have eo : outE s.r e none = Str.ofString "unplaced" := by unfold outE; rw [if_neg hd]
      rw [eo] at k
      exact k
    | some z =>
      obtain ⟨t, rfl, ht⟩ := hw
      refine ⟨_, rfl, _, rfl, iteF ?_⟩
      refine ⟨fun σ G' => (∃ z3, σ = [some (.ref A.a), some (.ref a), some (.ref t), z3]) ∧ G' = G ∧ outE s.r e (some z) = alikeE s.r z, ?_, ?_⟩
      · cases hb : e.b with
        | none =>
          refine ⟨_, rfl, a, _, dx, _, _, rfl, ha, T.cl_Entry, T.na_Entry_base, basen hb, _, rfl, iteF ⟨⟨_, rfl⟩, rfl, ?_⟩⟩
          unfold outE
          rw [if_neg hd, hb]
        | some b =>
          refine ⟨_, rfl, a, _, dx, _, _, rfl, ha, T.cl_Entry, T.na_Entry_base, basef b hb, _, rfl, iteT ?_⟩
          have eo : outE s.r e (some z) = basedE s.r e b z := by unfold outE; rw [if_neg hd, hb]
          rw [eo] at k
          refine ⟨_, rfl, A.a, _, A.dx, _, _, rfl, rs.at_, T.cl_Results, T.na_Results_rights, rfl, A.o3, rfl, .inl ⟨_, .inl hR⟩, _, rfl, a, _, dx, _, _, rfl, ha, T.cl_Entry, T.na_Entry_base, basef b hb, _, DGet.k (k := Sum.inl b) hR, ?_⟩
          rcases rights_at pR b with ⟨f1, f2⟩ | ⟨x, w, f1, f2, hx⟩
          · rw [f2]
            refine ⟨_, rfl, _, rfl, iteT ?_⟩
            have e2 : basedE s.r e b z = Str.ofString "baseless" := by unfold basedE; rw [f1]
            rw [e2] at k
            exact k
          obtain ⟨xa, xdx, rfl, hxa⟩ := hx
          rw [f2]
          have e2 : basedE s.r e b z = if x.e.r ≠ e.r ∨ x.e.b ≠ none then Str.ofString "baseless" else if x.e.w ≠ e.w then Str.ofString "reworded" else alikeE s.r z := by unfold basedE; rw [f1]
          refine ⟨_, rfl, _, rfl, iteF ?_⟩
          refine ⟨_, rfl, xa, _, xdx, _, _, rfl, hxa, T.cl_Entry, T.na_Entry_rank, rfl, _, rfl, a, _, dx, _, _, rfl, ha, T.cl_Entry, T.na_Entry_rank, rfl, rfl, _, rfl, ?_⟩
          refine ite2 (fun y => ?_) (fun y => ?_)
          · have y : x.e.r ≠ e.r := fun q => by rw [q, decide_eq_true rfl] at y; exact absurd y (by decide)
            rw [e2, if_pos (.inl y)] at k
            exact k
          have y : x.e.r = e.r := V.str.inj (Decidable.of_not_not (p := V.str x.e.r = V.str e.r) (fun q => y (by rw [decide_eq_false q]; rfl)))
          cases hxb : x.e.b with
          | some b' =>
            have lx : (fieldsE x.e).lookup (Str.ofString "base") = some (V.int b') := by show some (optV x.e.b) = _; rw [hxb]; rfl
            refine ⟨_, rfl, xa, _, xdx, _, _, rfl, hxa, T.cl_Entry, T.na_Entry_base, lx, _, rfl, iteT ?_⟩
            rw [e2, if_pos (.inr (by rw [hxb]; intro q; cases q))] at k
            exact k
          | none =>
            have lx : (fieldsE x.e).lookup (Str.ofString "base") = some V.non := by show some (optV x.e.b) = _; rw [hxb]; rfl
            refine ⟨_, rfl, xa, _, xdx, _, _, rfl, hxa, T.cl_Entry, T.na_Entry_base, lx, _, rfl, iteF ?_⟩
            have e3 : ¬ (x.e.r ≠ e.r ∨ x.e.b ≠ none) := fun q => q.elim (fun q => q y) (fun q => q hxb)
            rw [if_neg e3] at e2
            refine ⟨_, rfl, xa, _, xdx, _, _, rfl, hxa, T.cl_Entry, T.na_Entry_word, rfl, _, rfl, a, _, dx, _, _, rfl, ha, T.cl_Entry, T.na_Entry_word, rfl, rfl, _, rfl, ?_⟩
            refine ite2 (fun y2 => ?_) (fun y2 => ?_)
            · have y2 : x.e.w ≠ e.w := fun q => by rw [q, decide_eq_true rfl] at y2; exact absurd y2 (by decide)
              rw [e2, if_pos y2] at k
              exact k
            have y2 : x.e.w = e.w := V.str.inj (Decidable.of_not_not (p := V.str x.e.w = V.str e.w) (fun q => y2 (by rw [decide_eq_false q]; rfl)))
            refine ⟨⟨_, rfl⟩, rfl, ?_⟩
            rw [eo, e2, if_neg (fun q => q y2)]
      rintro σ G' ⟨⟨z3, rfl⟩, rfl, ea⟩
      rw [ea] at k
      have hk := holders_at pH z
      refine ⟨_, rfl, _, rfl, A.a, _, A.dx, _, _, rfl, rs.at_, T.cl_Results, T.na_Results_holders, rfl, A.o4, _, rfl, DGet.t (k := z.map Sum.inr) hH (by rw [key_strs]; exact ht), ?_⟩
      rw [hk]
      unfold alikeE at k
      cases q : s.r.any (fun x => decide (x.nm = z)) with
      | true =>
        rw [q, if_pos rfl] at k
        exact ⟨_, rfl, iteT k⟩
      | false =>
        rw [q, if_neg (by decide)] at k
        exact ⟨_, rfl, iteF k⟩
set_option maxHeartbeats 4000000 in
theorem ok_Results_put (T : Txt w K mg c) : FnOk P w K mg base CX0 4 c.a_Results_put c.d_Results_put ["self", "entry"] (spPutR c.c_Results c.c_Entry) := by
  refine T.Results_put.ok sc_Results_put (fun vs H Q E h => ?_) (fun cdv A outer s H vs Q E hr h => ?_)
  · obtain ⟨A, s, v, e, rfl, _⟩ := h
    rfl
  · obtain ⟨A, s, v, e, rfl, rs, rok, hv, okk, fr, hl, k⟩ := h
    refine ⟨_, (pss_cons (ps_set (i := 2) sc_Results_put.nd rfl (Or.inl rfl) (pe_meth (pv 0) T.cl_Results T.m_Results_name_of (ok_Results_name_of T) (hr.mono (by decide)) T.bi_Results_name_of .nil pass0 (pa_cons (pv 1) pa_nil)))
      (pss_cons (ps_set (i := 3) sc_Results_put.nd rfl (Or.inl rfl) (pe_meth (pv 0) T.cl_Results T.m_Results_outcome_of (ok_Results_outcome_of T) (hr.mono (by decide)) T.bi_Results_outcome_of .nil pass0 (pa_cons (pv 1) (pa_cons (pv 2) pa_nil))))
      (pss_cons (ps_dput (hu_of hr) (pe_fld (pv 0) rfl) (pe_fld (pv 1) rfl) (pv 3) rfl)
      (pss_cons (ps_dput (hu_of hr) (pe_fld (pv 0) rfl) (pe_fld (pv 1) rfl) (pv 2) rfl)
      (pss_cons (ps_if (pt_cmpR op_eq (pv 3) pe_str (nomark _))
        (pss_cons (ps_dput (hu_of hr) (pe_fld (pv 0) rfl) (pe_fld (pv 1) rfl) (pv 1) rfl)
      (pss_one (ps_dput (hu_of hr) (pe_fld (pv 0) rfl) (pv 2) (pv 1) rfl)))
        pss_nil)
      (pss_one (ps_ret (pv 3)))))))), ?_⟩
    have hv0 := hv
    obtain ⟨a, dx, rfl, ha⟩ := hv
    have sz : 2000 < sizeLine := le_ble rfl
    refine ⟨_, rfl, A.a, A.dx, _, rfl, rs.at_, rfl, _, rfl, A, s, .ref a, e, rfl, rs, rok, hv0, okk, fun w G1 s1 n1 => ?_⟩
    have rs1 := rs.same s1
    refine ⟨_, rfl, A.a, A.dx, _, rfl, rs1.at_, rfl, _, rfl, _, rfl, A, s, .ref a, e, w, _, rfl, rs1, hv0.same s1, okk, n1, ?_⟩
    have eo : outE s.r e (nameE s.r e) = outS s e := rfl
    rw [eo]
    have ha1 := s1 _ _ ha
    have fr1 : FrR A H G1 := Same.frR s1
    obtain ⟨r1, r2, ⟨kn, r3, r4⟩, ⟨kr, r5, r6⟩, ⟨kh, r7, r8⟩, d12, d13, d23⟩ := rs1
    clear rs
    have d14 : A.o1 ≠ A.o4 := ne_of r2 r7 (by intro z; cases z)
    have d24 : A.o2 ≠ A.o4 := ne_of r3 r7 (by intro z; cases z)
    have d34 : A.o3 ≠ A.o4 := ne_of r5 r7 (by intro z; cases z)
    have na1 : A.a ≠ A.o1 := ne_of r1 r2 (by intro z; cases z)
    have na2 : A.a ≠ A.o2 := ne_of r1 r3 (by intro z; cases z)
    have na3 : A.a ≠ A.o3 := ne_of r1 r5 (by intro z; cases z)
    have na4 : A.a ≠ A.o4 := ne_of r1 r7 (by intro z; cases z)
    have ne1 : a ≠ A.o1 := ne_of ha1 r2 (by intro z; cases z)
    have ne2 : a ≠ A.o2 := ne_of ha1 r3 (by intro z; cases z)
    have ne3 : a ≠ A.o3 := ne_of ha1 r5 (by intro z; cases z)
    have lo : (outsD s).length = s.o.length := List.length_map ..
    have ln : kn.length = s.o.length := by rw [← Paired.length r4, ← List.length_map (f := fun p : Int × Option (List Str) => p.1), rok.nk, List.length_map]
    have lr : s.r.length ≤ s.o.length := by
      have h1 : (s.r.map (·.e.n)).length ≤ (s.o.map (·.1)).length := nd_len rok.rn fun x hx => by
        obtain ⟨y, hy, rfl⟩ := List.mem_map.mp hx
        exact rok.sub y hy
      rw [List.length_map, List.length_map] at h1
      exact h1
    have lkr : kr.length ≤ 1000 := by rw [← Paired.length r6]; omega
    have lkh : kh.length ≤ 1000 := by rw [← Paired.length r8]; omega
    have po : putK (outsD s) (Sum.inl e.n) (.str (outS s e)) = outsD (stepE s e) := by
      rw [putK_new (outs_none fr)]
      show _ = (s.o ++ [(e.n, outS s e)]).map _
      rw [List.map_append]
      rfl
    refine ⟨_, rfl, _, rfl, A.a, _, A.dx, _, _, rfl, r1, T.cl_Results, T.na_Results_outs, rfl, _, rfl, a, _, dx, _, _, rfl, ha1, T.cl_Entry, T.na_Entry_number, rfl, A.o1, _, rfl, DPut.k (k := Sum.inl e.n) r2 (by omega), ?_⟩
    rw [po]
    have f2 : ∀ b u, b ≠ A.o1 → G1 b = some u → upd G1 A.o1 (.dK (outsD (stepE s e))) b = some u := fun b u nb hb => by rw [upd_ne nb]; exact hb
    have g2 : upd G1 A.o1 (.dK (outsD (stepE s e))) A.o1 = some (.dK (outsD (stepE s e))) := upd_same
    generalize upd G1 A.o1 (.dK (outsD (stepE s e))) = G2 at f2 g2 ⊢
    have nn : valV kn (Sum.inl e.n) = none := names_none r4 (by rw [rok.nk]; exact fr)
    refine ⟨_, rfl, _, rfl, A.a, _, A.dx, _, _, rfl, f2 _ _ na1 r1, T.cl_Results, T.na_Results_names, rfl, _, rfl, a, _, dx, _, _, rfl, f2 _ _ ne1 ha1, T.cl_Entry, T.na_Entry_number, rfl, A.o2, _, rfl, DPut.k (k := Sum.inl e.n) (f2 _ _ d12.symm r3) (by omega), ?_⟩
    rw [putK_new nn]
    have f3 : ∀ b u, b ≠ A.o1 → b ≠ A.o2 → G1 b = some u → upd G2 A.o2 (.dK (kn ++ [(Sum.inl e.n, w)])) b = some u := fun b u n1 n2 hb => by rw [upd_ne n2]; exact f2 b u n1 hb
    have g3 : upd G2 A.o2 (.dK (kn ++ [(Sum.inl e.n, w)])) A.o2 = some (.dK (kn ++ [(Sum.inl e.n, w)])) := upd_same
    have g3' : upd G2 A.o2 (.dK (kn ++ [(Sum.inl e.n, w)])) A.o1 = some (.dK (outsD (stepE s e))) := by rw [upd_ne d12]; exact g2
    generalize upd G2 A.o2 (.dK (kn ++ [(Sum.inl e.n, w)])) = G3 at f3 g3 g3' ⊢
    have tups : ∀ G' : Hp, (∀ b u, b ≠ A.o1 → b ≠ A.o2 → b ≠ A.o3 → b ≠ A.o4 → G1 b = some u → G' b = some u) → ∀ t xs, G1 t = some (.tup xs) → G' t = some (.tup xs) := fun G' h t xs ht => h t _ (ne_of ht r2 (by intro z; cases z)) (ne_of ht r3 (by intro z; cases z)) (ne_of ht r5 (by intro z; cases z)) (ne_of ht r7 (by intro z; cases z)) ht
    have inss : ∀ G' : Hp, (∀ b u, b ≠ A.o1 → b ≠ A.o2 → b ≠ A.o3 → b ≠ A.o4 → G1 b = some u → G' b = some u) → ∀ t C dx fs, G1 t = some (.ins C dx fs) → G' t = some (.ins C dx fs) := fun G' h t C dx fs ht => h t _ (ne_of ht r2 (by intro z; cases z)) (ne_of ht r3 (by intro z; cases z)) (ne_of ht r5 (by intro z; cases z)) (ne_of ht r7 (by intro z; cases z)) ht
    have names' : ∀ G' : Hp, (∀ b u, b ≠ A.o1 → b ≠ A.o2 → b ≠ A.o3 → b ≠ A.o4 → G1 b = some u → G' b = some u) → Paired (NameP G') (stepE s e).n (kn ++ [(Sum.inl e.n, w)]) := fun G' h => Paired.snoc (Paired.mapP r4 fun x q z => ⟨z.1, z.2.same (tups G' h)⟩) ⟨rfl, n1.same (tups G' h)⟩
    refine ⟨_, rfl, rfl, _, rfl, ?_⟩
    refine ite2 (fun z => ?_) (fun z => ?_)
    · have z : outS s e = Str.ofString "right" := V.str.inj (of_decide_eq_true z)
      obtain ⟨nm, hnm, hno, _⟩ := outE_right z
      rw [hnm] at n1
      obtain ⟨t, rfl, ht⟩ := n1
      have er : (stepE s e).r = s.r ++ [⟨e, nm⟩] := by
        show (if outS s e = Str.ofString "right" then s.r ++ [⟨e, (nameE s.r e).getD []⟩] else s.r) = _
        rw [if_pos z, hnm]
        rfl
      have nr : valV kr (Sum.inl e.n) = none := by
        rcases rights_at r6 e.n with ⟨_, q⟩ | ⟨x, v, q, _⟩
        · exact q
        · obtain ⟨q1, q2⟩ := findN_mem q
          exact absurd (q2 ▸ rok.sub x q1) fr
      have nh : valV kh (nm.map Sum.inr) = none := by
        have := holders_at r8 nm
        rw [hno] at this
        cases q : valV kh (nm.map Sum.inr) with
        | none => rfl
        | some v => rw [q] at this; cases this
      refine ⟨_, rfl, _, rfl, A.a, _, A.dx, _, _, rfl, f3 _ _ na1 na2 r1, T.cl_Results, T.na_Results_rights, rfl, _, rfl, a, _, dx, _, _, rfl, f3 _ _ ne1 ne2 ha1, T.cl_Entry, T.na_Entry_number, rfl, A.o3, _, rfl, DPut.k (k := Sum.inl e.n) (f3 _ _ d13.symm d23.symm r5) (by omega), ?_⟩
      rw [putK_new nr]
      have f4 : ∀ b u, b ≠ A.o1 → b ≠ A.o2 → b ≠ A.o3 → G1 b = some u → upd G3 A.o3 (.dK (kr ++ [(Sum.inl e.n, .ref a)])) b = some u := fun b u n1 n2 n3 hb => by rw [upd_ne n3]; exact f3 b u n1 n2 hb
      have g4 : upd G3 A.o3 (.dK (kr ++ [(Sum.inl e.n, .ref a)])) A.o3 = some (.dK (kr ++ [(Sum.inl e.n, .ref a)])) := upd_same
      have g4' : upd G3 A.o3 (.dK (kr ++ [(Sum.inl e.n, .ref a)])) A.o1 = some (.dK (outsD (stepE s e))) := by rw [upd_ne d13]; exact g3'
      have g4'' : upd G3 A.o3 (.dK (kr ++ [(Sum.inl e.n, .ref a)])) A.o2 = some (.dK (kn ++ [(Sum.inl e.n, .ref t)])) := by rw [upd_ne d23]; exact g3
      generalize upd G3 A.o3 (.dK (kr ++ [(Sum.inl e.n, .ref a)])) = G4 at f4 g4 g4' g4'' ⊢
      have nt : ∀ b xs, G1 b = some (.tup xs) → G4 b = some (.tup xs) := fun b xs hb => f4 b _ (ne_of hb r2 (by intro z; cases z)) (ne_of hb r3 (by intro z; cases z)) (ne_of hb r5 (by intro z; cases z)) hb
      refine ⟨_, rfl, _, rfl, A.a, _, A.dx, _, _, rfl, f4 _ _ na1 na2 na3 r1, T.cl_Results, T.na_Results_holders, rfl, _, rfl, A.o4, _, rfl, DPut.t (k := nm.map Sum.inr) (f4 _ _ d14.symm d24.symm d34.symm r7) (by rw [key_strs]; exact nt _ _ ht) (by omega), ?_⟩
      rw [putK_new nh]
      have f5 : ∀ b u, b ≠ A.o1 → b ≠ A.o2 → b ≠ A.o3 → b ≠ A.o4 → G1 b = some u → upd G4 A.o4 (.dT (kh ++ [(nm.map Sum.inr, .ref a)])) b = some u := fun b u n1 n2 n3 n4 hb => by rw [upd_ne n4]; exact f4 b u n1 n2 n3 hb
      refine ⟨_, rfl, k _ (fr1.trans f5) ⟨f5 _ _ na1 na2 na3 na4 r1, by rw [upd_ne d14]; exact g4', ⟨_, by rw [upd_ne d24]; exact g4'', names' _ f5⟩, ⟨_, by rw [upd_ne d34]; exact g4, ?_⟩, ⟨_, upd_same, ?_⟩, d12, d13, d23⟩⟩
      · rw [er]
        exact Paired.snoc (Paired.mapP r6 fun x q z => ⟨z.1, z.2.keep fun t dx fs h => inss _ f5 t _ dx fs h⟩) ⟨rfl, a, dx, rfl, inss _ f5 _ _ _ _ ha1⟩
      · rw [er]
        exact Paired.snoc (Paired.mapP r8 fun x q z => ⟨z.1, z.2.keep fun t dx fs h => inss _ f5 t _ dx fs h⟩) ⟨rfl, a, dx, rfl, inss _ f5 _ _ _ _ ha1⟩
    · have z : ¬ outS s e = Str.ofString "right" := fun q => z (decide_eq_true (congrArg V.str q))
      have er : (stepE s e).r = s.r := by
        show (if outS s e = Str.ofString "right" then s.r ++ [⟨e, (nameE s.r e).getD []⟩] else s.r) = _
        rw [if_neg z]
      have f5 : ∀ b u, b ≠ A.o1 → b ≠ A.o2 → b ≠ A.o3 → b ≠ A.o4 → G1 b = some u → G3 b = some u := fun b u n1 n2 n3 n4 hb => f3 b u n1 n2 hb
      refine ⟨_, rfl, k _ (fr1.trans f5) ⟨f3 _ _ na1 na2 r1, g3', ⟨_, g3, names' _ f5⟩, ⟨kr, f3 _ _ d13.symm d23.symm r5, ?_⟩, ⟨kh, f3 _ _ d14.symm d24.symm r7, ?_⟩, d12, d13, d23⟩⟩
      · rw [er]
        exact Paired.mapP r6 fun x q z => ⟨z.1, z.2.keep fun t dx fs h => inss _ f5 t _ dx fs h⟩
      · rw [er]
        exact Paired.mapP r8 fun x q z => ⟨z.1, z.2.keep fun t dx fs h => inss _ f5 t _ dx fs h⟩
set_option maxHeartbeats 4000000 in
theorem ok_Results_root_of (T : Txt w K mg c) : FnOk P w K mg base CX0 1 c.a_Results_root_of c.d_Results_root_of ["self", "entry"] (spRootOf c.c_Results c.c_Entry) := by
  refine T.Results_root_of.ok sc_Results_root_of (fun vs H Q E h => ?_) (fun cdv A outer s H vs Q E hr h => ?_)
  · obtain ⟨A, R, kr, v, x, rfl, _⟩ := h
    rfl
  · obtain ⟨A, R, kr, v, x, rfl, hA, hR, pR, hv, hbs, k⟩ := h
    refine ⟨_, (pss_one (ps_ret (pe_ifExp (pt_cmp (pc_isN (pe_fld (pv 1) rfl))) (pv 1) (pe_dget (hu_of hr) (pe_fld (pv 0) rfl) (pe_fld (pv 1) rfl) (fun _ _ => rfl))))), ?_⟩
    have hv0 := hv
    obtain ⟨a, dx, rfl, ha⟩ := hv
    cases hb : x.e.b with
    | none =>
      have lx : (fieldsE x.e).lookup (Str.ofString "base") = some V.non := by show some (optV x.e.b) = _; rw [hb]; rfl
      have er : rootN R x = x.e := by unfold rootN; rw [hb]
      rw [er] at k
      exact ⟨_, rfl, a, _, dx, _, _, rfl, ha, T.cl_Entry, T.na_Entry_base, lx, _, rfl, iteT ⟨_, rfl, k _ hv0⟩⟩
    | some b =>
      have lx : (fieldsE x.e).lookup (Str.ofString "base") = some (V.int b) := by show some (optV x.e.b) = _; rw [hb]; rfl
      obtain ⟨y, hy⟩ := hbs b hb
      have er : rootN R x = y.e := by unfold rootN; rw [hb]; show ((findN R b).map (·.e)).getD x.e = _; rw [hy]; rfl
      rw [er] at k
      rcases rights_at pR b with ⟨f1, _⟩ | ⟨y', w, f1, f2, hw⟩
      · rw [hy] at f1; cases f1
      rw [hy] at f1
      cases f1
      refine ⟨_, rfl, a, _, dx, _, _, rfl, ha, T.cl_Entry, T.na_Entry_base, lx, _, rfl, iteF ?_⟩
      refine ⟨_, rfl, A.a, _, A.dx, _, _, rfl, hA, T.cl_Results, T.na_Results_rights, rfl, _, rfl, a, _, dx, _, _, rfl, ha, T.cl_Entry, T.na_Entry_base, lx, A.o3, w, rfl, ?_, k w hw⟩
      exact .inl ⟨kr, Sum.inl b, hR, rfl, f2.symm⟩
set_option maxHeartbeats 4000000 in
theorem ok_results_of (T : Txt w K mg c) : FnOk P w K mg base CX0 5 c.a_results_of c.d_results_of ["book"] (spResultsOf c.c_Results c.c_Entry) := by
  refine T.results_of.fn.ok sc_results_of (fun vs H Q E h => ?_) (fun cdv A outer s H vs Q E hr h => ?_)
  · obtain ⟨l, ws, es, rfl, _⟩ := h
    rfl
  · obtain ⟨l, ws, es, rfl, hL, hE, okk, nd, hz, k⟩ := h
    refine ⟨_, (pss_cons (ps_set (i := 1) sc_results_of.nd rfl (Or.inl rfl) (pe_make0 T.mk_Results (ok_Results_init T) (hr.mono (by decide)) rfl T.mg_Results T.bi_Results_init .nil pass0))
      (pss_cons (ps_for PassesOwn.never rfl (pi_list (pv 0)) (pg_name (i := 2) sc_results_of.nd rfl (Or.inl rfl))
        (pss_one (ps_expr (pe_meth (pv 1) T.cl_Results T.m_Results_put (ok_Results_put T) (hr.mono (by decide)) T.bi_Results_put .nil pass0 (pa_cons (pv 2) pa_nil)))))
      (pss_one (ps_ret (pv 1))))), ?_⟩
    have sz : 2000 < sizeLine := le_ble rfl
    refine fun x dx hx hdx ndx => ⟨x, dx, rfl, upd_same, fun A G1 ea ed f1 rs h1 h2 h3 h4 => ⟨rfl, ?_⟩⟩
    subst ea ed
    have up : ∀ {b : Addr}, upd (upd H A.dx (.own A.a)) A.a (.ins c.c_Results A.dx []) b = none → H b = none := fun {b} hb => by
      have nb : b ≠ A.a := fun z => by rw [z, upd_same] at hb; cases hb
      rw [upd_ne nb] at hb
      have nd : b ≠ A.dx := fun z => by rw [z, upd_same] at hb; cases hb
      rw [upd_ne nd] at hb
      exact hb
    have s1 : Same H G1 := fun b u hb => f1 b u (ne_of_none hb hx) (by rw [upd_ne (ne_of_none hb hx), upd_ne (ne_of_none hb hdx)]; exact hb)
    have frs : ∀ {G G' : Hp}, Same H G → FrR A G G' → Same H G' := fun {G G'} s f b u hb => f b u (ne_of_none hb (up h1)) (ne_of_none hb (up h2)) (ne_of_none hb (up h3)) (ne_of_none hb (up h4)) (s b u hb)
    refine ⟨_, rfl, l, rfl, ⟨_, SqL.of (s1 _ _ hL)⟩, ?_⟩
    refine for_list (xs := ws) (fun i σ G => Same H G ∧ (∃ z, σ = [some (.ref l), some (.ref A.a), z]) ∧ ResAt G c.c_Results c.c_Entry A (resE (es.take i))) ⟨s1, ⟨_, rfl⟩, rs⟩ ?_ ?_ ?_
    · rintro i σ G _ ⟨sG, _⟩
      exact SqL.of (sG _ _ hL)
    · rintro i v σ G hv ⟨sG, ⟨z, rfl⟩, rs⟩
      have hi : i < ws.length := (List.getElem?_eq_some_iff.mp hv).1
      have hie : i < es.length := by rw [← hE.1]; exact hi
      have ee : es[i]? = some es[i] := List.getElem?_eq_getElem hie
      have rok := resE_ok okk nd i (by omega)
      refine ⟨_, rfl, A.a, A.dx, _, rfl, rs.at_, rfl, _, rfl, A, _, v, es[i], rfl, rs, rok, (hE.2 i v _ hv ee).same sG, okk _ (List.getElem_mem hie), ?_, ?_, fun G' fr rs' => ?_⟩
      · rw [resE_keys]
        intro z
        have := nd
        have e2 : es.map (·.n) = (es.take i).map (·.n) ++ es[i].n :: (es.drop (i + 1)).map (·.n) := by
          rw [← List.map_cons, List.getElem_cons_drop, ← List.map_append, List.take_append_drop]
        rw [e2, List.nodup_append] at this
        exact this.2.2 _ z _ (List.mem_cons_self ..) rfl
      · rw [← List.length_map (f := fun p : Int × Str => p.1), resE_keys, List.length_map, List.length_take]
        omega
      · refine ⟨frs sG fr, ⟨_, rfl⟩, ?_⟩
        rw [take_one ee, resE_snoc]
        exact rs'
    · rintro σ G ⟨sG, ⟨z, rfl⟩, rs⟩
      rw [hE.1, List.take_of_length_le (Nat.le_refl _)] at rs
      exact ⟨_, rfl, k A G sG rs hx (up h1) (up h2) (up h3) (up h4)⟩
set_option maxHeartbeats 4000000 in
theorem ok_outcomes (T : Txt w K mg c) : FnOk P w K mg base (CXx P w) 6 c.a_outcomes c.d_outcomes ["entries"] (spOuts K c.c_Entry c.c_NoBook) := by
  refine T.outcomes.fn.okx sc_outcomes (fun vs H Q E h => ?_) (fun cdv A outer s H vs Q E hr h => ?_)
  · obtain ⟨x, rfl, _⟩ := h
    rfl
  · obtain ⟨x, rfl, h0⟩ := h
    refine ⟨_, (pss_one (ps_ret (pe_fld (pe_call (ok_results_of T) (hr.mono (by decide)) rfl T.results_of.mgf T.results_of.kp T.results_of.bi .nil pass0 (pa_cons (pe_callS (ok_book_list T) (hr.mono (by decide)) rfl T.book_list.mgf T.book_list.kp T.book_list.bi .nil pass_def (pa_cons (pv 0) pa_nil)) pa_nil)) rfl))), ?_⟩
    rcases h0 with ⟨es, gb, k⟩ | ⟨bad, k⟩
    rotate_left
    · refine ⟨_, rfl, x, rfl, ?_⟩
      rcases bad with ⟨l, ws, is, rfl, hL, hI, hz, hb⟩ | ⟨n, ty, hn⟩
      · exact .inl ⟨l, ws, is, rfl, hL, hI, hz, fun h => absurd (hb.symm.trans h) (by decide), fun _ G sG => k G sG⟩
      · exact .inr ⟨n, ty, hn, fun G sG => k G sG⟩
    obtain ⟨l, ws, rfl, hL, hE, ok, hz, hb⟩ := gb
    obtain ⟨nd, _⟩ := book_nd hb
    refine ⟨_, rfl, _, rfl, .inl ⟨l, ws, es.map some, rfl, hL, hE.its, hz, fun _ q G sG hq hq2 => ?_, fun h => absurd (hb.symm.trans h) (by decide)⟩⟩
    refine ⟨q, ws, es, rfl, hq2, hE.same sG, ok, nd, hz, fun A G' sG' rs fa f1 f2 f3 f4 => ?_⟩
    exact ⟨A.a, _, A.dx, _, _, rfl, rs.at_, T.cl_Results, T.na_Results_outs, rfl, k A.o1 G' (sG.trans sG') (sG.free f1) rs.outs⟩
set_option maxHeartbeats 4000000 in
theorem ok_full_names (T : Txt w K mg c) : FnOk P w K mg base (CXx P w) 6 c.a_full_names c.d_full_names ["entries"] (spNames K c.c_Entry c.c_NoBook) := by
  refine T.full_names.fn.okx sc_full_names (fun vs H Q E h => ?_) (fun cdv A outer s H vs Q E hr h => ?_)
  · obtain ⟨x, rfl, _⟩ := h
    rfl
  · obtain ⟨x, rfl, h0⟩ := h
    refine ⟨_, (pss_one (ps_ret (pe_fld (pe_call (ok_results_of T) (hr.mono (by decide)) rfl T.results_of.mgf T.results_of.kp T.results_of.bi .nil pass0 (pa_cons (pe_callS (ok_book_list T) (hr.mono (by decide)) rfl T.book_list.mgf T.book_list.kp T.book_list.bi .nil pass_def (pa_cons (pv 0) pa_nil)) pa_nil)) rfl))), ?_⟩
    rcases h0 with ⟨es, gb, k⟩ | ⟨bad, k⟩
    rotate_left
    · refine ⟨_, rfl, x, rfl, ?_⟩
      rcases bad with ⟨l, ws, is, rfl, hL, hI, hz, hb⟩ | ⟨n, ty, hn⟩
      · exact .inl ⟨l, ws, is, rfl, hL, hI, hz, fun h => absurd (hb.symm.trans h) (by decide), fun _ G sG => k G sG⟩
      · exact .inr ⟨n, ty, hn, fun G sG => k G sG⟩
    obtain ⟨l, ws, rfl, hL, hE, ok, hz, hb⟩ := gb
    obtain ⟨nd, _⟩ := book_nd hb
    refine ⟨_, rfl, _, rfl, .inl ⟨l, ws, es.map some, rfl, hL, hE.its, hz, fun _ q G sG hq hq2 => ?_, fun h => absurd (hb.symm.trans h) (by decide)⟩⟩
    refine ⟨q, ws, es, rfl, hq2, hE.same sG, ok, nd, hz, fun A G' sG' rs fa f1 f2 f3 f4 => ?_⟩
    obtain ⟨kn, r3, r4⟩ := rs.names
    exact ⟨A.a, _, A.dx, _, _, rfl, rs.at_, T.cl_Results, T.na_Results_names, rfl, k A.o2 kn G' (sG.trans sG') (sG.free f2) r3 r4⟩
set_option maxHeartbeats 4000000 in
theorem ok_roots (T : Txt w K mg c) : FnOk P w K mg base (CXx P w) 6 c.a_roots c.d_roots ["entries"] (spRoots K c.c_Entry c.c_NoBook rootsD) := by
  refine T.roots.fn.okx sc_roots (fun vs H Q E h => ?_) (fun cdv A outer s H vs Q E hr h => ?_)
  · obtain ⟨x, rfl, _⟩ := h
    rfl
  · obtain ⟨x, rfl, h0⟩ := h
    refine ⟨_, (pss_cons (ps_set (i := 1) sc_roots.nd rfl (Or.inl rfl) (pe_call (ok_results_of T) (hr.mono (by decide)) rfl T.results_of.mgf T.results_of.kp T.results_of.bi .nil pass0 (pa_cons (pe_callS (ok_book_list T) (hr.mono (by decide)) rfl T.book_list.mgf T.book_list.kp T.book_list.bi .nil pass_def (pa_cons (pv 0) pa_nil)) pa_nil)))
      (pss_cons (ps_set (i := 2) sc_roots.nd rfl (Or.inl rfl) pe_dnewK)
      (pss_cons (ps_thaw (ps_for own_def rfl (pi_vals (pe_fld (pv 1) rfl)) (pg_name (i := 3) sc_roots.nd rfl (Or.inl rfl))
        (pss_one (ps_dput (hu_of hr) (pv 2) (pe_fld (pv 3) rfl) (pe_fld (pe_meth (pv 1) T.cl_Results T.m_Results_root_of (ok_Results_root_of T) (hr.mono (by decide)) T.bi_Results_root_of .nil pass0 (pa_cons (pv 3) pa_nil)) rfl) rfl))))
      (pss_one (ps_ret (pv 2)))))), ?_⟩
    rcases h0 with ⟨es, gb, k⟩ | ⟨bad, k⟩
    rotate_left
    · refine ⟨_, rfl, x, rfl, ?_⟩
      rcases bad with ⟨l, ws, is, rfl, hL, hI, hz, hb⟩ | ⟨n, ty, hn⟩
      · exact .inl ⟨l, ws, is, rfl, hL, hI, hz, fun h => absurd (hb.symm.trans h) (by decide), fun _ G sG => k G sG⟩
      · exact .inr ⟨n, ty, hn, fun G sG => k G sG⟩
    obtain ⟨l, ws, rfl, hL, hE, ok, hz, hb⟩ := gb
    obtain ⟨nd, _⟩ := book_nd hb
    refine ⟨_, rfl, _, rfl, .inl ⟨l, ws, es.map some, rfl, hL, hE.its, hz, fun _ q G sG hq hq2 => ?_, fun h => absurd (hb.symm.trans h) (by decide)⟩⟩
    refine ⟨q, ws, es, rfl, hq2, hE.same sG, ok, nd, hz, fun A G' sG' rs fa f1 f2 f3 f4 => ?_⟩
    have s2 := sG.trans sG'
    have rok : RsOk (resE es) := by
      have := resE_ok ok nd es.length (Nat.le_refl _)
      rw [List.take_of_length_le (Nat.le_refl _)] at this
      exact this
    obtain ⟨kr, r5, r6⟩ := rs.rights
    have lr : kr.length = (resE es).r.length := (Paired.length r6).symm
    have lr2 : (resE es).r.length ≤ es.length := by
      have h1 : ((resE es).r.map (·.e.n)).length ≤ ((resE es).o.map (·.1)).length := nd_len rok.rn fun x hx => by
        obtain ⟨y, hy, rfl⟩ := List.mem_map.mp hx
        exact rok.sub y hy
      rw [resE_keys, List.length_map, List.length_map] at h1
      exact h1
    have le : es.length ≤ 1000 := by rw [← hE.1]; exact hz
    have sz : 2000 < sizeLine := le_ble rfl
    refine fun d hd => ?_
    have hD : upd G' d (.dK []) d = some (.dK []) := upd_same
    have nd3 : A.o3 ≠ d := ne_of_none r5 hd
    have s3 := Same.new (o := HO.dK []) hd
    generalize upd G' d (.dK []) = G1 at hD s3 ⊢
    have rs1 := rs.same s3
    refine ⟨_, rfl, A.a, _, A.dx, _, _, rfl, rs1.at_, T.cl_Results, T.na_Results_rights, rfl, A.o3, kr, rfl, s3 _ _ r5, fun o nf => ?_⟩
    have na3 : A.a ≠ A.o3 := ne_of rs1.at_ (s3 _ _ r5) (by intro z; cases z)
    have g2 : upd G1 A.o3 (.frz o (.dK kr)) A.o3 = some (.frz o (.dK kr)) := upd_same
    have f2 : ∀ b u, b ≠ A.o3 → G1 b = some u → upd G1 A.o3 (.frz o (.dK kr)) b = some u := fun b u nb hb => by rw [upd_ne nb]; exact hb
    generalize hG2 : upd G1 A.o3 (.frz o (.dK kr)) = G2 at g2 f2 ⊢
    have inss : ∀ G : Hp, (∀ b u, b ≠ d → G2 b = some u → G b = some u) → ∀ t C dx fs, G1 t = some (.ins C dx fs) → G t = some (.ins C dx fs) := fun G h t C dx fs ht => h t _ (ne_of ht hD (by intro z; cases z)) (f2 t _ (ne_of ht (s3 _ _ r5) (by intro z; cases z)) ht)
    have r6' : ∀ G : Hp, (∀ b u, b ≠ d → G2 b = some u → G b = some u) → Paired (RightP G c.c_Entry) (resE es).r kr := fun G h => Paired.mapP r6 fun x q z => ⟨z.1, (z.2.same s3).keep fun t dx fs ht => inss G h t _ dx fs ht⟩
    refine for_dict (kvs := kr) (f := fun p => p.2) rfl (fun i σ G => (∃ z, σ = [some (.ref l), some (.ref A.a), some (.ref d), z]) ∧ (∀ b u, b ≠ d → G2 b = some u → G b = some u) ∧ G d = some (.dK (((resE es).r.take i).map fun x => (Sum.inl x.e.n, .int (rootN (resE es).r x).n)))) ?_ ?_ ?_ ?_
    · exact ⟨⟨_, rfl⟩, fun b u _ h => h, f2 _ _ nd3.symm hD⟩
    · rintro i σ G _ ⟨_, h, _⟩
      exact h _ _ nd3 g2
    · rintro i p σ G hp ⟨⟨z, rfl⟩, h, hG⟩
      have hi : i < kr.length := (List.getElem?_eq_some_iff.mp hp).1
      have hie : i < (resE es).r.length := by omega
      obtain ⟨x, ex⟩ : ∃ x, (resE es).r[i]? = some x := ⟨_, List.getElem?_eq_getElem hie⟩
      obtain ⟨p', ep, hx⟩ := paired_get (r6' G h) ex
      rw [hp] at ep
      cases ep
      have hm := List.mem_of_getElem? ex
      obtain ⟨h1, h2⟩ := hx
      have h20 := h2
      obtain ⟨a, dx, e2, ha⟩ := h2
      rw [e2]
      rw [e2] at h20
      refine ⟨_, rfl, A.a, A.dx, _, rfl, inss G h _ _ _ _ rs1.at_, rfl, _, rfl, A, (resE es).r, kr, .ref a, x, rfl, inss G h _ _ _ _ rs1.at_, .inr ⟨o, h _ _ nd3 g2⟩, r6' G h, h20, fun b hb => ?_, fun w hw => ?_⟩
      · obtain ⟨y, hy, _⟩ := rok.bs x hm b hb
        exact ⟨y, hy⟩
      obtain ⟨wa, wdx, rfl, hwa⟩ := hw
      refine ⟨wa, _, wdx, _, _, rfl, hwa, T.cl_Entry, T.na_Entry_number, rfl, _, rfl, _, rfl, a, _, dx, _, _, rfl, ha, T.cl_Entry, T.na_Entry_number, rfl, d, _, rfl, DPut.k (k := Sum.inl x.e.n) hG (by rw [List.length_map, List.length_take]; omega), ?_⟩
      refine ⟨⟨_, rfl⟩, fun b u nb hb => by rw [upd_ne nb]; exact h b u nb hb, ?_⟩
      rw [upd_same, take_one ex, List.map_append]
      refine congrArg (fun z => some (HO.dK z)) (putK_new ?_)
      have nin : x.e.n ∉ ((resE es).r.take i).map (·.e.n) := fun z => by
        have q := rok.rn
        have e3 : (resE es).r.map (·.e.n) = ((resE es).r.take i).map (·.e.n) ++ x.e.n :: ((resE es).r.drop (i + 1)).map (·.e.n) := by
          have e4 : (resE es).r[i] = x := (List.getElem?_eq_some_iff.mp ex).2
          rw [← List.map_cons (f := fun y : Rt => y.e.n), ← e4, List.getElem_cons_drop, ← List.map_append, List.take_append_drop]
        rw [e3, List.nodup_append] at q
        exact q.2.2 _ z _ (List.mem_cons_self ..) rfl
      generalize (resE es).r.take i = l' at nin
      induction l' with
      | nil => rfl
      | cons y r ih =>
        rw [List.map_cons] at nin ⊢
        rw [valV_neg (fun z => nin (by rw [← Sum.inl.inj z]; exact List.mem_cons_self ..))]
        exact ih fun z => nin (List.mem_cons_of_mem _ z)
    · rintro σ G ⟨⟨z, rfl⟩, h, hG⟩
      rw [lr, List.take_of_length_le (Nat.le_refl _)] at hG
      refine ⟨_, ⟨A.o3, o, kr, h _ _ nd3 g2, nf, rfl⟩, ?_⟩
      refine ⟨_, rfl, k d _ (fun b u hb => ?_) (s2.free hd) (by rw [upd_ne nd3.symm]; exact hG)⟩
      have nb3 : b ≠ A.o3 := ne_of_none hb (sG.free f3)
      rw [upd_ne nb3]
      exact h b u (ne_of_none (s2 _ _ hb) hd) (f2 b u nb3 (s3 _ _ (s2 _ _ hb)))
set_option maxHeartbeats 4000000 in
theorem ok_tied (T : Txt w K mg c) : FnOk P w K mg base (CXx P w) 6 c.a_tied c.d_tied ["entries"] (spRoots K c.c_Entry c.c_NoBook tiedD) := by
  refine T.tied.fn.okx sc_tied (fun vs H Q E h => ?_) (fun cdv A outer s H vs Q E hr h => ?_)
  · obtain ⟨x, rfl, _⟩ := h
    rfl
  · obtain ⟨x, rfl, h0⟩ := h
    refine ⟨_, (pss_cons (ps_set (i := 1) sc_tied.nd rfl (Or.inl rfl) (pe_call (ok_results_of T) (hr.mono (by decide)) rfl T.results_of.mgf T.results_of.kp T.results_of.bi .nil pass0 (pa_cons (pe_callS (ok_book_list T) (hr.mono (by decide)) rfl T.book_list.mgf T.book_list.kp T.book_list.bi .nil pass_def (pa_cons (pv 0) pa_nil)) pa_nil)))
      (pss_cons (ps_set (i := 2) sc_tied.nd rfl (Or.inl rfl) pe_dnewK)
      (pss_cons (ps_thaw (ps_for own_def rfl (pi_vals (pe_fld (pv 1) rfl)) (pg_name (i := 3) sc_tied.nd rfl (Or.inl rfl))
        (pss_one (ps_dput (hu_of hr) (pv 2) (pe_fld (pv 3) rfl) (pe_fld (pe_meth (pv 1) T.cl_Results T.m_Results_root_of (ok_Results_root_of T) (hr.mono (by decide)) T.bi_Results_root_of .nil pass0 (pa_cons (pv 3) pa_nil)) rfl) rfl))))
      (pss_one (ps_ret (pv 2)))))), ?_⟩
    rcases h0 with ⟨es, gb, k⟩ | ⟨bad, k⟩
    rotate_left
    · refine ⟨_, rfl, x, rfl, ?_⟩
      rcases bad with ⟨l, ws, is, rfl, hL, hI, hz, hb⟩ | ⟨n, ty, hn⟩
      · exact .inl ⟨l, ws, is, rfl, hL, hI, hz, fun h => absurd (hb.symm.trans h) (by decide), fun _ G sG => k G sG⟩
      · exact .inr ⟨n, ty, hn, fun G sG => k G sG⟩
    obtain ⟨l, ws, rfl, hL, hE, ok, hz, hb⟩ := gb
    obtain ⟨nd, _⟩ := book_nd hb
    refine ⟨_, rfl, _, rfl, .inl ⟨l, ws, es.map some, rfl, hL, hE.its, hz, fun _ q G sG hq hq2 => ?_, fun h => absurd (hb.symm.trans h) (by decide)⟩⟩
    refine ⟨q, ws, es, rfl, hq2, hE.same sG, ok, nd, hz, fun A G' sG' rs fa f1 f2 f3 f4 => ?_⟩
    have s2 := sG.trans sG'
    have rok : RsOk (resE es) := by
      have := resE_ok ok nd es.length (Nat.le_refl _)
      rw [List.take_of_length_le (Nat.le_refl _)] at this
      exact this
    obtain ⟨kr, r5, r6⟩ := rs.rights
    have lr : kr.length = (resE es).r.length := (Paired.length r6).symm
    have lr2 : (resE es).r.length ≤ es.length := by
      have h1 : ((resE es).r.map (·.e.n)).length ≤ ((resE es).o.map (·.1)).length := nd_len rok.rn fun x hx => by
        obtain ⟨y, hy, rfl⟩ := List.mem_map.mp hx
        exact rok.sub y hy
      rw [resE_keys, List.length_map, List.length_map] at h1
      exact h1
    have le : es.length ≤ 1000 := by rw [← hE.1]; exact hz
    have sz : 2000 < sizeLine := le_ble rfl
    refine fun d hd => ?_
    have hD : upd G' d (.dK []) d = some (.dK []) := upd_same
    have nd3 : A.o3 ≠ d := ne_of_none r5 hd
    have s3 := Same.new (o := HO.dK []) hd
    generalize upd G' d (.dK []) = G1 at hD s3 ⊢
    have rs1 := rs.same s3
    refine ⟨_, rfl, A.a, _, A.dx, _, _, rfl, rs1.at_, T.cl_Results, T.na_Results_rights, rfl, A.o3, kr, rfl, s3 _ _ r5, fun o nf => ?_⟩
    have na3 : A.a ≠ A.o3 := ne_of rs1.at_ (s3 _ _ r5) (by intro z; cases z)
    have g2 : upd G1 A.o3 (.frz o (.dK kr)) A.o3 = some (.frz o (.dK kr)) := upd_same
    have f2 : ∀ b u, b ≠ A.o3 → G1 b = some u → upd G1 A.o3 (.frz o (.dK kr)) b = some u := fun b u nb hb => by rw [upd_ne nb]; exact hb
    generalize hG2 : upd G1 A.o3 (.frz o (.dK kr)) = G2 at g2 f2 ⊢
    have inss : ∀ G : Hp, (∀ b u, b ≠ d → G2 b = some u → G b = some u) → ∀ t C dx fs, G1 t = some (.ins C dx fs) → G t = some (.ins C dx fs) := fun G h t C dx fs ht => h t _ (ne_of ht hD (by intro z; cases z)) (f2 t _ (ne_of ht (s3 _ _ r5) (by intro z; cases z)) ht)
    have r6' : ∀ G : Hp, (∀ b u, b ≠ d → G2 b = some u → G b = some u) → Paired (RightP G c.c_Entry) (resE es).r kr := fun G h => Paired.mapP r6 fun x q z => ⟨z.1, (z.2.same s3).keep fun t dx fs ht => inss G h t _ dx fs ht⟩
    refine for_dict (kvs := kr) (f := fun p => p.2) rfl (fun i σ G => (∃ z, σ = [some (.ref l), some (.ref A.a), some (.ref d), z]) ∧ (∀ b u, b ≠ d → G2 b = some u → G b = some u) ∧ G d = some (.dK (((resE es).r.take i).map fun x => (Sum.inl x.e.n, optV (rootN (resE es).r x).s)))) ?_ ?_ ?_ ?_
    · exact ⟨⟨_, rfl⟩, fun b u _ h => h, f2 _ _ nd3.symm hD⟩
    · rintro i σ G _ ⟨_, h, _⟩
      exact h _ _ nd3 g2
    · rintro i p σ G hp ⟨⟨z, rfl⟩, h, hG⟩
      have hi : i < kr.length := (List.getElem?_eq_some_iff.mp hp).1
      have hie : i < (resE es).r.length := by omega
      obtain ⟨x, ex⟩ : ∃ x, (resE es).r[i]? = some x := ⟨_, List.getElem?_eq_getElem hie⟩
      obtain ⟨p', ep, hx⟩ := paired_get (r6' G h) ex
      rw [hp] at ep
      cases ep
      have hm := List.mem_of_getElem? ex
      obtain ⟨h1, h2⟩ := hx
      have h20 := h2
      obtain ⟨a, dx, e2, ha⟩ := h2
      rw [e2]
      rw [e2] at h20
      refine ⟨_, rfl, A.a, A.dx, _, rfl, inss G h _ _ _ _ rs1.at_, rfl, _, rfl, A, (resE es).r, kr, .ref a, x, rfl, inss G h _ _ _ _ rs1.at_, .inr ⟨o, h _ _ nd3 g2⟩, r6' G h, h20, fun b hb => ?_, fun w hw => ?_⟩
      · obtain ⟨y, hy, _⟩ := rok.bs x hm b hb
        exact ⟨y, hy⟩
      obtain ⟨wa, wdx, rfl, hwa⟩ := hw
      refine ⟨wa, _, wdx, _, _, rfl, hwa, T.cl_Entry, T.na_Entry_sheet, rfl, _, rfl, _, rfl, a, _, dx, _, _, rfl, ha, T.cl_Entry, T.na_Entry_number, rfl, d, _, rfl, DPut.k (k := Sum.inl x.e.n) hG (by rw [List.length_map, List.length_take]; omega), ?_⟩
      refine ⟨⟨_, rfl⟩, fun b u nb hb => by rw [upd_ne nb]; exact h b u nb hb, ?_⟩
      rw [upd_same, take_one ex, List.map_append]
      refine congrArg (fun z => some (HO.dK z)) (putK_new ?_)
      have nin : x.e.n ∉ ((resE es).r.take i).map (·.e.n) := fun z => by
        have q := rok.rn
        have e3 : (resE es).r.map (·.e.n) = ((resE es).r.take i).map (·.e.n) ++ x.e.n :: ((resE es).r.drop (i + 1)).map (·.e.n) := by
          have e4 : (resE es).r[i] = x := (List.getElem?_eq_some_iff.mp ex).2
          rw [← List.map_cons (f := fun y : Rt => y.e.n), ← e4, List.getElem_cons_drop, ← List.map_append, List.take_append_drop]
        rw [e3, List.nodup_append] at q
        exact q.2.2 _ z _ (List.mem_cons_self ..) rfl
      generalize (resE es).r.take i = l' at nin
      induction l' with
      | nil => rfl
      | cons y r ih =>
        rw [List.map_cons] at nin ⊢
        rw [valV_neg (fun z => nin (by rw [← Sum.inl.inj z]; exact List.mem_cons_self ..))]
        exact ih fun z => nin (List.mem_cons_of_mem _ z)
    · rintro σ G ⟨⟨z, rfl⟩, h, hG⟩
      rw [lr, List.take_of_length_le (Nat.le_refl _)] at hG
      refine ⟨_, ⟨A.o3, o, kr, h _ _ nd3 g2, nf, rfl⟩, ?_⟩
      refine ⟨_, rfl, k d _ (fun b u hb => ?_) (s2.free hd) (by rw [upd_ne nd3.symm]; exact hG)⟩
      have nb3 : b ≠ A.o3 := ne_of_none hb (sG.free f3)
      rw [upd_ne nb3]
      exact h b u (ne_of_none (s2 _ _ hb) hd) (f2 b u nb3 (s3 _ _ (s2 _ _ hb)))
set_option maxHeartbeats 4000000 in
theorem ok_Lmixed (T : Txt w K mg c) : FnOk P w K mg base CX0 1 c.a_Lmixed c.d_Lmixed ["_law_cell", "_law_k"] (spMixC) := by
  refine T.Lmixed.fn.ok sc_Lmixed (fun vs H Q E h => ?_) (fun cdv A outer s H vs Q E hr h => ?_)
  · obtain ⟨n, i, rfl, _⟩ := h
    rfl
  · obtain ⟨n, i, rfl, h0, h1, k⟩ := h
    refine ⟨_, (pss_one (ps_ret (pe_op op_mod (pe_op op_mul (pe_op op_add (pe_op op_mod (pe_op op_fdiv (pv 0) pe_int) (pe_op op_pow pe_int pe_int)) pe_int) (pe_op op_add pe_int (pe_op op_mul (pe_op op_mul pe_int (pv 1)) (pv 1)))) pe_int))), ?_⟩
    have sq : i * i ≤ 100 * 100 := Int.mul_le_mul (by omega) (by omega) (by omega) (by omega)
    have sq0 : 0 ≤ i * i := Int.mul_nonneg h0 h0
    have e3 : 7919 * i * i = 7919 * (i * i) := Int.mul_assoc _ _ _
    walk_at "rd"
    refine ⟨.inl ⟨by omega, by omega⟩, ?_⟩
    walk_at "rd"
    refine ⟨.inr ⟨by rw [e3]; omega, by rw [e3]; omega⟩, ?_⟩
    walk_at "rd"
    exact k _ (Int.emod_nonneg _ (by decide)) (Int.emod_lt_of_pos _ (by decide))
set_option maxHeartbeats 4000000 in
theorem ok_Ldraws (T : Txt w K mg c) : FnOk P w K mg base CX0 2 c.a_Ldraws c.d_Ldraws ["_law_cell", "_law_k", "_law_free"] (spDraws) := by
  refine T.Ldraws.fn.ok sc_Ldraws (fun vs H Q E h => ?_) (fun cdv A outer s H vs Q E hr h => ?_)
  · obtain ⟨n, i0, fr, rfl, _⟩ := h
    rfl
  · obtain ⟨n, i0, fr, rfl, h0, h1, k⟩ := h
    refine ⟨_, (pss_cons (ps_set (i := 3) sc_Ldraws.nd rfl (Or.inl rfl) (pe_lst pa_nil))
      (pss_cons (ps_set (i := 4) sc_Ldraws.nd rfl (Or.inl rfl) (pe_op op_fdiv (pv 0) pe_int))
      (pss_cons (ps_set (i := 5) sc_Ldraws.nd rfl (Or.inl rfl) (pe_call (ok_Lmixed T) (hr.mono (by decide)) rfl T.Lmixed.mgf T.Lmixed.kp T.Lmixed.bi .nil pass0 (pa_cons (pv 0) (pa_cons (pv 1) pa_nil))))
      (pss_cons (ps_for PassesOwn.never rfl (pi_range1 rfl T.no_range (pa_cons pe_int pa_nil)) (pg_name (i := 6) sc_Ldraws.nd rfl (Or.inl rfl))
        (pss_one (ps_if (PW.pt (pw_and (pt_val (pv 2)) (pw_and1 (pt_cmpR op_ge (pv 4) (pe_op op_pow pe_int pe_int) (nomark _)))))
        (pss_cons (ps_expr (pe_bm PySem.F.plainAttrs_list PySem.F.slot_list_append PySem.F.type_list_append (MtM.r mt_append) (pv 3) (pa_cons (pe_op op_mod (pv 4) (pe_op op_pow pe_int pe_int)) pa_nil)))
      (pss_one (ps_set (i := 4) sc_Ldraws.nd rfl (Or.inl rfl) (pe_op op_fdivB (pv 4) (pe_op op_pow pe_int pe_int)))))
        (pss_cut (ps_set (i := 5) sc_Ldraws.nd rfl (Or.inl rfl) (pe_op op_mod (pe_op op_mul (pe_op op_add (pe_op op_add (pv 5) (pe_op op_mul (pv 6) (pv 6))) pe_int) pe_int) pe_int))
      (pss_one (ps_expr (pe_bm PySem.F.plainAttrs_list PySem.F.slot_list_append PySem.F.type_list_append (MtM.r mt_append) (pv 3) (pa_cons (pe_op op_mod (pe_op op_mul (pv 5) pe_int) pe_int) pa_nil))))))))
      (pss_one (ps_ret (pv 3))))))), ?_⟩
    have sz : 2000 < sizeLine := le_ble rfl
    refine ⟨le_ble rfl, fun l hl => ?_⟩
    have s0 := Same.new (o := HO.lst []) hl
    have k0 := upd_same (H := H) (a := l) (o := .lst [])
    generalize upd H l (.lst []) = G0 at s0 k0 ⊢
    walk_at "rd"
    refine ⟨h0, h1, fun r r0 r1 => ?_⟩
    walk_at "rd"
    refine ⟨by decide, by decide, ?_⟩
    refine for_range (n := 10) (lo := 0) (fun i σ G => ∃ (ds : List Int) (lf mx : Int) (z6 : Option V), σ = [some (.int n), some (.int i0), some (.bl fr), some (.ref l), some (.int lf), some (.int mx), z6] ∧ 0 ≤ mx ∧ mx < 2147483648 ∧ ds.length = i ∧ (∀ d ∈ ds, Drawn d) ∧ Same H G ∧ G l = some (.lst (ds.map V.int))) ?_ ?_ ?_
    · exact ⟨[], _, _, _, rfl, by omega, by omega, rfl, fun _ h => (nomatch h), s0, k0⟩
    · rintro i σ G hi ⟨ds, lf, mx, z6, rfl, x0, x1, hl', hw, sG, hG⟩
      have sq : (0 + (i : Int)) * (0 + (i : Int)) ≤ 10 * 10 := Int.mul_le_mul (by omega) (by omega) (by omega) (by omega)
      have sq0 : 0 ≤ (0 + (i : Int)) * (0 + (i : Int)) := Int.mul_nonneg (by omega) (by omega)
      walk_at "rd"
      cases fr with
      | true =>
        refine iteT ?_
        walk_at "rd"
        refine ite2 (fun hb => ?_) (fun _ => ?_)
        · walk_at "rd"
          refine ⟨.inl ⟨rfl, _, SqL.of hG⟩, ?_⟩
          walk_at "rd"
          refine ⟨l, _, _, rfl, rfl, hG, by rw [List.length_map]; omega, ?_⟩
          walk_at "rd"
          refine ⟨ds ++ [lf % 10000000000], _, _, _, rfl, x0, x1, by rw [List.length_append, hl']; rfl, push_drawn hw ⟨Int.emod_nonneg _ (by decide), Int.emod_lt_of_pos _ (by decide)⟩, same_put hl sG, ?_⟩
          rw [upd_same, List.map_append]
          rfl
        · refine ⟨fun σ' G' => G = G' ∧ ∃ m' : Int, σ' = [some (.int n), some (.int i0), some (.bl true), some (.ref l), some (.int lf), some (.int m'), some (.int (0 + (i : Int)))] ∧ 0 ≤ m' ∧ m' < 2147483648, ?_, ?_⟩
          · walk_at "rd"
            refine ⟨.inl ⟨by omega, by omega⟩, ?_⟩
            walk_at "rd"
            exact ⟨Int.emod_nonneg _ (by decide), Int.lt_trans (Int.emod_lt_of_pos _ (by decide)) (by decide)⟩
          rintro σ' G' ⟨rfl, m', rfl, y0, y1⟩
          walk_at "rd"
          refine ⟨.inl ⟨rfl, _, SqL.of hG⟩, ?_⟩
          walk_at "rd"
          refine ⟨l, _, _, rfl, rfl, hG, by rw [List.length_map]; omega, ?_⟩
          walk_at "rd"
          refine ⟨ds ++ [m' * 16807 % 2147483629], _, _, _, rfl, y0, y1, by rw [List.length_append, hl']; rfl, push_drawn hw ⟨Int.emod_nonneg _ (by decide), Int.lt_trans (Int.emod_lt_of_pos _ (by decide)) (by decide)⟩, same_put hl sG, ?_⟩
          rw [upd_same, List.map_append]
          rfl
      | false =>
        refine iteF (iteF ?_)
        · refine ⟨fun σ' G' => G = G' ∧ ∃ m' : Int, σ' = [some (.int n), some (.int i0), some (.bl false), some (.ref l), some (.int lf), some (.int m'), some (.int (0 + (i : Int)))] ∧ 0 ≤ m' ∧ m' < 2147483648, ?_, ?_⟩
          · walk_at "rd"
            refine ⟨.inl ⟨by omega, by omega⟩, ?_⟩
            walk_at "rd"
            exact ⟨Int.emod_nonneg _ (by decide), Int.lt_trans (Int.emod_lt_of_pos _ (by decide)) (by decide)⟩
          rintro σ' G' ⟨rfl, m', rfl, y0, y1⟩
          walk_at "rd"
          refine ⟨.inl ⟨rfl, _, SqL.of hG⟩, ?_⟩
          walk_at "rd"
          refine ⟨l, _, _, rfl, rfl, hG, by rw [List.length_map]; omega, ?_⟩
          walk_at "rd"
          refine ⟨ds ++ [m' * 16807 % 2147483629], _, _, _, rfl, y0, y1, by rw [List.length_append, hl']; rfl, push_drawn hw ⟨Int.emod_nonneg _ (by decide), Int.lt_trans (Int.emod_lt_of_pos _ (by decide)) (by decide)⟩, same_put hl sG, ?_⟩
          rw [upd_same, List.map_append]
          rfl
    · rintro σ G ⟨ds, lf, mx, z6, rfl, x0, x1, hl', hw, sG, hG⟩
      exact ⟨_, rfl, k ds l G hl' hw sG hl hG⟩
set_option maxHeartbeats 4000000 in
theorem ok_Lany_word (T : Txt w K mg c) : FnOk P w K mg base CX0 1 c.a_Lany_word c.d_Lany_word ["_law_number"] (spAnyW) := by
  refine T.Lany_word.fn.ok sc_Lany_word (fun vs H Q E h => ?_) (fun cdv A outer s H vs Q E hr h => ?_)
  · obtain ⟨n, rfl, _⟩ := h
    rfl
  · obtain ⟨n, rfl, k⟩ := h
    refine ⟨_, (pss_cons (ps_set (i := 1) sc_Lany_word.nd rfl (Or.inl rfl) (pe_op op_add pe_int (pe_op op_mod (pv 0) pe_int)))
      (pss_cons (ps_set (i := 0) sc_Lany_word.nd rfl (Or.inl rfl) (pe_op op_fdiv (pv 0) pe_int))
      (pss_cons (ps_set (i := 2) sc_Lany_word.nd rfl (Or.inl rfl) pe_str)
      (pss_cons (ps_for PassesOwn.never rfl (pi_range1 rfl T.no_range (pa_cons (pv 1) pa_nil)) (pg_name (i := 3) sc_Lany_word.nd rfl (Or.inl rfl))
        (pss_cons (ps_set (i := 2) sc_Lany_word.nd rfl (Or.inl rfl) (pe_op op_add_str (pv 2) (pe_ix ix_str pe_str (pe_op op_mod (pv 0) pe_int) (fun _ _ => rfl))))
      (pss_one (ps_set (i := 0) sc_Lany_word.nd rfl (Or.inl rfl) (pe_op op_fdiv (pv 0) pe_int)))))
      (pss_one (ps_ret (pv 2))))))), ?_⟩
    have sz : 2000 < sizeLine := le_ble rfl
    have abc : (Str.ofString "abcdefghijklmnopqrstuvwxyz").cps.toList.length = 26 := by decide +kernel
    have abl : ∀ c ∈ (Str.ofString "abcdefghijklmnopqrstuvwxyz").cps.toList, letter c = true := by decide +kernel
    have m0 := Int.emod_nonneg n (b := 12) (by decide)
    have m1 := Int.emod_lt_of_pos n (b := 12) (by decide)
    walk_at "rd"
    refine ⟨by omega, by omega, ?_⟩
    refine for_range (n := (1 + n % 12).toNat) (lo := 0) (fun j σ G' => G' = H ∧ ∃ (m : Int) (z : Str) (z3 : Option V), σ = [some (.int m), some (.int (1 + n % 12)), some (.str z), z3] ∧ z.length = j ∧ z.cps.toList.all letter = true) ?_ ?_ ?_
    · exact ⟨rfl, _, _, _, rfl, rfl, rfl⟩
    · rintro j σ G' hj ⟨rfl, m, z, z3, rfl, hz, ha⟩
      have hj' : (j : Int) < 12 := by omega
      walk_at "rd"
      obtain ⟨ch, hv, hm⟩ := atI_in (xs := (Str.ofString "abcdefghijklmnopqrstuvwxyz").cps.toList) (i := m % 26) (Int.emod_nonneg _ (by decide)) (by rw [abc]; exact Int.emod_lt_of_pos _ (by decide))
      refine ⟨_, _, ch, rfl, rfl, le_ble rfl, hv, ?_⟩
      refine ⟨_, _, rfl, rfl, ?_, ?_⟩
      · show z.length + 1 ≤ sizeLine
        omega
      · walk_at "rd"
        first | refine ⟨rfl, _, _, _, rfl, ?_, ?_⟩ | refine ⟨_, _, _, rfl, ?_, ?_⟩
        · rw [Str.length_append, hz]
          rfl
        · rw [all_app, ha]
          show (true && ([ch].all letter)) = true
          rw [List.all_cons, abl ch hm]
          rfl
    · rintro σ G' ⟨rfl, m, z, z3, rfl, hz, ha⟩
      exact ⟨_, rfl, k _ (isWord_of (by omega) (by omega) ha)⟩
set_option maxHeartbeats 4000000 in
theorem ok_Lwords (T : Txt w K mg c) : FnOk P w K mg base CX0 1 c.a_Lwords c.d_Lwords ["_law_cell", "_law_free"] (spWordsF 4) := by
  refine T.Lwords.fn.ok sc_Lwords (fun vs H Q E h => ?_) (fun cdv A outer s H vs Q E hr h => ?_)
  · obtain ⟨m, fr, rfl, _⟩ := h
    rfl
  · obtain ⟨m, fr, rfl, k⟩ := h
    refine ⟨_, (pss_cons (ps_set (i := 2) sc_Lwords.nd rfl (Or.inl rfl) pe_str)
      (pss_cons (ps_set (i := 3) sc_Lwords.nd rfl (Or.inl rfl) (pe_op op_add pe_int (pe_op op_mod (pv 0) pe_int)))
      (pss_cut (ps_set (i := 4) sc_Lwords.nd rfl (Or.inl rfl) (pe_op op_mod (pe_op op_fdiv (pv 0) pe_int) (pv 3)))
      (pss_cons (ps_set (i := 5) sc_Lwords.nd rfl (Or.inl rfl) (pe_op op_fdiv (pv 0) pe_int))
      (pss_cons (ps_set (i := 6) sc_Lwords.nd rfl (Or.inl rfl) (pe_lst pa_nil))
      (pss_cons (ps_for PassesOwn.never rfl (pi_range1 rfl T.no_range (pa_cons (pv 3) pa_nil)) (pg_name (i := 7) sc_Lwords.nd rfl (Or.inl rfl))
        (pss_cut (ps_set (i := 8) sc_Lwords.nd rfl (Or.inl rfl) (pe_op op_fdiv (pe_op op_mul (pe_op op_add (pe_op op_mod (pv 0) pe_int) pe_int) (pe_op op_add pe_int (pe_op op_mul (pe_op op_mul pe_int (pv 7)) (pv 7)))) pe_int))
      (pss_cut (ps_if (PW.pt (pw_and (pt_val (pv 1)) (pw_and1 (pt_cmpR op_ge (pv 5) pe_int (nomark _)))))
        (pss_cons (ps_set (i := 8) sc_Lwords.nd rfl (Or.inl rfl) (pe_op op_mod (pv 5) pe_int))
      (pss_one (ps_set (i := 5) sc_Lwords.nd rfl (Or.inl rfl) (pe_op op_fdiv (pv 5) pe_int))))
        pss_nil)
      (pss_one (ps_expr (pe_bm PySem.F.plainAttrs_list PySem.F.slot_list_append PySem.F.type_list_append (MtM.r mt_append) (pv 6) (pa_cons (pv 8) pa_nil)))))))
      (pss_cons (ps_set (i := 9) sc_Lwords.nd rfl (Or.inl rfl) (pe_lst pa_nil))
      (pss_cons (ps_for PassesOwn.never rfl (pi_range1 rfl T.no_range (pa_cons pe_int pa_nil)) (pg_name (i := 10) sc_Lwords.nd rfl (Or.inl rfl))
        (pss_cons (ps_set (i := 11) sc_Lwords.nd rfl (Or.inl rfl) (pe_lst pa_nil))
      (pss_cons (ps_for PassesOwn.never rfl (pi_range1 rfl T.no_range (pa_cons (pv 3) pa_nil)) (pg_name (i := 7) sc_Lwords.nd rfl (Or.inl rfl))
        (pss_one (ps_expr (pe_bm PySem.F.plainAttrs_list PySem.F.slot_list_append PySem.F.type_list_append (MtM.r mt_append) (pv 11) (pa_cons (pe_ix ix_str (pv 2) (pe_op op_mod (pe_op op_add (pe_ix ix_list (pv 6) (pv 7) (fun _ _ => rfl)) (pe_op op_mul (pe_op op_mul pe_int (pv 10)) (pe_callTy call_int1 rfl T.no_int bt_int (pa_cons (pe_cmpR op_eq (pv 7) (pv 4) (nomark _)) pa_nil)))) pe_int) (fun _ _ => rfl)) pa_nil)))))
      (pss_one (ps_expr (pe_bm PySem.F.plainAttrs_list PySem.F.slot_list_append PySem.F.type_list_append (MtM.r mt_append) (pv 9) (pa_cons (pe_bm PySem.F.plainAttrs_str PySem.F.slot_str_join PySem.F.type_str_join mt_join pe_str (pa_cons (pv 11) pa_nil)) pa_nil)))))))
      (pss_one (ps_ret (pv 9))))))))))), ?_⟩
    have sz : 2000 < sizeLine := le_ble rfl
    have abc : (Str.ofString "abcdefghijklmnopqrstuvwxyz").cps.toList.length = 26 := by decide +kernel
    have abl : ∀ c ∈ (Str.ofString "abcdefghijklmnopqrstuvwxyz").cps.toList, letter c = true := by decide +kernel
    have m0 := Int.emod_nonneg m (b := 12) (by decide)
    have m1 := Int.emod_lt_of_pos m (b := 12) (by decide)
    have c0 := Int.emod_nonneg m (b := 1000003) (by decide)
    have c1 := Int.emod_lt_of_pos m (b := 1000003) (by decide)
    walk_at "rd"
    refine ⟨fun σ' G' => H = G' ∧ ∃ at0 : Int, σ' = [some (.int m), some (.bl fr), some (.str (Str.ofString "abcdefghijklmnopqrstuvwxyz")), some (.int (1 + m % 12)), some (.int at0), none, none, none, none, none, none, none], ?_, ?_⟩
    · walk_at "rd"
      first | (refine ⟨by omega, ?_⟩; walk_at "rd") | skip
      first | exact ⟨rfl, _, rfl⟩ | exact ⟨_, rfl⟩
    rintro σ' G' ⟨rfl, at0, rfl⟩
    walk_at "rd"
    refine ⟨le_ble rfl, fun p hp => ?_⟩
    have s0 := Same.new (o := HO.lst []) hp
    have k0 := upd_same (H := H) (a := p) (o := .lst [])
    generalize upd H p (.lst []) = G0 at s0 k0 ⊢
    walk_at "rd"
    refine ⟨by omega, by omega, ?_⟩
    refine for_range (n := (1 + m % 12).toNat) (lo := 0) (fun j σ G => ∃ (ns : List Int) (lf : Int) (z7 z8 : Option V), σ = [some (.int m), some (.bl fr), some (.str (Str.ofString "abcdefghijklmnopqrstuvwxyz")), some (.int (1 + m % 12)), some (.int at0), some (.int lf), some (.ref p), z7, z8, none, none, none] ∧ ns.length = j ∧ Same H G ∧ G p = some (.lst (ns.map V.int))) ?_ ?_ ?_
    · exact ⟨[], _, _, _, rfl, rfl, s0, k0⟩
    · rintro j σ G hj ⟨ns, lf, z7, z8, rfl, hn, sG, hG⟩
      have hj' : (j : Int) < 12 := by omega
      have sq : (0 + (j : Int)) * (0 + (j : Int)) ≤ 12 * 12 := Int.mul_le_mul (by omega) (by omega) (by omega) (by omega)
      have sq0 : 0 ≤ (0 + (j : Int)) * (0 + (j : Int)) := Int.mul_nonneg (by omega) (by omega)
      have e3 : 7 * (0 + (j : Int)) * (0 + (j : Int)) = 7 * ((0 + (j : Int)) * (0 + (j : Int))) := Int.mul_assoc _ _ _
      refine ⟨fun σ' G' => G = G' ∧ ∃ num : Int, σ' = [some (.int m), some (.bl fr), some (.str (Str.ofString "abcdefghijklmnopqrstuvwxyz")), some (.int (1 + m % 12)), some (.int at0), some (.int lf), some (.ref p), some (.int (0 + (j : Int))), some (.int num), none, none, none], ?_, ?_⟩
      · walk_at "rd"
        refine ⟨.inl ⟨by omega, by omega⟩, ?_⟩
        walk_at "rd"
        refine ⟨.inl ⟨by omega, by omega⟩, ?_⟩
        walk_at "rd"
        first | exact ⟨rfl, _, rfl⟩ | exact ⟨_, rfl⟩
      rintro σ' G' ⟨rfl, num, rfl⟩
      refine ⟨fun σ' G' => G = G' ∧ ∃ lf num : Int, σ' = [some (.int m), some (.bl fr), some (.str (Str.ofString "abcdefghijklmnopqrstuvwxyz")), some (.int (1 + m % 12)), some (.int at0), some (.int lf), some (.ref p), some (.int (0 + (j : Int))), some (.int num), none, none, none], ?_, ?_⟩
      · walk_at "rd"
        cases fr with
        | true =>
          refine iteT ?_
          walk_at "rd"
          refine ite2 (fun _ => ?_) (fun _ => ?_)
          · walk_at "rd"
            first | done | exact ⟨rfl, _, _, rfl⟩ | exact ⟨_, _, rfl⟩ | exact ⟨_, rfl⟩
          · first | exact ⟨rfl, _, _, rfl⟩
        | false =>
          exact iteF (iteF ⟨rfl, _, _, rfl⟩)
      rintro σ' G' ⟨rfl, lf', num', rfl⟩
      walk_at "rd"
      refine ⟨.inl ⟨rfl, _, SqL.of hG⟩, ?_⟩
      walk_at "rd"
      refine ⟨p, _, _, rfl, rfl, hG, by rw [List.length_map]; omega, ?_⟩
      refine ⟨ns ++ [num'], _, _, _, rfl, by rw [List.length_append, hn]; rfl, same_put hp sG, ?_⟩
      rw [upd_same, List.map_append]
      rfl
    rintro σ G ⟨ns, lf, z7, z8, rfl, hn, sG, hG⟩
    refine ⟨le_ble rfl, fun l hl => ?_⟩
    have hlH := sG.free hl
    have np : p ≠ l := ne_of_none hG hl
    have s1 := sG.trans (Same.new (o := HO.lst []) hl)
    have k1 := upd_same (H := G) (a := l) (o := .lst [])
    have p1 := Same.new (o := HO.lst []) hl _ _ hG
    generalize upd G l (.lst []) = G1 at s1 k1 p1 ⊢
    walk_at "rd"
    refine ⟨by decide, by decide, ?_⟩
    refine for_range (n := 4) (lo := 0) (fun i σ G => ∃ (zs : List Str) (z7 z10 z11 : Option V), σ = [some (.int m), some (.bl fr), some (.str (Str.ofString "abcdefghijklmnopqrstuvwxyz")), some (.int (1 + m % 12)), some (.int at0), some (.int lf), some (.ref p), z7, z8, some (.ref l), z10, z11] ∧ zs.length = i ∧ (∀ z ∈ zs, isWord (.str z) = true) ∧ Same H G ∧ G p = some (.lst (ns.map V.int)) ∧ G l = some (.lst (zs.map V.str))) ?_ ?_ ?_
    · exact ⟨[], _, _, _, rfl, rfl, fun _ h => (nomatch h), s1, p1, k1⟩
    · rintro i σ G2 hi ⟨zs, z7', z10, z11, rfl, hz, hw, s2, p2, l2⟩
      walk_at "rd"
      refine ⟨le_ble rfl, fun q hq => ?_⟩
      have nq : p ≠ q := ne_of_none p2 hq
      have nl : l ≠ q := ne_of_none l2 hq
      have hqH := s2.free hq
      have s3 := s2.trans (Same.new (o := HO.lst []) hq)
      have k3 := upd_same (H := G2) (a := q) (o := .lst [])
      have p3 := Same.new (o := HO.lst []) hq _ _ p2
      have l3 := Same.new (o := HO.lst []) hq _ _ l2
      generalize upd G2 q (.lst []) = G3 at s3 k3 p3 l3 ⊢
      walk_at "rd"
      refine ⟨by omega, by omega, ?_⟩
      refine for_range (n := (1 + m % 12).toNat) (lo := 0) (fun j σ G => ∃ (ys : List Str) (z7 : Option V), σ = [some (.int m), some (.bl fr), some (.str (Str.ofString "abcdefghijklmnopqrstuvwxyz")), some (.int (1 + m % 12)), some (.int at0), some (.int lf), some (.ref p), z7, z8, some (.ref l), some (.int (0 + (i : Int))), some (.ref q)] ∧ ys.length = j ∧ (∀ y ∈ ys, y.length = 1 ∧ y.cps.toList.all letter = true) ∧ Same H G ∧ G p = some (.lst (ns.map V.int)) ∧ G l = some (.lst (zs.map V.str)) ∧ G q = some (.lst (ys.map V.str))) ?_ ?_ ?_
      · exact ⟨[], _, rfl, rfl, fun _ h => (nomatch h), s3, p3, l3, k3⟩
      · rintro j σ G4 hj ⟨ys, z7'', rfl, hy, hys, s4, p4, l4, q4⟩
        have hj' : (j : Int) < 12 := by omega
        walk_at "rd"
        refine ⟨.inl ⟨rfl, _, SqL.of q4⟩, ?_⟩
        walk_at "rd"
        obtain ⟨v, hv, hm⟩ := atI_in (xs := ns.map V.int) (i := 0 + (j : Int)) (by omega) (by rw [List.length_map]; omega)
        obtain ⟨num, _, rfl⟩ := List.mem_map.mp hm
        refine ⟨p, _, _, _, rfl, rfl, SqL.of p4, hv, ?_⟩
        walk_at "rd"
        refine .inr ⟨_, rfl, ?_⟩
        walk_at "rd"
        refine ⟨.inl ⟨by omega, by omega⟩, ?_⟩
        walk_at "rd"
        obtain ⟨bb, hbb⟩ : ∃ bb : Int, bb = (if decide (V.int (0 + (j : Int)) = V.int at0) = true then (1 : Int) else 0) := ⟨_, rfl⟩
        rw [← hbb]
        obtain ⟨ch, hv, hm⟩ := atI_in (xs := (Str.ofString "abcdefghijklmnopqrstuvwxyz").cps.toList) (i := (num + 5 * (0 + (i : Int)) * bb) % 26) (Int.emod_nonneg _ (by decide)) (by rw [abc]; exact Int.emod_lt_of_pos _ (by decide))
        refine ⟨_, _, ch, rfl, rfl, le_ble rfl, hv, ?_⟩
        refine ⟨q, _, _, rfl, rfl, q4, by rw [List.length_map]; omega, ?_⟩
        refine ⟨ys ++ [⟨#[ch]⟩], _, rfl, by rw [List.length_append, hy]; rfl, fun y hy => ?_, same_put hqH s4, by rw [upd_ne nq]; exact p4, by rw [upd_ne nl]; exact l4, by rw [upd_same, List.map_append]; rfl⟩
        rcases List.mem_append.mp hy with e | e
        · exact hys y e
        · rw [List.mem_singleton.mp e]
          refine ⟨rfl, ?_⟩
          show [ch].all letter = true
          rw [List.all_cons, abl ch hm]
          rfl
      · rintro σ G4 ⟨ys, z7'', rfl, hy, hys, s4, p4, l4, q4⟩
        have su := ones_sum ys hys
        walk_at "rd"
        refine ⟨.inl ⟨rfl, _, SqL.of l4⟩, ?_⟩
        walk_at "rd"
        refine ⟨_, q, ys, rfl, rfl, SqL.of q4, le_ble (by decide +kernel), by omega, ?_⟩
        refine ⟨l, _, _, rfl, rfl, l4, by rw [List.length_map]; omega, ?_⟩
        refine ⟨zs ++ [Txt.join (Str.ofString "") ys], _, _, _, rfl, by rw [List.length_append, hz]; rfl, fun y hy' => ?_, same_put hlH s4, by rw [upd_ne np]; exact p4, by rw [upd_same, List.map_append]; rfl⟩
        rcases List.mem_append.mp hy' with e | e
        · exact hw y e
        · rw [List.mem_singleton.mp e]
          exact join_word hys (by omega) (by omega)
    · rintro σ G ⟨zs, z7', z10, z11, rfl, hz, hw, s2, p2, l2⟩
      exact ⟨_, rfl, k zs l G hz hw s2 hlH l2⟩
set_option maxHeartbeats 4000000 in
theorem ok_Lstamp (T : Txt w K mg c) : FnOk P w K mg base CX0 1 c.a_Lstamp c.d_Lstamp ["_law_book_here", "_law_one", "_law_other"] (spStamp) := by
  refine T.Lstamp.fn.ok sc_Lstamp (fun vs H Q E h => ?_) (fun cdv A outer s H vs Q E hr h => ?_)
  · obtain ⟨l, ws, es, x, y, rfl, _⟩ := h
    rfl
  · obtain ⟨l, ws, es, x, y, rfl, hL, hR, hB, h84, dx, dy, k⟩ := h
    refine ⟨_, (pss_cons (ps_set (i := 3) sc_Lstamp.nd rfl (Or.inl rfl) (pe_op op_add pe_int (pe_op op_mod (pv 1) pe_int)))
      (pss_cons (ps_set (i := 4) sc_Lstamp.nd rfl (Or.inl rfl) (pe_op op_add pe_int (pe_op op_mod (pv 2) pe_int)))
      (pss_cut (ps_if (pt_cmpR op_eq (pe_op op_mod (pe_op op_fdiv (pv 1) pe_int) pe_int) pe_int (nomark _))
        (pss_one (ps_set (i := 4) sc_Lstamp.nd rfl (Or.inl rfl) (pe_op op_add pe_int (pe_op op_mod (pv 2) pe_int))))
        pss_nil)
      (pss_cut (ps_if (pt_cmpR (op_neD (hu62 hr)) (pv 0) (pe_lst pa_nil) (nomark _))
        (pss_cut (ps_set (i := 3) sc_Lstamp.nd rfl (Or.inl rfl) (pe_op op_add (pe_ix ix_list (pe_ix ix_list (pv 0) (pe_un un_neg pe_int) (fun _ _ => rfl)) pe_int (fun _ _ => rfl)) (pe_ix ix_list (pe_lst (pa_cons pe_int (pa_cons pe_int (pa_cons pe_int (pa_cons (pe_op op_mod (pe_op op_fdiv (pv 1) pe_int) pe_int) pa_nil))))) (pe_op op_mod (pe_op op_fdiv (pv 1) pe_int) pe_int) (fun _ _ => rfl))))
      (pss_one (ps_if (PW.pt (pw_and (pt_cmpR op_eq (pv 3) (pe_ix ix_list (pe_ix ix_list (pv 0) (pe_un un_neg pe_int) (fun _ _ => rfl)) pe_int (fun _ _ => rfl)) (nomark _)) (pw_and1 (pt_cmpR op_le (pv 4) (pe_ix ix_list (pe_ix ix_list (pv 0) (pe_un un_neg pe_int) (fun _ _ => rfl)) pe_int (fun _ _ => rfl)) (nomark _)))))
        (pss_one (ps_set (i := 4) sc_Lstamp.nd rfl (Or.inl rfl) (pe_op op_add (pe_op op_add (pe_ix ix_list (pe_ix ix_list (pv 0) (pe_un un_neg pe_int) (fun _ _ => rfl)) pe_int (fun _ _ => rfl)) pe_int) (pe_op op_mod (pv 2) pe_int))))
        pss_nil)))
        pss_nil)
      (pss_cut (ps_while PassesOwn.never (pt_cmpR op_in_seq (pv 4) (pe_comp (N' := ["_law_there"]) (js := [none]) rfl rfl (by decide +kernel) (by decide +kernel) (free_nil (by decide +kernel)) (cap_nil rfl rfl) (pi_list (pv 0)) (fun B => ⟨(pg_name (i := 0) (show List.Nodup (["_law_there"] : List Str) by decide +kernel) rfl (Or.inl rfl)), pifs_nil, (pe_ix ix_list (pv 0) pe_int (fun _ _ => rfl))⟩)) (by with_unfolding_all rfl))
        (pss_one (ps_set (i := 4) sc_Lstamp.nd rfl (Or.inl rfl) (pe_op op_add (pv 4) pe_int))))
      (pss_one (ps_ret (pe_tup (pa_cons (pv 4) (pa_cons (pv 3) pa_nil)))))))))), ?_⟩
    have sz : 2000 < sizeLine := le_ble rfl
    have lw := hR.1
    have a0 := Int.emod_nonneg x (b := 5) (by decide)
    have a1 := Int.emod_lt_of_pos x (b := 5) (by decide)
    have b0 := Int.emod_nonneg y (b := 999000000) (by decide)
    have b1 := Int.emod_lt_of_pos y (b := 999000000) (by decide)
    have c0 := Int.emod_nonneg y (b := 100) (by decide)
    have c1 := Int.emod_lt_of_pos y (b := 100) (by decide)
    have e0 := Int.emod_nonneg y (b := 1000) (by decide)
    have e1 := Int.emod_lt_of_pos y (b := 1000) (by decide)
    walk_at "rd"
    refine ⟨fun σ' G' => H = G' ∧ ∃ num : Int, σ' = [some (.ref l), some (.int x), some (.int y), some (.int (1 + x % 5)), some (.int num)] ∧ 1 ≤ num ∧ num ≤ 999000000, ?_, ?_⟩
    · walk_at "rd"
      refine ite2 (fun _ => ?_) (fun _ => ?_)
      · walk_at "rd"
        exact ⟨by omega, by omega⟩
      · exact ⟨rfl, _, rfl, by omega, by omega⟩
    rintro σ' G' ⟨rfl, num, rfl, n0, n1⟩
    refine ⟨fun σ' G' => Same H G' ∧ ∃ day num : Int, σ' = [some (.ref l), some (.int x), some (.int y), some (.int day), some (.int num)] ∧ 1 ≤ num ∧ num ≤ 999000000 + 2000 * (es.length : Int) + 1001 ∧ 1 ≤ day ∧ day ≤ 9000 * ((es.length : Int) + 1) ∧ (∀ e, lastW none es = some e → e.d < day ∨ e.d = day ∧ e.n < num), ?_, ?_⟩
    · refine ⟨_, rfl, le_ble rfl, fun q0 hq0 => ?_⟩
      have t0 := Same.new (o := HO.lst []) hq0
      have hL0 := t0 _ _ hL
      have hR0 := hR.same t0
      refine ⟨0, _, by decide, seqNil (SqL.of hL0) (SqL.of upd_same), _, rfl, ?_⟩
      generalize upd H q0 (.lst []) = G4 at t0 hL0 hR0 ⊢
      refine iteB (fun he => ?_) (fun he => ?_)
      · have wne : ws ≠ [] := fun z => by rw [z] at he; exact absurd he (by decide)
        obtain ⟨e, ra, le, em, hat, hra⟩ := hR0.last wne
        have en := hB.nn e em
        have ed := hB.dd e em
        have f0 : atI (rowB e) 0 = some (.int e.n) := atI_nat (j := 0) rfl
        have f1 : atI (rowB e) 1 = some (.int e.d) := atI_nat (j := 1) rfl
        refine ⟨fun σ' G' => Same G4 G' ∧ ∃ day : Int, σ' = [some (.ref l), some (.int x), some (.int y), some (.int day), some (.int num)] ∧ e.d ≤ day ∧ day ≤ e.d + 8999, ?_, ?_⟩
        · walk_at "rd"
          refine ⟨l, _, _, _, rfl, rfl, SqL.of hL0, hat, ?_⟩
          walk_at "rd"
          refine ⟨ra, _, _, _, rfl, rfl, SqL.of hra, f1, ?_⟩
          walk_at "rd"
          refine ⟨le_ble rfl, fun q1 hq1 => ?_⟩
          walk_at "rd"
          obtain ⟨sv, hsv, hsm⟩ := atI_in (xs := [V.int 0, V.int 0, V.int 1, V.int (x / 60 % 9000)]) (i := x / 15 % 4) (Int.emod_nonneg _ (by decide)) (by show _ < (4 : Int); exact Int.emod_lt_of_pos _ (by decide))
          obtain ⟨st, rfl, st0, st1⟩ : ∃ st : Int, sv = .int st ∧ 0 ≤ st ∧ st < 9000 := by
            have b0 := Int.emod_nonneg (x / 60) (b := 9000) (by decide)
            have b1 := Int.emod_lt_of_pos (x / 60) (b := 9000) (by decide)
            simp only [List.mem_cons, List.not_mem_nil, or_false] at hsm
            rcases hsm with rfl | rfl | rfl | rfl
            · exact ⟨_, rfl, by decide, by decide⟩
            · exact ⟨_, rfl, by decide, by decide⟩
            · exact ⟨_, rfl, by decide, by decide⟩
            · exact ⟨_, rfl, b0, b1⟩
          exact ⟨q1, _, _, _, rfl, rfl, SqL.of upd_same, hsv, _, _, rfl, rfl, Same.new hq1, _, rfl, by omega, by omega⟩
        rintro σ' G5 ⟨t5, day, rfl, d0, d1⟩
        have t45 := t0.trans t5
        have hL5 := t5 _ _ hL0
        have hra5 := t5 _ _ hra
        have fin : ∀ num' : Int, (e.d < day ∨ e.d = day ∧ e.n < num') → ∀ e', lastW none es = some e' → e'.d < day ∨ e'.d = day ∧ e'.n < num' := fun num' h e' q => by
          rw [le] at q
          cases q
          exact h
        walk_at "rd"
        refine ⟨l, _, _, _, rfl, rfl, SqL.of hL5, hat, ?_⟩
        walk_at "rd"
        refine ⟨ra, _, _, _, rfl, rfl, SqL.of hra5, f1, ?_⟩
        walk_at "rd"
        refine ite2 (fun z => ?_) (fun z => ?_)
        · have z : day = e.d := V.int.inj (of_decide_eq_true z)
          walk_at "rd"
          refine ⟨l, _, _, _, rfl, rfl, SqL.of hL5, hat, ?_⟩
          walk_at "rd"
          refine ⟨ra, _, _, _, rfl, rfl, SqL.of hra5, f0, ?_⟩
          walk_at "rd"
          refine ite2 (fun z2 => ?_) (fun z2 => ?_)
          · have z2 : num ≤ e.n := of_decide_eq_true z2
            walk_at "rd"
            refine ⟨l, _, _, _, rfl, rfl, SqL.of hL5, hat, ?_⟩
            walk_at "rd"
            refine ⟨ra, _, _, _, rfl, rfl, SqL.of hra5, f0, ?_⟩
            walk_at "rd"
            exact ⟨t45, _, _, rfl, by omega, by omega, by omega, by omega, fin _ (.inr ⟨z.symm, by omega⟩)⟩
          · have z2 : ¬ num ≤ e.n := fun q => z2 (decide_eq_true q)
            exact ⟨t45, _, _, rfl, by omega, by omega, by omega, by omega, fin _ (.inr ⟨z.symm, by omega⟩)⟩
        · have z : ¬ day = e.d := fun q => z (decide_eq_true (congrArg V.int q))
          exact iteF ⟨t45, _, _, rfl, by omega, by omega, by omega, by omega, fin _ (.inl (by omega))⟩
      · have wn : ws = [] := by
          cases ws with
          | nil => rfl
          | cons _ _ => cases he
        have en : es = [] := List.eq_nil_of_length_eq_zero (by rw [← lw, wn]; rfl)
        refine ⟨t0, _, _, rfl, by omega, by omega, by omega, by omega, fun e q => ?_⟩
        rw [en] at q
        cases q
    rintro σ' G1 ⟨s1, day, num, rfl, n0, n1, d0, d1, la⟩
    refine ⟨fun σ' G' => Same H G' ∧ ∃ num' : Int, σ' = [some (.ref l), some (.int x), some (.int y), some (.int day), some (.int num')] ∧ num ≤ num' ∧ num' ≤ 999000000 + 2000 * (es.length : Int) + 1001 ∧ (∀ e ∈ es, e.n ≠ num'), ?_, ?_⟩
    · refine ⟨fun m σ' G' => Same H G' ∧ ∃ num' : Int, σ' = [some (.ref l), some (.int x), some (.int y), some (.int day), some (.int num')] ∧ num ≤ num' ∧ num' ≤ 999000000 + 2000 * (es.length : Int) + 1001 ∧ m = (10000000000 - num').toNat, ⟨_, s1, num, rfl, Int.le_refl _, n1, rfl⟩, ?_⟩
      rintro m σ' G2 ⟨s2, num', rfl, m0, m1, rfl⟩
      have hL2 := s2 _ _ hL
      have hR2 := hR.same s2
      refine ⟨_, rfl, _, rfl, l, rfl, ⟨_, SqL.of hL2⟩, fun q B hq => ?_⟩
      refine loop_lst (xs := ws) (fun i σ acc G => (∃ o, σ = [o]) ∧ Same G2 G ∧ G q = some (.lst acc) ∧ acc = ((es.take i).map (·.n)).map V.int) (by omega) ?_ ?_ ?_ ?_
      · exact ⟨⟨_, rfl⟩, Same.new hq, upd_same, rfl⟩
      · rintro i σ acc G hi ⟨_, sG, h1, rfl⟩
        exact ⟨h1, SqL.of (sG _ _ hL2), by rw [List.length_map, List.length_map, List.length_take]; omega⟩
      · rintro i v σ acc G hx ⟨⟨o, rfl⟩, sG, h1, rfl⟩
        have hi : i < ws.length := (List.getElem?_eq_some_iff.mp hx).1
        have hie : i < es.length := by omega
        have ee : es[i]? = some es[i] := List.getElem?_eq_getElem hie
        obtain ⟨ra, rfl, hrow⟩ := hR2.2 i v _ hx ee
        have f0 : atI (rowB es[i]) 0 = some (.int es[i].n) := atI_nat (j := 0) rfl
        have hrow := sG _ _ hrow
        refine ⟨_, rfl, ra, _, _, _, rfl, rfl, SqL.of hrow, f0, h1, Nx.mk hi ⟨⟨_, rfl⟩, same_put hq sG, upd_same, ?_⟩⟩
        rw [take_one ee, List.map_append, List.map_append]
        rfl
      · rintro σ acc G ⟨_, sG, h1, rfl⟩
        rw [lw, List.take_of_length_le (Nat.le_refl _)] at h1
        refine ⟨q, _, rfl, .inl (SqL.of h1), rfl, flatI _, _, rfl, ?_⟩
        refine iteB (fun z => ?_) (fun z => ?_)
        · obtain ⟨e, he, en⟩ := List.mem_map.mp (inV_ints.mp z)
          have en2 := (hB.nn e he).2
          refine ⟨fun σ' G' => G = G' ∧ σ' = [some (.ref l), some (.int x), some (.int y), some (.int day), some (.int (num' + 1))], fun σ' G' h => ⟨(10000000000 - (num' + 1)).toNat, by omega, h.1 ▸ s2.trans sG, num' + 1, h.2, by omega, by omega, rfl⟩, ?_⟩
          walk_at "rd"
          first | done | exact rfl | exact ⟨rfl, rfl⟩
        · refine ⟨s2.trans sG, num', rfl, m0, m1, fun e he en => ?_⟩
          have : inV (.int num') ((es.map (·.n)).map V.int) = true := inV_ints.mpr (en ▸ List.mem_map_of_mem (f := fun x : En => x.n) he)
          rw [show inV (.int num') ((es.map (·.n)).map V.int) = false from z] at this
          cases this
    rintro σ' G2 ⟨s2, num', rfl, m0, m1, m2⟩
    refine ⟨_, rfl, _, rfl, le_ble rfl, fun t ht => ?_⟩
    refine k num' day t _ (s2.trans (Same.new ht)) upd_same m2 (by omega) (by omega) d0 d1 fun e q => ?_
    rcases la e q with h | h
    · exact .inl h
    · exact .inr ⟨h.1, by omega⟩
set_option maxHeartbeats 4000000 in
theorem ok_Lpick (T : Txt w K mg c) : FnOk P w K mg base CX0 1 c.a_Lpick c.d_Lpick ["_law_book_here", "_law_rank", "_law_one", "_law_other"] (spPick) := by
  refine T.Lpick.fn.ok sc_Lpick (fun vs H Q E h => ?_) (fun cdv A outer s H vs Q E hr h => ?_)
  · obtain ⟨l, ws, es, rk, x, y, rfl, _⟩ := h
    rfl
  · obtain ⟨l, ws, es, rk, x, y, rfl, hL, hR, hB, ne, k⟩ := h
    refine ⟨_, (pss_cut (ps_setComp (i := 4) sc_Lpick.nd rfl rfl (N' := ["_law_there", "_law_rank"]) (js := [none, some 1]) rfl rfl (by decide +kernel) (by decide +kernel) (free_of ["_law_rank"] (by decide +kernel) (fm_cons (.inl rfl) fm_nil)) (cap_of rfl (fm_cons (fun j e => nomatch e) (fm_cons (fun j e => by cases e; exact ⟨rfl, rfl, .inl rfl⟩) fm_nil))) (pi_list (pv 0)) (fun B => ⟨(pg_name (i := 0) (show List.Nodup (["_law_there", "_law_rank"] : List Str) by decide +kernel) rfl (Or.inl rfl)), (pifs_one (PW.pt (pw_and (pt_cmpR op_eq (pe_ix ix_list (pv 0) pe_int (fun _ _ => rfl)) (pv 1) (nomark _)) (pw_and1 (pt_cmp (pc_isN (pe_ix ix_list (pv 0) pe_int (fun _ _ => rfl)))))))), (pv 0)⟩))
      (pss_cut (ps_if (PW.pt (pw_or (pt_cmpR (op_eqD (hu62 hr)) (pv 4) (pe_lst pa_nil) (nomark _)) (pw_or1 (pt_cmpR op_eq (pe_op op_mod (pv 2) pe_int) pe_int (nomark _)))))
        (pss_one (ps_set (i := 4) sc_Lpick.nd rfl (Or.inl rfl) (pv 0)))
        pss_nil)
      (pss_cons (ps_if (pt_cmpR op_eq (pe_op op_mod (pe_op op_fdiv (pv 2) pe_int) pe_int) pe_int (nomark _))
        (pss_one (ps_ret (pe_op op_add pe_int (pe_op op_mod (pv 3) (pe_op op_pow pe_int pe_int)))))
        pss_nil)
      (pss_one (ps_ret (pe_ix ix_list (pe_ix ix_list (pv 4) (pe_op op_mod (pv 3) (pe_callB call_len_seq rfl T.no_len bt_len (pa_cons (pv 4) pa_nil))) (fun _ _ => rfl)) pe_int (fun _ _ => rfl))))))), ?_⟩
    have sz : 2000 < sizeLine := le_ble rfl
    have lw := hR.1
    have l84 := hB.le
    refine ⟨fun σ' G' => Same H G' ∧ ∃ q acc, σ' = [some (.ref l), some (.str rk), some (.int x), some (.int y), some (.ref q)] ∧ G' q = some (.lst acc) ∧ Some G' es acc, ?_, ?_⟩
    · refine ⟨_, rfl, l, rfl, ⟨_, SqL.of hL⟩, fun q B hq => ?_⟩
      refine loop_lst (xs := ws) (fun i σ acc G => (∃ o, σ = [o, some (.str rk)]) ∧ Same H G ∧ G q = some (.lst acc) ∧ acc.length ≤ i ∧ ∀ v ∈ acc, ∃ e ∈ es, RowB H v e) (by omega) ?_ ?_ ?_ ?_
      · exact ⟨⟨_, rfl⟩, Same.new hq, upd_same, Nat.zero_le _, fun _ h => nomatch h⟩
      · rintro i σ acc G hi ⟨_, sG, h1, h2, _⟩
        exact ⟨h1, SqL.of (sG _ _ hL), by omega⟩
      · rintro i v σ acc G hx ⟨⟨o, rfl⟩, sG, h1, h2, h3⟩
        have hi : i < ws.length := (List.getElem?_eq_some_iff.mp hx).1
        have hie : i < es.length := by omega
        have ee : es[i]? = some es[i] := List.getElem?_eq_getElem hie
        have hrw := hR.2 i v _ hx ee
        obtain ⟨ra, rfl, hrow⟩ := hR.2 i v _ hx ee
        have em := List.getElem_mem hie
        generalize es[i] = e at hrow em hrw
        have f2 : atI (rowB e) 2 = some (.str e.r) := atI_nat (j := 2) rfl
        have f6 : atI (rowB e) 6 = some (optV e.b) := atI_nat (j := 6) rfl
        have hrow := sG _ _ hrow
        have no : Nx ws.length i ((∃ o', [some (V.ref ra), some (V.str rk)] = [o', some (V.str rk)]) ∧ Same H G ∧ G q = some (.lst acc) ∧ acc.length ≤ i + 1 ∧ ∀ v ∈ acc, ∃ e ∈ es, RowB H v e) := Nx.mk hi ⟨⟨_, rfl⟩, sG, h1, by omega, h3⟩
        walk_at "rd"
        refine ⟨ra, _, _, _, rfl, rfl, SqL.of hrow, f2, ?_⟩
        walk_at "rd"
        refine ite2 (fun _ => ?_) (fun _ => iteF no)
        walk_at "rd"
        refine ⟨ra, _, _, _, rfl, rfl, SqL.of hrow, f6, ?_⟩
        walk_at "rd"
        refine iteB (fun _ => ?_) (fun _ => no)
        refine ⟨_, rfl, h1, Nx.mk hi ⟨⟨_, rfl⟩, same_put hq sG, upd_same, by rw [List.length_append]; exact Nat.add_le_add_right h2 1, fun v hv => ?_⟩⟩
        rcases List.mem_append.mp hv with z | z
        · exact h3 v z
        · rw [List.mem_singleton.mp z]; exact ⟨e, em, hrw⟩
      · rintro σ acc G ⟨_, sG, h1, h2, h3⟩
        exact ⟨sG, q, acc, rfl, h1, by omega, fun v hv => let ⟨e, he, hr⟩ := h3 v hv; ⟨e, he, hr.same sG⟩⟩
    rintro σ' G1 ⟨s1, q, acc, rfl, hq, hS⟩
    refine ⟨fun σ' G' => Same H G' ∧ ∃ q acc, σ' = [some (.ref l), some (.str rk), some (.int x), some (.int y), some (.ref q)] ∧ G' q = some (.lst acc) ∧ Some G' es acc ∧ acc ≠ [], ?_, ?_⟩
    · refine ⟨_, rfl, le_ble rfl, fun q0 hq0 => ?_⟩
      have t0 := Same.new (o := HO.lst []) hq0
      have hq1 := t0 _ _ hq
      have hS1 := hS.same t0
      have hL1 := (s1.trans t0) _ _ hL
      have hR1 := hR.same (s1.trans t0)
      refine ⟨0, _, by decide, seqNil (SqL.of hq1) (SqL.of upd_same), _, rfl, ?_⟩
      generalize upd G1 q0 (.lst []) = G4 at t0 hq1 hS1 hL1 hR1 ⊢
      have wne : ws ≠ [] := fun z => ne (List.eq_nil_of_length_eq_zero (by rw [← lw, z]; rfl))
      refine iteB (fun _ => iteT ?_) (fun he => ?_)
      · exact ⟨_, rfl, s1.trans t0, l, ws, rfl, hL1, hR1.some, wne⟩
      · have ane : acc ≠ [] := fun z => by rw [z] at he; cases he
        walk_at "rd"
        refine ite2 (fun _ => ?_) (fun _ => ?_)
        · exact ⟨_, rfl, s1.trans t0, l, ws, rfl, hL1, hR1.some, wne⟩
        · exact ⟨s1.trans t0, q, acc, rfl, hq1, hS1, ane⟩
    clear hq hS s1
    rintro σ' G2 ⟨s2, q, acc, rfl, hq, hS, ane⟩
    have ap : 0 < acc.length := List.length_pos_iff.mpr ane
    obtain ⟨v, hv, hm⟩ := atI_in (xs := acc) (i := y % (acc.length : Int)) (Int.emod_nonneg _ (by omega)) (Int.emod_lt_of_pos _ (by omega))
    obtain ⟨e, he, hr⟩ := hS.2 v hm
    have n9 := hB.nn e he
    obtain ⟨ra, rfl, hrow⟩ := hr
    have f0 : atI (rowB e) 0 = some (.int e.n) := atI_nat (j := 0) rfl
    walk_at "rd"
    refine ite2 (fun _ => ?_) (fun _ => ?_)
    · walk_at "rd"
      refine k _ G2 s2 ?_ ?_
      · have := Int.emod_nonneg y (b := 1000000000) (by decide)
        show 1 ≤ 1 + y % 1000000000
        omega
      · have := Int.emod_lt_of_pos y (b := 1000000000) (by decide)
        show 1 + y % 1000000000 ≤ 1000000000
        omega
    · walk_at "rd"
      refine ⟨q, _, rfl, .inl (SqL.of hq), ?_⟩
      walk_at "rd"
      refine ⟨by show (0 : Int) < acc.length; omega, ?_⟩
      refine ⟨q, _, _, _, rfl, rfl, SqL.of hq, hv, ?_⟩
      walk_at "rd"
      exact ⟨ra, _, _, _, rfl, rfl, SqL.of hrow, f0, k _ G2 s2 (by omega) (by omega)⟩
set_option maxHeartbeats 4000000 in
theorem ok_Lbase (T : Txt w K mg c) : FnOk P w K mg base CX0 1 c.a_Lbase c.d_Lbase ["_law_book_here", "_law_rank", "_law_one", "_law_other"] (spBaseB) := by
  refine T.Lbase.fn.ok sc_Lbase (fun vs H Q E h => ?_) (fun cdv A outer s H vs Q E hr h => ?_)
  · obtain ⟨l, ws, es, rk, x, y, rfl, _⟩ := h
    rfl
  · obtain ⟨l, ws, es, rk, x, y, rfl, hL, hR, hB, ne, k⟩ := h
    refine ⟨_, (pss_cut (ps_setComp (i := 4) sc_Lbase.nd rfl rfl (N' := ["_law_there", "_law_rank"]) (js := [none, some 1]) rfl rfl (by decide +kernel) (by decide +kernel) (free_of ["_law_rank"] (by decide +kernel) (fm_cons (.inl rfl) fm_nil)) (cap_of rfl (fm_cons (fun j e => nomatch e) (fm_cons (fun j e => by cases e; exact ⟨rfl, rfl, .inl rfl⟩) fm_nil))) (pi_list (pv 0)) (fun B => ⟨(pg_name (i := 0) (show List.Nodup (["_law_there", "_law_rank"] : List Str) by decide +kernel) rfl (Or.inl rfl)), (pifs_one (PW.pt (pw_and (pt_cmpR op_eq (pe_ix ix_list (pv 0) pe_int (fun _ _ => rfl)) (pv 1) (nomark _)) (pw_and1 (pt_cmp (pc_isN (pe_ix ix_list (pv 0) pe_int (fun _ _ => rfl)))))))), (pv 0)⟩))
      (pss_cut (ps_if (PW.pt (pw_or (pt_cmpR (op_eqD (hu62 hr)) (pv 4) (pe_lst pa_nil) (nomark _)) (pw_or1 (pt_cmpR op_eq (pe_op op_mod (pv 2) pe_int) pe_int (nomark _)))))
        (pss_one (ps_set (i := 4) sc_Lbase.nd rfl (Or.inl rfl) (pv 0)))
        pss_nil)
      (pss_one (ps_ret (pe_ix ix_list (pv 4) (pe_op op_mod (pv 3) (pe_callB call_len_seq rfl T.no_len bt_len (pa_cons (pv 4) pa_nil))) (fun _ _ => rfl)))))), ?_⟩
    have sz : 2000 < sizeLine := le_ble rfl
    have lw := hR.1
    have l84 := hB.le
    refine ⟨fun σ' G' => Same H G' ∧ ∃ q acc, σ' = [some (.ref l), some (.str rk), some (.int x), some (.int y), some (.ref q)] ∧ G' q = some (.lst acc) ∧ Some G' es acc, ?_, ?_⟩
    · refine ⟨_, rfl, l, rfl, ⟨_, SqL.of hL⟩, fun q B hq => ?_⟩
      refine loop_lst (xs := ws) (fun i σ acc G => (∃ o, σ = [o, some (.str rk)]) ∧ Same H G ∧ G q = some (.lst acc) ∧ acc.length ≤ i ∧ ∀ v ∈ acc, ∃ e ∈ es, RowB H v e) (by omega) ?_ ?_ ?_ ?_
      · exact ⟨⟨_, rfl⟩, Same.new hq, upd_same, Nat.zero_le _, fun _ h => nomatch h⟩
      · rintro i σ acc G hi ⟨_, sG, h1, h2, _⟩
        exact ⟨h1, SqL.of (sG _ _ hL), by omega⟩
      · rintro i v σ acc G hx ⟨⟨o, rfl⟩, sG, h1, h2, h3⟩
        have hi : i < ws.length := (List.getElem?_eq_some_iff.mp hx).1
        have hie : i < es.length := by omega
        have ee : es[i]? = some es[i] := List.getElem?_eq_getElem hie
        have hrw := hR.2 i v _ hx ee
        obtain ⟨ra, rfl, hrow⟩ := hR.2 i v _ hx ee
        have em := List.getElem_mem hie
        generalize es[i] = e at hrow em hrw
        have f2 : atI (rowB e) 2 = some (.str e.r) := atI_nat (j := 2) rfl
        have f6 : atI (rowB e) 6 = some (optV e.b) := atI_nat (j := 6) rfl
        have hrow := sG _ _ hrow
        have no : Nx ws.length i ((∃ o', [some (V.ref ra), some (V.str rk)] = [o', some (V.str rk)]) ∧ Same H G ∧ G q = some (.lst acc) ∧ acc.length ≤ i + 1 ∧ ∀ v ∈ acc, ∃ e ∈ es, RowB H v e) := Nx.mk hi ⟨⟨_, rfl⟩, sG, h1, by omega, h3⟩
        walk_at "rd"
        refine ⟨ra, _, _, _, rfl, rfl, SqL.of hrow, f2, ?_⟩
        walk_at "rd"
        refine ite2 (fun _ => ?_) (fun _ => iteF no)
        walk_at "rd"
        refine ⟨ra, _, _, _, rfl, rfl, SqL.of hrow, f6, ?_⟩
        walk_at "rd"
        refine iteB (fun _ => ?_) (fun _ => no)
        refine ⟨_, rfl, h1, Nx.mk hi ⟨⟨_, rfl⟩, same_put hq sG, upd_same, by rw [List.length_append]; exact Nat.add_le_add_right h2 1, fun v hv => ?_⟩⟩
        rcases List.mem_append.mp hv with z | z
        · exact h3 v z
        · rw [List.mem_singleton.mp z]; exact ⟨e, em, hrw⟩
      · rintro σ acc G ⟨_, sG, h1, h2, h3⟩
        exact ⟨sG, q, acc, rfl, h1, by omega, fun v hv => let ⟨e, he, hr⟩ := h3 v hv; ⟨e, he, hr.same sG⟩⟩
    rintro σ' G1 ⟨s1, q, acc, rfl, hq, hS⟩
    refine ⟨fun σ' G' => Same H G' ∧ ∃ q acc, σ' = [some (.ref l), some (.str rk), some (.int x), some (.int y), some (.ref q)] ∧ G' q = some (.lst acc) ∧ Some G' es acc ∧ acc ≠ [], ?_, ?_⟩
    · refine ⟨_, rfl, le_ble rfl, fun q0 hq0 => ?_⟩
      have t0 := Same.new (o := HO.lst []) hq0
      have hq1 := t0 _ _ hq
      have hS1 := hS.same t0
      have hL1 := (s1.trans t0) _ _ hL
      have hR1 := hR.same (s1.trans t0)
      refine ⟨0, _, by decide, seqNil (SqL.of hq1) (SqL.of upd_same), _, rfl, ?_⟩
      generalize upd G1 q0 (.lst []) = G4 at t0 hq1 hS1 hL1 hR1 ⊢
      have wne : ws ≠ [] := fun z => ne (List.eq_nil_of_length_eq_zero (by rw [← lw, z]; rfl))
      refine iteB (fun _ => iteT ?_) (fun he => ?_)
      · exact ⟨_, rfl, s1.trans t0, l, ws, rfl, hL1, hR1.some, wne⟩
      · have ane : acc ≠ [] := fun z => by rw [z] at he; cases he
        walk_at "rd"
        refine ite2 (fun _ => ?_) (fun _ => ?_)
        · exact ⟨_, rfl, s1.trans t0, l, ws, rfl, hL1, hR1.some, wne⟩
        · exact ⟨s1.trans t0, q, acc, rfl, hq1, hS1, ane⟩
    clear hq hS s1
    rintro σ' G2 ⟨s2, q, acc, rfl, hq, hS, ane⟩
    have ap : 0 < acc.length := List.length_pos_iff.mpr ane
    obtain ⟨v, hv, hm⟩ := atI_in (xs := acc) (i := y % (acc.length : Int)) (Int.emod_nonneg _ (by omega)) (Int.emod_lt_of_pos _ (by omega))
    obtain ⟨e, he, hr⟩ := hS.2 v hm
    walk_at "rd"
    refine ⟨q, _, rfl, .inl (SqL.of hq), ?_⟩
    walk_at "rd"
    refine ⟨by show (0 : Int) < acc.length; omega, ?_⟩
    exact ⟨q, _, _, _, rfl, rfl, SqL.of hq, hv, k v e G2 s2 he hr⟩
set_option maxHeartbeats 4000000 in
theorem ok_Lcell_at (T : Txt w K mg c) : FnOk P w K mg base CX0 1 c.a_Lcell_at c.d_Lcell_at ["_law_script", "_law_k"] (spCell K) := by
  refine T.Lcell_at.fn.ok sc_Lcell_at (fun vs H Q E h => ?_) (fun cdv A outer s H vs Q E hr h => ?_)
  · obtain ⟨a, i, ns, rfl, _⟩ := h
    rfl
  · obtain ⟨a, i, ns, rfl, h0, hS, k⟩ := h
    refine ⟨_, (pss_cons (ps_if (pt_cmpR op_lt (pv 1) (pe_callB call_len_seq rfl T.no_len bt_len (pa_cons (pv 0) pa_nil)) (nomark _))
        (pss_one (ps_ret (pe_ix ix_list (pv 0) (pv 1) (fun _ _ => rfl))))
        pss_nil)
      (pss_one (ps_ret pe_int))), ?_⟩
    refine ⟨_, rfl, _, rfl, a, _, rfl, .inl hS, _, _, rfl, rfl, _, rfl, ?_⟩
    refine ite2 (fun hl => ?_) (fun _ => k 0)
    obtain ⟨v, hv, hm⟩ := atI_in (xs := ns.map V.int) h0 (of_decide_eq_true hl)
    obtain ⟨z, _, rfl⟩ := List.mem_map.mp hm
    exact ⟨_, rfl, _, rfl, a, _, i, _, rfl, rfl, hS, hv, k z⟩
set_option maxHeartbeats 4000000 in
theorem ok_Lentry (T : Txt w K mg c) : FnOk P w K mg base CX0 3 c.a_Lentry c.d_Lentry ["_law_book_here", "_law_words_here", "_law_cell", "_law_k", "_law_free"] (spEntry) := by
  refine T.Lentry.fn.ok sc_Lentry (fun vs H Q E h => ?_) (fun cdv A outer s H vs Q E hr h => ?_)
  · obtain ⟨l, ws, es, wl, zs, n, i, fr, rfl, _⟩ := h
    rfl
  · obtain ⟨l, ws, es, wl, zs, n, i, fr, rfl, hL, hR, hB, h84, hW, lz, hz, i0, i1, k⟩ := h
    refine ⟨_, (pss_cons (ps_set (i := 5) sc_Lentry.nd rfl (Or.inl rfl) (pe_call (ok_Ldraws T) (hr.mono (by decide)) rfl T.Ldraws.mgf T.Ldraws.kp T.Ldraws.bi .nil pass0 (pa_cons (pv 2) (pa_cons (pv 3) (pa_cons (pv 4) pa_nil)))))
      (pss_cons (ps_asg (pe_call (ok_Lstamp T) (hr.mono (by decide)) rfl T.Lstamp.mgf T.Lstamp.kp T.Lstamp.bi .nil pass0 (pa_cons (pv 0) (pa_cons (pe_ix ix_list (pv 5) pe_int (fun _ _ => rfl)) (pa_cons (pe_ix ix_list (pv 5) pe_int (fun _ _ => rfl)) pa_nil)))) (pg_tup rfl (pgs_cons (pg_name (i := 6) sc_Lentry.nd rfl (Or.inl rfl)) (pgs_cons (pg_name (i := 7) sc_Lentry.nd rfl (Or.inl rfl)) pgs_nil))))
      (pss_cut (ps_set (i := 8) sc_Lentry.nd rfl (Or.inl rfl) (pe_ix ix_list (pv 1) (pe_op op_mod (pe_ix ix_list (pv 5) pe_int (fun _ _ => rfl)) pe_int) (fun _ _ => rfl)))
      (pss_cut (ps_if (PW.pt (pw_and (pt_val (pv 4)) (pw_and1 (pt_cmpR op_eq (pe_op op_mod (pe_op op_fdiv (pe_ix ix_list (pv 5) pe_int (fun _ _ => rfl)) pe_int) pe_int) pe_int (nomark _)))))
        (pss_one (ps_set (i := 8) sc_Lentry.nd rfl (Or.inl rfl) (pe_call (ok_Lany_word T) (hr.mono (by decide)) rfl T.Lany_word.mgf T.Lany_word.kp T.Lany_word.bi .nil pass0 (pa_cons (pe_op op_add (pe_ix ix_list (pv 5) pe_int (fun _ _ => rfl)) (pe_op op_mul (pe_ix ix_list (pv 5) pe_int (fun _ _ => rfl)) (pe_op op_pow pe_int pe_int))) pa_nil))))
        pss_nil)
      (pss_cut (ps_set (i := 9) sc_Lentry.nd rfl (Or.inl rfl) (pe_ix ix_list (pe_lst (pa_cons (pe_op op_add pe_int (pe_op op_mod (pe_ix ix_list (pv 5) pe_int (fun _ _ => rfl)) pe_int)) (pa_cons (pe_op op_add pe_int (pe_op op_mod (pe_op op_fdiv (pe_ix ix_list (pv 5) pe_int (fun _ _ => rfl)) pe_int) (pe_op op_pow pe_int pe_int))) pa_nil))) (pe_op op_mod (pe_ix ix_list (pv 5) pe_int (fun _ _ => rfl)) pe_int) (fun _ _ => rfl)))
      (pss_cut (ps_set (i := 10) sc_Lentry.nd rfl (Or.inl rfl) (pe_cmpR op_gt (pe_op op_mod (pe_op op_fdiv (pe_ix ix_list (pv 5) pe_int (fun _ _ => rfl)) pe_int) pe_int) pe_int (nomark _)))
      (pss_cons (ps_if (PW.pt (pw_or (pt_cmpR op_eq (pe_op op_mod (pv 2) pe_int) pe_int (nomark _)) (pw_or1 (pt_cmpR (op_eqD (hu62 hr)) (pv 0) (pe_lst pa_nil) (nomark _)))))
        (pss_one (ps_ret (pe_lst (pa_cons (pv 6) (pa_cons (pv 7) (pa_cons pe_str (pa_cons (pv 8) (pa_cons pe_non (pa_cons (pv 9) (pa_cons pe_non (pa_cons (pv 10) pa_nil)))))))))))
        pss_nil)
      (pss_cut (ps_set (i := 11) sc_Lentry.nd rfl (Or.inl rfl) (pe_ix ix_list (pe_lst (pa_cons pe_str (pa_cons pe_str pa_nil))) (pe_callTy call_int1 rfl T.no_int bt_int (pa_cons (pe_or (pe_cmpR op_eq (pe_op op_mod (pv 2) pe_int) pe_int (nomark _)) (pe_one (pe_cmpR op_eq (pe_op op_mod (pv 2) pe_int) pe_int (nomark _)))) pa_nil)) (fun _ _ => rfl)))
      (pss_cut (ps_set (i := 12) sc_Lentry.nd rfl (Or.inl rfl) (pe_call (ok_Lpick T) (hr.mono (by decide)) rfl T.Lpick.mgf T.Lpick.kp T.Lpick.bi .nil pass0 (pa_cons (pv 0) (pa_cons (pe_ix ix_list (pe_lst (pa_cons pe_str (pa_cons pe_str pa_nil))) (pe_callTy call_int1 rfl T.no_int bt_int (pa_cons (pe_cmpR op_eq (pv 11) pe_str (nomark _)) pa_nil)) (fun _ _ => rfl)) (pa_cons (pe_ix ix_list (pv 5) pe_int (fun _ _ => rfl)) (pa_cons (pe_ix ix_list (pv 5) pe_int (fun _ _ => rfl)) pa_nil))))))
      (pss_cut (ps_if (pt_cmpR op_eq (pe_op op_mod (pe_op op_fdiv (pe_ix ix_list (pv 5) pe_int (fun _ _ => rfl)) pe_int) pe_int) pe_int (nomark _))
        (pss_one (ps_set (i := 12) sc_Lentry.nd rfl (Or.inl rfl) (pv 6)))
        pss_nil)
      (pss_cons (ps_if (pt_cmpR op_lt (pe_op op_mod (pv 2) pe_int) pe_int (nomark _))
        (pss_one (ps_ret (pe_lst (pa_cons (pv 6) (pa_cons (pv 7) (pa_cons (pv 11) (pa_cons (pv 8) (pa_cons (pv 12) (pa_cons (pv 9) (pa_cons pe_non (pa_cons (pv 10) pa_nil)))))))))))
        pss_nil)
      (pss_cons (ps_set (i := 13) sc_Lentry.nd rfl (Or.inl rfl) (pe_call (ok_Lbase T) (hr.mono (by decide)) rfl T.Lbase.mgf T.Lbase.kp T.Lbase.bi .nil pass0 (pa_cons (pv 0) (pa_cons (pv 11) (pa_cons (pe_op op_fdiv (pe_ix ix_list (pv 5) pe_int (fun _ _ => rfl)) pe_int) (pa_cons (pe_ix ix_list (pv 5) pe_int (fun _ _ => rfl)) pa_nil))))))
      (pss_cut (ps_if (pt_cmpR op_gt (pe_op op_mod (pe_op op_fdiv (pe_ix ix_list (pv 5) pe_int (fun _ _ => rfl)) pe_int) pe_int) pe_int (nomark _))
        (pss_one (ps_set (i := 8) sc_Lentry.nd rfl (Or.inl rfl) (pe_ix ix_list (pv 13) pe_int (fun _ _ => rfl))))
        pss_nil)
      (pss_cons (ps_set (i := 14) sc_Lentry.nd rfl (Or.inl rfl) (pe_ix ix_list (pv 13) pe_int (fun _ _ => rfl)))
      (pss_cut (ps_if (pt_cmpR op_eq (pe_op op_mod (pe_op op_fdiv (pe_ix ix_list (pv 5) pe_int (fun _ _ => rfl)) pe_int) pe_int) pe_int (nomark _))
        (pss_one (ps_set (i := 14) sc_Lentry.nd rfl (Or.inl rfl) (pe_ix ix_list (pe_lst (pa_cons (pe_op op_add pe_int (pe_op op_mod (pe_ix ix_list (pv 5) pe_int (fun _ _ => rfl)) (pe_op op_pow pe_int pe_int))) (pa_cons (pv 6) (pa_cons (pe_op op_add (pe_op op_mod (pv 6) (pe_op op_pow pe_int pe_int)) pe_int) pa_nil)))) (pe_op op_mod (pe_op op_fdiv (pe_ix ix_list (pv 5) pe_int (fun _ _ => rfl)) pe_int) pe_int) (fun _ _ => rfl))))
        pss_nil)
      (pss_one (ps_ret (pe_lst (pa_cons (pv 6) (pa_cons (pv 7) (pa_cons (pv 11) (pa_cons (pv 8) (pa_cons (pv 12) (pa_cons pe_non (pa_cons (pv 14) (pa_cons (pv 10) pa_nil)))))))))))))))))))))))))), ?_⟩
    have sz : 2000 < sizeLine := le_ble rfl
    have lw := hR.1
    walk_at "rd"
    refine ⟨n, i, fr, rfl, i0, i1, fun ds dl G0 l10 hds s0 hdl hdr => ?_⟩
    have at_ : ∀ j : Nat, j < 10 → ∃ d, Drawn d ∧ atI (ds.map V.int) (j : Int) = some (.int d) := fun j hj => by
      have hl : j < ds.length := by omega
      refine ⟨ds[j], hds _ (List.getElem_mem hl), atI_nat ?_⟩
      rw [List.getElem?_map, List.getElem?_eq_getElem hl]
      rfl
    obtain ⟨x0, p0, g0⟩ := at_ 0 (by decide)
    obtain ⟨x1, p1, g1⟩ := at_ 1 (by decide)
    obtain ⟨x2, p2, g2⟩ := at_ 2 (by decide)
    obtain ⟨x3, p3, g3⟩ := at_ 3 (by decide)
    obtain ⟨x4, p4, g4⟩ := at_ 4 (by decide)
    obtain ⟨x5, p5, g5⟩ := at_ 5 (by decide)
    obtain ⟨x6, p6, g6⟩ := at_ 6 (by decide)
    obtain ⟨x7, p7, g7⟩ := at_ 7 (by decide)
    obtain ⟨x8, p8, g8⟩ := at_ 8 (by decide)
    obtain ⟨x9, p9, g9⟩ := at_ 9 (by decide)
    have rd : ∀ {G : Hp} (s : Same G0 G), SqL K G dl (ds.map V.int) := fun s => SqL.of (s _ _ hdr)
    walk_at "rd"
    refine ⟨dl, _, _, _, rfl, rfl, rd (Same.refl _), g0, ?_⟩
    walk_at "rd"
    refine ⟨dl, _, _, _, rfl, rfl, rd (Same.refl _), g1, ?_⟩
    refine ⟨l, ws, es, x0, x1, rfl, s0 _ _ hL, hR.same s0, hB, h84, p0, p1, fun num day t G1 s1 ht nw nn1 nn2 dd1 dd2 la => ?_⟩
    refine ⟨t, _, rfl, SqT.of ht, rfl, ?_⟩
    walk_at "rd"
    have sH := s0.trans s1
    have hW1 := sH _ _ hW
    refine ⟨fun σ' G' => G1 = G' ∧ ∃ wd : Str, σ' = [some (.ref l), some (.ref wl), some (.int n), some (.int i), some (.bl fr), some (.ref dl), some (.int num), some (.int day), some (.str wd), none, none, none, none, none, none] ∧ isWord (.str wd) = true, ?_, ?_⟩
    · walk_at "rd"
      refine ⟨dl, _, _, _, rfl, rfl, rd s1, g2, ?_⟩
      walk_at "rd"
      obtain ⟨wv, hwv, hwm⟩ := atI_in (xs := zs.map V.str) (i := x2 % 4) (Int.emod_nonneg _ (by decide)) (by rw [List.length_map, lz]; exact Int.emod_lt_of_pos _ (by decide))
      obtain ⟨wd, hwd, rfl⟩ := List.mem_map.mp hwm
      exact ⟨wl, _, _, _, rfl, rfl, SqL.of hW1, hwv, rfl, wd, rfl, hz wd hwd⟩
    rintro σ' G' ⟨rfl, wd, rfl, hwd⟩
    refine ⟨fun σ' G' => G1 = G' ∧ ∃ wd : Str, σ' = [some (.ref l), some (.ref wl), some (.int n), some (.int i), some (.bl fr), some (.ref dl), some (.int num), some (.int day), some (.str wd), none, none, none, none, none, none] ∧ isWord (.str wd) = true, ?_, ?_⟩
    · walk_at "rd"
      cases fr with
      | false => exact iteF (iteF ⟨rfl, wd, rfl, hwd⟩)
      | true =>
        refine iteT ?_
        walk_at "rd"
        refine ⟨dl, _, _, _, rfl, rfl, rd s1, g2, ?_⟩
        walk_at "rd"
        refine ite2 (fun _ => ?_) (fun _ => ⟨rfl, wd, rfl, hwd⟩)
        walk_at "rd"
        refine ⟨dl, _, _, _, rfl, rfl, rd s1, g8, ?_⟩
        walk_at "rd"
        refine ⟨dl, _, _, _, rfl, rfl, rd s1, g9, ?_⟩
        walk_at "rd"
        exact fun z hz => ⟨rfl, z, rfl, hz⟩
    clear wd hwd
    rintro σ' G' ⟨rfl, wd, rfl, hwd⟩
    refine ⟨fun σ' G' => Same G1 G' ∧ ∃ sh : Int, σ' = [some (.ref l), some (.ref wl), some (.int n), some (.int i), some (.bl fr), some (.ref dl), some (.int num), some (.int day), some (.str wd), some (.int sh), none, none, none, none, none] ∧ 1 ≤ sh ∧ sh ≤ 1000000000, ?_, ?_⟩
    · walk_at "rd"
      refine ⟨dl, _, _, _, rfl, rfl, rd s1, g3, ?_⟩
      walk_at "rd"
      refine ⟨dl, _, _, _, rfl, rfl, rd s1, g3, ?_⟩
      walk_at "rd"
      refine ⟨le_ble rfl, fun q1 hq1 => ?_⟩
      walk_at "rd"
      refine ⟨dl, _, _, _, rfl, rfl, rd (s1.trans (Same.new hq1)), g4, ?_⟩
      walk_at "rd"
      have u0 := Int.emod_nonneg x3 (b := 9) (by decide)
      have u1 := Int.emod_lt_of_pos x3 (b := 9) (by decide)
      have u2 := Int.emod_nonneg (x3 / 2) (b := 1000000000) (by decide)
      have u3 := Int.emod_lt_of_pos (x3 / 2) (b := 1000000000) (by decide)
      obtain ⟨sv, hsv, hsm⟩ := atI_in (xs := [V.int (1 + x3 % 9), V.int (1 + x3 / 2 % 1000000000)]) (i := x4 % 2) (Int.emod_nonneg _ (by decide)) (by show _ < (2 : Int); exact Int.emod_lt_of_pos _ (by decide))
      obtain ⟨st, rfl, st0, st1⟩ : ∃ st : Int, sv = .int st ∧ 1 ≤ st ∧ st ≤ 1000000000 := by
        simp only [List.mem_cons, List.not_mem_nil, or_false] at hsm
        rcases hsm with rfl | rfl
        · exact ⟨_, rfl, by omega, by omega⟩
        · exact ⟨_, rfl, by omega, by omega⟩
      exact ⟨q1, _, _, _, rfl, rfl, SqL.of upd_same, hsv, Same.new hq1, st, rfl, st0, st1⟩
    rintro σ' G2 ⟨s2, sh, rfl, sh0, sh1⟩
    have s12 := s1.trans s2
    refine ⟨fun σ' G' => G2 = G' ∧ ∃ kd : Bool, σ' = [some (.ref l), some (.ref wl), some (.int n), some (.int i), some (.bl fr), some (.ref dl), some (.int num), some (.int day), some (.str wd), some (.int sh), some (.bl kd), none, none, none, none], ?_, ?_⟩
    · walk_at "rd"
      refine ⟨dl, _, _, _, rfl, rfl, rd s12, g4, ?_⟩
      walk_at "rd"
      first | done | exact rfl | exact ⟨_, rfl⟩ | exact ⟨rfl, _, rfl⟩
    rintro σ' G' ⟨rfl, kd, rfl⟩
    have sH2 := sH.trans s2
    have hL2 := sH2 _ _ hL
    have hR2 := hR.same sH2
    have first : ∀ (G : Hp) q, Same G2 G → G q = none → Q (.ref q) (upd G q (.lst [.int num, .int day, .str (Str.ofString "genus"), .str wd, .non, .int sh, .non, .bl kd])) := fun G q s hq => by
      refine k (.ref q) ⟨num, day, Str.ofString "genus", wd, none, some sh, none, kd⟩ _ ((sH2.trans s).trans (Same.new hq)) ⟨q, rfl, upd_same⟩ ⟨okE_of (inR_of nn1 (by show num ≤ 1000000000; omega)) (inR_of dd1 (by show day ≤ 1000000; omega)) (by show isRank (.str (Str.ofString "genus")) = true; decide +kernel) hwd (by show underFits (.str (Str.ofString "genus")) .non = true; rw [under_g]; exact decide_eq_true rfl) (by show tieFits _ _ .non = true; rw [tie_n]; exact inR_of sh0 sh1), nw, nn1, nn2, dd1, dd2, la⟩
    walk_at "rd"
    refine ite2 (fun _ => iteT ?_) (fun _ => ?_)
    · walk_at "rd"
      exact ⟨le_ble rfl, fun q hq => first _ q (Same.refl _) hq⟩
    walk_at "rd"
    refine ⟨le_ble rfl, fun q0 hq0 => ?_⟩
    have t0 := Same.new (o := HO.lst []) hq0
    have hL3 := t0 _ _ hL2
    have hR3 := hR2.same t0
    refine ⟨0, _, by decide, seqNil (SqL.of hL3) (SqL.of upd_same), _, rfl, ?_⟩
    generalize upd G2 q0 (.lst []) = G3 at t0 hL3 hR3 ⊢
    refine iteB (fun _ => ?_) (fun he => ?_)
    · walk_at "rd"
      exact ⟨le_ble rfl, fun q hq => first _ q t0 hq⟩
    have ene : es ≠ [] := fun z => by
      have : ws = [] := List.eq_nil_of_length_eq_zero (by rw [lw, z]; rfl)
      rw [this] at he
      cases he
    clear first
    have s3 := s12.trans t0
    have sH3 := sH2.trans t0
    refine ⟨fun σ' G' => Same G3 G' ∧ ∃ rk : Str, σ' = [some (.ref l), some (.ref wl), some (.int n), some (.int i), some (.bl fr), some (.ref dl), some (.int num), some (.int day), some (.str wd), some (.int sh), some (.bl kd), some (.str rk), none, none, none] ∧ isRank (.str rk) = true ∧ rk ≠ Str.ofString "genus", ?_, ?_⟩
    · walk_at "rd"
      refine ⟨le_ble rfl, fun q1 hq1 => ?_⟩
      walk_at "rd"
      have pickR : ∀ b : Bool, ∃ rk : Str, atI [V.str (Str.ofString "species"), V.str (Str.ofString "form")] (if b = true then (1 : Int) else 0) = some (.str rk) ∧ isRank (.str rk) = true ∧ rk ≠ Str.ofString "genus" := fun b => by
        cases b
        · exact ⟨_, atI_nat (j := 0) rfl, by decide +kernel, by decide +kernel⟩
        · exact ⟨_, atI_nat (j := 1) rfl, by decide +kernel, by decide +kernel⟩
      refine ite2 (fun _ => ?_) (fun _ => ?_)
      · obtain ⟨rk, h1, h2, h3⟩ := pickR true
        exact .inr ⟨_, rfl, q1, _, _, _, rfl, rfl, SqL.of upd_same, h1, Same.new hq1, rk, rfl, h2, h3⟩
      · walk_at "rd"
        obtain ⟨rk, h1, h2, h3⟩ := pickR (decide (V.int (n % 6) = V.int 5))
        exact .inr ⟨_, rfl, q1, _, _, _, rfl, rfl, SqL.of upd_same, h1, Same.new hq1, rk, rfl, h2, h3⟩
    rintro σ' G4 ⟨t4, rk, rfl, hrk, rg⟩
    have s4 := s3.trans t4
    have sH4 := sH3.trans t4
    refine ⟨fun σ' G' => Same G4 G' ∧ ∃ u : Int, σ' = [some (.ref l), some (.ref wl), some (.int n), some (.int i), some (.bl fr), some (.ref dl), some (.int num), some (.int day), some (.str wd), some (.int sh), some (.bl kd), some (.str rk), some (.int u), none, none] ∧ 1 ≤ u ∧ u ≤ 1000000000, ?_, ?_⟩
    · walk_at "rd"
      refine ⟨le_ble rfl, fun q1 hq1 => ?_⟩
      walk_at "rd"
      have pickR : ∀ b : Bool, ∃ rk : Str, atI [V.str (Str.ofString "genus"), V.str (Str.ofString "species")] (if b = true then (1 : Int) else 0) = some (.str rk) := fun b => by
        cases b
        · exact ⟨_, atI_nat (j := 0) rfl⟩
        · exact ⟨_, atI_nat (j := 1) rfl⟩
      obtain ⟨r1, h1⟩ := pickR (decide (V.str rk = V.str (Str.ofString "form")))
      have tq := Same.new (o := HO.lst [V.str (Str.ofString "genus"), V.str (Str.ofString "species")]) hq1
      refine .inr ⟨_, rfl, q1, _, _, _, rfl, rfl, SqL.of upd_same, h1, ?_⟩
      generalize upd G4 q1 (.lst [V.str (Str.ofString "genus"), V.str (Str.ofString "species")]) = G5 at tq ⊢
      walk_at "rd"
      refine ⟨dl, _, _, _, rfl, rfl, rd (s4.trans tq), g5, ?_⟩
      walk_at "rd"
      refine ⟨dl, _, _, _, rfl, rfl, rd (s4.trans tq), g6, ?_⟩
      refine ⟨l, ws, es, r1, x5, x6, rfl, (sH4.trans tq) _ _ hL, hR.same (sH4.trans tq), hB, ene, fun u G6 s6 u0 u1 => ?_⟩
      exact ⟨tq.trans s6, u, rfl, u0, u1⟩
    rintro σ' G5 ⟨t5, u, rfl, u0, u1⟩
    have s5 := s4.trans t5
    have sH5 := sH4.trans t5
    refine ⟨fun σ' G' => G5 = G' ∧ ∃ u : Int, σ' = [some (.ref l), some (.ref wl), some (.int n), some (.int i), some (.bl fr), some (.ref dl), some (.int num), some (.int day), some (.str wd), some (.int sh), some (.bl kd), some (.str rk), some (.int u), none, none] ∧ 1 ≤ u ∧ u ≤ 1000000000, ?_, ?_⟩
    · walk_at "rd"
      refine ⟨dl, _, _, _, rfl, rfl, rd s5, g4, ?_⟩
      walk_at "rd"
      refine ite2 (fun _ => ?_) (fun _ => ⟨rfl, u, rfl, u0, u1⟩)
      exact ⟨_, rfl, rfl, num, rfl, nn1, by omega⟩
    clear u0 u1
    rintro σ' G' ⟨rfl, u', rfl, u0, u1⟩
    walk_at "rd"
    have nN : num ≤ 1000000000 := by omega
    have dN : day ≤ 1000000 := by omega
    have uF : underFits (.str rk) (.int u') = true := by rw [under_n rg]; exact inR_of u0 u1
    refine ite2 (fun _ => ?_) (fun _ => ?_)
    · walk_at "rd"
      refine ⟨le_ble rfl, fun q hq => ?_⟩
      exact k (.ref q) ⟨num, day, rk, wd, some u', some sh, none, kd⟩ _ (sH5.trans (Same.new hq)) ⟨q, rfl, upd_same⟩ ⟨okE_of (inR_of nn1 nN) (inR_of dd1 dN) hrk hwd uF (by show tieFits _ _ .non = true; rw [tie_n]; exact inR_of sh0 sh1), nw, nn1, nn2, dd1, dd2, la⟩
    walk_at "rd"
    refine ⟨dl, _, _, _, rfl, rfl, rd s5, g4, ?_⟩
    walk_at "rd"
    refine ⟨dl, _, _, _, rfl, rfl, rd s5, g7, ?_⟩
    refine ⟨l, ws, es, rk, x4 / 372, x7, rfl, sH5 _ _ hL, hR.same sH5, hB, ene, fun v e G6 s6 em hv => ?_⟩
    obtain ⟨ra, rfl, hrow⟩ := hv
    have f0 : atI (rowB e) 0 = some (.int e.n) := atI_nat (j := 0) rfl
    have f3 : atI (rowB e) 3 = some (.str e.w) := atI_nat (j := 3) rfl
    have sd6 := s5.trans s6
    have sH6 := sH5.trans s6
    have en := hB.nn e em
    refine ⟨fun σ' G' => G6 = G' ∧ ∃ wd : Str, σ' = [some (.ref l), some (.ref wl), some (.int n), some (.int i), some (.bl fr), some (.ref dl), some (.int num), some (.int day), some (.str wd), some (.int sh), some (.bl kd), some (.str rk), some (.int u'), some (.ref ra), none] ∧ isWord (.str wd) = true, ?_, ?_⟩
    · walk_at "rd"
      refine ⟨dl, _, _, _, rfl, rfl, rd sd6, g4, ?_⟩
      walk_at "rd"
      refine ite2 (fun _ => ?_) (fun _ => ⟨rfl, wd, rfl, hwd⟩)
      walk_at "rd"
      exact ⟨ra, _, _, _, rfl, rfl, SqL.of hrow, f3, rfl, e.w, rfl, okE_word (hB.ok e em)⟩
    rintro σ' G' ⟨rfl, wd', rfl, hwd'⟩
    walk_at "rd"
    refine ⟨ra, _, _, _, rfl, rfl, SqL.of hrow, f0, ?_⟩
    refine ⟨fun σ' G' => Same G6 G' ∧ ∃ rt : Int, σ' = [some (.ref l), some (.ref wl), some (.int n), some (.int i), some (.bl fr), some (.ref dl), some (.int num), some (.int day), some (.str wd'), some (.int sh), some (.bl kd), some (.str rk), some (.int u'), some (.ref ra), some (.int rt)] ∧ 1 ≤ rt ∧ rt ≤ 1000000000, ?_, ?_⟩
    · walk_at "rd"
      refine ⟨dl, _, _, _, rfl, rfl, rd sd6, g2, ?_⟩
      walk_at "rd"
      refine ite2 (fun _ => ?_) (fun _ => ⟨Same.refl _, e.n, rfl, by omega, by omega⟩)
      walk_at "rd"
      refine ⟨dl, _, _, _, rfl, rfl, rd sd6, g7, ?_⟩
      walk_at "rd"
      refine ⟨le_ble rfl, fun q1 hq1 => ?_⟩
      walk_at "rd"
      refine ⟨dl, _, _, _, rfl, rfl, rd (sd6.trans (Same.new hq1)), g2, ?_⟩
      walk_at "rd"
      have v0 := Int.emod_nonneg x7 (b := 1000000000) (by decide)
      have v1 := Int.emod_lt_of_pos x7 (b := 1000000000) (by decide)
      have v2 := Int.emod_nonneg num (b := 1000000000) (by decide)
      have v3 := Int.emod_lt_of_pos num (b := 1000000000) (by decide)
      obtain ⟨sv, hsv, hsm⟩ := atI_in (xs := [V.int (1 + x7 % 1000000000), V.int num, V.int (num % 1000000000 + 1)]) (i := x2 / 140 % 3) (Int.emod_nonneg _ (by decide)) (by show _ < (3 : Int); exact Int.emod_lt_of_pos _ (by decide))
      obtain ⟨st, rfl, st0, st1⟩ : ∃ st : Int, sv = .int st ∧ 1 ≤ st ∧ st ≤ 1000000000 := by
        simp only [List.mem_cons, List.not_mem_nil, or_false] at hsm
        rcases hsm with rfl | rfl | rfl
        · exact ⟨_, rfl, by omega, by omega⟩
        · exact ⟨_, rfl, nn1, nN⟩
        · exact ⟨_, rfl, by omega, by omega⟩
      exact ⟨q1, _, _, _, rfl, rfl, SqL.of upd_same, hsv, Same.new hq1, st, rfl, st0, st1⟩
    rintro σ' G7 ⟨t7, rt, rfl, rt0, rt1⟩
    walk_at "rd"
    refine ⟨le_ble rfl, fun q hq => ?_⟩
    exact k (.ref q) ⟨num, day, rk, wd', some u', none, some rt, kd⟩ _ ((sH6.trans t7).trans (Same.new hq)) ⟨q, rfl, upd_same⟩ ⟨okE_of (inR_of nn1 nN) (inR_of dd1 dN) hrk hwd' uF (by show tieFits (.str rk) .non (.int rt) = true; rw [tie_b _ _ (by intro z; cases z), decide_eq_false (fun z => rg (V.str.inj z)), decide_eq_true rfl, inR_of rt0 rt1]; rfl), nw, nn1, nn2, dd1, dd2, la⟩
set_option maxHeartbeats 4000000 in
theorem ok_Lbook (T : Txt w K mg c) : FnOk P w K mg base CX0 4 c.a_Lbook c.d_Lbook ["_law_script", "_law_start"] (spBookB K) := by
  refine T.Lbook.fn.ok sc_Lbook (fun vs H Q E h => ?_) (fun cdv A outer s H vs Q E hr h => ?_)
  · obtain ⟨a, st, ns, rfl, _⟩ := h
    rfl
  · obtain ⟨a, st, ns, rfl, st0, st1, hS, hn, k⟩ := h
    refine ⟨_, (pss_cut (ps_set (i := 2) sc_Lbook.nd rfl (Or.inl rfl) (pe_cmpR op_eq (pe_op op_mod (pe_call (ok_Lcell_at T) (hr.mono (by decide)) rfl T.Lcell_at.mgf T.Lcell_at.kp T.Lcell_at.bi .nil pass0 (pa_cons (pv 0) (pa_cons pe_int pa_nil))) pe_int) pe_int (nomark _)))
      (pss_cons (ps_set (i := 3) sc_Lbook.nd rfl (Or.inl rfl) (pe_call (ok_Lwords T) (hr.mono (by decide)) rfl T.Lwords.mgf T.Lwords.kp T.Lwords.bi .nil pass0 (pa_cons (pe_op op_fdiv (pe_call (ok_Lcell_at T) (hr.mono (by decide)) rfl T.Lcell_at.mgf T.Lcell_at.kp T.Lcell_at.bi .nil pass0 (pa_cons (pv 0) (pa_cons pe_int pa_nil))) pe_int) (pa_cons (pv 2) pa_nil))))
      (pss_cons (ps_set (i := 4) sc_Lbook.nd rfl (Or.inl rfl) (pe_lst pa_nil))
      (pss_cons (ps_for PassesOwn.never rfl (pi_range2 rfl T.no_range (pa_cons (pv 1) (pa_cons (pe_callB (call_min2 rfl) rfl T.no_min bt_min (pa_cons (pe_callB call_len_seq rfl T.no_len bt_len (pa_cons (pv 0) pa_nil)) (pa_cons pe_int pa_nil))) pa_nil))) (pg_name (i := 5) sc_Lbook.nd rfl (Or.inl rfl))
        (pss_one (ps_expr (pe_bm PySem.F.plainAttrs_list PySem.F.slot_list_append PySem.F.type_list_append (MtM.r mt_append) (pv 4) (pa_cons (pe_call (ok_Lentry T) (hr.mono (by decide)) rfl T.Lentry.mgf T.Lentry.kp T.Lentry.bi .nil pass0 (pa_cons (pv 4) (pa_cons (pv 3) (pa_cons (pe_ix ix_list (pv 0) (pv 5) (fun _ _ => rfl)) (pa_cons (pv 5) (pa_cons (pv 2) pa_nil)))))) pa_nil)))))
      (pss_one (ps_ret (pv 4))))))), ?_⟩
    have sz : 2000 < sizeLine := le_ble rfl
    have lm : (ns.map V.int).length = ns.length := List.length_map ..
    refine ⟨fun σ' G' => H = G' ∧ ∃ fr : Bool, σ' = [some (.ref a), some (.int st), some (.bl fr), none, none, none], ?_, ?_⟩
    · refine ⟨_, rfl, a, 0, ns, rfl, by decide, hS, fun c0 => ?_⟩
      walk_at "rd"
      first | done | exact rfl | exact ⟨_, rfl⟩ | exact ⟨rfl, _, rfl⟩
    rintro σ' G' ⟨rfl, fr, rfl⟩
    walk_at "rd"
    refine ⟨a, 0, ns, rfl, by decide, hS, fun c1 => ?_⟩
    walk_at "rd"
    refine fun zs wl G0 lz hw s0 hwl hWl => ?_
    walk_at "rd"
    refine ⟨le_ble rfl, fun l hl => ?_⟩
    have s1 := s0.trans (Same.new (o := HO.lst []) hl)
    have k1 := upd_same (H := G0) (a := l) (o := .lst [])
    have kW := Same.new (o := HO.lst []) hl _ _ hWl
    have nHl : H l = none := s0.free hl
    have nwl : wl ≠ l := ne_of_none hWl hl
    generalize upd G0 l (.lst []) = G1 at s1 k1 kW ⊢
    walk_at "rd"
    refine ⟨a, _, rfl, .inl (s1.seq hS), ?_⟩
    walk_at "rd"
    have hm2 : (if (84 : Int) < ((ns.map V.int).length : Int) then (84 : Int) else ((ns.map V.int).length : Int)) ≤ ns.length ∧ 0 ≤ (if (84 : Int) < ((ns.map V.int).length : Int) then (84 : Int) else ((ns.map V.int).length : Int)) := by
      split <;> omega
    generalize (if (84 : Int) < ((ns.map V.int).length : Int) then (84 : Int) else ((ns.map V.int).length : Int)) = hi at hm2 ⊢
    refine ⟨⟨by omega, by omega, by omega, by omega⟩, ?_⟩
    refine for_range (lo := st) (fun i σ G => Same H G ∧ ∃ (z5 : Option V) (ws : List V) (es : List En), σ = [some (.ref a), some (.int st), some (.bl fr), some (.ref wl), some (.ref l), z5] ∧ G wl = some (.lst (zs.map V.str)) ∧ G l = some (.lst ws) ∧ RowsB G ws es ∧ BkB es ∧ es.length = i) ?_ ?_ ?_
    · exact ⟨s1, _, [], [], rfl, kW, k1, ⟨rfl, fun j v e h => nomatch h⟩, BkB.nil, rfl⟩
    · rintro i σ G hi' ⟨sG, z5, ws, es, rfl, hW, hL, hR, hB, le⟩
      have lw : ws.length = i := by rw [hR.1]; exact le
      obtain ⟨v1, hv1, hm1⟩ := atI_in (xs := ns.map V.int) (i := st + (i : Int)) (by omega) (by omega)
      obtain ⟨c2, _, rfl⟩ := List.mem_map.mp hm1
      refine ⟨_, rfl, .inl ⟨rfl, _, SqL.of hL⟩, ?_⟩
      walk_at "rd"
      refine ⟨a, _, _, _, rfl, rfl, sG.seq hS, hv1, ?_⟩
      walk_at "rd"
      refine ⟨l, ws, es, wl, zs, c2, st + (i : Int), fr, rfl, hL, hR, hB, by omega, hW, lz, hw, by omega, by omega, fun v e G2 s2 hv ne => ?_⟩
      walk_at "rd"
      obtain ⟨ra, rfl, hrow⟩ := hv
      have hL2 := s2 _ _ hL
      have hR2 := hR.same s2
      have nra : ra ≠ l := RowB.ne hR2 hL2 hrow
      refine ⟨l, _, _, rfl, rfl, hL2, by omega, ?_⟩
      have mv : ∀ v x, RowB G2 v x → RowB (upd G2 l (.lst (ws ++ [.ref ra]))) v x := fun v x h => by
        obtain ⟨b, e1, h1⟩ := h
        exact ⟨b, e1, by rw [upd_ne (RowB.ne hR2 hL2 h1)]; exact h1⟩
      refine ⟨same_put nHl (sG.trans s2), _, ws ++ [.ref ra], es ++ [e], rfl, by rw [upd_ne nwl]; exact s2 _ _ hW, upd_same, ?_, hB.add ne (by omega), by rw [List.length_append, le]; rfl⟩
      exact rel_push ⟨hR2.1, fun j v x h1 h2 => mv v x (hR2.2 j v x h1 h2)⟩ (mv _ _ ⟨ra, rfl, hrow⟩)
    · rintro σ G ⟨sG, z5, ws, es, rfl, hW, hL, hR, hB, le⟩
      exact ⟨_, rfl, k l ws es G sG hL hR hB (by omega)⟩
set_option maxHeartbeats 4000000 in
theorem ok_Lwhole (T : Txt w K mg c) : FnOk P w K mg base CX0 1 c.a_Lwhole c.d_Lwhole ["_law_found"] (spW K) := by
  refine T.Lwhole.fn.ok sc_Lwhole (fun vs H Q E h => ?_) (fun cdv A outer s H vs Q E hr h => ?_)
  · obtain ⟨x, rfl, _⟩ := h
    rfl
  · obtain ⟨x, rfl, ow, k⟩ := h
    refine ⟨_, (pss_one (ps_ret (pe_and (pe_callB call_isiA rfl T.no_isinstance bt_isinstance (pa_cons (pv 0) (pa_cons (pe_bltn (v := .ty "int") rfl T.no_int bt_int rfl) pa_nil))) (pe_one (pe_not (pe_callB call_isiA rfl T.no_isinstance bt_isinstance (pa_cons (pv 0) (pa_cons (pe_bltn (v := .ty "bool") rfl T.no_bool bt_bool rfl) pa_nil)))))))), ?_⟩
    refine ⟨x, rfl, rIsiA.int ow ⟨_, rfl, ?_⟩⟩
    cases x with
    | int i => exact iteT ⟨_, rfl, rIsiA.bool ow ⟨_, rfl, k⟩⟩
    | bl b => exact iteT ⟨_, rfl, rIsiA.bool ow ⟨_, rfl, k⟩⟩
    | _ => exact iteF k
set_option maxHeartbeats 4000000 in
theorem ok_Lmade (T : Txt w K mg c) : FnOk P w K mg base CX0 6 c.a_Lmade c.d_Lmade ["_law_book_here"] (spMade c.c_Entry) := by
  refine T.Lmade.fn.ok sc_Lmade (fun vs H Q E h => ?_) (fun cdv A outer s H vs Q E hr h => ?_)
  · obtain ⟨l, ws, es, rfl, _⟩ := h
    rfl
  · obtain ⟨l, ws, es, rfl, hL, hR, okk, l84, k⟩ := h
    refine ⟨_, (pss_cons (ps_set (i := 1) sc_Lmade.nd rfl (Or.inl rfl) (pe_lst pa_nil))
      (pss_cons (ps_for PassesOwn.never rfl (pi_list (pv 0)) (pg_name (i := 2) sc_Lmade.nd rfl (Or.inl rfl))
        (pss_one (ps_expr (pe_bm PySem.F.plainAttrs_list PySem.F.slot_list_append PySem.F.type_list_append (MtM.r mt_append) (pv 1) (pa_cons (pe_makeS T.mk_Entry (ok_Entry_init T) (hr.mono (by decide)) rfl T.mg_Entry T.b_Entry_8 passE0 (pa_cons (pe_ix ix_list (pv 2) pe_int (fun _ _ => rfl)) (pa_cons (pe_ix ix_list (pv 2) pe_int (fun _ _ => rfl)) (pa_cons (pe_ix ix_list (pv 2) pe_int (fun _ _ => rfl)) (pa_cons (pe_ix ix_list (pv 2) pe_int (fun _ _ => rfl)) (pa_cons (pe_ix ix_list (pv 2) pe_int (fun _ _ => rfl)) (pa_cons (pe_ix ix_list (pv 2) pe_int (fun _ _ => rfl)) (pa_cons (pe_ix ix_list (pv 2) pe_int (fun _ _ => rfl)) (pa_cons (pe_ix ix_list (pv 2) pe_int (fun _ _ => rfl)) pa_nil)))))))) pk_nil) pa_nil)))))
      (pss_one (ps_ret (pv 1))))), ?_⟩
    have sz : 2000 < sizeLine := le_ble rfl
    have lw := hR.1
    refine ⟨le_ble rfl, fun q hq => ?_⟩
    have s0 := Same.new (o := HO.lst []) hq
    have k0 := upd_same (H := H) (a := q) (o := .lst [])
    generalize upd H q (.lst []) = G0 at s0 k0 ⊢
    refine ⟨_, rfl, l, rfl, ⟨_, SqL.of (s0 _ _ hL)⟩, ?_⟩
    refine for_list (xs := ws) (fun i σ G => Same H G ∧ ∃ (z2 : Option V) (acc : List V), σ = [some (.ref l), some (.ref q), z2] ∧ G q = some (.lst acc) ∧ acc.length = i ∧ EntsAt G c.c_Entry acc (es.take i)) ?_ ?_ ?_ ?_
    · exact ⟨s0, _, [], rfl, k0, rfl, rfl, fun j v e h => nomatch h⟩
    · rintro i σ G _ ⟨sG, _⟩
      exact SqL.of (sG _ _ hL)
    · rintro i x σ G hx ⟨sG, z2, acc, rfl, h1, h2, h3⟩
      have hi : i < ws.length := (List.getElem?_eq_some_iff.mp hx).1
      have hie : i < es.length := by omega
      have ee : es[i]? = some es[i] := List.getElem?_eq_getElem hie
      obtain ⟨ra, rfl, hrow⟩ := hR.2 i x _ hx ee
      have ok1 := okk _ (List.getElem_mem hie)
      rw [take_one ee]
      generalize es[i] = e at hrow ok1
      have hrow := sG _ _ hrow
      have f0 : atI (rowB e) 0 = some (.int e.n) := atI_nat (j := 0) rfl
      have f1 : atI (rowB e) 1 = some (.int e.d) := atI_nat (j := 1) rfl
      have f2 : atI (rowB e) 2 = some (.str e.r) := atI_nat (j := 2) rfl
      have f3 : atI (rowB e) 3 = some (.str e.w) := atI_nat (j := 3) rfl
      have f4 : atI (rowB e) 4 = some (optV e.u) := atI_nat (j := 4) rfl
      have f5 : atI (rowB e) 5 = some (optV e.s) := atI_nat (j := 5) rfl
      have f6 : atI (rowB e) 6 = some (optV e.b) := atI_nat (j := 6) rfl
      have f7 : atI (rowB e) 7 = some (.bl e.k) := atI_nat (j := 7) rfl
      have oO : ∀ (G : Hp) (o : Option Int), Own K G (optV o) := fun G o => by cases o with | none => exact Own.non | some _ => exact Own.int
      have fw : fits (.str e.w) := by
        have := (isWord_le (okE_word ok1)).1
        show e.w.length ≤ sizeLine
        omega
      have ok2 : why (.int e.n) (.int e.d) (.str e.r) (.str e.w) (optV e.u) (optV e.s) (optV e.b) = 0 := ok1
      refine ⟨_, rfl, .inl ⟨rfl, _, SqL.of h1⟩, ?_⟩
      refine ⟨_, rfl, ra, _, _, _, rfl, rfl, SqL.of hrow, f0, ?_⟩
      refine ⟨_, rfl, ra, _, _, _, rfl, rfl, SqL.of hrow, f1, ?_⟩
      refine ⟨_, rfl, ra, _, _, _, rfl, rfl, SqL.of hrow, f2, ?_⟩
      refine ⟨_, rfl, ra, _, _, _, rfl, rfl, SqL.of hrow, f3, ?_⟩
      refine ⟨_, rfl, ra, _, _, _, rfl, rfl, SqL.of hrow, f4, ?_⟩
      refine ⟨_, rfl, ra, _, _, _, rfl, rfl, SqL.of hrow, f5, ?_⟩
      refine ⟨_, rfl, ra, _, _, _, rfl, rfl, SqL.of hrow, f6, ?_⟩
      refine ⟨_, rfl, ra, _, _, _, rfl, rfl, SqL.of hrow, f7, ?_⟩
      refine ⟨rfl, rfl, fun x dx hx hdx ne => ?_⟩
      refine ⟨x, dx, .int e.n, .int e.d, .str e.r, .str e.w, optV e.u, optV e.s, optV e.b, .bl e.k, rfl, upd_same, Own.int, Own.int, Own.str, Own.str, fw, oO _ _, oO _ _, oO _ _, fun G1 s1 => ⟨fun _ => ⟨rfl, ?_⟩, fun h => absurd ok2 h⟩⟩
      have s2 := Same.upd (o := .ins c.c_Entry dx (fieldsE e)) ((Same.made hx hdx ne).trans s1) hx
      have he : EntAt (upd G1 x (.ins c.c_Entry dx (fieldsE e))) c.c_Entry (.ref x) e := ⟨x, dx, rfl, upd_same⟩
      have ef : fields (.int e.n) (.int e.d) (.str e.r) (.str e.w) (optV e.u) (optV e.s) (optV e.b) (.bl e.k) = fieldsE e := rfl
      rw [ef]
      generalize upd G1 x (.ins c.c_Entry dx (fieldsE e)) = G2 at s2 he ⊢
      have mv : ∀ v y, EntAt G2 c.c_Entry v y → EntAt (upd G2 q (.lst (acc ++ [.ref x]))) c.c_Entry v y := fun v y h => h.keep fun t dx fs ht => by rw [upd_ne (ne_of ht (s2 _ _ h1) (by intro z; cases z))]; exact ht
      refine ⟨q, _, _, rfl, rfl, s2 _ _ h1, by omega, same_put hq (sG.trans s2), _, acc ++ [.ref x], rfl, upd_same, by rw [List.length_append, h2]; rfl, ?_⟩
      have h3' := h3.same s2
      exact rel_push ⟨h3'.1, fun j v y a b => mv v y (h3'.2 j v y a b)⟩ (mv _ _ he)
    · rintro σ G ⟨sG, z2, acc, rfl, h1, h2, h3⟩
      rw [lw, List.take_of_length_le (Nat.le_refl _)] at h3
      exact ⟨_, rfl, k q acc G sG hq h1 h3⟩
set_option maxHeartbeats 4000000 in
theorem ok_Lright (T : Txt w K mg c) : FnOk P w K mg base CX0 2 c.a_Lright c.d_Lright ["_law_one", "_law_book_here", "_law_told_all"] (spRight) := by
  refine T.Lright.fn.ok sc_Lright (fun vs H Q E h => ?_) (fun cdv A outer s H vs Q E hr h => ?_)
  · obtain ⟨ra, l, tt, ws, es, x, j, dw, dn, df, ds, kn, rfl, _⟩ := h
    rfl
  · obtain ⟨ra, l, tt, ws, es, x, j, dw, dn, df, ds, kn, rfl, hL, hR, okk, nd, l84, hj, hxj, hx, htt, td, k⟩ := h
    refine ⟨_, (pss_cons (ps_asg (pv 2) (pg_tup rfl (pgs_cons (pg_name (i := 3) sc_Lright.nd rfl (Or.inl rfl)) (pgs_cons (pg_name (i := 4) sc_Lright.nd rfl (Or.inl rfl)) (pgs_cons (pg_name (i := 5) sc_Lright.nd rfl (Or.inl rfl)) (pgs_cons (pg_name (i := 6) sc_Lright.nd rfl (Or.inl rfl)) pgs_nil))))))
      (pss_cons (ps_set (i := 7) sc_Lright.nd rfl (Or.inl rfl) (pe_dget (hu_of hr) (pv 4) (pe_ix ix_list (pv 0) pe_int (fun _ _ => rfl)) (fun _ _ => rfl)))
      (pss_cut (ps_set (i := 8) sc_Lright.nd rfl (Or.inl rfl) (pe_dget (hu_of hr) (pe_disp (pps_cons pe_str pe_int (pps_cons pe_str pe_int (pps_cons pe_str pe_int pps_nil))) rfl rfl (by intro z; cases z) (by decide)) (pe_ix ix_list (pv 0) pe_int (fun _ _ => rfl)) (fun _ _ => rfl)))
      (pss_cons (ps_if (PW.pt (pw_or (pt_not (pt_val (pe_callB call_isiA rfl T.no_isinstance bt_isinstance (pa_cons (pv 7) (pa_cons (pe_bltn (v := .ty "tuple") rfl T.no_tuple bt_tuple rfl) pa_nil))))) (pw_or (pt_cmpR op_ne (pe_callB call_len_seq rfl T.no_len bt_len (pa_cons (pv 7) pa_nil)) (pv 8) (nomark _)) (pw_or1 (pt_cmpR op_ne (pe_ix ix_tup (pv 7) (pe_un un_neg pe_int) (fun _ _ => rfl)) (pe_ix ix_list (pv 0) pe_int (fun _ _ => rfl)) (nomark _))))))
        (pss_one (ps_ret pe_bl))
        pss_nil)
      (pss_cut (ps_if (PW.pt (pw_and (pt_cmpR op_gt (pv 8) pe_int (nomark _)) (pw_and1 (PW.pt (pw_or (pt_cmpR op_ne (pe_dget1 (hu_of hr) (pv 3) (pe_ix ix_list (pv 0) pe_int (fun _ _ => rfl)) ⟨rfl, rfl, rfl, rfl⟩) pe_str (nomark _)) (pw_or1 (pt_cmpR (op_neD (hu62 hr)) (pe_dget (hu_of hr) (pv 4) (pe_ix ix_list (pv 0) pe_int (fun _ _ => rfl)) (fun _ _ => rfl)) (pe_slice sl_tup (pv 7) po_none (po_some (pe_un un_neg pe_int))) (nomark _))))))))
        (pss_one (ps_ret pe_bl))
        pss_nil)
      (pss_cons (ps_set (i := 9) sc_Lright.nd rfl (Or.inr rfl) (pe_dget (hu_of hr) (pv 5) (pe_ix ix_list (pv 0) pe_int (fun _ _ => rfl)) (fun _ _ => rfl)))
      (pss_cut (ps_setComp (i := 10) sc_Lright.nd rfl rfl (N' := ["_law_k", "_law_root", "_law_book_here"]) (js := [none, some 9, some 1]) rfl rfl (by decide +kernel) (by decide +kernel) (free_of ["_law_root", "_law_book_here"] (by decide +kernel) (fm_cons (.inl rfl) (fm_cons (.inl rfl) fm_nil))) (cap_of rfl (fm_cons (fun j e => nomatch e) (fm_cons (fun j e => by cases e; exact ⟨rfl, rfl, .inl rfl⟩) (fm_cons (fun j e => by cases e; exact ⟨rfl, rfl, .inl rfl⟩) fm_nil)))) (pi_range1 rfl T.no_range (pa_cons (pe_callB call_len_seq rfl T.no_len bt_len (pa_cons (pv 1) pa_nil)) pa_nil)) (fun B => ⟨(pg_name (i := 0) (show List.Nodup (["_law_k", "_law_root", "_law_book_here"] : List Str) by decide +kernel) rfl (Or.inl rfl)), (pifs_one (pt_cmpR op_eq (pe_ix ix_list (pe_ix ix_list (pv 2) (pv 0) (fun _ _ => rfl)) pe_int (fun _ _ => rfl)) (pv 1) (nomark _))), (pv 0)⟩))
      (pss_cons (ps_if (PW.pt (pw_or (pt_cmpR op_ne (pe_callB call_len_seq rfl T.no_len bt_len (pa_cons (pv 10) pa_nil)) pe_int (nomark _)) (pw_or1 (pt_cmpR op_ne (pe_dget (hu_of hr) (pv 3) (pv 9) (fun _ _ => rfl)) pe_str (nomark _)))))
        (pss_one (ps_ret pe_bl))
        pss_nil)
      (pss_cons (ps_set (i := 11) sc_Lright.nd rfl (Or.inl rfl) (pe_ix ix_list (pv 1) (pe_ix ix_list (pv 10) pe_int (fun _ _ => rfl)) (fun _ _ => rfl)))
      (pss_cons (ps_if (PW.pt (pw_or (pt_cmpR op_ne (pe_ix ix_list (pv 11) pe_int (fun _ _ => rfl)) (pe_ix ix_list (pv 0) pe_int (fun _ _ => rfl)) (nomark _)) (pw_or (pt_cmpR op_ne (pe_ix ix_list (pv 11) pe_int (fun _ _ => rfl)) (pe_ix ix_list (pv 0) pe_int (fun _ _ => rfl)) (nomark _)) (pw_or1 (pt_cmp (pc_notN (pe_ix ix_list (pv 11) pe_int (fun _ _ => rfl))))))))
        (pss_one (ps_ret pe_bl))
        pss_nil)
      (pss_cons (ps_if (PW.pt (pw_or (pt_cmpR op_lt (pe_bm PySem.F.plainAttrs_list PySem.F.slot_list_index PySem.F.type_list_index (mt_index (hu62 hr)) (pv 1) (pa_cons (pv 0) pa_nil)) (pe_ix ix_list (pv 10) pe_int (fun _ _ => rfl)) (nomark _)) (pw_or1 (pt_cmpR op_ne (pe_cmp (pc_isN (pe_ix ix_list (pv 0) pe_int (fun _ _ => rfl)))) (pe_cmpR op_eq (pv 9) (pe_ix ix_list (pv 0) pe_int (fun _ _ => rfl)) (nomark _)) (nomark _)))))
        (pss_one (ps_ret pe_bl))
        pss_nil)
      (pss_one (ps_ret (pe_and (pe_call (ok_Lwhole T) (hr.mono (by decide)) rfl T.Lwhole.mgf T.Lwhole.kp T.Lwhole.bi .nil pass0 (pa_cons (pe_dget (hu_of hr) (pv 6) (pe_ix ix_list (pv 0) pe_int (fun _ _ => rfl)) (fun _ _ => rfl)) pa_nil)) (pe_one (pe_cmpR op_eq (pe_dget (hu_of hr) (pv 6) (pe_ix ix_list (pv 0) pe_int (fun _ _ => rfl)) (fun _ _ => rfl)) (pe_ix ix_list (pv 11) pe_int (fun _ _ => rfl)) (nomark _))))))))))))))))), ?_⟩
    have sz : 2000 < sizeLine := le_ble rfl
    have lw := hR.1
    have rok := all_ok okk nd
    have okx := rok.ok x hx
    obtain ⟨fn, fr⟩ := right_f okk nd hx hxj
    obtain ⟨ra', era, hra⟩ := hR.2 j _ _ hj hxj
    cases era
    have f0 : atI (rowB x.e) 0 = some (.int x.e.n) := atI_nat (j := 0) rfl
    have f2 : atI (rowB x.e) 2 = some (.str x.e.r) := atI_nat (j := 2) rfl
    have f3 : atI (rowB x.e) 3 = some (.str x.e.w) := atI_nat (j := 3) rfl
    have f4 : atI (rowB x.e) 4 = some (optV x.e.u) := atI_nat (j := 4) rfl
    have f6 : atI (rowB x.e) 6 = some (optV x.e.b) := atI_nat (j := 6) rfl
    obtain ⟨nv, hnv, nt, rfl, hnt⟩ := names_at td.nm (by rw [rok.nk]; exact rok.nd) (rok.nm x hx)
    refine ⟨_, rfl, tt, _, rfl, SqT.of htt, rfl, ?_⟩
    walk_at "rd"
    refine ⟨ra, _, _, _, rfl, rfl, SqL.of hra, f0, dn, .ref nt, rfl, by rw [← hnv]; exact DGet.k (k := Sum.inl x.e.n) td.n, ?_⟩
    obtain ⟨kr, hkr⟩ : ∃ m : Int, m = (depthR x.e.r : Int) := ⟨_, rfl⟩
    refine ⟨fun σ' G' => Same H G' ∧ σ' = [some (.ref ra), some (.ref l), some (.ref tt), some (.ref dw), some (.ref dn), some (.ref df), some (.ref ds), some (.ref nt), some (.int kr), none, none, none], ?_, ?_⟩
    · refine fun p hp => ⟨upd_same, manyD, rfl, by decide, ?_⟩
      have sm : Same H (upd (upd H p (.dK [])) p (.dK (mergeK [] manyD))) := fun b u hb => by rw [upd_upd, upd_ne (ne_of_none hb hp)]; exact hb
      have hm : DGet (upd (upd H p (.dK [])) p (.dK (mergeK [] manyD))) p (.str x.e.r) (some (.int kr)) := by
        rw [hkr, ← many_at okx]
        exact DGet.k (k := Sum.inr x.e.r) upd_same
      generalize upd (upd H p (.dK [])) p (.dK (mergeK [] manyD)) = G1 at sm hm ⊢
      exact ⟨_, rfl, ra, _, _, _, rfl, rfl, SqL.of (sm _ _ hra), f2, p, .int kr, rfl, hm, sm, rfl⟩
    rintro σ1 G1 ⟨sm, rfl⟩
    have hL := sm _ _ hL
    have hR := hR.same sm
    have hra := sm _ _ hra
    have td := td.same sm
    have hnt := sm _ _ hnt
    have dp := rok.dp x hx
    obtain ⟨z, hz⟩ : ∃ z, x.nm = z ++ [x.e.w] := by
      rcases fn with ⟨h, _⟩ | ⟨y, _, _, _, h⟩
      · exact ⟨[], h⟩
      · exact ⟨_, h⟩
    have hl1 : atI (x.nm.map V.str) (-1) = some (.str x.e.w) := by rw [hz, List.map_append]; exact atI_last _ _
    refine ⟨_, rfl, rIsiA.ty (.tup hnt) rfl ⟨_, rfl, iteF ?_⟩⟩
    refine ⟨_, rfl, nt, _, rfl, .inr (SqT.of hnt), _, rfl, rfl, _, rfl, ?_⟩
    refine ite2 (fun h => ?_) (fun _ => ?_)
    · exfalso
      rw [List.length_map, dp, hkr, decide_eq_true rfl] at h
      cases h
    walk_at "rd"
    refine ⟨nt, _, _, _, rfl, rfl, SqT.of hnt, hl1, _, rfl, ra, _, _, _, rfl, rfl, SqL.of hra, f3, rfl, _, rfl, ?_⟩
    refine ite2 (fun h => ?_) (fun _ => ?_)
    · exfalso
      rw [decide_eq_true rfl] at h
      cases h
    obtain ⟨y, hy, ky, kle, hyk, ery, yb, yr, yw, yiff⟩ := fr
    have oky := rok.ok y hy
    have gF : ∀ G : Hp, Same G1 G → DGet G df (.int x.e.n) (some (.int y.e.n)) := fun G s => by
      have h1 : valV (rootsD (resE es).r) (Sum.inl x.e.n) = some (.int (rootN (resE es).r x).n) := roots_at rok.rn hx
      rw [ery] at h1
      rw [← h1]
      exact DGet.k (k := Sum.inl x.e.n) (s _ _ td.f)
    obtain ⟨sh, hsh⟩ := okE_s oky yb
    have gS : ∀ G : Hp, Same G1 G → DGet G ds (.int x.e.n) (some (.int sh)) := fun G s => by
      have h1 : valV (tiedD (resE es).r) (Sum.inl x.e.n) = some (optV (rootN (resE es).r x).s) := roots_at rok.rn hx
      rw [ery, hsh] at h1
      have h1 : valV (tiedD (resE es).r) (Sum.inl x.e.n) = some (.int sh) := h1
      rw [← h1]
      exact DGet.k (k := Sum.inl x.e.n) (s _ _ td.s)
    have gW : ∀ G : Hp, Same G1 G → ∀ v ∈ (resE es).r, DGet G dw (.int v.e.n) (some (.str (Str.ofString "right"))) := fun G s v hv => by
      rw [← outs_mem rok ((right_iff es).1 v hv).2]
      exact DGet.k (k := Sum.inl v.e.n) (s _ _ td.w)
    refine ⟨fun σ' G' => Same G1 G' ∧ σ' = [some (.ref ra), some (.ref l), some (.ref tt), some (.ref dw), some (.ref dn), some (.ref df), some (.ref ds), some (.ref nt), some (.int kr), none, none, none], ?_, ?_⟩
    · rcases fn with ⟨h1, h2⟩ | ⟨v, hv, h1, h2, h3⟩
      · have k1 : kr = 1 := by rw [hkr, h2]; decide +kernel
        subst k1
        exact ⟨_, rfl, _, _, rfl, rfl, _, rfl, iteF ⟨Same.refl _, rfl⟩⟩
      · have k1 : 1 < kr := by
          rw [hkr]
          rcases okE_rank okx with q | q | q
          · exact absurd q h1
          · rw [q]; decide +kernel
          · rw [q]; decide +kernel
        rw [h2] at f4
        have f4 : atI (rowB x.e) 4 = some (.int v.e.n) := f4
        obtain ⟨vv, hvv, vt, rfl, hvt⟩ := names_at td.nm (by rw [rok.nk]; exact rok.nd) (rok.nm v hv)
        have gV : DGet G1 dn (.int v.e.n) (some (.ref vt)) := by rw [← hvv]; exact DGet.k (k := Sum.inl v.e.n) td.n
        refine ⟨_, rfl, _, _, rfl, rfl, _, rfl, ?_⟩
        refine ite2 (fun _ => ?_) (fun h => absurd (decide_eq_true k1) h)
        refine ⟨_, rfl, dw, rfl, .inl ⟨_, .inl td.w⟩, _, rfl, ra, _, _, _, rfl, rfl, SqL.of hra, f4, _, gW _ (Same.refl _) v hv, rfl, _, rfl, ?_⟩
        refine ite2 (fun h => ?_) (fun _ => ?_)
        · exfalso
          have h : (!decide (V.str (Str.ofString "right") = V.str (Str.ofString "right"))) = true := h
          rw [decide_eq_true rfl] at h
          cases h
        refine ⟨_, rfl, _, rfl, ra, _, _, _, rfl, rfl, SqL.of hra, f4, dn, .ref vt, rfl, gV, ?_⟩
        have ne : x.nm.map V.str ≠ [] := by rw [h3, List.map_append]; exact fun q => by simp at q
        have cw : cutV (x.nm.map V.str) none (some (-1)) = v.nm.map V.str := by rw [cut_last ne, h3, List.map_append]; exact List.dropLast_concat
        walk_at "rd"
        refine ⟨nt, _, rfl, SqT.of hnt, cut_part ne, fun p hp => ?_⟩
        rw [cw]
        have s1 := Same.new (o := HO.tup (v.nm.map V.str)) hp
        have h := SeqEq.flatT (K := K) (n := 0) (SqT.of (s1 _ _ hvt)) (SqT.of (upd_same (H := G1) (a := p) (o := HO.tup (v.nm.map V.str)))) rfl (flatS _) (flatS _)
        rw [eqL_strs, decide_eq_true rfl] at h
        exact ⟨0, true, by decide, h, _, rfl, iteF ⟨s1, rfl⟩⟩
    rintro σ2 G2 ⟨s2, rfl⟩
    have hL := s2 _ _ hL
    have hR := hR.same s2
    have hra := s2 _ _ hra
    refine ⟨_, rfl, _, rfl, ra, _, _, _, rfl, rfl, SqL.of hra, f0, df, .int y.e.n, rfl, gF _ s2, ?_⟩
    refine ⟨fun σ' G' => Same G2 G' ∧ ∃ pl, G' pl = some (.lst [.int ky]) ∧ σ' = [some (.ref ra), some (.ref l), some (.ref tt), some (.ref dw), some (.ref dn), some (.ref df), some (.ref ds), some (.ref nt), some (.int kr), some (.int y.e.n), some (.ref pl), none], ?_, ?_⟩
    · refine ⟨_, rfl, l, _, rfl, .inl (SqL.of hL), ?_⟩
      walk_at "rd"
      refine ⟨by omega, by omega, fun pl B hpl => ?_⟩
      have kyl : ky < es.length := (List.getElem?_eq_some_iff.mp hyk).1
      refine loop_by (ws.length : Int).toNat (fun i σ acc G => (∃ o, σ = [o, some (.int y.e.n), some (.ref l)]) ∧ Same G2 G ∧ G pl = some (.lst acc) ∧ acc = if ky < i then [.int ky] else []) (by omega) ?_ ?_ (fun i σ acc H hi p => hi) ?_ ?_
      · exact ⟨⟨_, rfl⟩, Same.new hpl, upd_same, (if_neg (Nat.not_lt_zero _)).symm⟩
      · rintro i σ acc G hi ⟨_, sG, h1, h2⟩
        refine ⟨h1, ?_⟩
        rw [h2]
        split
        · show 1 ≤ i
          omega
        · exact Nat.zero_le _
      · rintro i v σ acc G G' hi ⟨⟨o, rfl⟩, sG, h1, h2⟩ ⟨rfl, rfl⟩
        have hie : i < es.length := by omega
        have ee : es[i]? = some es[i] := List.getElem?_eq_getElem hie
        obtain ⟨v, hv⟩ : ∃ v, ws[i]? = some v := ⟨_, List.getElem?_eq_getElem (by omega)⟩
        have hv' : atI ws (0 + (i : Int)) = some v := by rw [Int.zero_add]; exact atI_nat hv
        obtain ⟨va, rfl, hrow⟩ := hR.2 i v _ hv ee
        have g0 : atI (rowB es[i]) 0 = some (.int es[i].n) := atI_nat (j := 0) rfl
        have iff1 : es[i].n = y.e.n ↔ i = ky := by
          constructor
          · intro q
            have a1 : (es.map (·.n))[i]? = some y.e.n := by rw [List.getElem?_map, ee, ← q]; rfl
            have a2 : (es.map (·.n))[ky]? = some y.e.n := by rw [List.getElem?_map, hyk]; rfl
            exact (List.getElem?_inj (by rw [List.length_map]; exact hie) nd).mp (a1.trans a2.symm)
          · rintro rfl
            rw [ee] at hyk
            rw [Option.some.inj hyk]
        refine ⟨_, rfl, _, rfl, l, _, _, _, rfl, rfl, SqL.of (sG _ _ hL), hv', va, _, _, _, rfl, rfl, SqL.of (sG _ _ hrow), g0, _, rfl, rfl, _, rfl, ?_⟩
        refine ite2 (fun h => ?_) (fun h => ?_)
        · have h : i = ky := iff1.mp (V.int.inj (of_decide_eq_true h))
          subst h
          rw [if_neg (Nat.lt_irrefl _)] at h2
          subst h2
          exact ⟨_, rfl, h1, Nx.mk hi ⟨⟨_, rfl⟩, same_put hpl sG, upd_same, by rw [if_pos (Nat.lt_succ_self _), Int.zero_add]; rfl⟩⟩
        · have h : i ≠ ky := fun q => h (decide_eq_true (by rw [iff1.mpr q]))
          refine Nx.mk hi ⟨⟨_, rfl⟩, sG, h1, ?_⟩
          rw [h2]
          by_cases q : ky < i
          · rw [if_pos q, if_pos (by omega)]
          · rw [if_neg q, if_neg (by omega)]
      · rintro σ acc G ⟨_, sG, h1, h2⟩
        rw [if_pos (by omega)] at h2
        subst h2
        exact ⟨Nat.le_refl _, sG, pl, h1, rfl⟩
    rintro σ3 G3 ⟨s3, pl, hpl, rfl⟩
    have hL := s3 _ _ hL
    have hR := hR.same s3
    have hra := s3 _ _ hra
    have s13 := s2.trans s3
    obtain ⟨yv, hyv⟩ : ∃ v, ws[ky]? = some v := ⟨_, List.getElem?_eq_getElem (by rw [lw]; exact (List.getElem?_eq_some_iff.mp hyk).1)⟩
    obtain ⟨ya, rfl, hya⟩ := hR.2 ky _ _ hyv hyk
    have p0 : atI [V.int ky] 0 = some (.int ky) := atI_nat (j := 0) rfl
    have g2 : atI (rowB y.e) 2 = some (.str y.e.r) := atI_nat (j := 2) rfl
    have g3 : atI (rowB y.e) 3 = some (.str y.e.w) := atI_nat (j := 3) rfl
    have g5 : atI (rowB y.e) 5 = some (.int sh) := by have h : atI (rowB y.e) 5 = some (optV y.e.s) := atI_nat (j := 5) rfl; rw [hsh] at h; exact h
    have g6 : atI (rowB y.e) 6 = some .non := by have h : atI (rowB y.e) 6 = some (optV y.e.b) := atI_nat (j := 6) rfl; rw [yb] at h; exact h
    refine ⟨_, rfl, pl, _, rfl, .inl (SqL.of hpl), rfl, _, rfl, iteF ?_⟩
    refine ⟨_, rfl, _, rfl, dw, .str (Str.ofString "right"), rfl, gW _ s13 y hy, rfl, _, rfl, ?_⟩
    refine ite2 (fun h => ?_) (fun _ => ?_)
    · exfalso
      rw [decide_eq_true rfl] at h
      cases h
    refine ⟨_, rfl, _, rfl, pl, _, _, _, rfl, rfl, SqL.of hpl, p0, l, _, _, _, rfl, rfl, SqL.of hL, atI_nat hyv, ?_⟩
    refine ⟨_, rfl, ya, _, _, _, rfl, rfl, SqL.of hya, g2, _, rfl, ra, _, _, _, rfl, rfl, SqL.of hra, f2, rfl, _, rfl, ?_⟩
    refine ite2 (fun h => ?_) (fun _ => ?_)
    · exfalso
      rw [yr, decide_eq_true rfl] at h
      cases h
    refine ⟨_, rfl, ya, _, _, _, rfl, rfl, SqL.of hya, g3, _, rfl, ra, _, _, _, rfl, rfl, SqL.of hra, f3, rfl, _, rfl, ?_⟩
    refine ite2 (fun h => ?_) (fun _ => ?_)
    · exfalso
      rw [yw, decide_eq_true rfl] at h
      cases h
    refine ⟨_, rfl, ya, _, _, _, rfl, rfl, SqL.of hya, g6, _, rfl, iteF ?_⟩
    have eqs : ∀ (i : Nat) v, ws[i]? = some v → ∃ a, v = V.ref a ∧ EqD K G3 1 v (.ref ra) (decide (i = j)) := fun i v hv => by
      have hie : i < es.length := by rw [← lw]; exact (List.getElem?_eq_some_iff.mp hv).1
      have ee : es[i]? = some es[i] := List.getElem?_eq_getElem hie
      obtain ⟨va, rfl, hrow⟩ := hR.2 i v _ hv ee
      have h := SeqEq.flatL (K := K) (n := 0) (SqL.of hrow) (SqL.of hra) (flat8 _) (flat8 _)
      refine ⟨va, rfl, .inr ?_⟩
      by_cases q : i = j
      · subst q
        rw [hxj] at ee
        rw [← Option.some.inj ee, eqL_self (flat8 _)] at h
        rw [decide_eq_true rfl]
        exact h
      · have q2 : es[i].n ≠ x.e.n := fun z => q (by
          have a1 : (es.map (·.n))[i]? = some x.e.n := by rw [List.getElem?_map, ee, ← z]; rfl
          have a2 : (es.map (·.n))[j]? = some x.e.n := by rw [List.getElem?_map, hxj]; rfl
          exact (List.getElem?_inj (by rw [List.length_map]; exact hie) nd).mp (a1.trans a2.symm))
        rw [decide_eq_false q]
        rw [eqL_row q2] at h
        exact h
    refine ⟨_, rfl, .inl ⟨rfl, _, SqL.of hL⟩, _, rfl, l, ws, ra, j, 1, fun i => decide (i = j), rfl, rfl, SqL.of hL, hj, by decide, eqs, fun i h => of_decide_eq_true h, ?_⟩
    refine ⟨_, rfl, pl, _, _, _, rfl, rfl, SqL.of hpl, p0, _, _, rfl, rfl, _, rfl, ?_⟩
    refine ite2 (fun h => ?_) (fun _ => ?_)
    · exfalso
      have := of_decide_eq_true h
      omega
    refine ⟨_, rfl, ra, _, _, _, rfl, rfl, SqL.of hra, f6, _, rfl, _, rfl, ra, _, _, _, rfl, rfl, SqL.of hra, f0, rfl, rfl, _, rfl, ?_⟩
    refine ite2 (fun h => ?_) (fun _ => ?_)
    · exfalso
      have h : (!decide (V.bl (decide (optV x.e.b = V.non)) = V.bl (decide (V.int y.e.n = V.int x.e.n)))) = true := h
      rw [decide_eq_true (congrArg V.bl (dec_iff (opt_none.trans (yiff.trans int_iff)))) ] at h
      cases h
    refine ⟨_, rfl, _, rfl, ra, _, _, _, rfl, rfl, SqL.of hra, f0, ds, .int sh, rfl, gS _ s13, _, rfl, Own.int, ?_⟩
    refine ⟨_, rfl, iteT ?_⟩
    refine ⟨_, rfl, _, rfl, ra, _, _, _, rfl, rfl, SqL.of hra, f0, ds, .int sh, rfl, gS _ s13, _, rfl, ya, _, _, _, rfl, rfl, SqL.of hya, g5, rfl, ?_⟩
    rw [decide_eq_true rfl]
    exact k _ (sm.trans s13)
set_option maxHeartbeats 4000000 in
theorem ok_law (T : Txt w K mg c) : FnOk P w K mg base CX0 7 c.a_law c.d_law ["_law_script"] (spLaw K) := by
  refine T.law.fn.ok sc_law (fun vs H Q E h => ?_) (fun cdv A outer s H vs Q E hr h => ?_)
  · obtain ⟨a, ns, rfl, _⟩ := h
    rfl
  · obtain ⟨a, ns, rfl, hS, hn, k⟩ := h
    refine ⟨_, (pss_cons (ps_set (i := 1) sc_law.nd rfl (Or.inl rfl) (pe_call (ok_Lbook T) (hr.mono (by decide)) rfl T.Lbook.mgf T.Lbook.kp T.Lbook.bi .nil pass0 (pa_cons (pv 0) (pa_cons pe_int pa_nil))))
      (pss_cons (ps_set (i := 2) sc_law.nd rfl (Or.inl rfl) (pe_call (ok_Lmade T) (hr.mono (by decide)) rfl T.Lmade.mgf T.Lmade.kp T.Lmade.bi .nil pass0 (pa_cons (pv 1) pa_nil)))
      (pss_cons (ps_set (i := 3) sc_law.nd rfl (Or.inr rfl) (pe_callS (ok_outcomes T) (hr.mono (by decide)) rfl T.outcomes.mgf T.outcomes.kp T.outcomes.bi .nil passE0 (pa_cons (pv 2) pa_nil)))
      (pss_cons (ps_set (i := 4) sc_law.nd rfl (Or.inl rfl) (pe_callS (ok_full_names T) (hr.mono (by decide)) rfl T.full_names.mgf T.full_names.kp T.full_names.bi .nil passE0 (pa_cons (pv 2) pa_nil)))
      (pss_cons (ps_set (i := 5) sc_law.nd rfl (Or.inl rfl) (pe_tup (pa_cons (pv 3) (pa_cons (pv 4) (pa_cons (pe_callS (ok_roots T) (hr.mono (by decide)) rfl T.roots.mgf T.roots.kp T.roots.bi .nil passE0 (pa_cons (pv 2) pa_nil)) (pa_cons (pe_callS (ok_tied T) (hr.mono (by decide)) rfl T.tied.mgf T.tied.kp T.tied.bi .nil passE0 (pa_cons (pv 2) pa_nil)) pa_nil))))))
      (pss_cut (ps_setComp (i := 6) sc_law.nd rfl rfl (N' := ["_law_one", "_law_words_here"]) (js := [none, some 3]) rfl rfl (by decide +kernel) (by decide +kernel) (free_of ["_law_words_here"] (by decide +kernel) (fm_cons (.inl rfl) fm_nil)) (cap_of rfl (fm_cons (fun j e => nomatch e) (fm_cons (fun j e => by cases e; exact ⟨rfl, rfl, .inl rfl⟩) fm_nil))) (pi_list (pv 1)) (fun B => ⟨(pg_name (i := 0) (show List.Nodup (["_law_one", "_law_words_here"] : List Str) by decide +kernel) rfl (Or.inl rfl)), (pifs_one (pt_cmpR op_eq (pe_dget (hu_of hr) (pv 1) (pe_ix ix_list (pv 0) pe_int (fun _ _ => rfl)) (fun _ _ => rfl)) pe_str (nomark _))), (pv 0)⟩))
      (pss_cons (ps_if (PW.pt (pw_or (pt_cmpR (op_neD (hu62 hr)) (pe_callB (call_sorted_dK rfl) rfl T.no_sorted bt_sorted (pa_cons (pe_ix ix_tup (pv 5) pe_int (fun _ _ => rfl)) pa_nil)) (pe_callB (call_sorted_dK rfl) rfl T.no_sorted bt_sorted (pa_cons (pe_ix ix_tup (pv 5) pe_int (fun _ _ => rfl)) pa_nil)) (nomark _)) (pw_or1 (pt_cmpR (op_neD (hu62 hr)) (pe_callB (call_sorted_dK rfl) rfl T.no_sorted bt_sorted (pa_cons (pe_ix ix_tup (pv 5) pe_int (fun _ _ => rfl)) pa_nil)) (pe_callB (call_sorted rfl) rfl T.no_sorted bt_sorted (pa_cons (pe_comp (N' := ["_law_one"]) (js := [none]) rfl rfl (by decide +kernel) (by decide +kernel) (free_nil (by decide +kernel)) (cap_nil rfl rfl) (pi_list (pv 6)) (fun B => ⟨(pg_name (i := 0) (show List.Nodup (["_law_one"] : List Str) by decide +kernel) rfl (Or.inl rfl)), pifs_nil, (pe_ix ix_list (pv 0) pe_int (fun _ _ => rfl))⟩)) pa_nil)) (nomark _)))))
        (pss_one (ps_ret pe_bl))
        pss_nil)
      (pss_cut (ps_set (i := 7) sc_law.nd rfl (Or.inl rfl) pe_dnewN)
      (pss_cons (ps_for PassesOwn.never rfl (pi_list (pv 6)) (pg_name (i := 8) sc_law.nd rfl (Or.inl rfl))
        (pss_cons (ps_if (PW.pt (pw_or (pt_not (pt_val (pe_call (ok_Lright T) (hr.mono (by decide)) rfl T.Lright.mgf T.Lright.kp T.Lright.bi .nil pass0 (pa_cons (pv 8) (pa_cons (pv 1) (pa_cons (pv 5) pa_nil)))))) (pw_or1 (pt_cmpR (op_inN (hu62 hr)) (pe_tup (pa_cons (pe_ix ix_list (pv 8) pe_int (fun _ _ => rfl)) (pa_cons (pe_dget (hu_of hr) (pv 4) (pe_ix ix_list (pv 8) pe_int (fun _ _ => rfl)) (fun _ _ => rfl)) pa_nil))) (pv 7) (by with_unfolding_all rfl)))))
        (pss_one (ps_ret pe_bl))
        pss_nil)
      (pss_one (ps_asg pe_bl (pg_sub (pv 7) (pe_tup (pa_cons (pe_ix ix_list (pv 8) pe_int (fun _ _ => rfl)) (pa_cons (pe_dget (hu_of hr) (pv 4) (pe_ix ix_list (pv 8) pe_int (fun _ _ => rfl)) (fun _ _ => rfl)) pa_nil))) (set_dN (hu62 hr)))))))
      (pss_one (ps_ret (pe_and (pe_cmpR op_eq (pe_callB call_lenD rfl T.no_len bt_len (pa_cons (pv 4) pa_nil)) (pe_callB call_len_seq rfl T.no_len bt_len (pa_cons (pv 1) pa_nil)) (nomark _)) (pe_one (pe_cmpR op_eq (pe_callB call_lenD rfl T.no_len bt_len (pa_cons (pv 3) pa_nil)) (pe_callB call_len_seq rfl T.no_len bt_len (pa_cons (pv 1) pa_nil)) (nomark _))))))))))))))), ?_⟩
    have sz : 2000 < sizeLine := le_ble rfl
    refine ⟨_, rfl, a, 1, ns, rfl, by decide, by decide, hS, hn, fun l ws es G0 s0 hL hR hB h64 => ?_⟩
    have l84 := hB.le
    have okk := hB.ok
    have lw := hR.1
    obtain ⟨nd, _⟩ := book_nd hB.bk
    have rok := all_ok okk nd
    have lo : (resE es).o.length = es.length := by
      rw [← List.length_map (f := fun p : Int × Str => p.1), resE_keys, List.length_map]
    have lr : (resE es).r.length ≤ es.length := by
      have h1 : ((resE es).r.map (·.e.n)).length ≤ ((resE es).o.map (·.1)).length := nd_len rok.rn fun x hx => by
        obtain ⟨y, hy, rfl⟩ := List.mem_map.mp hx
        exact rok.sub y hy
      rw [List.length_map, List.length_map, lo] at h1
      exact h1
    refine ⟨_, rfl, l, ws, es, rfl, hL, hR, okk, l84, fun q acc G1 s1 fq hq hE => ?_⟩
    have lac : acc.length = es.length := hE.1
    have gb : ∀ G', Same G1 G' → GoodB G' c.c_Entry (.ref q) es := fun G' s => ⟨q, acc, rfl, s _ _ hq, hE.same s, okk, by omega, hB.bk⟩
    refine ⟨_, rfl, .ref q, rfl, .inl ⟨es, gb _ (Same.refl _), fun dw Ga sa fa ha => ?_⟩⟩
    refine ⟨_, rfl, .ref q, rfl, .inl ⟨es, gb _ sa, fun dn kn Gb sb fb hb pN => ?_⟩⟩
    refine ⟨_, rfl, _, rfl, _, rfl, .ref q, rfl, .inl ⟨es, gb _ (sa.trans sb), fun df Gc sc fc hc => ?_⟩⟩
    refine ⟨_, rfl, .ref q, rfl, .inl ⟨es, gb _ (sa.trans (sb.trans sc)), fun ds Gd sd fd hd => ?_⟩⟩
    refine ⟨le_ble rfl, fun tt htt => ?_⟩
    have t1 := Same.new (o := HO.tup [V.ref dw, .ref dn, .ref df, .ref ds]) htt
    have ktt := upd_same (H := Gd) (a := tt) (o := .tup [V.ref dw, .ref dn, .ref df, .ref ds])
    have td : Told Gd es dw dn df ds kn := ⟨sd _ _ (sc _ _ (sb _ _ ha)), sd _ _ (sc _ _ hb), Paired.mapP pN fun x q z => ⟨z.1, z.2.same fun t xs e => sd _ _ (sc _ _ e)⟩, sd _ _ hc, hd⟩
    have td := td.same t1
    have s1d := s1.trans (sa.trans (sb.trans (sc.trans (sd.trans t1))))
    generalize upd Gd tt (.tup [V.ref dw, .ref dn, .ref df, .ref ds]) = G2 at ktt td s1d ⊢
    have hL := s1d _ _ hL
    have hR := hR.same s1d
    clear gb hE hq fq s1 sa sb sc sd s1d t1 fa fb fc fd ha hb hc hd pN htt
    refine ⟨fun σ' G' => Same G2 G' ∧ ∃ rl rs, G' rl = some (.lst rs) ∧ rs.length = (resE es).r.length ∧ (∀ (i : Nat) v x, rs[i]? = some v → (resE es).r[i]? = some x → ∃ j : Nat, ws[j]? = some v ∧ es[j]? = some x.e) ∧ σ' = [some (.ref a), some (.ref l), some (.ref q), some (.ref dw), some (.ref dn), some (.ref tt), some (.ref rl), none, none], ?_, ?_⟩
    · refine ⟨_, rfl, l, rfl, ⟨_, SqL.of hL⟩, fun rl B hrl => ?_⟩
      refine loop_lst (xs := ws) (fun i σ acc G => (∃ o, σ = [o, some (.ref dw)]) ∧ Same G2 G ∧ G rl = some (.lst acc) ∧ acc.length ≤ i ∧ acc.length = (resE (es.take i)).r.length ∧ ∀ (k : Nat) v x, acc[k]? = some v → (resE (es.take i)).r[k]? = some x → ∃ j : Nat, ws[j]? = some v ∧ es[j]? = some x.e) (by omega) ?_ ?_ ?_ ?_
      · exact ⟨⟨_, rfl⟩, Same.new hrl, upd_same, Nat.zero_le _, rfl, fun k v x h => by rw [List.getElem?_nil] at h; cases h⟩
      · rintro i σ acc G hi ⟨_, sG, h1, h2, _⟩
        exact ⟨h1, SqL.of (sG _ _ hL), h2⟩
      · rintro i v σ acc G hv ⟨⟨o, rfl⟩, sG, h1, h2, h3, h4⟩
        have hi : i < ws.length := (List.getElem?_eq_some_iff.mp hv).1
        have hie : i < es.length := by omega
        have ee : es[i]? = some es[i] := List.getElem?_eq_getElem hie
        obtain ⟨va, rfl, hrow⟩ := hR.2 i v _ hv ee
        have g0 : atI (rowB es[i]) 0 = some (.int es[i].n) := atI_nat (j := 0) rfl
        have vO := outs_mem rok (at_turn hie).1
        refine ⟨_, rfl, _, rfl, va, _, _, _, rfl, rfl, SqL.of (sG _ _ hrow), g0, dw, .str (outS (resE (es.take i)) es[i]), rfl, by rw [← vO]; exact DGet.k (k := Sum.inl es[i].n) (sG _ _ td.w), rfl, _, rfl, ?_⟩
        refine ite2 (fun h => ?_) (fun h => ?_)
        · have h : outS (resE (es.take i)) es[i] = Str.ofString "right" := V.str.inj (of_decide_eq_true h)
          have er : (resE (es.take (i + 1))).r = (resE (es.take i)).r ++ [⟨es[i], (nameE (resE (es.take i)).r es[i]).getD []⟩] := by
            rw [take_one ee, resE_snoc]
            show (if outS (resE (es.take i)) es[i] = Str.ofString "right" then _ else _) = _
            rw [if_pos h]
          refine ⟨_, rfl, h1, Nx.mk hi ⟨⟨_, rfl⟩, same_put hrl sG, upd_same, by rw [List.length_append]; exact Nat.add_le_add_right h2 1, by rw [er, List.length_append, List.length_append, h3]; rfl, fun k v x a1 a2 => ?_⟩⟩
          rw [er] at a2
          rcases Nat.lt_trichotomy k acc.length with q | q | q
          · rw [List.getElem?_append_left q] at a1
            rw [List.getElem?_append_left (by omega)] at a2
            exact h4 k v x a1 a2
          · rw [List.getElem?_append_right (by omega), q, Nat.sub_self] at a1
            rw [List.getElem?_append_right (by omega), q, h3, Nat.sub_self] at a2
            cases a1
            cases a2
            exact ⟨i, hv, ee⟩
          · rw [List.getElem?_eq_none (by rw [List.length_append]; show _ + 1 ≤ _; omega)] at a1
            cases a1
        · have h : outS (resE (es.take i)) es[i] ≠ Str.ofString "right" := fun z => h (decide_eq_true (congrArg V.str z))
          have er : (resE (es.take (i + 1))).r = (resE (es.take i)).r := by
            rw [take_one ee, resE_snoc]
            show (if outS (resE (es.take i)) es[i] = Str.ofString "right" then _ else _) = _
            rw [if_neg h]
          exact Nx.mk hi ⟨⟨_, rfl⟩, sG, h1, by omega, by rw [er]; exact h3, by rw [er]; exact h4⟩
      · rintro σ acc G ⟨_, sG, h1, _, h3, h4⟩
        rw [lw, List.take_of_length_le (Nat.le_refl _)] at h3 h4
        exact ⟨sG, rl, acc, h1, h3, h4, rfl⟩
    rintro σ3 G3 ⟨s3, rl, rs, hrl, lrs, hrs, rfl⟩
    have hL := s3 _ _ hL
    have hR := hR.same s3
    have td := td.same s3
    have ktt := s3 _ _ ktt
    clear s3
    have rw_ : ∀ (i : Nat) v x, rs[i]? = some v → (resE es).r[i]? = some x → ∃ (j : Nat) (ra : Addr), v = .ref ra ∧ ws[j]? = some v ∧ es[j]? = some x.e ∧ G3 ra = some (.lst (rowB x.e)) := fun i v x h1 h2 => by
      obtain ⟨j, a1, a2⟩ := hrs i v x h1 h2
      obtain ⟨ra, e, h⟩ := hR.2 j v _ a1 a2
      exact ⟨j, ra, e, a1, a2, h⟩
    obtain ⟨N, hN⟩ : ∃ N : List Int, N = (resE es).r.map (·.e.n) := ⟨_, rfl⟩
    have kF1 : (rootsD (resE es).r).map (·.1) = N.map Sum.inl := by rw [hN]; unfold rootsD; rw [List.map_map, List.map_map]; rfl
    have kF2 : (tiedD (resE es).r).map (·.1) = N.map Sum.inl := by rw [hN]; unfold tiedD; rw [List.map_map, List.map_map]; rfl
    have ln : N.length < 64 := by rw [hN, List.length_map]; omega
    have i2 : atI [V.ref dw, .ref dn, .ref df, .ref ds] 2 = some (.ref df) := atI_nat (j := 2) rfl
    have i3 : atI [V.ref dw, .ref dn, .ref df, .ref ds] 3 = some (.ref ds) := atI_nat (j := 3) rfl
    refine ⟨_, rfl, tt, _, _, _, rfl, rfl, SqT.of ktt, i2, df, _, N, rfl, td.f, kF1, ln, fun p1 m1 hp1 pm1 so1' => ?_⟩
    have t1 := Same.new (o := HO.lst (m1.map V.int)) hp1
    have e1 := upd_same (H := G3) (a := p1) (o := .lst (m1.map V.int))
    generalize upd G3 p1 (.lst (m1.map V.int)) = G4 at t1 e1 ⊢
    refine ⟨_, rfl, tt, _, _, _, rfl, rfl, SqT.of (t1 _ _ ktt), i3, ds, _, N, rfl, t1 _ _ td.s, kF2, ln, fun p2 m2 hp2 pm2 so2 => ?_⟩
    have t2 := Same.new (o := HO.lst (m2.map V.int)) hp2
    have e2 := upd_same (H := G4) (a := p2) (o := .lst (m2.map V.int))
    have e1 := t2 _ _ e1
    have t12 := t1.trans t2
    generalize upd G4 p2 (.lst (m2.map V.int)) = G5 at t12 e1 e2 ⊢
    have m12 : m1 = m2 := sorted_one so1' so2 (pm1.trans pm2.symm)
    subst m12
    have hh := SeqEq.flatL (K := K) (n := 0) (SqL.of e1) (SqL.of e2) (flatI _) (flatI _)
    rw [eqL_self (flatI _)] at hh
    refine ⟨0, true, by decide, hh, _, rfl, iteF ?_⟩
    refine ⟨_, rfl, tt, _, _, _, rfl, rfl, SqT.of (t12 _ _ ktt), i2, df, _, N, rfl, t12 _ _ td.f, kF1, ln, fun p3 m3 hp3 pm3 so3' => ?_⟩
    have t3 := Same.new (o := HO.lst (m3.map V.int)) hp3
    have e3 := upd_same (H := G5) (a := p3) (o := .lst (m3.map V.int))
    have t13 := t12.trans t3
    generalize upd G5 p3 (.lst (m3.map V.int)) = G6 at t13 e3 ⊢
    have hrl6 := t13 _ _ hrl
    refine ⟨_, rfl, rl, rfl, ⟨_, SqL.of hrl6⟩, fun q4 B hq4 => ?_⟩
    refine loop_lst (xs := rs) (fun i σ acc G => (∃ o, σ = [o]) ∧ Same G6 G ∧ G q4 = some (.lst acc) ∧ acc = (((resE es).r.take i).map (·.e.n)).map V.int) (by omega) ?_ ?_ ?_ ?_
    · exact ⟨⟨_, rfl⟩, Same.new hq4, upd_same, rfl⟩
    · rintro i σ acc G hi ⟨_, sG, h1, h2⟩
      exact ⟨h1, SqL.of (sG _ _ hrl6), by rw [h2, List.length_map, List.length_map, List.length_take]; omega⟩
    · rintro i v σ acc G hv ⟨⟨o, rfl⟩, sG, h1, h2⟩
      have hi : i < rs.length := (List.getElem?_eq_some_iff.mp hv).1
      obtain ⟨x, hx⟩ : ∃ x, (resE es).r[i]? = some x := ⟨_, List.getElem?_eq_getElem (by omega)⟩
      obtain ⟨j, ra, rfl, a1, a2, hra⟩ := rw_ i v x hv hx
      have f0 : atI (rowB x.e) 0 = some (.int x.e.n) := atI_nat (j := 0) rfl
      exact ⟨_, rfl, ra, _, _, _, rfl, rfl, SqL.of (sG _ _ (t13 _ _ hra)), f0, h1, Nx.mk hi ⟨⟨_, rfl⟩, same_put hq4 sG, upd_same, by rw [take_one hx, List.map_append, List.map_append, h2]; rfl⟩⟩
    rintro σ acc4 G7 ⟨_, s7, h4, e4⟩
    rw [lrs, List.take_of_length_le (Nat.le_refl _)] at e4
    rw [← hN] at e4
    subst e4
    have e3 := s7 _ _ e3
    have t17 := t13.trans s7
    refine ⟨q4, N, rfl, SqL.of h4, ln, fun p5 m5 hp5 pm5 so5' => ?_⟩
    have t5 := Same.new (o := HO.lst (m5.map V.int)) hp5
    have e5 := upd_same (H := G7) (a := p5) (o := .lst (m5.map V.int))
    have e3 := t5 _ _ e3
    have t18 := t17.trans t5
    generalize upd G7 p5 (.lst (m5.map V.int)) = G8 at t18 e3 e5 ⊢
    have m35 : m3 = m5 := sorted_one so3' so5' (pm3.trans pm5.symm)
    subst m35
    have hh := SeqEq.flatL (K := K) (n := 0) (SqL.of e3) (SqL.of e5) (flatI _) (flatI _)
    rw [eqL_self (flatI _)] at hh
    refine ⟨0, true, by decide, hh, _, rfl, iteF ?_⟩
    have hL := t18 _ _ hL
    have hR := hR.same t18
    have td := td.same t18
    have ktt := t18 _ _ ktt
    have hrl := t18 _ _ hrl
    clear hh e3 e5 hrl6 t13 t17 s7 h4 t12 t1 t2 t3 t5 e1 e2
    refine ⟨fun σ' G' => Same G8 G' ∧ ∃ kd, G8 kd = none ∧ DN P w G' kd [] ∧ σ' = [some (.ref a), some (.ref l), some (.ref q), some (.ref dw), some (.ref dn), some (.ref tt), some (.ref rl), some (.ref kd), none], fun kd hkd => ⟨Same.new hkd, kd, hkd, DN.new, rfl⟩, ?_⟩
    rintro σ9 G9 ⟨t1, kd, hkd, hD, rfl⟩
    refine ⟨_, rfl, rl, rfl, ⟨_, SqL.of (t1 _ _ hrl)⟩, ?_⟩
    refine for_list (xs := rs) (fun i σ G => Same G8 G ∧ DN P w G kd (knownD ((resE es).r.take i)) ∧ ∃ z8, σ = [some (.ref a), some (.ref l), some (.ref q), some (.ref dw), some (.ref dn), some (.ref tt), some (.ref rl), some (.ref kd), z8]) ?_ ?_ ?_ ?_
    · exact ⟨t1, hD, _, rfl⟩
    · rintro i σ G _ ⟨sG, _⟩
      exact SqL.of (sG _ _ hrl)
    · rintro i v σ G hv ⟨sG, hDi, z8, rfl⟩
      have hi : i < rs.length := (List.getElem?_eq_some_iff.mp hv).1
      obtain ⟨x, hx⟩ : ∃ x, (resE es).r[i]? = some x := ⟨_, List.getElem?_eq_getElem (by omega)⟩
      obtain ⟨j, ra, rfl, a1, a2, hra⟩ := rw_ i v x hv hx
      have hra := t18 _ _ hra
      have hxm := List.mem_of_getElem? hx
      have f0 : atI (rowB x.e) 0 = some (.int x.e.n) := atI_nat (j := 0) rfl
      have f2 : atI (rowB x.e) 2 = some (.str x.e.r) := atI_nat (j := 2) rfl
      have kl : (knownD ((resE es).r.take i)).length ≤ 84 := by unfold knownD; rw [List.length_map, List.length_take]; omega
      have kno := known_none okk nd hx
      have kst : knownD ((resE es).r.take (i + 1)) = knownD ((resE es).r.take i) ++ [(keyR x, V.bl true)] := by unfold knownD; rw [take_one hx, List.map_append]; rfl
      obtain ⟨nv, hnv, nt, rfl, hnt⟩ := names_at td.nm (by rw [rok.nk]; exact rok.nd) (rok.nm x hxm)
      have gN : ∀ G : Hp, Same G8 G → DGet G dn (.int x.e.n) (some (.ref nt)) := fun G s => by rw [← hnv]; exact DGet.k (k := Sum.inl x.e.n) (s _ _ td.n)
      have kat : ∀ {G G' : Hp} {t : Addr}, Same G8 G → G t = none → G' = upd G t (.tup [V.str x.e.r, V.ref nt]) → KeyAt G' (keyR x) t := fun {G G' t} s f e => by
        subst e
        refine ⟨nt, upd_same, ?_⟩
        show _ = some (HO.tup ((x.nm.map (Sum.inr : Str → Key)).map kV))
        rw [key_strs, upd_ne (ne_of_none (s _ _ hnt) f)]
        exact s _ _ hnt
      refine ⟨_, rfl, _, rfl, _, rfl, ra, l, tt, ws, es, x, j, dw, dn, df, ds, kn, rfl, sG _ _ hL, hR.same sG, okk, nd, l84, a1, a2, hxm, sG _ _ ktt, td.same sG, fun Ga sa => ⟨_, rfl, iteF ?_⟩⟩
      have sGa := sG.trans sa
      have hDa := hDi.same sa
      refine ⟨_, rfl, ra, _, _, _, rfl, rfl, SqL.of (sGa _ _ hra), f2, _, rfl, _, rfl, ra, _, _, _, rfl, rfl, SqL.of (sGa _ _ hra), f0, dn, .ref nt, rfl, gN _ sGa, le_ble rfl, fun t ht => ?_⟩
      have u1 := Same.new (o := HO.tup [V.str x.e.r, V.ref nt]) ht
      have ky := kat sGa ht rfl
      have hDb := hDa.same u1
      have sGb := sGa.trans u1
      generalize upd Ga t (.tup [V.str x.e.r, V.ref nt]) = Gb at u1 ky hDb sGb ⊢
      refine ⟨_, rfl, kd, t, keyR x, _, rfl, rfl, ky, hDb, _, rfl, ?_⟩
      rw [kno]
      refine iteF ?_
      refine ⟨_, rfl, _, rfl, ra, _, _, _, rfl, rfl, SqL.of (sGb _ _ hra), f2, _, rfl, _, rfl, ra, _, _, _, rfl, rfl, SqL.of (sGb _ _ hra), f0, dn, .ref nt, rfl, gN _ sGb, le_ble rfl, fun t2 ht2 => ?_⟩
      have u2 := Same.new (o := HO.tup [V.str x.e.r, V.ref nt]) ht2
      have ky2 := kat sGb ht2 rfl
      have hDc := hDb.same u2
      have sGc := sGb.trans u2
      generalize upd Gb t2 (.tup [V.str x.e.r, V.ref nt]) = Gc at u2 ky2 hDc sGc ⊢
      refine ⟨kd, t2, keyR x, _, rfl, rfl, ky2, hDc, by omega, kno, fun Gd' f3 hDd => ⟨fun b u hb => f3 b u (ne_of_none hb hkd) (sGc _ _ hb), ?_, _, rfl⟩⟩
      rw [kst]
      exact hDd
    · rintro σ G ⟨sG, _, z8, rfl⟩
      have e1 : kn.length = es.length := by rw [← Paired.length td.nm, ← List.length_map (f := fun p : Int × Option (List Str) => p.1), rok.nk, List.length_map, lo]
      have e2 : (outsD (resE es)).length = es.length := by unfold outsD; rw [List.length_map, lo]
      refine ⟨_, rfl, dn, _, rfl, sG _ _ td.n, _, rfl, l, _, rfl, .inl (SqL.of (sG _ _ hL)), rfl, _, rfl, ?_⟩
      rw [e1, lw, decide_eq_true rfl]
      refine iteT ?_
      refine ⟨_, rfl, dw, _, rfl, sG _ _ td.w, _, rfl, l, _, rfl, .inl (SqL.of (sG _ _ hL)), rfl, ?_⟩
      rw [e2, lw, decide_eq_true rfl]
      exact k _
end
theorem all_mk {l : PySem.W.OpenLaw} {w : World} {K : PySem.W.Frag} {h : Heap} {mg : Str → Option Value} {fa : Addr} (X : K.In h) (G : h.Ns mainGlobals mg) (hfa : mg "law" = some (.ref fa))
    {f0 : Addr} {od0 an0 : Option Addr} {sl0 : Array (Option Value)} {oc0 kV0 dc0 pm0 cd0 ct0 : Value}
    {f1 : Addr} {od1 an1 : Option Addr} {sl1 : Array (Option Value)} {oc1 kV1 dc1 pm1 cd1 ct1 : Value}
    {f2 : Addr} {od2 an2 : Option Addr} {sl2 : Array (Option Value)} {oc2 kV2 dc2 pm2 cd2 ct2 : Value}
    {f3 : Addr} {od3 an3 : Option Addr} {sl3 : Array (Option Value)} {oc3 kV3 dc3 pm3 cd3 ct3 : Value}
    {f4 : Addr} {od4 an4 : Option Addr} {sl4 : Array (Option Value)} {oc4 kV4 dc4 pm4 cd4 ct4 : Value}
    {f5 : Addr} {od5 an5 : Option Addr} {sl5 : Array (Option Value)} {oc5 kV5 dc5 pm5 cd5 ct5 : Value}
    {f6 : Addr} {od6 an6 : Option Addr} {sl6 : Array (Option Value)} {oc6 kV6 dc6 pm6 cd6 ct6 : Value}
    {f7 : Addr} {od7 an7 : Option Addr} {sl7 : Array (Option Value)} {oc7 kV7 dc7 pm7 cd7 ct7 : Value}
    {f8 : Addr} {od8 an8 : Option Addr} {sl8 : Array (Option Value)} {oc8 kV8 dc8 pm8 cd8 ct8 : Value}
    {f9 : Addr} {od9 an9 : Option Addr} {sl9 : Array (Option Value)} {oc9 kV9 dc9 pm9 cd9 ct9 : Value}
    {f10 : Addr} {od10 an10 : Option Addr} {sl10 : Array (Option Value)} {oc10 kV10 dc10 pm10 cd10 ct10 : Value}
    {f11 : Addr} {od11 an11 : Option Addr} {sl11 : Array (Option Value)} {oc11 kV11 dc11 pm11 cd11 ct11 : Value}
    {f12 : Addr} {od12 an12 : Option Addr} {sl12 : Array (Option Value)} {oc12 kV12 dc12 pm12 cd12 ct12 : Value}
    {f13 : Addr} {od13 an13 : Option Addr} {sl13 : Array (Option Value)} {oc13 kV13 dc13 pm13 cd13 ct13 : Value}
    {f14 : Addr} {od14 an14 : Option Addr} {sl14 : Array (Option Value)} {oc14 kV14 dc14 pm14 cd14 ct14 : Value}
    {f15 : Addr} {od15 an15 : Option Addr} {sl15 : Array (Option Value)} {oc15 kV15 dc15 pm15 cd15 ct15 : Value}
    {f16 : Addr} {od16 an16 : Option Addr} {sl16 : Array (Option Value)} {oc16 kV16 dc16 pm16 cd16 ct16 : Value}
    {f17 : Addr} {od17 an17 : Option Addr} {sl17 : Array (Option Value)} {oc17 kV17 dc17 pm17 cd17 ct17 : Value}
    {f18 : Addr} {od18 an18 : Option Addr} {sl18 : Array (Option Value)} {oc18 kV18 dc18 pm18 cd18 ct18 : Value}
    {f19 : Addr} {od19 an19 : Option Addr} {sl19 : Array (Option Value)} {oc19 kV19 dc19 pm19 cd19 ct19 : Value}
    {f20 : Addr} {od20 an20 : Option Addr} {sl20 : Array (Option Value)} {oc20 kV20 dc20 pm20 cd20 ct20 : Value}
    {f21 : Addr} {od21 an21 : Option Addr} {sl21 : Array (Option Value)} {oc21 kV21 dc21 pm21 cd21 ct21 : Value}
    {f22 : Addr} {od22 an22 : Option Addr} {sl22 : Array (Option Value)} {oc22 kV22 dc22 pm22 cd22 ct22 : Value}
    {f23 : Addr} {od23 an23 : Option Addr} {sl23 : Array (Option Value)} {oc23 kV23 dc23 pm23 cd23 ct23 : Value}
    {f24 : Addr} {od24 an24 : Option Addr} {sl24 : Array (Option Value)} {oc24 kV24 dc24 pm24 cd24 ct24 : Value}
    {f25 : Addr} {od25 an25 : Option Addr} {sl25 : Array (Option Value)} {oc25 kV25 dc25 pm25 cd25 ct25 : Value}
    {f26 : Addr} {od26 an26 : Option Addr} {sl26 : Array (Option Value)} {oc26 kV26 dc26 pm26 cd26 ct26 : Value}
    {f27 : Addr} {od27 an27 : Option Addr} {sl27 : Array (Option Value)} {oc27 kV27 dc27 pm27 cd27 ct27 : Value}
    {f28 : Addr} {od28 an28 : Option Addr} {sl28 : Array (Option Value)} {oc28 kV28 dc28 pm28 cd28 ct28 : Value}
    {f29 : Addr} {od29 an29 : Option Addr} {sl29 : Array (Option Value)} {oc29 kV29 dc29 pm29 cd29 ct29 : Value}
    {c_Entry f_Entry t_Entry : Addr} {od_Entry an_Entry : Option Addr} {sl_Entry : Array (Option Value)} {oc_Entry kV_Entry dc_Entry pm_Entry cd_Entry ct_Entry : Value} {o_Entry : Obj} {n_Entry : Nat}
    {c_Results : Addr}
    {f_Results_init : Addr} {od_Results_init an_Results_init : Option Addr} {sl_Results_init : Array (Option Value)} {oc_Results_init kV_Results_init dc_Results_init pm_Results_init cd_Results_init ct_Results_init : Value}
    {f_Results_put : Addr} {od_Results_put an_Results_put : Option Addr} {sl_Results_put : Array (Option Value)} {oc_Results_put kV_Results_put dc_Results_put pm_Results_put cd_Results_put ct_Results_put : Value}
    {f_Results_name_of : Addr} {od_Results_name_of an_Results_name_of : Option Addr} {sl_Results_name_of : Array (Option Value)} {oc_Results_name_of kV_Results_name_of dc_Results_name_of pm_Results_name_of cd_Results_name_of ct_Results_name_of : Value}
    {f_Results_outcome_of : Addr} {od_Results_outcome_of an_Results_outcome_of : Option Addr} {sl_Results_outcome_of : Array (Option Value)} {oc_Results_outcome_of kV_Results_outcome_of dc_Results_outcome_of pm_Results_outcome_of cd_Results_outcome_of ct_Results_outcome_of : Value}
    {f_Results_root_of : Addr} {od_Results_root_of an_Results_root_of : Option Addr} {sl_Results_root_of : Array (Option Value)} {oc_Results_root_of kV_Results_root_of dc_Results_root_of pm_Results_root_of cd_Results_root_of ct_Results_root_of : Value}
    {u_MOST_LETTERS : Value}
    {u_LAST_DAY : Value}
    {u_LAST_NUMBER : Value}
    {u_RANKS : Addr} {o_RANKS : Obj} {i_RANKS : List Value} {n_RANKS : Nat}
    {u_ABOVE : Addr} {e_ABOVE : List DictEntry} {n_ABOVE : Nat}
    {c_NoRank : Addr}
    {c_NoNumber : Addr}
    {c_NoDay : Addr}
    {c_NoWord : Addr}
    {c_NoBook : Addr}
    {c_NoEntry : Addr}
    {N_NoRank A_NoRank : Addr} {nm_NoRank q_NoRank : Str} {bs_NoRank : List Value} {hd_NoRank : Bool} {sn_NoRank : List Str} {sub_NoRank : List Value} {ab_NoRank : Bool} {col_NoRank : Option Bool} {dd_NoRank : Option Addr} {k0_NoRank k1_NoRank k2_NoRank k3_NoRank k5_NoRank : Option Value}
    {es_NoRank : Array DictEntry} {x1_NoRank : Value} {x2_NoRank : Option Addr} {x3_NoRank : Nat} {x4_NoRank : Array (Option Value)} {y0_NoRank : Value} {y1_NoRank : Option Addr} {y2_NoRank : ClassData} {y3_NoRank : Array (Option Value)} {et_NoRank : Array DictEntry} {z1_NoRank : Value} {z2_NoRank : Option Addr} {z3_NoRank : Nat} {z4_NoRank : Array (Option Value)}
    {N_NoNumber A_NoNumber : Addr} {nm_NoNumber q_NoNumber : Str} {bs_NoNumber : List Value} {hd_NoNumber : Bool} {sn_NoNumber : List Str} {sub_NoNumber : List Value} {ab_NoNumber : Bool} {col_NoNumber : Option Bool} {dd_NoNumber : Option Addr} {k0_NoNumber k1_NoNumber k2_NoNumber k3_NoNumber k5_NoNumber : Option Value}
    {es_NoNumber : Array DictEntry} {x1_NoNumber : Value} {x2_NoNumber : Option Addr} {x3_NoNumber : Nat} {x4_NoNumber : Array (Option Value)} {y0_NoNumber : Value} {y1_NoNumber : Option Addr} {y2_NoNumber : ClassData} {y3_NoNumber : Array (Option Value)} {et_NoNumber : Array DictEntry} {z1_NoNumber : Value} {z2_NoNumber : Option Addr} {z3_NoNumber : Nat} {z4_NoNumber : Array (Option Value)}
    {N_NoDay A_NoDay : Addr} {nm_NoDay q_NoDay : Str} {bs_NoDay : List Value} {hd_NoDay : Bool} {sn_NoDay : List Str} {sub_NoDay : List Value} {ab_NoDay : Bool} {col_NoDay : Option Bool} {dd_NoDay : Option Addr} {k0_NoDay k1_NoDay k2_NoDay k3_NoDay k5_NoDay : Option Value}
    {es_NoDay : Array DictEntry} {x1_NoDay : Value} {x2_NoDay : Option Addr} {x3_NoDay : Nat} {x4_NoDay : Array (Option Value)} {y0_NoDay : Value} {y1_NoDay : Option Addr} {y2_NoDay : ClassData} {y3_NoDay : Array (Option Value)} {et_NoDay : Array DictEntry} {z1_NoDay : Value} {z2_NoDay : Option Addr} {z3_NoDay : Nat} {z4_NoDay : Array (Option Value)}
    {N_NoWord A_NoWord : Addr} {nm_NoWord q_NoWord : Str} {bs_NoWord : List Value} {hd_NoWord : Bool} {sn_NoWord : List Str} {sub_NoWord : List Value} {ab_NoWord : Bool} {col_NoWord : Option Bool} {dd_NoWord : Option Addr} {k0_NoWord k1_NoWord k2_NoWord k3_NoWord k5_NoWord : Option Value}
    {es_NoWord : Array DictEntry} {x1_NoWord : Value} {x2_NoWord : Option Addr} {x3_NoWord : Nat} {x4_NoWord : Array (Option Value)} {y0_NoWord : Value} {y1_NoWord : Option Addr} {y2_NoWord : ClassData} {y3_NoWord : Array (Option Value)} {et_NoWord : Array DictEntry} {z1_NoWord : Value} {z2_NoWord : Option Addr} {z3_NoWord : Nat} {z4_NoWord : Array (Option Value)}
    {N_NoBook A_NoBook : Addr} {nm_NoBook q_NoBook : Str} {bs_NoBook : List Value} {hd_NoBook : Bool} {sn_NoBook : List Str} {sub_NoBook : List Value} {ab_NoBook : Bool} {col_NoBook : Option Bool} {dd_NoBook : Option Addr} {k0_NoBook k1_NoBook k2_NoBook k3_NoBook k5_NoBook : Option Value}
    {es_NoBook : Array DictEntry} {x1_NoBook : Value} {x2_NoBook : Option Addr} {x3_NoBook : Nat} {x4_NoBook : Array (Option Value)} {y0_NoBook : Value} {y1_NoBook : Option Addr} {y2_NoBook : ClassData} {y3_NoBook : Array (Option Value)} {et_NoBook : Array DictEntry} {z1_NoBook : Value} {z2_NoBook : Option Addr} {z3_NoBook : Nat} {z4_NoBook : Array (Option Value)}
    {N_NoEntry A_NoEntry : Addr} {nm_NoEntry q_NoEntry : Str} {bs_NoEntry : List Value} {hd_NoEntry : Bool} {sn_NoEntry : List Str} {sub_NoEntry : List Value} {ab_NoEntry : Bool} {col_NoEntry : Option Bool} {dd_NoEntry : Option Addr} {k0_NoEntry k1_NoEntry k2_NoEntry k3_NoEntry k5_NoEntry : Option Value}
    {es_NoEntry : Array DictEntry} {x1_NoEntry : Value} {x2_NoEntry : Option Addr} {x3_NoEntry : Nat} {x4_NoEntry : Array (Option Value)} {y0_NoEntry : Value} {y1_NoEntry : Option Addr} {y2_NoEntry : ClassData} {y3_NoEntry : Array (Option Value)} {et_NoEntry : Array DictEntry} {z1_NoEntry : Value} {z2_NoEntry : Option Addr} {z3_NoEntry : Nat} {z4_NoEntry : Array (Option Value)}
    (a0 : PySem.W.nsIn K mainGlobals "is_whole" = some (some (.ref f0)))
    (l0 : K.lookup f0 = some ⟨oc0, od0, .func (PySem.W.fnOf "is_whole" "is_whole" (defArgs s_is_whole) (defBody s_is_whole) (defScope s_is_whole) .none kV0 dc0 pm0 an0 cd0 ct0), sl0⟩)
    (c0 : PySem.W.codeIn K cd0 "is_whole" = true)
    (k0 : PySem.W.keepIn K (.ref f0) = true)
    (a1 : PySem.W.nsIn K mainGlobals "is_day" = some (some (.ref f1)))
    (l1 : K.lookup f1 = some ⟨oc1, od1, .func (PySem.W.fnOf "is_day" "is_day" (defArgs s_is_day) (defBody s_is_day) (defScope s_is_day) .none kV1 dc1 pm1 an1 cd1 ct1), sl1⟩)
    (c1 : PySem.W.codeIn K cd1 "is_day" = true)
    (k1 : PySem.W.keepIn K (.ref f1) = true)
    (a2 : PySem.W.nsIn K mainGlobals "is_number" = some (some (.ref f2)))
    (l2 : K.lookup f2 = some ⟨oc2, od2, .func (PySem.W.fnOf "is_number" "is_number" (defArgs s_is_number) (defBody s_is_number) (defScope s_is_number) .none kV2 dc2 pm2 an2 cd2 ct2), sl2⟩)
    (c2 : PySem.W.codeIn K cd2 "is_number" = true)
    (k2 : PySem.W.keepIn K (.ref f2) = true)
    (a3 : PySem.W.nsIn K mainGlobals "is_word" = some (some (.ref f3)))
    (l3 : K.lookup f3 = some ⟨oc3, od3, .func (PySem.W.fnOf "is_word" "is_word" (defArgs s_is_word) (defBody s_is_word) (defScope s_is_word) .none kV3 dc3 pm3 an3 cd3 ct3), sl3⟩)
    (c3 : PySem.W.codeIn K cd3 "is_word" = true)
    (k3 : PySem.W.keepIn K (.ref f3) = true)
    (a4 : PySem.W.nsIn K mainGlobals "is_rank" = some (some (.ref f4)))
    (l4 : K.lookup f4 = some ⟨oc4, od4, .func (PySem.W.fnOf "is_rank" "is_rank" (defArgs s_is_rank) (defBody s_is_rank) (defScope s_is_rank) .none kV4 dc4 pm4 an4 cd4 ct4), sl4⟩)
    (c4 : PySem.W.codeIn K cd4 "is_rank" = true)
    (k4 : PySem.W.keepIn K (.ref f4) = true)
    (a5 : PySem.W.nsIn K mainGlobals "above" = some (some (.ref f5)))
    (l5 : K.lookup f5 = some ⟨oc5, od5, .func (PySem.W.fnOf "above" "above" (defArgs s_above) (defBody s_above) (defScope s_above) .none kV5 dc5 pm5 an5 cd5 ct5), sl5⟩)
    (c5 : PySem.W.codeIn K cd5 "above" = true)
    (k5 : PySem.W.keepIn K (.ref f5) = true)
    (a6 : PySem.W.nsIn K mainGlobals "refuse_head" = some (some (.ref f6)))
    (l6 : K.lookup f6 = some ⟨oc6, od6, .func (PySem.W.fnOf "refuse_head" "refuse_head" (defArgs s_refuse_head) (defBody s_refuse_head) (defScope s_refuse_head) .none kV6 dc6 pm6 an6 cd6 ct6), sl6⟩)
    (c6 : PySem.W.codeIn K cd6 "refuse_head" = true)
    (k6 : PySem.W.keepIn K (.ref f6) = true)
    (a7 : PySem.W.nsIn K mainGlobals "under_fits" = some (some (.ref f7)))
    (l7 : K.lookup f7 = some ⟨oc7, od7, .func (PySem.W.fnOf "under_fits" "under_fits" (defArgs s_under_fits) (defBody s_under_fits) (defScope s_under_fits) .none kV7 dc7 pm7 an7 cd7 ct7), sl7⟩)
    (c7 : PySem.W.codeIn K cd7 "under_fits" = true)
    (k7 : PySem.W.keepIn K (.ref f7) = true)
    (a8 : PySem.W.nsIn K mainGlobals "tie_fits" = some (some (.ref f8)))
    (l8 : K.lookup f8 = some ⟨oc8, od8, .func (PySem.W.fnOf "tie_fits" "tie_fits" (defArgs s_tie_fits) (defBody s_tie_fits) (defScope s_tie_fits) .none kV8 dc8 pm8 an8 cd8 ct8), sl8⟩)
    (c8 : PySem.W.codeIn K cd8 "tie_fits" = true)
    (k8 : PySem.W.keepIn K (.ref f8) = true)
    (a9 : PySem.W.nsIn K mainGlobals "ahead" = some (some (.ref f9)))
    (l9 : K.lookup f9 = some ⟨oc9, od9, .func (PySem.W.fnOf "ahead" "ahead" (defArgs s_ahead) (defBody s_ahead) (defScope s_ahead) .none kV9 dc9 pm9 an9 cd9 ct9), sl9⟩)
    (c9 : PySem.W.codeIn K cd9 "ahead" = true)
    (k9 : PySem.W.keepIn K (.ref f9) = true)
    (a10 : PySem.W.nsIn K mainGlobals "book_list" = some (some (.ref f10)))
    (l10 : K.lookup f10 = some ⟨oc10, od10, .func (PySem.W.fnOf "book_list" "book_list" (defArgs s_book_list) (defBody s_book_list) (defScope s_book_list) .none kV10 dc10 pm10 an10 cd10 ct10), sl10⟩)
    (c10 : PySem.W.codeIn K cd10 "book_list" = true)
    (k10 : PySem.W.keepIn K (.ref f10) = true)
    (a11 : PySem.W.nsIn K mainGlobals "results_of" = some (some (.ref f11)))
    (l11 : K.lookup f11 = some ⟨oc11, od11, .func (PySem.W.fnOf "results_of" "results_of" (defArgs s_results_of) (defBody s_results_of) (defScope s_results_of) .none kV11 dc11 pm11 an11 cd11 ct11), sl11⟩)
    (c11 : PySem.W.codeIn K cd11 "results_of" = true)
    (k11 : PySem.W.keepIn K (.ref f11) = true)
    (a12 : PySem.W.nsIn K mainGlobals "outcomes" = some (some (.ref f12)))
    (l12 : K.lookup f12 = some ⟨oc12, od12, .func (PySem.W.fnOf "outcomes" "outcomes" (defArgs s_outcomes) (defBody s_outcomes) (defScope s_outcomes) .none kV12 dc12 pm12 an12 cd12 ct12), sl12⟩)
    (c12 : PySem.W.codeIn K cd12 "outcomes" = true)
    (k12 : PySem.W.keepIn K (.ref f12) = true)
    (a13 : PySem.W.nsIn K mainGlobals "full_names" = some (some (.ref f13)))
    (l13 : K.lookup f13 = some ⟨oc13, od13, .func (PySem.W.fnOf "full_names" "full_names" (defArgs s_full_names) (defBody s_full_names) (defScope s_full_names) .none kV13 dc13 pm13 an13 cd13 ct13), sl13⟩)
    (c13 : PySem.W.codeIn K cd13 "full_names" = true)
    (k13 : PySem.W.keepIn K (.ref f13) = true)
    (a14 : PySem.W.nsIn K mainGlobals "roots" = some (some (.ref f14)))
    (l14 : K.lookup f14 = some ⟨oc14, od14, .func (PySem.W.fnOf "roots" "roots" (defArgs s_roots) (defBody s_roots) (defScope s_roots) .none kV14 dc14 pm14 an14 cd14 ct14), sl14⟩)
    (c14 : PySem.W.codeIn K cd14 "roots" = true)
    (k14 : PySem.W.keepIn K (.ref f14) = true)
    (a15 : PySem.W.nsIn K mainGlobals "tied" = some (some (.ref f15)))
    (l15 : K.lookup f15 = some ⟨oc15, od15, .func (PySem.W.fnOf "tied" "tied" (defArgs s_tied) (defBody s_tied) (defScope s_tied) .none kV15 dc15 pm15 an15 cd15 ct15), sl15⟩)
    (c15 : PySem.W.codeIn K cd15 "tied" = true)
    (k15 : PySem.W.keepIn K (.ref f15) = true)
    (a16 : PySem.W.nsIn K mainGlobals "_law_cell_at" = some (some (.ref f16)))
    (l16 : K.lookup f16 = some ⟨oc16, od16, .func (PySem.W.fnOf "_law_cell_at" "_law_cell_at" (defArgs s_Lcell_at) (defBody s_Lcell_at) (defScope s_Lcell_at) .none kV16 dc16 pm16 an16 cd16 ct16), sl16⟩)
    (c16 : PySem.W.codeIn K cd16 "_law_cell_at" = true)
    (k16 : PySem.W.keepIn K (.ref f16) = true)
    (a17 : PySem.W.nsIn K mainGlobals "_law_whole" = some (some (.ref f17)))
    (l17 : K.lookup f17 = some ⟨oc17, od17, .func (PySem.W.fnOf "_law_whole" "_law_whole" (defArgs s_Lwhole) (defBody s_Lwhole) (defScope s_Lwhole) .none kV17 dc17 pm17 an17 cd17 ct17), sl17⟩)
    (c17 : PySem.W.codeIn K cd17 "_law_whole" = true)
    (k17 : PySem.W.keepIn K (.ref f17) = true)
    (a18 : PySem.W.nsIn K mainGlobals "_law_mixed" = some (some (.ref f18)))
    (l18 : K.lookup f18 = some ⟨oc18, od18, .func (PySem.W.fnOf "_law_mixed" "_law_mixed" (defArgs s_Lmixed) (defBody s_Lmixed) (defScope s_Lmixed) .none kV18 dc18 pm18 an18 cd18 ct18), sl18⟩)
    (c18 : PySem.W.codeIn K cd18 "_law_mixed" = true)
    (k18 : PySem.W.keepIn K (.ref f18) = true)
    (a19 : PySem.W.nsIn K mainGlobals "_law_draws" = some (some (.ref f19)))
    (l19 : K.lookup f19 = some ⟨oc19, od19, .func (PySem.W.fnOf "_law_draws" "_law_draws" (defArgs s_Ldraws) (defBody s_Ldraws) (defScope s_Ldraws) .none kV19 dc19 pm19 an19 cd19 ct19), sl19⟩)
    (c19 : PySem.W.codeIn K cd19 "_law_draws" = true)
    (k19 : PySem.W.keepIn K (.ref f19) = true)
    (a20 : PySem.W.nsIn K mainGlobals "_law_words" = some (some (.ref f20)))
    (l20 : K.lookup f20 = some ⟨oc20, od20, .func (PySem.W.fnOf "_law_words" "_law_words" (defArgs s_Lwords) (defBody s_Lwords) (defScope s_Lwords) .none kV20 dc20 pm20 an20 cd20 ct20), sl20⟩)
    (c20 : PySem.W.codeIn K cd20 "_law_words" = true)
    (k20 : PySem.W.keepIn K (.ref f20) = true)
    (a21 : PySem.W.nsIn K mainGlobals "_law_any_word" = some (some (.ref f21)))
    (l21 : K.lookup f21 = some ⟨oc21, od21, .func (PySem.W.fnOf "_law_any_word" "_law_any_word" (defArgs s_Lany_word) (defBody s_Lany_word) (defScope s_Lany_word) .none kV21 dc21 pm21 an21 cd21 ct21), sl21⟩)
    (c21 : PySem.W.codeIn K cd21 "_law_any_word" = true)
    (k21 : PySem.W.keepIn K (.ref f21) = true)
    (a22 : PySem.W.nsIn K mainGlobals "_law_stamp" = some (some (.ref f22)))
    (l22 : K.lookup f22 = some ⟨oc22, od22, .func (PySem.W.fnOf "_law_stamp" "_law_stamp" (defArgs s_Lstamp) (defBody s_Lstamp) (defScope s_Lstamp) .none kV22 dc22 pm22 an22 cd22 ct22), sl22⟩)
    (c22 : PySem.W.codeIn K cd22 "_law_stamp" = true)
    (k22 : PySem.W.keepIn K (.ref f22) = true)
    (a23 : PySem.W.nsIn K mainGlobals "_law_pick" = some (some (.ref f23)))
    (l23 : K.lookup f23 = some ⟨oc23, od23, .func (PySem.W.fnOf "_law_pick" "_law_pick" (defArgs s_Lpick) (defBody s_Lpick) (defScope s_Lpick) .none kV23 dc23 pm23 an23 cd23 ct23), sl23⟩)
    (c23 : PySem.W.codeIn K cd23 "_law_pick" = true)
    (k23 : PySem.W.keepIn K (.ref f23) = true)
    (a24 : PySem.W.nsIn K mainGlobals "_law_base" = some (some (.ref f24)))
    (l24 : K.lookup f24 = some ⟨oc24, od24, .func (PySem.W.fnOf "_law_base" "_law_base" (defArgs s_Lbase) (defBody s_Lbase) (defScope s_Lbase) .none kV24 dc24 pm24 an24 cd24 ct24), sl24⟩)
    (c24 : PySem.W.codeIn K cd24 "_law_base" = true)
    (k24 : PySem.W.keepIn K (.ref f24) = true)
    (a25 : PySem.W.nsIn K mainGlobals "_law_entry" = some (some (.ref f25)))
    (l25 : K.lookup f25 = some ⟨oc25, od25, .func (PySem.W.fnOf "_law_entry" "_law_entry" (defArgs s_Lentry) (defBody s_Lentry) (defScope s_Lentry) .none kV25 dc25 pm25 an25 cd25 ct25), sl25⟩)
    (c25 : PySem.W.codeIn K cd25 "_law_entry" = true)
    (k25 : PySem.W.keepIn K (.ref f25) = true)
    (a26 : PySem.W.nsIn K mainGlobals "_law_book" = some (some (.ref f26)))
    (l26 : K.lookup f26 = some ⟨oc26, od26, .func (PySem.W.fnOf "_law_book" "_law_book" (defArgs s_Lbook) (defBody s_Lbook) (defScope s_Lbook) .none kV26 dc26 pm26 an26 cd26 ct26), sl26⟩)
    (c26 : PySem.W.codeIn K cd26 "_law_book" = true)
    (k26 : PySem.W.keepIn K (.ref f26) = true)
    (a27 : PySem.W.nsIn K mainGlobals "_law_made" = some (some (.ref f27)))
    (l27 : K.lookup f27 = some ⟨oc27, od27, .func (PySem.W.fnOf "_law_made" "_law_made" (defArgs s_Lmade) (defBody s_Lmade) (defScope s_Lmade) .none kV27 dc27 pm27 an27 cd27 ct27), sl27⟩)
    (c27 : PySem.W.codeIn K cd27 "_law_made" = true)
    (k27 : PySem.W.keepIn K (.ref f27) = true)
    (a28 : PySem.W.nsIn K mainGlobals "_law_right" = some (some (.ref f28)))
    (l28 : K.lookup f28 = some ⟨oc28, od28, .func (PySem.W.fnOf "_law_right" "_law_right" (defArgs s_Lright) (defBody s_Lright) (defScope s_Lright) .none kV28 dc28 pm28 an28 cd28 ct28), sl28⟩)
    (c28 : PySem.W.codeIn K cd28 "_law_right" = true)
    (k28 : PySem.W.keepIn K (.ref f28) = true)
    (a29 : PySem.W.nsIn K mainGlobals "law" = some (some (.ref f29)))
    (l29 : K.lookup f29 = some ⟨oc29, od29, .func (PySem.W.fnOf "law" "law" (defArgs s_law) (defBody s_law) (defScope s_law) .none kV29 dc29 pm29 an29 cd29 ct29), sl29⟩)
    (c29 : PySem.W.codeIn K cd29 "law" = true)
    (k29 : PySem.W.keepIn K (.ref f29) = true)
    (cg_Entry : PySem.W.nsIn K mainGlobals "Entry" = some (some (.ref c_Entry)))
    (pg_Entry : PySem.W.plainGet K c_Entry Str.empty = true)
    (hd_Entry : PySem.W.hasDictIn K c_Entry = true)
    (po_Entry : PySem.W.plainOver K c_Entry = true)
    (sa_Entry : PySem.W.findIn K (.ref c_Entry) "__setattr__" = some (some (.builtin "object.__setattr__")))
    (mk_Entry : PySem.W.makesIn K c_Entry = true)
    (in_Entry : PySem.W.findIn K (.ref c_Entry) "__init__" = some (some (.ref f_Entry)))
    (fn_Entry : PySem.W.isFn K (.ref f_Entry) = true)
    (kc_Entry : PySem.W.keepIn K (.ref c_Entry) = true)
    (kf_Entry : PySem.W.keepIn K (.ref f_Entry) = true)
    (lf_Entry : K.lookup f_Entry = some ⟨oc_Entry, od_Entry, .func (PySem.W.fnOf "__init__" "Entry.__init__" (defArgs s_Entry_init) (defBody s_Entry_init) (defScope s_Entry_init) (.ref t_Entry) kV_Entry dc_Entry pm_Entry an_Entry cd_Entry ct_Entry), sl_Entry⟩)
    (cf_Entry : PySem.W.codeIn K cd_Entry "Entry.__init__" = true)
    (lt_Entry : K.lookup t_Entry = some o_Entry)
    (dt_Entry : o_Entry.data = .seq #[.none, .none, .none, .bool true] n_Entry)
    (na_Entry_number : PySem.W.findIn K (.ref c_Entry) "number" = some none)
    (na_Entry_day : PySem.W.findIn K (.ref c_Entry) "day" = some none)
    (na_Entry_rank : PySem.W.findIn K (.ref c_Entry) "rank" = some none)
    (na_Entry_word : PySem.W.findIn K (.ref c_Entry) "word" = some none)
    (na_Entry_under : PySem.W.findIn K (.ref c_Entry) "under" = some none)
    (na_Entry_sheet : PySem.W.findIn K (.ref c_Entry) "sheet" = some none)
    (na_Entry_base : PySem.W.findIn K (.ref c_Entry) "base" = some none)
    (na_Entry_described : PySem.W.findIn K (.ref c_Entry) "described" = some none)
    (cg_Results : PySem.W.nsIn K mainGlobals "Results" = some (some (.ref c_Results)))
    (pg_Results : PySem.W.plainGet K c_Results Str.empty = true)
    (hd_Results : PySem.W.hasDictIn K c_Results = true)
    (po_Results : PySem.W.plainOver K c_Results = true)
    (sa_Results : PySem.W.findIn K (.ref c_Results) "__setattr__" = some (some (.builtin "object.__setattr__")))
    (kc_Results : PySem.W.keepIn K (.ref c_Results) = true)
    (mk_Results : PySem.W.makesIn K c_Results = true)
    (in_Results : PySem.W.findIn K (.ref c_Results) "__init__" = some (some (.ref f_Results_init)))
    (fn_Results : PySem.W.isFn K (.ref f_Results_init) = true)
    (l_Results_init : K.lookup f_Results_init = some ⟨oc_Results_init, od_Results_init, .func (PySem.W.fnOf "__init__" "Results.__init__" (defArgs s_Results_init) (defBody s_Results_init) (defScope s_Results_init) .none kV_Results_init dc_Results_init pm_Results_init an_Results_init cd_Results_init ct_Results_init), sl_Results_init⟩)
    (k_Results_init : PySem.W.codeIn K cd_Results_init "Results.__init__" = true)
    (p_Results_init : PySem.W.keepIn K (.ref f_Results_init) = true)
    (na_Results_outs : PySem.W.findIn K (.ref c_Results) "outs" = some none)
    (na_Results_names : PySem.W.findIn K (.ref c_Results) "names" = some none)
    (na_Results_rights : PySem.W.findIn K (.ref c_Results) "rights" = some none)
    (na_Results_holders : PySem.W.findIn K (.ref c_Results) "holders" = some none)
    (mf_Results_put : PySem.W.findIn K (.ref c_Results) "put" = some (some (.ref f_Results_put)))
    (mi_Results_put : PySem.W.isFn K (.ref f_Results_put) = true)
    (l_Results_put : K.lookup f_Results_put = some ⟨oc_Results_put, od_Results_put, .func (PySem.W.fnOf "put" "Results.put" (defArgs s_Results_put) (defBody s_Results_put) (defScope s_Results_put) .none kV_Results_put dc_Results_put pm_Results_put an_Results_put cd_Results_put ct_Results_put), sl_Results_put⟩)
    (k_Results_put : PySem.W.codeIn K cd_Results_put "Results.put" = true)
    (p_Results_put : PySem.W.keepIn K (.ref f_Results_put) = true)
    (mf_Results_name_of : PySem.W.findIn K (.ref c_Results) "name_of" = some (some (.ref f_Results_name_of)))
    (mi_Results_name_of : PySem.W.isFn K (.ref f_Results_name_of) = true)
    (l_Results_name_of : K.lookup f_Results_name_of = some ⟨oc_Results_name_of, od_Results_name_of, .func (PySem.W.fnOf "name_of" "Results.name_of" (defArgs s_Results_name_of) (defBody s_Results_name_of) (defScope s_Results_name_of) .none kV_Results_name_of dc_Results_name_of pm_Results_name_of an_Results_name_of cd_Results_name_of ct_Results_name_of), sl_Results_name_of⟩)
    (k_Results_name_of : PySem.W.codeIn K cd_Results_name_of "Results.name_of" = true)
    (p_Results_name_of : PySem.W.keepIn K (.ref f_Results_name_of) = true)
    (mf_Results_outcome_of : PySem.W.findIn K (.ref c_Results) "outcome_of" = some (some (.ref f_Results_outcome_of)))
    (mi_Results_outcome_of : PySem.W.isFn K (.ref f_Results_outcome_of) = true)
    (l_Results_outcome_of : K.lookup f_Results_outcome_of = some ⟨oc_Results_outcome_of, od_Results_outcome_of, .func (PySem.W.fnOf "outcome_of" "Results.outcome_of" (defArgs s_Results_outcome_of) (defBody s_Results_outcome_of) (defScope s_Results_outcome_of) .none kV_Results_outcome_of dc_Results_outcome_of pm_Results_outcome_of an_Results_outcome_of cd_Results_outcome_of ct_Results_outcome_of), sl_Results_outcome_of⟩)
    (k_Results_outcome_of : PySem.W.codeIn K cd_Results_outcome_of "Results.outcome_of" = true)
    (p_Results_outcome_of : PySem.W.keepIn K (.ref f_Results_outcome_of) = true)
    (mf_Results_root_of : PySem.W.findIn K (.ref c_Results) "root_of" = some (some (.ref f_Results_root_of)))
    (mi_Results_root_of : PySem.W.isFn K (.ref f_Results_root_of) = true)
    (l_Results_root_of : K.lookup f_Results_root_of = some ⟨oc_Results_root_of, od_Results_root_of, .func (PySem.W.fnOf "root_of" "Results.root_of" (defArgs s_Results_root_of) (defBody s_Results_root_of) (defScope s_Results_root_of) .none kV_Results_root_of dc_Results_root_of pm_Results_root_of an_Results_root_of cd_Results_root_of ct_Results_root_of), sl_Results_root_of⟩)
    (k_Results_root_of : PySem.W.codeIn K cd_Results_root_of "Results.root_of" = true)
    (p_Results_root_of : PySem.W.keepIn K (.ref f_Results_root_of) = true)
    (cg_MOST_LETTERS : PySem.W.nsIn K mainGlobals "MOST_LETTERS" = some (some u_MOST_LETTERS))
    (cr_MOST_LETTERS : RelV (.int 12) u_MOST_LETTERS)
    (cg_LAST_DAY : PySem.W.nsIn K mainGlobals "LAST_DAY" = some (some u_LAST_DAY))
    (cr_LAST_DAY : RelV (.int 1000000) u_LAST_DAY)
    (cg_LAST_NUMBER : PySem.W.nsIn K mainGlobals "LAST_NUMBER" = some (some u_LAST_NUMBER))
    (cr_LAST_NUMBER : RelV (.int 1000000000) u_LAST_NUMBER)
    (cg_RANKS : PySem.W.nsIn K mainGlobals "RANKS" = some (some (.ref u_RANKS)))
    (cl_RANKS : K.lookup u_RANKS = some o_RANKS)
    (cc_RANKS : o_RANKS.cls = .type "tuple")
    (cd_RANKS : o_RANKS.data = .seq i_RANKS.toArray n_RANKS)
    (cv_RANKS : Vals [.str "genus", .str "species", .str "form"] i_RANKS)
    (cg_ABOVE : PySem.W.nsIn K mainGlobals "ABOVE" = some (some (.ref u_ABOVE)))
    (cl_ABOVE : K.lookup u_ABOVE = some ⟨.type "dict", none, .dict e_ABOVE.toArray n_ABOVE, #[]⟩)
    (cv_ABOVE : Paired (EntryIs w) ([("genus", .non), ("species", .str "genus"), ("form", .str "species")] : List (Str × V)) e_ABOVE)
    (cg_NoRank : PySem.W.nsIn K mainGlobals "NoRank" = some (some (.ref c_NoRank)))
    (cg_NoNumber : PySem.W.nsIn K mainGlobals "NoNumber" = some (some (.ref c_NoNumber)))
    (cg_NoDay : PySem.W.nsIn K mainGlobals "NoDay" = some (some (.ref c_NoDay)))
    (cg_NoWord : PySem.W.nsIn K mainGlobals "NoWord" = some (some (.ref c_NoWord)))
    (cg_NoBook : PySem.W.nsIn K mainGlobals "NoBook" = some (some (.ref c_NoBook)))
    (cg_NoEntry : PySem.W.nsIn K mainGlobals "NoEntry" = some (some (.ref c_NoEntry)))
    (xl_NoRank : K.lookup c_NoRank = some (excClassObj nm_NoRank q_NoRank c_NoRank N_NoRank bs_NoRank (.ref A_NoRank :: vmro) hd_NoRank sn_NoRank sub_NoRank ab_NoRank col_NoRank dd_NoRank k0_NoRank k1_NoRank k2_NoRank k3_NoRank k5_NoRank "ValueError.__new__"))
    (xn_NoRank : K.lookup N_NoRank = some ⟨x1_NoRank, x2_NoRank, .dict es_NoRank x3_NoRank, x4_NoRank⟩)
    (xs_NoRank : strKeysB es_NoRank = true)
    (xi_NoRank : nsFind es_NoRank "__init__" = none)
    (xa_NoRank : K.lookup A_NoRank = some { cls := y0_NoRank, dict := y1_NoRank, data := .cls y2_NoRank, slots := y3_NoRank })
    (xb_NoRank : K.lookup y2_NoRank.ns = some ⟨z1_NoRank, z2_NoRank, .dict et_NoRank z3_NoRank, z4_NoRank⟩)
    (xt_NoRank : strKeysB et_NoRank = true)
    (xj_NoRank : nsFind et_NoRank "__init__" = none)
    (qcs_NoRank : (PySem.W.clsIn K c_NoRank).isSome = true)
    (qga_NoRank : PySem.W.findIn K (.ref c_NoRank) "__getattribute__" = some (some (.builtin "BaseException.__getattribute__")))
    (qgt_NoRank : PySem.W.findIn K (.ref c_NoRank) "__getattr__" = some none)
    (qca_NoRank : PySem.W.findIn K (.ref c_NoRank) "__class__" = some (some (.builtin "object.__class__")))
    (qgg_NoRank : PySem.W.specialIn K (.builtin "object.__class__") "__get__" = some (some (.builtin "getset_descriptor.__get__")))
    (qtk_NoRank : PySem.W.takesIn K (.builtin "object.__class__") = some true)
    (qmo_NoRank : PySem.W.mroIn K c_NoRank (.type "object") = some true)
    (qsb_NoRank : PySem.W.subIn K (.ref c_NoRank) (.type "BaseException") = some true)
    (xl_NoNumber : K.lookup c_NoNumber = some (excClassObj nm_NoNumber q_NoNumber c_NoNumber N_NoNumber bs_NoNumber (.ref A_NoNumber :: vmro) hd_NoNumber sn_NoNumber sub_NoNumber ab_NoNumber col_NoNumber dd_NoNumber k0_NoNumber k1_NoNumber k2_NoNumber k3_NoNumber k5_NoNumber "ValueError.__new__"))
    (xn_NoNumber : K.lookup N_NoNumber = some ⟨x1_NoNumber, x2_NoNumber, .dict es_NoNumber x3_NoNumber, x4_NoNumber⟩)
    (xs_NoNumber : strKeysB es_NoNumber = true)
    (xi_NoNumber : nsFind es_NoNumber "__init__" = none)
    (xa_NoNumber : K.lookup A_NoNumber = some { cls := y0_NoNumber, dict := y1_NoNumber, data := .cls y2_NoNumber, slots := y3_NoNumber })
    (xb_NoNumber : K.lookup y2_NoNumber.ns = some ⟨z1_NoNumber, z2_NoNumber, .dict et_NoNumber z3_NoNumber, z4_NoNumber⟩)
    (xt_NoNumber : strKeysB et_NoNumber = true)
    (xj_NoNumber : nsFind et_NoNumber "__init__" = none)
    (qcs_NoNumber : (PySem.W.clsIn K c_NoNumber).isSome = true)
    (qga_NoNumber : PySem.W.findIn K (.ref c_NoNumber) "__getattribute__" = some (some (.builtin "BaseException.__getattribute__")))
    (qgt_NoNumber : PySem.W.findIn K (.ref c_NoNumber) "__getattr__" = some none)
    (qca_NoNumber : PySem.W.findIn K (.ref c_NoNumber) "__class__" = some (some (.builtin "object.__class__")))
    (qgg_NoNumber : PySem.W.specialIn K (.builtin "object.__class__") "__get__" = some (some (.builtin "getset_descriptor.__get__")))
    (qtk_NoNumber : PySem.W.takesIn K (.builtin "object.__class__") = some true)
    (qmo_NoNumber : PySem.W.mroIn K c_NoNumber (.type "object") = some true)
    (qsb_NoNumber : PySem.W.subIn K (.ref c_NoNumber) (.type "BaseException") = some true)
    (xl_NoDay : K.lookup c_NoDay = some (excClassObj nm_NoDay q_NoDay c_NoDay N_NoDay bs_NoDay (.ref A_NoDay :: vmro) hd_NoDay sn_NoDay sub_NoDay ab_NoDay col_NoDay dd_NoDay k0_NoDay k1_NoDay k2_NoDay k3_NoDay k5_NoDay "ValueError.__new__"))
    (xn_NoDay : K.lookup N_NoDay = some ⟨x1_NoDay, x2_NoDay, .dict es_NoDay x3_NoDay, x4_NoDay⟩)
    (xs_NoDay : strKeysB es_NoDay = true)
    (xi_NoDay : nsFind es_NoDay "__init__" = none)
    (xa_NoDay : K.lookup A_NoDay = some { cls := y0_NoDay, dict := y1_NoDay, data := .cls y2_NoDay, slots := y3_NoDay })
    (xb_NoDay : K.lookup y2_NoDay.ns = some ⟨z1_NoDay, z2_NoDay, .dict et_NoDay z3_NoDay, z4_NoDay⟩)
    (xt_NoDay : strKeysB et_NoDay = true)
    (xj_NoDay : nsFind et_NoDay "__init__" = none)
    (qcs_NoDay : (PySem.W.clsIn K c_NoDay).isSome = true)
    (qga_NoDay : PySem.W.findIn K (.ref c_NoDay) "__getattribute__" = some (some (.builtin "BaseException.__getattribute__")))
    (qgt_NoDay : PySem.W.findIn K (.ref c_NoDay) "__getattr__" = some none)
    (qca_NoDay : PySem.W.findIn K (.ref c_NoDay) "__class__" = some (some (.builtin "object.__class__")))
    (qgg_NoDay : PySem.W.specialIn K (.builtin "object.__class__") "__get__" = some (some (.builtin "getset_descriptor.__get__")))
    (qtk_NoDay : PySem.W.takesIn K (.builtin "object.__class__") = some true)
    (qmo_NoDay : PySem.W.mroIn K c_NoDay (.type "object") = some true)
    (qsb_NoDay : PySem.W.subIn K (.ref c_NoDay) (.type "BaseException") = some true)
    (xl_NoWord : K.lookup c_NoWord = some (excClassObj nm_NoWord q_NoWord c_NoWord N_NoWord bs_NoWord (.ref A_NoWord :: vmro) hd_NoWord sn_NoWord sub_NoWord ab_NoWord col_NoWord dd_NoWord k0_NoWord k1_NoWord k2_NoWord k3_NoWord k5_NoWord "ValueError.__new__"))
    (xn_NoWord : K.lookup N_NoWord = some ⟨x1_NoWord, x2_NoWord, .dict es_NoWord x3_NoWord, x4_NoWord⟩)
    (xs_NoWord : strKeysB es_NoWord = true)
    (xi_NoWord : nsFind es_NoWord "__init__" = none)
    (xa_NoWord : K.lookup A_NoWord = some { cls := y0_NoWord, dict := y1_NoWord, data := .cls y2_NoWord, slots := y3_NoWord })
    (xb_NoWord : K.lookup y2_NoWord.ns = some ⟨z1_NoWord, z2_NoWord, .dict et_NoWord z3_NoWord, z4_NoWord⟩)
    (xt_NoWord : strKeysB et_NoWord = true)
    (xj_NoWord : nsFind et_NoWord "__init__" = none)
    (qcs_NoWord : (PySem.W.clsIn K c_NoWord).isSome = true)
    (qga_NoWord : PySem.W.findIn K (.ref c_NoWord) "__getattribute__" = some (some (.builtin "BaseException.__getattribute__")))
    (qgt_NoWord : PySem.W.findIn K (.ref c_NoWord) "__getattr__" = some none)
    (qca_NoWord : PySem.W.findIn K (.ref c_NoWord) "__class__" = some (some (.builtin "object.__class__")))
    (qgg_NoWord : PySem.W.specialIn K (.builtin "object.__class__") "__get__" = some (some (.builtin "getset_descriptor.__get__")))
    (qtk_NoWord : PySem.W.takesIn K (.builtin "object.__class__") = some true)
    (qmo_NoWord : PySem.W.mroIn K c_NoWord (.type "object") = some true)
    (qsb_NoWord : PySem.W.subIn K (.ref c_NoWord) (.type "BaseException") = some true)
    (xl_NoBook : K.lookup c_NoBook = some (excClassObj nm_NoBook q_NoBook c_NoBook N_NoBook bs_NoBook (.ref A_NoBook :: vmro) hd_NoBook sn_NoBook sub_NoBook ab_NoBook col_NoBook dd_NoBook k0_NoBook k1_NoBook k2_NoBook k3_NoBook k5_NoBook "ValueError.__new__"))
    (xn_NoBook : K.lookup N_NoBook = some ⟨x1_NoBook, x2_NoBook, .dict es_NoBook x3_NoBook, x4_NoBook⟩)
    (xs_NoBook : strKeysB es_NoBook = true)
    (xi_NoBook : nsFind es_NoBook "__init__" = none)
    (xa_NoBook : K.lookup A_NoBook = some { cls := y0_NoBook, dict := y1_NoBook, data := .cls y2_NoBook, slots := y3_NoBook })
    (xb_NoBook : K.lookup y2_NoBook.ns = some ⟨z1_NoBook, z2_NoBook, .dict et_NoBook z3_NoBook, z4_NoBook⟩)
    (xt_NoBook : strKeysB et_NoBook = true)
    (xj_NoBook : nsFind et_NoBook "__init__" = none)
    (qcs_NoBook : (PySem.W.clsIn K c_NoBook).isSome = true)
    (qga_NoBook : PySem.W.findIn K (.ref c_NoBook) "__getattribute__" = some (some (.builtin "BaseException.__getattribute__")))
    (qgt_NoBook : PySem.W.findIn K (.ref c_NoBook) "__getattr__" = some none)
    (qca_NoBook : PySem.W.findIn K (.ref c_NoBook) "__class__" = some (some (.builtin "object.__class__")))
    (qgg_NoBook : PySem.W.specialIn K (.builtin "object.__class__") "__get__" = some (some (.builtin "getset_descriptor.__get__")))
    (qtk_NoBook : PySem.W.takesIn K (.builtin "object.__class__") = some true)
    (qmo_NoBook : PySem.W.mroIn K c_NoBook (.type "object") = some true)
    (qsb_NoBook : PySem.W.subIn K (.ref c_NoBook) (.type "BaseException") = some true)
    (xl_NoEntry : K.lookup c_NoEntry = some (excClassObj nm_NoEntry q_NoEntry c_NoEntry N_NoEntry bs_NoEntry (.ref A_NoEntry :: vmro) hd_NoEntry sn_NoEntry sub_NoEntry ab_NoEntry col_NoEntry dd_NoEntry k0_NoEntry k1_NoEntry k2_NoEntry k3_NoEntry k5_NoEntry "ValueError.__new__"))
    (xn_NoEntry : K.lookup N_NoEntry = some ⟨x1_NoEntry, x2_NoEntry, .dict es_NoEntry x3_NoEntry, x4_NoEntry⟩)
    (xs_NoEntry : strKeysB es_NoEntry = true)
    (xi_NoEntry : nsFind es_NoEntry "__init__" = none)
    (xa_NoEntry : K.lookup A_NoEntry = some { cls := y0_NoEntry, dict := y1_NoEntry, data := .cls y2_NoEntry, slots := y3_NoEntry })
    (xb_NoEntry : K.lookup y2_NoEntry.ns = some ⟨z1_NoEntry, z2_NoEntry, .dict et_NoEntry z3_NoEntry, z4_NoEntry⟩)
    (xt_NoEntry : strKeysB et_NoEntry = true)
    (xj_NoEntry : nsFind et_NoEntry "__init__" = none)
    (qcs_NoEntry : (PySem.W.clsIn K c_NoEntry).isSome = true)
    (qga_NoEntry : PySem.W.findIn K (.ref c_NoEntry) "__getattribute__" = some (some (.builtin "BaseException.__getattribute__")))
    (qgt_NoEntry : PySem.W.findIn K (.ref c_NoEntry) "__getattr__" = some none)
    (qca_NoEntry : PySem.W.findIn K (.ref c_NoEntry) "__class__" = some (some (.builtin "object.__class__")))
    (qgg_NoEntry : PySem.W.specialIn K (.builtin "object.__class__") "__get__" = some (some (.builtin "getset_descriptor.__get__")))
    (qtk_NoEntry : PySem.W.takesIn K (.builtin "object.__class__") = some true)
    (qmo_NoEntry : PySem.W.mroIn K c_NoEntry (.type "object") = some true)
    (qsb_NoEntry : PySem.W.subIn K (.ref c_NoEntry) (.type "BaseException") = some true)
    (wc_Entry : PySem.W.findIn K (.ref c_Entry) "__class__" = some (some (.builtin "object.__class__")))
    (wg_Entry : PySem.W.specialIn K (.builtin "object.__class__") "__get__" = some (some (.builtin "getset_descriptor.__get__")))
    (wt_Entry : PySem.W.takesIn K (.builtin "object.__class__") = some true)
    (wm_Entry : PySem.W.mroIn K c_Entry (.type "object") = some true)
    (ws_Entry : PySem.W.kitOne K (.ref c_Entry) (.ref c_Entry) = some true)
    (wn_Entry_NoneType : PySem.W.kitOne K (.type "NoneType") (.ref c_Entry) = some false)
    (wn_Entry_int : PySem.W.kitOne K (.type "int") (.ref c_Entry) = some false)
    (wn_Entry_str : PySem.W.kitOne K (.type "str") (.ref c_Entry) = some false)
    (wn_Entry_bool : PySem.W.kitOne K (.type "bool") (.ref c_Entry) = some false)
    (wn_Entry_list : PySem.W.kitOne K (.type "list") (.ref c_Entry) = some false)
    (wn_Entry_tuple : PySem.W.kitOne K (.type "tuple") (.ref c_Entry) = some false)
    (wn_Entry_dict : PySem.W.kitOne K (.type "dict") (.ref c_Entry) = some false)
    (z_len : PySem.W.nsIn K mainGlobals "len" = some none)
    (z_isinstance : PySem.W.nsIn K mainGlobals "isinstance" = some none)
    (z_str : PySem.W.nsIn K mainGlobals "str" = some none)
    (z_bool : PySem.W.nsIn K mainGlobals "bool" = some none)
    (z_all : PySem.W.nsIn K mainGlobals "all" = some none)
    (z_range : PySem.W.nsIn K mainGlobals "range" = some none)
    (z_int : PySem.W.nsIn K mainGlobals "int" = some none)
    (z_list : PySem.W.nsIn K mainGlobals "list" = some none)
    (z_min : PySem.W.nsIn K mainGlobals "min" = some none)
    (z_max : PySem.W.nsIn K mainGlobals "max" = some none)
    (z_dict : PySem.W.nsIn K mainGlobals "dict" = some none)
    (z_sorted : PySem.W.nsIn K mainGlobals "sorted" = some none)
    (z_tuple : PySem.W.nsIn K mainGlobals "tuple" = some none)
    : ∃ fd : FuncData, (∀ (s : Shared) (v : Value), BindsTo s fd ⟨[v], []⟩ [("_law_script", v)]) ∧ ∀ base : Heap, K.In base → base.Ns mainGlobals mg → FnOk l.prog w K mg base CX0 7 fa fd ["_law_script"] (spLaw K) := by
  have e := hfa.symm.trans (PySem.W.mg_of X G a29)
  cases e
  have F0 := fun_mk (st := s_is_whole) l0 c0 k0
  have b0 := F0.binds (ps := ["thing"]) fun _ _ _ _ _ _ us hl => by
    obtain ⟨a0, us0, rfl, g0⟩ := lenS hl
    obtain rfl := len0 g0
    rfl
  have F1 := fun_mk (st := s_is_day) l1 c1 k1
  have b1 := F1.binds (ps := ["thing"]) fun _ _ _ _ _ _ us hl => by
    obtain ⟨a0, us0, rfl, g0⟩ := lenS hl
    obtain rfl := len0 g0
    rfl
  have F2 := fun_mk (st := s_is_number) l2 c2 k2
  have b2 := F2.binds (ps := ["thing"]) fun _ _ _ _ _ _ us hl => by
    obtain ⟨a0, us0, rfl, g0⟩ := lenS hl
    obtain rfl := len0 g0
    rfl
  have F3 := fun_mk (st := s_is_word) l3 c3 k3
  have b3 := F3.binds (ps := ["thing"]) fun _ _ _ _ _ _ us hl => by
    obtain ⟨a0, us0, rfl, g0⟩ := lenS hl
    obtain rfl := len0 g0
    rfl
  have F4 := fun_mk (st := s_is_rank) l4 c4 k4
  have b4 := F4.binds (ps := ["thing"]) fun _ _ _ _ _ _ us hl => by
    obtain ⟨a0, us0, rfl, g0⟩ := lenS hl
    obtain rfl := len0 g0
    rfl
  have F5 := fun_mk (st := s_above) l5 c5 k5
  have b5 := F5.binds (ps := ["rank"]) fun _ _ _ _ _ _ us hl => by
    obtain ⟨a0, us0, rfl, g0⟩ := lenS hl
    obtain rfl := len0 g0
    rfl
  have F6 := fun_mk (st := s_refuse_head) l6 c6 k6
  have b6 := F6.binds (ps := ["number", "day", "rank", "word"]) fun _ _ _ _ _ _ us hl => by
    obtain ⟨a0, us0, rfl, g0⟩ := lenS hl
    obtain ⟨a1, us1, rfl, g1⟩ := lenS g0
    obtain ⟨a2, us2, rfl, g2⟩ := lenS g1
    obtain ⟨a3, us3, rfl, g3⟩ := lenS g2
    obtain rfl := len0 g3
    rfl
  have F7 := fun_mk (st := s_under_fits) l7 c7 k7
  have b7 := F7.binds (ps := ["rank", "under"]) fun _ _ _ _ _ _ us hl => by
    obtain ⟨a0, us0, rfl, g0⟩ := lenS hl
    obtain ⟨a1, us1, rfl, g1⟩ := lenS g0
    obtain rfl := len0 g1
    rfl
  have F8 := fun_mk (st := s_tie_fits) l8 c8 k8
  have b8 := F8.binds (ps := ["rank", "sheet", "base"]) fun _ _ _ _ _ _ us hl => by
    obtain ⟨a0, us0, rfl, g0⟩ := lenS hl
    obtain ⟨a1, us1, rfl, g1⟩ := lenS g0
    obtain ⟨a2, us2, rfl, g2⟩ := lenS g1
    obtain rfl := len0 g2
    rfl
  have F9 := fun_mk (st := s_ahead) l9 c9 k9
  have b9 := F9.binds (ps := ["one", "other"]) fun _ _ _ _ _ _ us hl => by
    obtain ⟨a0, us0, rfl, g0⟩ := lenS hl
    obtain ⟨a1, us1, rfl, g1⟩ := lenS g0
    obtain rfl := len0 g1
    rfl
  have F10 := fun_mk (st := s_book_list) l10 c10 k10
  have b10 := F10.binds (ps := ["entries"]) fun _ _ _ _ _ _ us hl => by
    obtain ⟨a0, us0, rfl, g0⟩ := lenS hl
    obtain rfl := len0 g0
    rfl
  have F11 := fun_mk (st := s_results_of) l11 c11 k11
  have b11 := F11.binds (ps := ["book"]) fun _ _ _ _ _ _ us hl => by
    obtain ⟨a0, us0, rfl, g0⟩ := lenS hl
    obtain rfl := len0 g0
    rfl
  have F12 := fun_mk (st := s_outcomes) l12 c12 k12
  have b12 := F12.binds (ps := ["entries"]) fun _ _ _ _ _ _ us hl => by
    obtain ⟨a0, us0, rfl, g0⟩ := lenS hl
    obtain rfl := len0 g0
    rfl
  have F13 := fun_mk (st := s_full_names) l13 c13 k13
  have b13 := F13.binds (ps := ["entries"]) fun _ _ _ _ _ _ us hl => by
    obtain ⟨a0, us0, rfl, g0⟩ := lenS hl
    obtain rfl := len0 g0
    rfl
  have F14 := fun_mk (st := s_roots) l14 c14 k14
  have b14 := F14.binds (ps := ["entries"]) fun _ _ _ _ _ _ us hl => by
    obtain ⟨a0, us0, rfl, g0⟩ := lenS hl
    obtain rfl := len0 g0
    rfl
  have F15 := fun_mk (st := s_tied) l15 c15 k15
  have b15 := F15.binds (ps := ["entries"]) fun _ _ _ _ _ _ us hl => by
    obtain ⟨a0, us0, rfl, g0⟩ := lenS hl
    obtain rfl := len0 g0
    rfl
  have F16 := fun_mk (st := s_Lcell_at) l16 c16 k16
  have b16 := F16.binds (ps := ["_law_script", "_law_k"]) fun _ _ _ _ _ _ us hl => by
    obtain ⟨a0, us0, rfl, g0⟩ := lenS hl
    obtain ⟨a1, us1, rfl, g1⟩ := lenS g0
    obtain rfl := len0 g1
    rfl
  have F17 := fun_mk (st := s_Lwhole) l17 c17 k17
  have b17 := F17.binds (ps := ["_law_found"]) fun _ _ _ _ _ _ us hl => by
    obtain ⟨a0, us0, rfl, g0⟩ := lenS hl
    obtain rfl := len0 g0
    rfl
  have F18 := fun_mk (st := s_Lmixed) l18 c18 k18
  have b18 := F18.binds (ps := ["_law_cell", "_law_k"]) fun _ _ _ _ _ _ us hl => by
    obtain ⟨a0, us0, rfl, g0⟩ := lenS hl
    obtain ⟨a1, us1, rfl, g1⟩ := lenS g0
    obtain rfl := len0 g1
    rfl
  have F19 := fun_mk (st := s_Ldraws) l19 c19 k19
  have b19 := F19.binds (ps := ["_law_cell", "_law_k", "_law_free"]) fun _ _ _ _ _ _ us hl => by
    obtain ⟨a0, us0, rfl, g0⟩ := lenS hl
    obtain ⟨a1, us1, rfl, g1⟩ := lenS g0
    obtain ⟨a2, us2, rfl, g2⟩ := lenS g1
    obtain rfl := len0 g2
    rfl
  have F20 := fun_mk (st := s_Lwords) l20 c20 k20
  have b20 := F20.binds (ps := ["_law_cell", "_law_free"]) fun _ _ _ _ _ _ us hl => by
    obtain ⟨a0, us0, rfl, g0⟩ := lenS hl
    obtain ⟨a1, us1, rfl, g1⟩ := lenS g0
    obtain rfl := len0 g1
    rfl
  have F21 := fun_mk (st := s_Lany_word) l21 c21 k21
  have b21 := F21.binds (ps := ["_law_number"]) fun _ _ _ _ _ _ us hl => by
    obtain ⟨a0, us0, rfl, g0⟩ := lenS hl
    obtain rfl := len0 g0
    rfl
  have F22 := fun_mk (st := s_Lstamp) l22 c22 k22
  have b22 := F22.binds (ps := ["_law_book_here", "_law_one", "_law_other"]) fun _ _ _ _ _ _ us hl => by
    obtain ⟨a0, us0, rfl, g0⟩ := lenS hl
    obtain ⟨a1, us1, rfl, g1⟩ := lenS g0
    obtain ⟨a2, us2, rfl, g2⟩ := lenS g1
    obtain rfl := len0 g2
    rfl
  have F23 := fun_mk (st := s_Lpick) l23 c23 k23
  have b23 := F23.binds (ps := ["_law_book_here", "_law_rank", "_law_one", "_law_other"]) fun _ _ _ _ _ _ us hl => by
    obtain ⟨a0, us0, rfl, g0⟩ := lenS hl
    obtain ⟨a1, us1, rfl, g1⟩ := lenS g0
    obtain ⟨a2, us2, rfl, g2⟩ := lenS g1
    obtain ⟨a3, us3, rfl, g3⟩ := lenS g2
    obtain rfl := len0 g3
    rfl
  have F24 := fun_mk (st := s_Lbase) l24 c24 k24
  have b24 := F24.binds (ps := ["_law_book_here", "_law_rank", "_law_one", "_law_other"]) fun _ _ _ _ _ _ us hl => by
    obtain ⟨a0, us0, rfl, g0⟩ := lenS hl
    obtain ⟨a1, us1, rfl, g1⟩ := lenS g0
    obtain ⟨a2, us2, rfl, g2⟩ := lenS g1
    obtain ⟨a3, us3, rfl, g3⟩ := lenS g2
    obtain rfl := len0 g3
    rfl
  have F25 := fun_mk (st := s_Lentry) l25 c25 k25
  have b25 := F25.binds (ps := ["_law_book_here", "_law_words_here", "_law_cell", "_law_k", "_law_free"]) fun _ _ _ _ _ _ us hl => by
    obtain ⟨a0, us0, rfl, g0⟩ := lenS hl
    obtain ⟨a1, us1, rfl, g1⟩ := lenS g0
    obtain ⟨a2, us2, rfl, g2⟩ := lenS g1
    obtain ⟨a3, us3, rfl, g3⟩ := lenS g2
    obtain ⟨a4, us4, rfl, g4⟩ := lenS g3
    obtain rfl := len0 g4
    rfl
  have F26 := fun_mk (st := s_Lbook) l26 c26 k26
  have b26 := F26.binds (ps := ["_law_script", "_law_start"]) fun _ _ _ _ _ _ us hl => by
    obtain ⟨a0, us0, rfl, g0⟩ := lenS hl
    obtain ⟨a1, us1, rfl, g1⟩ := lenS g0
    obtain rfl := len0 g1
    rfl
  have F27 := fun_mk (st := s_Lmade) l27 c27 k27
  have b27 := F27.binds (ps := ["_law_book_here"]) fun _ _ _ _ _ _ us hl => by
    obtain ⟨a0, us0, rfl, g0⟩ := lenS hl
    obtain rfl := len0 g0
    rfl
  have F28 := fun_mk (st := s_Lright) l28 c28 k28
  have b28 := F28.binds (ps := ["_law_one", "_law_book_here", "_law_told_all"]) fun _ _ _ _ _ _ us hl => by
    obtain ⟨a0, us0, rfl, g0⟩ := lenS hl
    obtain ⟨a1, us1, rfl, g1⟩ := lenS g0
    obtain ⟨a2, us2, rfl, g2⟩ := lenS g1
    obtain rfl := len0 g2
    rfl
  have F29 := fun_mk (st := s_law) l29 c29 k29
  have b29 := F29.binds (ps := ["_law_script"]) fun _ _ _ _ _ _ us hl => by
    obtain ⟨a0, us0, rfl, g0⟩ := lenS hl
    obtain rfl := len0 g0
    rfl
  have bb_Results_init := (fun_mk (st := s_Results_init) l_Results_init k_Results_init p_Results_init).binds (ps := ["self"]) fun _ _ _ _ _ _ us hl => by
    obtain ⟨a0, us0, rfl, g0⟩ := lenS hl
    obtain rfl := len0 g0
    rfl
  have bb_Results_put := (fun_mk (st := s_Results_put) l_Results_put k_Results_put p_Results_put).binds (ps := ["self", "entry"]) fun _ _ _ _ _ _ us hl => by
    obtain ⟨a0, us0, rfl, g0⟩ := lenS hl
    obtain ⟨a1, us1, rfl, g1⟩ := lenS g0
    obtain rfl := len0 g1
    rfl
  have bb_Results_name_of := (fun_mk (st := s_Results_name_of) l_Results_name_of k_Results_name_of p_Results_name_of).binds (ps := ["self", "entry"]) fun _ _ _ _ _ _ us hl => by
    obtain ⟨a0, us0, rfl, g0⟩ := lenS hl
    obtain ⟨a1, us1, rfl, g1⟩ := lenS g0
    obtain rfl := len0 g1
    rfl
  have bb_Results_outcome_of := (fun_mk (st := s_Results_outcome_of) l_Results_outcome_of k_Results_outcome_of p_Results_outcome_of).binds (ps := ["self", "entry", "name"]) fun _ _ _ _ _ _ us hl => by
    obtain ⟨a0, us0, rfl, g0⟩ := lenS hl
    obtain ⟨a1, us1, rfl, g1⟩ := lenS g0
    obtain ⟨a2, us2, rfl, g2⟩ := lenS g1
    obtain rfl := len0 g2
    rfl
  have bb_Results_root_of := (fun_mk (st := s_Results_root_of) l_Results_root_of k_Results_root_of p_Results_root_of).binds (ps := ["self", "entry"]) fun _ _ _ _ _ _ us hl => by
    obtain ⟨a0, us0, rfl, g0⟩ := lenS hl
    obtain ⟨a1, us1, rfl, g1⟩ := lenS g0
    obtain rfl := len0 g1
    rfl
  have T : Txt w K mg ⟨f0, _, f1, _, f2, _, f3, _, f4, _, f5, _, f6, _, f7, _, f8, _, f9, _, f10, _, f11, _, f12, _, f13, _, f14, _, f15, _, f16, _, f17, _, f18, _, f19, _, f20, _, f21, _, f22, _, f23, _, f24, _, f25, _, f26, _, f27, _, f28, _, fa, _, c_Entry, f_Entry, t_Entry, _, c_Results, f_Results_init, _, f_Results_put, _, f_Results_name_of, _, f_Results_outcome_of, _, f_Results_root_of, _, u_MOST_LETTERS, u_LAST_DAY, u_LAST_NUMBER, u_RANKS, u_ABOVE, c_NoRank, c_NoNumber, c_NoDay, c_NoWord, c_NoBook, c_NoEntry⟩ := ⟨⟨F0, PySem.W.mg_of X G a0, b0⟩, ⟨F1, PySem.W.mg_of X G a1, b1⟩, ⟨F2, PySem.W.mg_of X G a2, b2⟩, ⟨F3, PySem.W.mg_of X G a3, b3⟩, ⟨F4, PySem.W.mg_of X G a4, b4⟩, ⟨F5, PySem.W.mg_of X G a5, b5⟩, ⟨F6, PySem.W.mg_of X G a6, b6⟩, ⟨F7, PySem.W.mg_of X G a7, b7⟩, ⟨F8, PySem.W.mg_of X G a8, b8⟩, ⟨F9, PySem.W.mg_of X G a9, b9⟩, ⟨F10, PySem.W.mg_of X G a10, b10⟩, ⟨F11, PySem.W.mg_of X G a11, b11⟩, ⟨F12, PySem.W.mg_of X G a12, b12⟩, ⟨F13, PySem.W.mg_of X G a13, b13⟩, ⟨F14, PySem.W.mg_of X G a14, b14⟩, ⟨F15, PySem.W.mg_of X G a15, b15⟩, ⟨F16, PySem.W.mg_of X G a16, b16⟩, ⟨F17, PySem.W.mg_of X G a17, b17⟩, ⟨F18, PySem.W.mg_of X G a18, b18⟩, ⟨F19, PySem.W.mg_of X G a19, b19⟩, ⟨F20, PySem.W.mg_of X G a20, b20⟩, ⟨F21, PySem.W.mg_of X G a21, b21⟩, ⟨F22, PySem.W.mg_of X G a22, b22⟩, ⟨F23, PySem.W.mg_of X G a23, b23⟩, ⟨F24, PySem.W.mg_of X G a24, b24⟩, ⟨F25, PySem.W.mg_of X G a25, b25⟩, ⟨F26, PySem.W.mg_of X G a26, b26⟩, ⟨F27, PySem.W.mg_of X G a27, b27⟩, ⟨F28, PySem.W.mg_of X G a28, b28⟩, ⟨F29, PySem.W.mg_of X G a29, b29⟩, PySem.W.mg_of X G cg_Entry, ⟨pg_Entry, hd_Entry, po_Entry, sa_Entry⟩, ⟨mk_Entry, in_Entry, fn_Entry, kc_Entry⟩, funD_mk lf_Entry cf_Entry kf_Entry, na_Entry_number, na_Entry_day, na_Entry_rank, na_Entry_word, na_Entry_under, na_Entry_sheet, na_Entry_base, na_Entry_described, mb_Entry_8 (funD_mk lf_Entry cf_Entry kf_Entry) lt_Entry dt_Entry, PySem.W.mg_of X G cg_Results, ⟨pg_Results, hd_Results, po_Results, sa_Results⟩, fun_mk l_Results_init k_Results_init p_Results_init, bb_Results_init, ⟨mk_Results, in_Results, fn_Results, kc_Results⟩, na_Results_outs, na_Results_names, na_Results_rights, na_Results_holders, fun_mk l_Results_put k_Results_put p_Results_put, bb_Results_put, ⟨mf_Results_put, mi_Results_put, p_Results_put⟩, fun_mk l_Results_name_of k_Results_name_of p_Results_name_of, bb_Results_name_of, ⟨mf_Results_name_of, mi_Results_name_of, p_Results_name_of⟩, fun_mk l_Results_outcome_of k_Results_outcome_of p_Results_outcome_of, bb_Results_outcome_of, ⟨mf_Results_outcome_of, mi_Results_outcome_of, p_Results_outcome_of⟩, fun_mk l_Results_root_of k_Results_root_of p_Results_root_of, bb_Results_root_of, ⟨mf_Results_root_of, mi_Results_root_of, p_Results_root_of⟩, PySem.W.mg_of X G cg_MOST_LETTERS, cr_MOST_LETTERS, PySem.W.mg_of X G cg_LAST_DAY, cr_LAST_DAY, PySem.W.mg_of X G cg_LAST_NUMBER, cr_LAST_NUMBER, PySem.W.mg_of X G cg_RANKS, fun H => sqT_of cl_RANKS cc_RANKS cd_RANKS (by rw [List.size_toArray, ← Paired.length cv_RANKS]; exact le_ble rfl) (by simpa using cv_RANKS), PySem.W.mg_of X G cg_ABOVE, ⟨⟨_, _, cl_ABOVE, cv_ABOVE⟩, by decide +kernel⟩, PySem.W.mg_of X G cg_NoRank, PySem.W.mg_of X G cg_NoNumber, PySem.W.mg_of X G cg_NoDay, PySem.W.mg_of X G cg_NoWord, PySem.W.mg_of X G cg_NoBook, PySem.W.mg_of X G cg_NoEntry, XCls.mk2 xl_NoRank xn_NoRank xs_NoRank xi_NoRank xa_NoRank xb_NoRank xt_NoRank xj_NoRank, ⟨qcs_NoRank, qga_NoRank, qgt_NoRank, qca_NoRank, qgg_NoRank, qtk_NoRank, qmo_NoRank, qsb_NoRank⟩, XCls.mk2 xl_NoNumber xn_NoNumber xs_NoNumber xi_NoNumber xa_NoNumber xb_NoNumber xt_NoNumber xj_NoNumber, ⟨qcs_NoNumber, qga_NoNumber, qgt_NoNumber, qca_NoNumber, qgg_NoNumber, qtk_NoNumber, qmo_NoNumber, qsb_NoNumber⟩, XCls.mk2 xl_NoDay xn_NoDay xs_NoDay xi_NoDay xa_NoDay xb_NoDay xt_NoDay xj_NoDay, ⟨qcs_NoDay, qga_NoDay, qgt_NoDay, qca_NoDay, qgg_NoDay, qtk_NoDay, qmo_NoDay, qsb_NoDay⟩, XCls.mk2 xl_NoWord xn_NoWord xs_NoWord xi_NoWord xa_NoWord xb_NoWord xt_NoWord xj_NoWord, ⟨qcs_NoWord, qga_NoWord, qgt_NoWord, qca_NoWord, qgg_NoWord, qtk_NoWord, qmo_NoWord, qsb_NoWord⟩, XCls.mk2 xl_NoBook xn_NoBook xs_NoBook xi_NoBook xa_NoBook xb_NoBook xt_NoBook xj_NoBook, ⟨qcs_NoBook, qga_NoBook, qgt_NoBook, qca_NoBook, qgg_NoBook, qtk_NoBook, qmo_NoBook, qsb_NoBook⟩, XCls.mk2 xl_NoEntry xn_NoEntry xs_NoEntry xi_NoEntry xa_NoEntry xb_NoEntry xt_NoEntry xj_NoEntry, ⟨qcs_NoEntry, qga_NoEntry, qgt_NoEntry, qca_NoEntry, qgg_NoEntry, qtk_NoEntry, qmo_NoEntry, qsb_NoEntry⟩, ⟨wc_Entry, wg_Entry, wt_Entry, wm_Entry⟩, ws_Entry, wn_Entry_NoneType, wn_Entry_int, wn_Entry_str, wn_Entry_bool, wn_Entry_list, wn_Entry_tuple, wn_Entry_dict, PySem.W.mg_none_of X G z_len, PySem.W.mg_none_of X G z_isinstance, PySem.W.mg_none_of X G z_str, PySem.W.mg_none_of X G z_bool, PySem.W.mg_none_of X G z_all, PySem.W.mg_none_of X G z_range, PySem.W.mg_none_of X G z_int, PySem.W.mg_none_of X G z_list, PySem.W.mg_none_of X G z_min, PySem.W.mg_none_of X G z_max, PySem.W.mg_none_of X G z_dict, PySem.W.mg_none_of X G z_sorted, PySem.W.mg_none_of X G z_tuple⟩
  exact ⟨_, fun s v => .of_eq rfl, fun base _ _ => ok_law T⟩
end My
theorem PySem.W.Fast.tw15924518891101937419 : True := trivial
theorem PySem.W.Fast.tw15458429366507984394 : True := trivial
theorem PySem.W.Fast.tw8951507387600140869 : True := trivial
theorem PySem.W.Fast.tw12855172894179012000 : True := trivial
theorem PySem.W.Fast.tw7867874680671442514 : True := trivial
theorem PySem.W.Fast.tw12564351295977311635 : True := trivial
theorem PySem.W.Fast.tw17970634519647506765 : True := trivial
theorem PySem.W.Fast.tw1336873659724167291 : True := trivial
theorem PySem.W.Fast.tw4919355124630490500 : True := trivial
theorem PySem.W.Fast.tw17084666198996286289 : True := trivial
theorem PySem.W.Fast.tw7460614515822332334 : True := trivial
theorem PySem.W.Fast.tw558685062780573366 : True := trivial
theorem PySem.W.Fast.tw3504012085541313587 : True := trivial
theorem PySem.W.Fast.tw12393997702562459043 : True := trivial
theorem PySem.W.Fast.tw14992745245593958048 : True := trivial
theorem PySem.W.Fast.tw17651663664282030346 : True := trivial
theorem PySem.W.Fast.tw14283324152888442556 : True := trivial
theorem PySem.W.Fast.tw13750655560918038409 : True := trivial
theorem PySem.W.Fast.tw16779057705734042181 : True := trivial
theorem PySem.W.Fast.tw2675502684704180854 : True := trivial
theorem PySem.W.Fast.tw17000303570588511463 : True := trivial
theorem PySem.W.Fast.tw7647131204168250330 : True := trivial
theorem PySem.W.Fast.tw16554383963569618081 : True := trivial
theorem PySem.W.Fast.tw1308375838602564225 : True := trivial
theorem PySem.W.Fast.tw17954192151813878611 : True := trivial
theorem PySem.W.Fast.tw9115334712907330150 : True := trivial
theorem PySem.W.Fast.tw9514323237019511992 : True := trivial
theorem PySem.W.Fast.tw2584607225841222400 : True := trivial
theorem PySem.W.Fast.tw4840926099113025727 : True := trivial
theorem PySem.W.Fast.tw2429315536746417022 : True := trivial
theorem PySem.W.Fast.tw4677497392545667995 : True := trivial
theorem PySem.W.Fast.tw9671967639374329152 : True := trivial
theorem PySem.W.Fast.tw6124519426328362933 : True := trivial
theorem PySem.W.Fast.tw5941513269320860086 : True := trivial
theorem PySem.W.Fast.tw7971920138907791786 : True := trivial
theorem PySem.W.Fast.tw9907499222593424567 : True := trivial
theorem PySem.W.Fast.tw5756942480399041015 : True := trivial
theorem PySem.W.Fast.tw9108252772056512626 : True := trivial
theorem PySem.W.Fast.tw16890465397117899312 : True := trivial
theorem PySem.W.Fast.tw3587473000282686670 : True := trivial
theorem PySem.W.Fast.tw5104599891918212495 : True := trivial
theorem PySem.W.Fast.tw15305418029521530694 : True := trivial
theorem PySem.W.Fast.tw5844331405373921554 : True := trivial
theorem PySem.W.Fast.tw16747455888195677349 : True := trivial
theorem PySem.W.Fast.tw10254585044583200890 : True := trivial
theorem PySem.W.Fast.tw13408599477274222303 : True := trivial
theorem PySem.W.Fast.tw16397686193556810205 : True := trivial
theorem PySem.W.Fast.tw682449505343027313 : True := trivial
theorem PySem.W.Fast.tw15569822382313218979 : True := trivial
theorem PySem.W.Fast.tw4297467309174160220 : True := trivial
theorem PySem.W.Fast.tw12065148156699113191 : True := trivial
theorem PySem.W.Fast.tw2336154642213205320 : True := trivial
theorem PySem.W.Fast.tw8436321079718403219 : True := trivial
theorem PySem.W.Fast.tw4661840608284306000 : True := trivial
theorem PySem.W.Fast.tw7389516332175106935 : True := trivial
theorem PySem.W.Fast.tw16941084484732516005 : True := trivial
theorem PySem.W.Fast.tw13964977477462392466 : True := trivial
theorem PySem.W.Fast.tw2683045320135211707 : True := trivial
theorem PySem.W.Fast.tw13221854169780929217 : True := trivial
theorem PySem.W.Fast.tw4752642001129604290 : True := trivial
theorem PySem.W.Fast.tw16302498579763279180 : True := trivial
theorem PySem.W.Fast.tw12924225661917034037 : True := trivial
theorem PySem.W.Fast.tw16702726143043700653 : True := trivial
theorem PySem.W.Fast.tw9043938954222452875 : True := trivial
theorem PySem.W.Fast.tw18170329720085237014 : True := trivial
theorem PySem.W.Fast.tw13912110794209610240 : True := trivial
theorem PySem.W.Fast.tw18386721410757984876 : True := trivial
theorem PySem.W.Fast.tw8548879866831853985 : True := trivial
theorem PySem.W.Fast.tw6404398309191352813 : True := trivial
theorem PySem.W.Fast.tw3751403896251805328 : True := trivial
theorem PySem.W.Fast.tw3604131550156447297 : True := trivial
theorem PySem.W.Fast.tw18279166097743223246 : True := trivial
theorem PySem.W.Fast.tw2628925824360966658 : True := trivial
theorem PySem.W.Fast.tw6526834111635146110 : True := trivial
theorem PySem.W.Fast.tw11327435414751403749 : True := trivial
theorem PySem.W.Fast.tw11510574952515413989 : True := trivial
theorem PySem.W.Fast.tw2193199555033224465 : True := trivial
theorem PySem.W.Fast.tw37373343346476561 : True := trivial
theorem PySem.W.Fast.tw11639710769417639511 : True := trivial
theorem PySem.W.Fast.tw15029737675631316790 : True := trivial
theorem PySem.W.Fast.tw16529961226971505354 : True := trivial
theorem PySem.W.Fast.tw13782622401545811496 : True := trivial
theorem PySem.W.Fast.tw8363904568754801234 : True := trivial
theorem PySem.W.Fast.tw17984004845569842112 : True := trivial
theorem PySem.W.Fast.tw160507919707877391 : True := trivial
theorem PySem.W.Fast.tw16266994892907443009 : True := trivial
theorem PySem.W.Fast.tw2463314447706121713 : True := trivial
theorem PySem.W.Fast.tw15042395133171344427 : True := trivial
theorem PySem.W.Fast.tw12885817611741887691 : True := trivial
theorem PySem.W.Fast.tw11649635541566449710 : True := trivial
theorem PySem.W.Fast.tw13059514312442006905 : True := trivial
theorem PySem.W.Fast.tw8898847526666462643 : True := trivial
theorem PySem.W.Fast.tw9264784338009234117 : True := trivial
theorem PySem.W.Fast.tw11127822568906939769 : True := trivial
theorem PySem.W.Fast.tw7422796964692219775 : True := trivial
theorem PySem.W.Fast.tw1975194109382042642 : True := trivial
theorem PySem.W.Fast.tw7503238845770167674 : True := trivial
theorem PySem.W.Fast.tw493800435352131739 : True := trivial
theorem PySem.W.Fast.tw8672581443833501081 : True := trivial
theorem PySem.W.Fast.tw11821314958762461038 : True := trivial
theorem PySem.W.Fast.tw11812851961060495200 : True := trivial
theorem PySem.W.Fast.tw537481202471259028 : True := trivial
theorem PySem.W.Fast.tw6111222191253053035 : True := trivial
theorem PySem.W.Fast.tw8212275506370019939 : True := trivial
theorem PySem.W.Fast.tw1082491976102077183 : True := trivial
theorem PySem.W.Fast.tw8193739835669059626 : True := trivial
theorem PySem.W.Fast.tw6100658626691546604 : True := trivial
theorem PySem.W.Fast.tw2571563658893168454 : True := trivial
theorem PySem.W.Fast.tw14730865510418251379 : True := trivial
theorem PySem.W.Fast.tw4446099900387191670 : True := trivial
theorem PySem.W.Fast.tw9764759638080758414 : True := trivial
theorem PySem.W.Fast.tw428352594796023397 : True := trivial
theorem PySem.W.Fast.tw3479484600140572218 : True := trivial
theorem PySem.W.Fast.tw4073431866022048383 : True := trivial
theorem PySem.W.Fast.tw3998041927085488771 : True := trivial
theorem PySem.W.Fast.tw14537179794564077020 : True := trivial
theorem PySem.W.Fast.tw10704144245462311327 : True := trivial
theorem PySem.W.Fast.tw7282297438068858084 : True := trivial
theorem PySem.W.Fast.tw11975283281744009201 : True := trivial
theorem PySem.W.Fast.tw4288188623778705964 : True := trivial
theorem PySem.W.Fast.tw11952455608193983613 : True := trivial
theorem PySem.W.Fast.tw17408278827272945284 : True := trivial
theorem PySem.W.Fast.tw4394596502879892334 : True := trivial
theorem PySem.W.Fast.tw6206118088657689426 : True := trivial
theorem PySem.W.Fast.tw8319881737557441663 : True := trivial
theorem PySem.W.Fast.tw9241349607802965627 : True := trivial
theorem PySem.W.Fast.tw17756402292371877208 : True := trivial
theorem PySem.W.Fast.tw12181784162024115021 : True := trivial
theorem PySem.W.Fast.tw9885251343602558245 : True := trivial
theorem PySem.W.Fast.tw6739763738581503655 : True := trivial
theorem PySem.W.Fast.tw14452396663594320628 : True := trivial
theorem PySem.W.Fast.tw18307949403474588083 : True := trivial
theorem PySem.W.Fast.tw17375723044663363430 : True := trivial
theorem PySem.W.Fast.tw3425104472048894531 : True := trivial
theorem PySem.W.Fast.tw1929773822266043707 : True := trivial
theorem PySem.W.Fast.tw13636683986204822536 : True := trivial
theorem PySem.W.Fast.tw15255540102977708508 : True := trivial
theorem PySem.W.Fast.tw9324719915421546201 : True := trivial
theorem PySem.W.Fast.tw399523899737419100 : True := trivial
theorem PySem.W.Fast.tw11747692762574534006 : True := trivial
theorem PySem.W.Fast.tw4956582331378974130 : True := trivial
theorem PySem.W.Fast.tw14498504224098675289 : True := trivial
theorem PySem.W.Fast.tw614508197324099859 : True := trivial
theorem PySem.W.Fast.tw1649740802094823882 : True := trivial
theorem PySem.W.Fast.tw12047022721070844035 : True := trivial
theorem PySem.W.Fast.tw12475886957869718899 : True := trivial
theorem PySem.W.Fast.tw593669184980949436 : True := trivial
theorem PySem.W.Fast.tw17179432904276052418 : True := trivial
theorem PySem.W.Fast.tw6702002828912077459 : True := trivial
theorem PySem.W.Fast.tw4188448621186899245 : True := trivial
theorem PySem.W.Fast.tw16258414433306228477 : True := trivial
theorem PySem.W.Fast.tw13672084011822955231 : True := trivial
theorem PySem.W.Fast.tw6181261191105499419 : True := trivial
theorem PySem.W.Fast.tw556150246608063200 : True := trivial
theorem PySem.W.Fast.tw12017179949411450361 : True := trivial
theorem PySem.W.Fast.tw1110014729271801757 : True := trivial
theorem PySem.W.Fast.tw7431810807186894333 : True := trivial
theorem PySem.W.Fast.tw17856124609051669295 : True := trivial
theorem PySem.W.Fast.tw16294251814294385523 : True := trivial
theorem PySem.W.Fast.tw3018695502486203551 : True := trivial
theorem PySem.W.Fast.tw4399575071269573677 : True := trivial
theorem PySem.W.Fast.tw2064557485535579465 : True := trivial
theorem PySem.W.Fast.tw7170064721885219123 : True := trivial
theorem PySem.W.Fast.tw7163421549612865907 : True := trivial
theorem PySem.W.Fast.tw12418399511569668076 : True := trivial
theorem PySem.W.Fast.tw5649542571238105518 : True := trivial
theorem PySem.W.Fast.tw10799696866407772197 : True := trivial
theorem PySem.W.Fast.tw5205967720993619 : True := trivial
theorem PySem.W.Fast.tw15984361464736887312 : True := trivial
theorem PySem.W.Fast.tw2067598496917610308 : True := trivial
theorem PySem.W.Fast.tw13620487261450433818 : True := trivial
theorem PySem.W.Fast.tw5731380579293355361 : True := trivial
theorem PySem.W.Fast.tw8797199024205860001 : True := trivial
theorem PySem.W.Fast.tw5658913300243847538 : True := trivial
theorem PySem.W.Fast.tw11034760500684583744 : True := trivial
theorem PySem.W.Fast.tw11778594358279428574 : True := trivial
theorem PySem.W.Fast.tw6464828265341063362 : True := trivial
theorem PySem.W.Fast.tw8852554266369324910 : True := trivial
theorem PySem.W.Fast.tw12256571951793759842 : True := trivial
theorem PySem.W.Fast.tw8285324503592004005 : True := trivial
theorem PySem.W.Fast.tw514789404648044954 : True := trivial
theorem PySem.W.Fast.tw6456087248907248652 : True := trivial
theorem PySem.W.Fast.tw7365020335785894910 : True := trivial
theorem PySem.W.Fast.tw4620093039661986054 : True := trivial
theorem PySem.W.Fast.tw16307668775032782305 : True := trivial
theorem PySem.W.Fast.tw17922951986555377708 : True := trivial
theorem PySem.W.Fast.tw5199798602320925994 : True := trivial
theorem PySem.W.Fast.tw8916657029411134592 : True := trivial
theorem PySem.W.Fast.tw17478041792969566096 : True := trivial
theorem PySem.W.Fast.tw8242732329513173395 : True := trivial
theorem PySem.W.Fast.tw6492505135789953003 : True := trivial
theorem PySem.W.Fast.tw18346033561445825306 : True := trivial
theorem PySem.W.Fast.tw2852408991556810632 : True := trivial
theorem PySem.W.Fast.tw2078487446311307027 : True := trivial
theorem PySem.W.Fast.tw2771067342739915587 : True := trivial
theorem PySem.W.Fast.tw2367474736230253581 : True := trivial
theorem PySem.W.Fast.tw10011705893134017739 : True := trivial
theorem PySem.W.Fast.tw7453767752562591211 : True := trivial
theorem PySem.W.Fast.tw3156066653376979045 : True := trivial
theorem PySem.W.Fast.tw16678662111645371230 : True := trivial
theorem PySem.W.Fast.tw208698622520900057 : True := trivial
theorem PySem.W.Fast.tw5953158821861037749 : True := trivial
theorem PySem.W.Fast.tw13568020874925571376 : True := trivial
theorem PySem.W.Fast.tw9649914646521634643 : True := trivial
theorem PySem.W.Fast.tw16075654797156556480 : True := trivial
theorem PySem.W.Fast.tw247933703267028712 : True := trivial
theorem PySem.W.Fast.tw2404227851885017617 : True := trivial
theorem PySem.W.Fast.tw2787652677361679086 : True := trivial
theorem PySem.W.Fast.tw8125069928426953735 : True := trivial
theorem PySem.W.Fast.tw1458250902147372821 : True := trivial
theorem PySem.W.Fast.tw6768267600186029069 : True := trivial
theorem PySem.W.Fast.tw14668177122063294754 : True := trivial
theorem PySem.W.Fast.tw14423790212473418675 : True := trivial
theorem PySem.W.Fast.tw5967577578441430163 : True := trivial
theorem PySem.W.Fast.tw11087579978772423039 : True := trivial
theorem PySem.W.Fast.tw4958961095964460860 : True := trivial
theorem PySem.W.Fast.tw17771926650645427393 : True := trivial
theorem PySem.W.Fast.tw10214883824221978155 : True := trivial
theorem PySem.W.Fast.tw18239247145906305973 : True := trivial
theorem PySem.W.Fast.tw7399147652038707707 : True := trivial
theorem PySem.W.Fast.tw1953968303276539200 : True := trivial
theorem PySem.W.Fast.tw721642825663930270 : True := trivial
theorem PySem.W.Fast.tw7160390237262020128 : True := trivial
theorem PySem.W.Fast.tw6368866840660105306 : True := trivial
theorem PySem.W.Fast.tw17934706066873477718 : True := trivial
theorem PySem.W.Fast.tw18293290593513178355 : True := trivial
theorem PySem.W.Fast.tw13782883442327356991 : True := trivial
theorem PySem.W.Fast.tw2540782463148010199 : True := trivial
theorem PySem.W.Fast.tw10382749606255503785 : True := trivial
theorem PySem.W.Fast.tw17927067940196083076 : True := trivial
theorem PySem.W.Fast.tw11904934229507942265 : True := trivial
theorem PySem.W.Fast.tw5306193657693410687 : True := trivial
theorem PySem.W.Fast.tw16133593085403789074 : True := trivial
theorem PySem.W.Fast.tw13825277213787105503 : True := trivial
theorem PySem.W.Fast.tw17700745180761031870 : True := trivial
theorem PySem.W.Fast.tw1609164492496220697 : True := trivial
theorem PySem.W.Fast.tw16476400771001960331 : True := trivial
theorem PySem.W.Fast.tw17755117744183472305 : True := trivial
theorem PySem.W.Fast.tw13819475637837985730 : True := trivial
theorem PySem.W.Fast.tw13231994350183403503 : True := trivial
theorem PySem.W.Fast.tw13963893049579746348 : True := trivial
theorem PySem.W.Fast.tw7096114706917120276 : True := trivial
theorem PySem.W.Fast.tw1547429982626623140 : True := trivial
theorem PySem.W.Fast.tw13816485487873791566 : True := trivial
theorem PySem.W.Fast.tw10364834370695410325 : True := trivial
theorem PySem.W.Fast.tw11300697486217238033 : True := trivial
theorem PySem.W.Fast.tw16762676131146607717 : True := trivial
theorem PySem.W.Fast.tw12783604095257688776 : True := trivial
theorem PySem.W.Fast.tw12551673033679843526 : True := trivial
theorem PySem.W.Fast.tw16029370352366967593 : True := trivial
theorem PySem.W.Fast.tw8768382151973045093 : True := trivial
theorem PySem.W.Fast.tw8025179362120327074 : True := trivial
theorem PySem.W.Fast.tw16225885994701570377 : True := trivial
theorem PySem.W.Fast.tw18173208801411594878 : True := trivial
theorem PySem.W.Fast.tw11558409993956411497 : True := trivial
theorem PySem.W.Fast.tw10873068407913643291 : True := trivial
theorem PySem.W.Fast.tw17881311320252791291 : True := trivial
theorem PySem.W.Fast.tw9142295705332190849 : True := trivial
theorem PySem.W.Fast.tw1255181603593156991 : True := trivial
theorem PySem.W.Fast.tw13098676434138813322 : True := trivial
theorem PySem.W.Fast.tw18159043030686137395 : True := trivial
theorem PySem.W.Fast.tw2037829108082706656 : True := trivial
theorem PySem.W.Fast.tw12233759815473705285 : True := trivial
theorem PySem.W.Fast.tw4680561284618241847 : True := trivial
theorem PySem.W.Fast.tw7546587767496786933 : True := trivial
theorem PySem.W.Fast.tw12756275932669287850 : True := trivial
theorem PySem.W.Fast.tw7869912988960196693 : True := trivial
theorem PySem.W.Fast.tw4119561474153115323 : True := trivial
theorem PySem.W.Fast.tw10614655931009666161 : True := trivial
theorem PySem.W.Fast.tw8100310957849683469 : True := trivial
theorem PySem.W.Fast.tw709426873128123634 : True := trivial
theorem PySem.W.Fast.tw13177631849201028292 : True := trivial
theorem PySem.W.Fast.tw13045508449336729743 : True := trivial
theorem PySem.W.Fast.tw13381027361403107071 : True := trivial
theorem PySem.W.Fast.tw1407079954892229490 : True := trivial
theorem PySem.W.Fast.tw9185938316822554122 : True := trivial
theorem PySem.W.Fast.tw104705699182715302 : True := trivial
theorem PySem.W.Fast.tw9356189454624199037 : True := trivial
theorem PySem.W.Fast.tw13218637580356065829 : True := trivial
theorem PySem.W.Fast.tw11073547359623370655 : True := trivial
theorem PySem.W.Fast.tw17268587698714076610 : True := trivial
theorem PySem.W.Fast.tw6824480968731524736 : True := trivial
theorem PySem.W.Fast.tw5972491935532518181 : True := trivial
theorem PySem.W.Fast.tw9068564900938961641 : True := trivial
theorem PySem.W.Fast.tw314761868826939240 : True := trivial
theorem PySem.W.Fast.tw15236439055133573770 : True := trivial
theorem PySem.W.Fast.tw1042735349627111080 : True := trivial
theorem PySem.W.Fast.tw7356922224771327954 : True := trivial
theorem PySem.W.Fast.tw5482303881942316945 : True := trivial
theorem PySem.W.Fast.tw218983192409856982 : True := trivial
theorem PySem.W.Fast.tw1625816535414923812 : True := trivial
theorem PySem.W.Fast.tw2316941418837063352 : True := trivial
theorem PySem.W.Fast.tw16507808408742975107 : True := trivial
theorem PySem.W.Fast.tw7781832277219979509 : True := trivial
theorem PySem.W.Fast.tw12709700633399719654 : True := trivial
theorem PySem.W.Fast.tw14914019307132914651 : True := trivial
theorem PySem.W.Fast.tw1924007793331620382 : True := trivial
theorem PySem.W.Fast.tw14110595842361570114 : True := trivial
theorem PySem.W.Fast.tw12014769618582816434 : True := trivial
theorem PySem.W.Fast.tw18093883104902108606 : True := trivial
theorem PySem.W.Fast.tw4417993895098415243 : True := trivial
theorem PySem.W.Fast.tw3603037530693385568 : True := trivial
theorem PySem.W.Fast.tw10283438491201078266 : True := trivial
theorem PySem.W.Fast.tw16113469289482586560 : True := trivial
theorem PySem.W.Fast.tw9550710037669601837 : True := trivial
theorem PySem.W.Fast.tw771762486878291222 : True := trivial
theorem PySem.W.Fast.tw7538942759112796738 : True := trivial
theorem PySem.W.Fast.tw9588314564346296164 : True := trivial
theorem PySem.W.Fast.tw146924131446349593 : True := trivial
theorem PySem.W.Fast.tw349987194111261985 : True := trivial
theorem PySem.W.Fast.tw341775676841371355 : True := trivial
theorem PySem.W.Fast.tw2979719516942787981 : True := trivial
theorem PySem.W.Fast.tw15943145446878913765 : True := trivial
theorem PySem.W.Fast.tw14699642756054146258 : True := trivial
theorem PySem.W.Fast.tw6309128215053646684 : True := trivial
theorem PySem.W.Fast.tw6376944436833261934 : True := trivial
theorem PySem.W.Fast.tw14672800293655899124 : True := trivial
theorem PySem.W.Fast.tw18166681306341250584 : True := trivial
theorem PySem.W.Fast.tw2960647283926453823 : True := trivial
theorem PySem.W.Fast.tw3447913963737168971 : True := trivial
theorem PySem.W.Fast.tw17580184699738066246 : True := trivial
theorem PySem.W.Fast.tw11073630058476750071 : True := trivial
theorem PySem.W.Fast.tw13687962546576057285 : True := trivial
theorem PySem.W.Fast.tw3767816475614466448 : True := trivial
theorem PySem.W.Fast.tw6710216190532670994 : True := trivial
theorem PySem.W.Fast.tw10511592325784594059 : True := trivial
theorem PySem.W.Fast.tw1930473950429957898 : True := trivial
theorem PySem.W.Fast.tw6137901387171702794 : True := trivial
theorem PySem.W.Fast.tw9581486824170407083 : True := trivial
theorem PySem.W.Fast.tw10825934144396651006 : True := trivial
theorem PySem.W.Fast.tw10971931023995909075 : True := trivial
theorem PySem.W.Fast.tw1782467969025837384 : True := trivial
theorem PySem.W.Fast.tw14009842293591675751 : True := trivial
theorem PySem.W.Fast.tw13269243174383283308 : True := trivial
theorem PySem.W.Fast.tw227504332070209189 : True := trivial
theorem PySem.W.Fast.tw13893780464027857089 : True := trivial
theorem PySem.W.Fast.tw17009545171551155915 : True := trivial
theorem PySem.W.Fast.tw12244821483021516730 : True := trivial
theorem PySem.W.Fast.tw9761778247382394516 : True := trivial
theorem PySem.W.Fast.tw5082652181506537615 : True := trivial
theorem PySem.W.Fast.tw10191115835180440974 : True := trivial
theorem PySem.W.Fast.tw1352507801679116464 : True := trivial
theorem PySem.W.Fast.tw15661888022203048465 : True := trivial
theorem PySem.W.Fast.tw8239282966343171112 : True := trivial
theorem PySem.W.Fast.tw7325549354246657058 : True := trivial
theorem PySem.W.Fast.tw12429375902157456573 : True := trivial
theorem PySem.W.Fast.tw17712985568859302391 : True := trivial
theorem PySem.W.Fast.tw18205141576843658772 : True := trivial
theorem PySem.W.Fast.tw10335683488887086848 : True := trivial
theorem PySem.W.Fast.tw14132226961442356758 : True := trivial
theorem PySem.W.Fast.tw15265579317740191132 : True := trivial
theorem PySem.W.Fast.tw9190176269329162722 : True := trivial
theorem PySem.W.Fast.tw18386553520249946164 : True := trivial
theorem PySem.W.Fast.tw17874914208062643814 : True := trivial
theorem PySem.W.Fast.tw9411077812726404499 : True := trivial
theorem PySem.W.Fast.tw577806850063128034 : True := trivial
theorem PySem.W.Fast.tw13838034179290452055 : True := trivial
theorem PySem.W.Fast.tw16996931853928271243 : True := trivial
theorem PySem.W.Fast.tw8217686084931489918 : True := trivial
theorem PySem.W.Fast.tw17713100428981330810 : True := trivial
theorem PySem.W.Fast.tw7850689927886608632 : True := trivial
theorem PySem.W.Fast.tw5092339945782501674 : True := trivial
theorem PySem.W.Fast.tw14384461041554210661 : True := trivial
theorem PySem.W.Fast.tw10102810754804840554 : True := trivial
theorem PySem.W.Fast.tw3650350935718244164 : True := trivial
theorem PySem.W.Fast.tw4216335452078022264 : True := trivial
theorem PySem.W.Fast.tw7824185651291314334 : True := trivial
theorem PySem.W.Fast.tw16166833459390678138 : True := trivial
theorem PySem.W.Fast.tw13460612713497657258 : True := trivial
theorem PySem.W.Fast.tw10878968338912154595 : True := trivial
theorem PySem.W.Fast.tw5914247371133833790 : True := trivial
theorem PySem.W.Fast.tw13367237187417603347 : True := trivial
theorem PySem.W.Fast.tw7189368532751014242 : True := trivial
theorem PySem.W.Fast.tw3601022802733043638 : True := trivial
theorem PySem.W.Fast.tw9741539822456457610 : True := trivial
theorem PySem.W.Fast.tw15617605885167103430 : True := trivial
theorem PySem.W.Fast.tw17894618838825003834 : True := trivial
theorem PySem.W.Fast.tw14311807600329472932 : True := trivial
theorem PySem.W.Fast.tw10650307665188945876 : True := trivial
theorem PySem.W.Fast.tw209864835726359256 : True := trivial
theorem PySem.W.Fast.tw2955137885458865949 : True := trivial
theorem PySem.W.Fast.tw9729559617313499523 : True := trivial
theorem PySem.W.Fast.tw2131227851714584424 : True := trivial
theorem PySem.W.Fast.tw7318332413049814494 : True := trivial
theorem PySem.W.Fast.tw17527377963229094858 : True := trivial
theorem PySem.W.Fast.tw14279210219720234866 : True := trivial
theorem PySem.W.Fast.tw11653462919551627202 : True := trivial
theorem PySem.W.Fast.tw3530765269750243615 : True := trivial
theorem PySem.W.Fast.tw6559779405003622504 : True := trivial
theorem PySem.W.Fast.tw698458672458200887 : True := trivial
theorem PySem.W.Fast.tw9915087613040099205 : True := trivial
theorem PySem.W.Fast.tw13343538992497381 : True := trivial
theorem PySem.W.Fast.tw612331947158954050 : True := trivial
theorem PySem.W.Fast.tw6270497116631343137 : True := trivial
theorem PySem.W.Fast.tw5629710004021203416 : True := trivial
theorem PySem.W.Fast.tw10931365751989611853 : True := trivial
theorem PySem.W.Fast.tw2803377294578718140 : True := trivial
theorem PySem.W.Fast.tw2481049422786364787 : True := trivial
theorem PySem.W.Fast.tw13711019506065838012 : True := trivial
theorem PySem.W.Fast.tw2253986208491932812 : True := trivial
theorem PySem.W.Fast.tw5446219837902432486 : True := trivial
theorem PySem.W.Fast.tw295665667462348465 : True := trivial
theorem PySem.W.Fast.tw9716510810604543068 : True := trivial
theorem PySem.W.Fast.tw12153816297236591934 : True := trivial
theorem PySem.W.Fast.tw8225598409069057621 : True := trivial
theorem PySem.W.Fast.tw7447123118192247024 : True := trivial
theorem PySem.W.Fast.tw11638172165715574969 : True := trivial
theorem PySem.W.Fast.tw514221218654883073 : True := trivial
theorem PySem.W.Fast.tw3531229616435786495 : True := trivial
theorem PySem.W.Fast.tw7362454912248028187 : True := trivial
theorem PySem.W.Fast.tw16701852305146316098 : True := trivial
theorem PySem.W.Fast.tw15758406514499715981 : True := trivial
theorem PySem.W.Fast.tw1059551383330838037 : True := trivial
theorem PySem.W.Fast.tw9448897722908443684 : True := trivial
theorem PySem.W.Fast.tw7437579684322823887 : True := trivial
theorem PySem.W.Fast.tw15018619938798607750 : True := trivial
theorem PySem.W.Fast.tw6847449394441683025 : True := trivial
theorem PySem.W.Fast.tw1335933490188488683 : True := trivial
theorem PySem.W.Fast.tw109651663211543779 : True := trivial
theorem PySem.W.Fast.tw14059965506638743148 : True := trivial
theorem PySem.W.Fast.tw12793445914474904641 : True := trivial
theorem PySem.W.Fast.tw10552867284495237643 : True := trivial
open PySem PySem.W PyProof.Rows
set_option maxRecDepth 100000 in
set_option maxHeartbeats 0 in
theorem PySem.Challenge.cw_rightname_k18_whole_unlike_names_holds : PySem.Challenge.rw_rightname_k18_whole_unlike_names.Holds := by
  w_on; o_law; k_head; (case hw => w_witness2)
  k_fill
  refine L2.walk_ofK (l := PySem.Challenge.rw_rightname_k18_whole_unlike_names) (n := 63) (k := 7) (x := "_law_script") (CX := L2.CX0) (sp := My.spLaw) rfl (by decide) rfl ⟨rfl, by decide, by decide⟩ (fun w h Y => PySem.W.kIn_of Y) ?F ?S ?C
  case F =>
    intro w mg fa h KX G hmg
    refine' My.all_mk KX G hmg ?pa0 ?pl0 ?pc0 ?pk0 ?pa1 ?pl1 ?pc1 ?pk1 ?pa2 ?pl2 ?pc2 ?pk2 ?pa3 ?pl3 ?pc3 ?pk3 ?pa4 ?pl4 ?pc4 ?pk4 ?pa5 ?pl5 ?pc5 ?pk5 ?pa6 ?pl6 ?pc6 ?pk6 ?pa7 ?pl7 ?pc7 ?pk7 ?pa8 ?pl8 ?pc8 ?pk8 ?pa9 ?pl9 ?pc9 ?pk9 ?pa10 ?pl10 ?pc10 ?pk10 ?pa11 ?pl11 ?pc11 ?pk11 ?pa12 ?pl12 ?pc12 ?pk12 ?pa13 ?pl13 ?pc13 ?pk13 ?pa14 ?pl14 ?pc14 ?pk14 ?pa15 ?pl15 ?pc15 ?pk15 ?pa16 ?pl16 ?pc16 ?pk16 ?pa17 ?pl17 ?pc17 ?pk17 ?pa18 ?pl18 ?pc18 ?pk18 ?pa19 ?pl19 ?pc19 ?pk19 ?pa20 ?pl20 ?pc20 ?pk20 ?pa21 ?pl21 ?pc21 ?pk21 ?pa22 ?pl22 ?pc22 ?pk22 ?pa23 ?pl23 ?pc23 ?pk23 ?pa24 ?pl24 ?pc24 ?pk24 ?pa25 ?pl25 ?pc25 ?pk25 ?pa26 ?pl26 ?pc26 ?pk26 ?pa27 ?pl27 ?pc27 ?pk27 ?pa28 ?pl28 ?pc28 ?pk28 ?pa29 ?pl29 ?pc29 ?pk29 ?pcg_Entry ?ppg_Entry ?phd_Entry ?ppo_Entry ?psa_Entry ?pmk_Entry ?pin_Entry ?pfn_Entry ?pkc_Entry ?pkf_Entry ?plf_Entry ?pcf_Entry ?plt_Entry ?pdt_Entry ?pna_Entry_number ?pna_Entry_day ?pna_Entry_rank ?pna_Entry_word ?pna_Entry_under ?pna_Entry_sheet ?pna_Entry_base ?pna_Entry_described ?pcg_Results ?ppg_Results ?phd_Results ?ppo_Results ?psa_Results ?pkc_Results ?pmk_Results ?pin_Results ?pfn_Results ?pl_Results_init ?pk_Results_init ?pp_Results_init ?pna_Results_outs ?pna_Results_names ?pna_Results_rights ?pna_Results_holders ?pmf_Results_put ?pmi_Results_put ?pl_Results_put ?pk_Results_put ?pp_Results_put ?pmf_Results_name_of ?pmi_Results_name_of ?pl_Results_name_of ?pk_Results_name_of ?pp_Results_name_of ?pmf_Results_outcome_of ?pmi_Results_outcome_of ?pl_Results_outcome_of ?pk_Results_outcome_of ?pp_Results_outcome_of ?pmf_Results_root_of ?pmi_Results_root_of ?pl_Results_root_of ?pk_Results_root_of ?pp_Results_root_of ?pcg_MOST_LETTERS ?pcr_MOST_LETTERS ?pcg_LAST_DAY ?pcr_LAST_DAY ?pcg_LAST_NUMBER ?pcr_LAST_NUMBER ?pcg_RANKS ?pcl_RANKS ?pcc_RANKS ?pcd_RANKS ?pcv_RANKS ?pcg_ABOVE ?pcl_ABOVE ?pcv_ABOVE ?pcg_NoRank ?pcg_NoNumber ?pcg_NoDay ?pcg_NoWord ?pcg_NoBook ?pcg_NoEntry ?pxl_NoRank ?pxn_NoRank ?pxs_NoRank ?pxi_NoRank ?pxa_NoRank ?pxb_NoRank ?pxt_NoRank ?pxj_NoRank ?pqcs_NoRank ?pqga_NoRank ?pqgt_NoRank ?pqca_NoRank ?pqgg_NoRank ?pqtk_NoRank ?pqmo_NoRank ?pqsb_NoRank ?pxl_NoNumber ?pxn_NoNumber ?pxs_NoNumber ?pxi_NoNumber ?pxa_NoNumber ?pxb_NoNumber ?pxt_NoNumber ?pxj_NoNumber ?pqcs_NoNumber ?pqga_NoNumber ?pqgt_NoNumber ?pqca_NoNumber ?pqgg_NoNumber ?pqtk_NoNumber ?pqmo_NoNumber ?pqsb_NoNumber ?pxl_NoDay ?pxn_NoDay ?pxs_NoDay ?pxi_NoDay ?pxa_NoDay ?pxb_NoDay ?pxt_NoDay ?pxj_NoDay ?pqcs_NoDay ?pqga_NoDay ?pqgt_NoDay ?pqca_NoDay ?pqgg_NoDay ?pqtk_NoDay ?pqmo_NoDay ?pqsb_NoDay ?pxl_NoWord ?pxn_NoWord ?pxs_NoWord ?pxi_NoWord ?pxa_NoWord ?pxb_NoWord ?pxt_NoWord ?pxj_NoWord ?pqcs_NoWord ?pqga_NoWord ?pqgt_NoWord ?pqca_NoWord ?pqgg_NoWord ?pqtk_NoWord ?pqmo_NoWord ?pqsb_NoWord ?pxl_NoBook ?pxn_NoBook ?pxs_NoBook ?pxi_NoBook ?pxa_NoBook ?pxb_NoBook ?pxt_NoBook ?pxj_NoBook ?pqcs_NoBook ?pqga_NoBook ?pqgt_NoBook ?pqca_NoBook ?pqgg_NoBook ?pqtk_NoBook ?pqmo_NoBook ?pqsb_NoBook ?pxl_NoEntry ?pxn_NoEntry ?pxs_NoEntry ?pxi_NoEntry ?pxa_NoEntry ?pxb_NoEntry ?pxt_NoEntry ?pxj_NoEntry ?pqcs_NoEntry ?pqga_NoEntry ?pqgt_NoEntry ?pqca_NoEntry ?pqgg_NoEntry ?pqtk_NoEntry ?pqmo_NoEntry ?pqsb_NoEntry ?pwc_Entry ?pwg_Entry ?pwt_Entry ?pwm_Entry ?pws_Entry ?pwn_Entry_NoneType ?pwn_Entry_int ?pwn_Entry_str ?pwn_Entry_bool ?pwn_Entry_list ?pwn_Entry_tuple ?pwn_Entry_dict ?pz_len ?pz_isinstance ?pz_str ?pz_bool ?pz_all ?pz_range ?pz_int ?pz_list ?pz_min ?pz_max ?pz_dict ?pz_sorted ?pz_tuple
    (case pa0 => k_is)
    (case pl0 => k_is)
    (case pc0 => k_is)
    (case pk0 => k_is)
    (case pa1 => k_is)
    (case pl1 => k_is)
    (case pc1 => k_is)
    (case pk1 => k_is)
    (case pa2 => k_is)
    (case pl2 => k_is)
    (case pc2 => k_is)
    (case pk2 => k_is)
    (case pa3 => k_is)
    (case pl3 => k_is)
    (case pc3 => k_is)
    (case pk3 => k_is)
    (case pa4 => k_is)
    (case pl4 => k_is)
    (case pc4 => k_is)
    (case pk4 => k_is)
    (case pa5 => k_is)
    (case pl5 => k_is)
    (case pc5 => k_is)
    (case pk5 => k_is)
    (case pa6 => k_is)
    (case pl6 => k_is)
    (case pc6 => k_is)
    (case pk6 => k_is)
    (case pa7 => k_is)
    (case pl7 => k_is)
    (case pc7 => k_is)
    (case pk7 => k_is)
    (case pa8 => k_is)
    (case pl8 => k_is)
    (case pc8 => k_is)
    (case pk8 => k_is)
    (case pa9 => k_is)
    (case pl9 => k_is)
    (case pc9 => k_is)
    (case pk9 => k_is)
    (case pa10 => k_is)
    (case pl10 => k_is)
    (case pc10 => k_is)
    (case pk10 => k_is)
    (case pa11 => k_is)
    (case pl11 => k_is)
    (case pc11 => k_is)
    (case pk11 => k_is)
    (case pa12 => k_is)
    (case pl12 => k_is)
    (case pc12 => k_is)
    (case pk12 => k_is)
    (case pa13 => k_is)
    (case pl13 => k_is)
    (case pc13 => k_is)
    (case pk13 => k_is)
    (case pa14 => k_is)
    (case pl14 => k_is)
    (case pc14 => k_is)
    (case pk14 => k_is)
    (case pa15 => k_is)
    (case pl15 => k_is)
    (case pc15 => k_is)
    (case pk15 => k_is)
    (case pa16 => k_is)
    (case pl16 => k_is)
    (case pc16 => k_is)
    (case pk16 => k_is)
    (case pa17 => k_is)
    (case pl17 => k_is)
    (case pc17 => k_is)
    (case pk17 => k_is)
    (case pa18 => k_is)
    (case pl18 => k_is)
    (case pc18 => k_is)
    (case pk18 => k_is)
    (case pa19 => k_is)
    (case pl19 => k_is)
    (case pc19 => k_is)
    (case pk19 => k_is)
    (case pa20 => k_is)
    (case pl20 => k_is)
    (case pc20 => k_is)
    (case pk20 => k_is)
    (case pa21 => k_is)
    (case pl21 => k_is)
    (case pc21 => k_is)
    (case pk21 => k_is)
    (case pa22 => k_is)
    (case pl22 => k_is)
    (case pc22 => k_is)
    (case pk22 => k_is)
    (case pa23 => k_is)
    (case pl23 => k_is)
    (case pc23 => k_is)
    (case pk23 => k_is)
    (case pa24 => k_is)
    (case pl24 => k_is)
    (case pc24 => k_is)
    (case pk24 => k_is)
    (case pa25 => k_is)
    (case pl25 => k_is)
    (case pc25 => k_is)
    (case pk25 => k_is)
    (case pa26 => k_is)
    (case pl26 => k_is)
    (case pc26 => k_is)
    (case pk26 => k_is)
    (case pa27 => k_is)
    (case pl27 => k_is)
    (case pc27 => k_is)
    (case pk27 => k_is)
    (case pa28 => k_is)
    (case pl28 => k_is)
    (case pc28 => k_is)
    (case pk28 => k_is)
    (case pa29 => k_is)
    (case pl29 => k_is)
    (case pc29 => k_is)
    (case pk29 => k_is)
    (case pcg_Entry => k_is)
    (case ppg_Entry => k_is)
    (case phd_Entry => k_is)
    (case ppo_Entry => k_is)
    (case psa_Entry => k_is)
    (case pmk_Entry => k_is)
    (case pin_Entry => k_is)
    (case pfn_Entry => k_is)
    (case pkc_Entry => k_is)
    (case pkf_Entry => k_is)
    (case plf_Entry => k_is)
    (case pcf_Entry => k_is)
    (case plt_Entry => k_is)
    (case pdt_Entry => exact rfl)
    (case pna_Entry_number => k_is)
    (case pna_Entry_day => k_is)
    (case pna_Entry_rank => k_is)
    (case pna_Entry_word => k_is)
    (case pna_Entry_under => k_is)
    (case pna_Entry_sheet => k_is)
    (case pna_Entry_base => k_is)
    (case pna_Entry_described => k_is)
    (case pcg_Results => k_is)
    (case ppg_Results => k_is)
    (case phd_Results => k_is)
    (case ppo_Results => k_is)
    (case psa_Results => k_is)
    (case pkc_Results => k_is)
    (case pmk_Results => k_is)
    (case pin_Results => k_is)
    (case pfn_Results => k_is)
    (case pl_Results_init => k_is)
    (case pk_Results_init => k_is)
    (case pp_Results_init => k_is)
    (case pna_Results_outs => k_is)
    (case pna_Results_names => k_is)
    (case pna_Results_rights => k_is)
    (case pna_Results_holders => k_is)
    (case pmf_Results_put => k_is)
    (case pmi_Results_put => k_is)
    (case pl_Results_put => k_is)
    (case pk_Results_put => k_is)
    (case pp_Results_put => k_is)
    (case pmf_Results_name_of => k_is)
    (case pmi_Results_name_of => k_is)
    (case pl_Results_name_of => k_is)
    (case pk_Results_name_of => k_is)
    (case pp_Results_name_of => k_is)
    (case pmf_Results_outcome_of => k_is)
    (case pmi_Results_outcome_of => k_is)
    (case pl_Results_outcome_of => k_is)
    (case pk_Results_outcome_of => k_is)
    (case pp_Results_outcome_of => k_is)
    (case pmf_Results_root_of => k_is)
    (case pmi_Results_root_of => k_is)
    (case pl_Results_root_of => k_is)
    (case pk_Results_root_of => k_is)
    (case pp_Results_root_of => k_is)
    (case pcg_MOST_LETTERS => k_is)
    (case pcr_MOST_LETTERS => first | exact L2.rel_int | exact L2.rel_str | exact rfl)
    (case pcg_LAST_DAY => k_is)
    (case pcr_LAST_DAY => first | exact L2.rel_int | exact L2.rel_str | exact rfl)
    (case pcg_LAST_NUMBER => k_is)
    (case pcr_LAST_NUMBER => first | exact L2.rel_int | exact L2.rel_str | exact rfl)
    (case pcg_RANKS => k_is)
    (case pcl_RANKS => k_is)
    (case pcc_RANKS => exact rfl)
    (case pcd_RANKS => exact rfl)
    (case pcv_RANKS => exact (.cons ⟨_, rfl⟩ (.cons ⟨_, rfl⟩ (.cons ⟨_, rfl⟩ .nil))))
    (case pcg_ABOVE => k_is)
    (case pcl_ABOVE => k_is)
    (case pcv_ABOVE => exact (.cons ⟨rfl, ⟨_, rfl⟩, rfl⟩ (.cons ⟨rfl, ⟨_, rfl⟩, ⟨_, rfl⟩⟩ (.cons ⟨rfl, ⟨_, rfl⟩, ⟨_, rfl⟩⟩ .nil))))
    (case pcg_NoRank => k_is)
    (case pcg_NoNumber => k_is)
    (case pcg_NoDay => k_is)
    (case pcg_NoWord => k_is)
    (case pcg_NoBook => k_is)
    (case pcg_NoEntry => k_is)
    (case pxl_NoRank => k_is)
    (case pxn_NoRank => k_is)
    (case pxs_NoRank => kernel_rfl)
    (case pxi_NoRank => kernel_rfl)
    (case pxa_NoRank => k_is)
    (case pxb_NoRank => k_is)
    (case pxt_NoRank => kernel_rfl)
    (case pxj_NoRank => kernel_rfl)
    (case pqcs_NoRank => kernel_rfl)
    (case pqga_NoRank => k_is)
    (case pqgt_NoRank => k_is)
    (case pqca_NoRank => k_is)
    (case pqgg_NoRank => k_is)
    (case pqtk_NoRank => k_is)
    (case pqmo_NoRank => k_is)
    (case pqsb_NoRank => k_is)
    (case pxl_NoNumber => k_is)
    (case pxn_NoNumber => k_is)
    (case pxs_NoNumber => kernel_rfl)
    (case pxi_NoNumber => kernel_rfl)
    (case pxa_NoNumber => k_is)
    (case pxb_NoNumber => k_is)
    (case pxt_NoNumber => kernel_rfl)
    (case pxj_NoNumber => kernel_rfl)
    (case pqcs_NoNumber => kernel_rfl)
    (case pqga_NoNumber => k_is)
    (case pqgt_NoNumber => k_is)
    (case pqca_NoNumber => k_is)
    (case pqgg_NoNumber => k_is)
    (case pqtk_NoNumber => k_is)
    (case pqmo_NoNumber => k_is)
    (case pqsb_NoNumber => k_is)
    (case pxl_NoDay => k_is)
    (case pxn_NoDay => k_is)
    (case pxs_NoDay => kernel_rfl)
    (case pxi_NoDay => kernel_rfl)
    (case pxa_NoDay => k_is)
    (case pxb_NoDay => k_is)
    (case pxt_NoDay => kernel_rfl)
    (case pxj_NoDay => kernel_rfl)
    (case pqcs_NoDay => kernel_rfl)
    (case pqga_NoDay => k_is)
    (case pqgt_NoDay => k_is)
    (case pqca_NoDay => k_is)
    (case pqgg_NoDay => k_is)
    (case pqtk_NoDay => k_is)
    (case pqmo_NoDay => k_is)
    (case pqsb_NoDay => k_is)
    (case pxl_NoWord => k_is)
    (case pxn_NoWord => k_is)
    (case pxs_NoWord => kernel_rfl)
    (case pxi_NoWord => kernel_rfl)
    (case pxa_NoWord => k_is)
    (case pxb_NoWord => k_is)
    (case pxt_NoWord => kernel_rfl)
    (case pxj_NoWord => kernel_rfl)
    (case pqcs_NoWord => kernel_rfl)
    (case pqga_NoWord => k_is)
    (case pqgt_NoWord => k_is)
    (case pqca_NoWord => k_is)
    (case pqgg_NoWord => k_is)
    (case pqtk_NoWord => k_is)
    (case pqmo_NoWord => k_is)
    (case pqsb_NoWord => k_is)
    (case pxl_NoBook => k_is)
    (case pxn_NoBook => k_is)
    (case pxs_NoBook => kernel_rfl)
    (case pxi_NoBook => kernel_rfl)
    (case pxa_NoBook => k_is)
    (case pxb_NoBook => k_is)
    (case pxt_NoBook => kernel_rfl)
    (case pxj_NoBook => kernel_rfl)
    (case pqcs_NoBook => kernel_rfl)
    (case pqga_NoBook => k_is)
    (case pqgt_NoBook => k_is)
    (case pqca_NoBook => k_is)
    (case pqgg_NoBook => k_is)
    (case pqtk_NoBook => k_is)
    (case pqmo_NoBook => k_is)
    (case pqsb_NoBook => k_is)
    (case pxl_NoEntry => k_is)
    (case pxn_NoEntry => k_is)
    (case pxs_NoEntry => kernel_rfl)
    (case pxi_NoEntry => kernel_rfl)
    (case pxa_NoEntry => k_is)
    (case pxb_NoEntry => k_is)
    (case pxt_NoEntry => kernel_rfl)
    (case pxj_NoEntry => kernel_rfl)
    (case pqcs_NoEntry => kernel_rfl)
    (case pqga_NoEntry => k_is)
    (case pqgt_NoEntry => k_is)
    (case pqca_NoEntry => k_is)
    (case pqgg_NoEntry => k_is)
    (case pqtk_NoEntry => k_is)
    (case pqmo_NoEntry => k_is)
    (case pqsb_NoEntry => k_is)
    (case pwc_Entry => k_is)
    (case pwg_Entry => k_is)
    (case pwt_Entry => k_is)
    (case pwm_Entry => k_is)
    (case pws_Entry => kernel_rfl)
    (case pwn_Entry_NoneType => kernel_rfl)
    (case pwn_Entry_int => kernel_rfl)
    (case pwn_Entry_str => kernel_rfl)
    (case pwn_Entry_bool => kernel_rfl)
    (case pwn_Entry_list => kernel_rfl)
    (case pwn_Entry_tuple => kernel_rfl)
    (case pwn_Entry_dict => kernel_rfl)
    (case pz_len => k_is)
    (case pz_isinstance => k_is)
    (case pz_str => k_is)
    (case pz_bool => k_is)
    (case pz_all => k_is)
    (case pz_range => k_is)
    (case pz_int => k_is)
    (case pz_list => k_is)
    (case pz_min => k_is)
    (case pz_max => k_is)
    (case pz_dict => k_is)
    (case pz_sorted => k_is)
    (case pz_tuple => k_is)
  case S => exact fun K H a ns hl hO hS => ⟨a, ns, rfl, hS, hl, fun _ => rfl⟩
  case C => exact fun _ _ _ _ z => z
#print axioms PySem.Challenge.cw_rightname_k18_whole_unlike_names_holds
