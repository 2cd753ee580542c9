import PyProof.Rows.All
import Wide.All
import OpenK.AllK
import Wide.FinOn
import Lean
import PyProof.EqAt
import PyProof.EqKinds
import PyProof.TupleCall
import PySem.Challenge.RW_rightname_k73_sheets_laid
set_option Elab.async false
set_option linter.all false
set_option maxRecDepth 100000
namespace L2
open PySem PySem.Spec PyProof.Rows
abbrev Key := Sum Int Str
def keyIs : Key → Value → Bool
  | .inl k, v => Value.isInt k v
  | .inr x, v => Value.isStrOf x v
def keyH (w : World) : Key → Int
  | .inl k => hashInt k
  | .inr x => hashStr w x
theorem keyIs_shape : ∀ {k : Key} {v : Value}, keyIs k v = true → (∃ i t, k = Sum.inl i ∧ v = Value.int i t) ∨ (∃ x t, k = Sum.inr x ∧ v = Value.str x t)
  | .inl i, v, h => by
    obtain ⟨t, e⟩ := Value.isInt_shape (k := i) (v := v) h
    exact .inl ⟨i, t, rfl, e⟩
  | .inr x, v, h => by
    obtain ⟨t, e⟩ := Value.isStrOf_shape (x := x) (v := v) h
    exact .inr ⟨x, t, rfl, e⟩
theorem keyIs_int (i : Int) (t : Tok) : keyIs (.inl i) (.int i t) = true := by simp [keyIs, Value.isInt]
theorem keyIs_str (x : Str) (t : Tok) : keyIs (.inr x) (.str x t) = true := by simp [keyIs, Value.isStrOf]
theorem key_ll (a b : Int) : decide ((Sum.inl a : Key) = Sum.inl b) = (a == b) := by
  by_cases e : a = b
  · subst e; simp
  · have h : ¬ (Sum.inl a : Key) = Sum.inl b := fun q => e (Sum.inl.inj q)
    rw [decide_eq_false h]
    exact (beq_eq_false_iff_ne.mpr e).symm
theorem key_rr (a b : Str) : decide ((Sum.inr a : Key) = Sum.inr b) = decide (a = b) := by
  by_cases e : a = b
  · subst e; simp
  · have h : ¬ (Sum.inr a : Key) = Sum.inr b := fun q => e (Sum.inr.inj q)
    rw [decide_eq_false h, decide_eq_false e]
theorem key_lr (a : Int) (b : Str) : decide ((Sum.inl a : Key) = Sum.inr b) = false := decide_eq_false (fun q => nomatch q)
theorem key_rl (a : Str) (b : Int) : decide ((Sum.inr a : Key) = Sum.inl b) = false := decide_eq_false (fun q => nomatch q)
def mixKind (prog : Program) (w : World) : PySem.KeyKind prog w Key where
  is := keyIs
  hash := keyH w
  inj := fun v a b ha hb => by
    rcases keyIs_shape ha with ⟨i, t, rfl, rfl⟩ | ⟨x, t, rfl, rfl⟩
    · rcases keyIs_shape hb with ⟨j, u, rfl, e⟩ | ⟨y, u, rfl, e⟩
      · injection e with e1 _; rw [e1]
      · exact nomatch e
    · rcases keyIs_shape hb with ⟨j, u, rfl, e⟩ | ⟨y, u, rfl, e⟩
      · exact nomatch e
      · injection e with e1 _; rw [e1]
  byValue := fun k v h => by
    rcases keyIs_shape h with ⟨i, t, rfl, rfl⟩ | ⟨x, t, rfl, rfl⟩ <;> rfl
  pyHash := fun hv h => by
    rcases keyIs_shape hv with ⟨i, t, rfl, rfl⟩ | ⟨x, t, rfl, rfl⟩
    · exact wpAny_pyHash_int h
    · exact wpAny_pyHash_str h
  eqBool := fun hu hv h => by
    rcases keyIs_shape hu with ⟨i, t, rfl, rfl⟩ | ⟨x, t, rfl, rfl⟩
    · rcases keyIs_shape hv with ⟨j, u, rfl, rfl⟩ | ⟨y, u, rfl, rfl⟩
      · rw [key_ll] at h; exact wpAny_eqBool_int h
      · rw [key_lr] at h; exact SeqAt.EqAt.int_str i t y u _ _ _ _ h
    · rcases keyIs_shape hv with ⟨j, u, rfl, rfl⟩ | ⟨y, u, rfl, rfl⟩
      · rw [key_rl] at h; exact SeqAt.EqAt.str_int x t j u _ _ _ _ h
      · rw [key_rr] at h; exact wpAny_eqBool_str h
  «strs» := fun k x t v h => by
    rcases keyIs_shape h with ⟨i, u, rfl, e⟩ | ⟨y, u, rfl, e⟩
    · exact nomatch e
    · injection e with e1 _
      subst e1
      cases v <;> rfl
theorem mixKind_int (prog : Program) (w : World) (i : Int) (t : Tok) : (mixKind prog w).is (.inl i) (.int i t) = true := keyIs_int i t
theorem mixKind_str (prog : Program) (w : World) (x : Str) (t : Tok) : (mixKind prog w).is (.inr x) (.str x t) = true := keyIs_str x t
end L2
namespace L2
open PySem PySem.Spec PyProof.Rows
inductive V where
  | non | bl (b : Bool) | int (i : Int) | str (x : Str) | byt (b : Array UInt8) | flt (b : UInt64) | ref (a : Addr) | ty (n : String)
  deriving DecidableEq
def RelV : V → Value → Prop
  | .non, u => u = Value.none
  | .bl b, u => u = Value.bool b
  | .int i, u => ∃ t, u = Value.int i t
  | .str x, u => ∃ t, u = Value.str x t
  | .byt b, u => ∃ t, u = Value.bytes b t
  | .flt b, u => ∃ t, u = Value.float b t
  | .ref a, u => u = Value.ref a
  | .ty n, u => u = Value.type n
abbrev Vals : List V → List Value → Prop := Paired RelV
theorem Vals.length {xs : List V} {us : List Value} (r : Vals xs us) : xs.length = us.length := Paired.length r
theorem Vals.get : ∀ {xs : List V} {us : List Value} {i : Nat} {x : V}, Vals xs us → xs[i]? = some x → ∃ u, us[i]? = some u ∧ RelV x u
  | _, _, _, _, .nil, e => by simp at e
  | _, _, 0, _, .cons r _, e => by simp at e; subst e; exact ⟨_, rfl, r⟩
  | _, _, i + 1, x, .cons _ t, e => by
    obtain ⟨u, h1, h2⟩ := Vals.get (i := i) (x := x) t (by simpa using e)
    exact ⟨u, by simpa using h1, h2⟩
theorem Vals.set {x : V} {u : Value} (r : RelV x u) : ∀ {xs : List V} {us : List Value} (i : Nat), Vals xs us → Vals (xs.set i x) (us.set i u)
  | _, _, _, .nil => .nil
  | _, _, 0, .cons _ t => .cons r t
  | _, _, i + 1, .cons q t => .cons q (Vals.set r i t)
theorem Vals.append : ∀ {xs ys : List V} {us ws : List Value}, Vals xs us → Vals ys ws → Vals (xs ++ ys) (us ++ ws)
  | _, _, _, _, .nil, s => s
  | _, _, _, _, .cons r t, s => .cons r (Vals.append t s)
theorem Vals.take : ∀ {xs : List V} {us : List Value} (n : Nat), Vals xs us → Vals (xs.take n) (us.take n)
  | _, _, 0, _ => .nil
  | _, _, _ + 1, .nil => .nil
  | _, _, n + 1, .cons r t => .cons r (Vals.take n t)
theorem Vals.drop : ∀ {xs : List V} {us : List Value} (n : Nat), Vals xs us → Vals (xs.drop n) (us.drop n)
  | _, _, 0, r => r
  | _, _, _ + 1, .nil => .nil
  | _, _, n + 1, .cons _ t => Vals.drop n t
theorem Vals.none_of : ∀ {xs : List V} {us : List Value} {i : Nat}, Vals xs us → xs[i]? = none → us[i]? = none := fun {xs us i} r e => by
  have h1 := r.length
  have h2 : xs.length ≤ i := List.getElem?_eq_none_iff.mp e
  exact List.getElem?_eq_none_iff.mpr (by omega)
def RelO : Option V → Option Value → Prop
  | some v, some u => RelV v u
  | none, none => True
  | _, _ => False
def KV {κ : Type} : List (κ × V) → List (κ × Value) → Prop := Paired fun (p : κ × V) (q : κ × Value) => p.1 = q.1 ∧ RelV p.2 q.2
def kV : Key → V
  | .inl i => .int i
  | .inr x => .str x
inductive HO where
    | lst (xs : List V)
    | tup (xs : List V)
    | dK (kvs : List (Key × V)) | dT (kvs : List (List Key × V))
    | set (S : Int → Bool) (n : Nat)
    | ins (C dx : Addr) (fs : List (Str × V))
    | own (x : Addr)
    | xd (fs : List (Str × V))
    | met (f x : Addr)
    | rng (lo hi : Int)
    | frz (o : Obj) (u : HO)
    | tbl (ps : Array Value)
    | ext (φ : Heap → Prop)
abbrev Hp := Addr → Option HO
def upd (H : Hp) (a : Addr) (o : HO) : Hp := fun b => if b = a then some o else H b
theorem upd_same {H : Hp} {a : Addr} {o : HO} : upd H a o a = some o := by unfold upd; rw [if_pos rfl]
theorem upd_ne {H : Hp} {a b : Addr} {o : HO} (h : b ≠ a) : upd H a o b = H b := by unfold upd; rw [if_neg h]
theorem upd_upd {H : Hp} {a : Addr} {o u : HO} : upd (upd H a o) a u = upd H a u := by
  funext b; unfold upd; split <;> rfl
theorem ne_of {H : Hp} {a b : Addr} {o u : HO} (h : H a = some o) (h' : H b = some u) (d : o ≠ u) : a ≠ b := by
  intro e; subst e; rw [h] at h'; exact d (Option.some.inj h')
theorem ne_of_none {H : Hp} {a b : Addr} {o : HO} (h : H a = some o) (h' : H b = none) : a ≠ b := by
  intro e; subst e; rw [h] at h'; cases h'
section
variable (P : Program) (w : World)
def ObjOk (H : Hp) (h : Heap) (a : Addr) : HO → Prop
  | .lst xs => xs.length ≤ sizeLine ∧ ∃ (its : List Value) (n : Nat), Vals xs its ∧ h.get? a = some { cls := .type "list", data := .seq its.toArray n }
  | .tup xs => xs.length ≤ sizeLine ∧ ∃ its : List Value, Vals xs its ∧ IsTup h a its.toArray
  | .dK kvs => kvs.length ≤ sizeLine ∧ (a == sysModules) = false ∧ ∃ vs, KV kvs vs ∧ h.DictOf (mixKind P w) a vs
  | .dT kvs => kvs.length ≤ sizeLine ∧ (a == sysModules) = false ∧ ∃ xs : List (List Key × Addr × Value),
      Paired (fun (p : List Key × V) (q : List Key × Addr × Value) => p.1 = q.1 ∧ H q.2.1 = some (.tup (p.1.map kV)) ∧ RelV p.2 q.2.2) kvs xs ∧
      ∃ o es ep, h.get? a = some o ∧ o.ExactDict ∧ o.data = .dict es ep ∧ es.toList = xs.map (entryOfKey (tupleKind (mixKind P w))) ∧ (xs.map (·.1)).Nodup
  | .set S n => h.SetOf (intKind P w) a S n
  | .ins C dx fs => H dx = some (.own a) ∧ fs.length ≤ 1000 ∧ dx ≠ a ∧ h.get? a = some (PySem.W.instObj C dx) ∧
      ∃ mA, h.Ns1 dx mA ∧ (∀ f, RelO (fs.lookup f) (mA f)) ∧ PySem.Within mA (fs.map (·.1))
  | .own _ => ∃ o, h.get? a = some o
  | .xd fs => ∃ mA, h.Ns1 a mA ∧ ∀ f, RelO (fs.lookup f) (mA f)
  | .rng lo hi => ∃ t u v, h.get? a = some { cls := .type "range", data := .fields #[.int lo t, .int hi u, .int 1 v] }
  | .frz o u => h.get? a = some o ∧ ObjOk H h a u
  | .tbl ps => h.get? a = some { cls := .none, data := .fields ps }
  | .met f x => h.get? a = some (PySem.W.methodObj (.ref f) (.ref x))
  | .ext φ => φ h ∧ (∃ o, h.get? a = some o) ∧ ∀ h1 h2 : Heap, φ h1 → (∀ o, h1.get? a = some o → h2.get? a = some o) → φ h2
def HOk (H : Hp) (h : Heap) : Prop := ∀ a o, H a = some o → ObjOk P w H h a o
end
section
variable {P : Program} {w : World} {H H' : Hp} {h h' : Heap} {a : Addr} {o : HO}
theorem ObjOk.lt (x : ObjOk P w H h a o) : a < h.objs.size := by
  cases o with
  | lst xs => obtain ⟨_, _, _, _, e⟩ := x; exact Heap.lt_size e
  | tup xs => obtain ⟨_, _, _, p⟩ := x; exact p.lt
  | dK kvs => obtain ⟨_, _, _, _, o, _, _, e, _⟩ := x; exact Heap.lt_size e
  | dT kvs => obtain ⟨_, _, _, _, o, _, _, e, _⟩ := x; exact Heap.lt_size e
  | set S n => obtain ⟨o, _, _, _, e, _⟩ := x; exact Heap.lt_size e
  | ins C dx fs => obtain ⟨_, _, _, e, _⟩ := x; exact Heap.lt_size e
  | own y => obtain ⟨_, e⟩ := x; exact Heap.lt_size e
  | xd fs => obtain ⟨_, ⟨_, _, _, e, _⟩, _⟩ := x; exact Heap.lt_size e
  | rng lo hi => obtain ⟨_, _, _, e⟩ := x; exact Heap.lt_size e
  | frz ob u => obtain ⟨e, _⟩ := x; exact Heap.lt_size e
  | tbl ps => exact Heap.lt_size (show h.get? a = some _ from x)
  | met f y => exact Heap.lt_size (show h.get? a = some _ from x)
  | ext φ => obtain ⟨_, ⟨_, e⟩, _⟩ := x; exact Heap.lt_size e
theorem Paired.mapP {α β : Type} {F G : α → β → Prop} : ∀ {l₁ : List α} {l₂ : List β}, Paired F l₁ l₂ → (∀ a b, F a b → G a b) → Paired G l₁ l₂
  | _, _, .nil, _ => .nil
  | _, _, .cons r t, f => .cons (f _ _ r) (Paired.mapP t f)
theorem ObjOk.stay (x : ObjOk P w H h a o) (k : ∀ b u, (b = a ∨ H b = some (.own a)) → h.get? b = some u → h'.get? b = some u)
    (ho : ∀ b, H b = some (.own a) → H' b = some (.own a)) (ht : ∀ b xs, H b = some (.tup xs) → H' b = some (.tup xs)) : ObjOk P w H' h' a o := by
  induction o with
  | lst xs => obtain ⟨z, its, n, r, e⟩ := x; exact ⟨z, its, n, r, k _ _ (.inl rfl) e⟩
  | tup xs => obtain ⟨z, its, r, ob, e, c⟩ := x; exact ⟨z, its, r, ob, k _ _ (.inl rfl) e, c⟩
  | dK kvs => obtain ⟨z, y, vs, r, ob, es, ep, e, c⟩ := x; exact ⟨z, y, vs, r, ob, es, ep, k _ _ (.inl rfl) e, c⟩
  | dT kvs =>
    obtain ⟨z, y, xs, r, ob, es, ep, e, c⟩ := x
    exact ⟨z, y, xs, Paired.mapP r fun p q z => ⟨z.1, ht _ _ z.2.1, z.2.2⟩, ob, es, ep, k _ _ (.inl rfl) e, c⟩
  | set S n => obtain ⟨ob, es, ep, t, e, c⟩ := x; exact ⟨ob, es, ep, t, k _ _ (.inl rfl) e, c⟩
  | ins C dx fs =>
    obtain ⟨d, z, ne, e, mA, ⟨od, es, ep, e2, c⟩, r⟩ := x
    exact ⟨ho _ d, z, ne, k _ _ (.inl rfl) e, mA, ⟨od, es, ep, k _ _ (.inr d) e2, c⟩, r⟩
  | own y => obtain ⟨ob, e⟩ := x; exact ⟨ob, k _ _ (.inl rfl) e⟩
  | xd fs => obtain ⟨mA, ⟨od, es, ep, e, c⟩, r⟩ := x; exact ⟨mA, ⟨od, es, ep, k _ _ (.inl rfl) e, c⟩, r⟩
  | rng lo hi => obtain ⟨t, u, v, e⟩ := x; exact ⟨t, u, v, k _ _ (.inl rfl) e⟩
  | frz ob u ih => obtain ⟨e, q⟩ := x; exact ⟨k _ _ (.inl rfl) e, ih q⟩
  | tbl ps =>
    have e : h.get? a = some { cls := .none, data := .fields ps } := x
    show h'.get? a = some { cls := .none, data := .fields ps }
    exact k a _ (.inl rfl) e
  | met f y =>
    have e : h.get? a = some (PySem.W.methodObj (.ref f) (.ref y)) := x
    show h'.get? a = some (PySem.W.methodObj (.ref f) (.ref y))
    exact k a _ (.inl rfl) e
  | ext φ => obtain ⟨p, ⟨o, e⟩, st⟩ := x; exact ⟨st _ _ p fun o q => k _ _ (.inl rfl) q, ⟨o, k _ _ (.inl rfl) e⟩, st⟩
theorem HOk.lt (x : HOk P w H h) (e : H a = some o) : a < h.objs.size := (x a o e).lt
theorem HOk.fresh (x : HOk P w H h) (e : h.objs.size ≤ a) : H a = none := by
  cases q : H a with
  | none => rfl
  | some u => exact absurd (Nat.lt_of_lt_of_le (x.lt q) e) (Nat.lt_irrefl _)
theorem HOk.kept (x : HOk P w H h) (k : ∀ b u, h.get? b = some u → h'.get? b = some u) : HOk P w H h' := fun a o e =>
  (x a o e).stay (fun b u _ q => k b u q) (fun _ q => q) fun _ _ q => q
theorem HOk.laid (x : HOk P w H h) (k : ∀ b u, h.get? b = some u → h'.get? b = some u) (hp : h.objs.size ≤ a) (new : ObjOk P w (upd H a o) h' a o) : HOk P w (upd H a o) h' := fun b u e => by
  have hn := x.fresh hp
  by_cases hb : b = a
  · subst hb; rw [upd_same] at e; cases e; exact new
  · rw [upd_ne hb] at e
    exact (x b u e).stay (fun c v _ q => k c v q) (fun c q => by rw [upd_ne (ne_of_none q hn)]; exact q) fun c xs q => by rw [upd_ne (ne_of_none q hn)]; exact q
end
def Rd (H : Hp) (a : Addr) (u : HO) : Prop := H a = some u ∨ ∃ o, H a = some (.frz o u)
theorem Rd.of {H : Hp} {a : Addr} {u : HO} (h : H a = some u) : Rd H a u := .inl h
theorem Rd.ok {P : Program} {w : World} {H : Hp} {h : Heap} {a : Addr} {u : HO} (r : Rd H a u) (x : HOk P w H h) : ObjOk P w H h a u := by
  rcases r with r | ⟨o, r⟩
  · exact x a u r
  · obtain ⟨_, q⟩ := x a _ r
    exact q
def Mut : Option HO → Prop
  | some (.lst _) => True
  | some (.dK _) => True
  | some (.dT _) => True
  | some (.set _ _) => True
  | some (.ins _ _ _) => True
  | some (.ext _) => True
  | _ => False
section
variable {P : Program} {w : World} {H : Hp} {h h' : Heap} {x e : Addr} {o' : HO}
theorem HOk.write (ok : HOk P w H h) (mu : Mut (H x)) (he : e = x ∨ H e = some (.own x)) (k : ∀ b u, b ≠ e → h.get? b = some u → h'.get? b = some u) (heo : ∃ u, h'.get? e = some u)
    (new : ObjOk P w (upd H x o') h' x o') : HOk P w (upd H x o') h' := fun b u q => by
  have nown : ∀ c y, H c = some (.own y) → c ≠ x := fun c y r z => by subst z; rw [r] at mu; exact mu
  have ntup : ∀ c xs, H c = some (.tup xs) → c ≠ x := fun c xs r z => by subst z; rw [r] at mu; exact mu
  by_cases hb : b = x
  · subst hb; rw [upd_same] at q; cases q; exact new
  · rw [upd_ne hb] at q
    by_cases hbe : b = e
    · have q' : H b = some (.own x) := by
        rcases he with z | z
        · exact absurd (hbe.trans z) hb
        · rw [hbe]; exact z
      rw [q] at q'; cases q'
      obtain ⟨v, hv⟩ := heo
      exact ⟨v, by rw [hbe]; exact hv⟩
    · refine (ok b u q).stay (fun c v hc r => k c v ?_ r) (fun c r => by rw [upd_ne (nown c b r)]; exact r) fun c xs r => by rw [upd_ne (ntup c xs r)]; exact r
      rcases hc with rfl | hc
      · exact hbe
      · rintro rfl
        rcases he with z | z
        · exact nown c b hc z
        · rw [hc] at z; cases z; exact hb rfl
end
structure Un (fs ex : List Addr) (H H' : Hp) (h h' : Heap) : Prop where
  keep : ∀ b o, h.get? b = some o → H b = none → b ∉ fs → b ∉ ex → h'.get? b = some o
  slot : ∀ b o, h.get? b = some o → H b = none → b ∈ fs → b ∉ ex → ∃ sl, h'.get? b = some { o with slots := sl }
  free : ∀ b o, h.get? b = some o → H b = none → b ∉ ex → H' b = none
  there : ∀ b o, h.get? b = some o → b ∉ ex → ∃ o', h'.get? b = some o'
  tups : ∀ b xs, H b = some (.tup xs) → H' b = some (.tup xs)
  frzs : ∀ b o u, H b = some (.frz o u) → H' b = some (.frz o u)
  tbls : ∀ b ps, H b = some (.tbl ps) → ∃ more, H' b = some (.tbl (ps ++ more))
section
variable {fs fs' ex ex' : List Addr} {H H1 H2 : Hp} {h h1 h2 h' : Heap} {a x e : Addr} {o : HO}
theorem Un.any (u : Un fs ex H H1 h h1) {b : Addr} {ob : Obj} (q : h.get? b = some ob) (n : H b = none) (hx : b ∉ ex) : ∃ sl, h1.get? b = some { ob with slots := sl } := by
  by_cases hb : b ∈ fs
  · exact u.slot b ob q n hb hx
  · exact ⟨ob.slots, u.keep b ob q n hb hx⟩
theorem Un.trans (a : Un fs ex H H1 h h1) (b : Un fs ex H1 H2 h1 h2) : Un fs ex H H2 h h2 where
  keep := fun c ob q n hc hx => b.keep c ob (a.keep c ob q n hc hx) (a.free c ob q n hx) hc hx
  slot := fun c ob q n hc hx => by
    obtain ⟨sl, e1⟩ := a.slot c ob q n hc hx
    obtain ⟨sl', e2⟩ := b.slot c _ e1 (a.free c ob q n hx) hc hx
    exact ⟨sl', e2⟩
  free := fun c ob q n hx => by
    obtain ⟨o', e1⟩ := a.there c ob q hx
    exact b.free c o' e1 (a.free c ob q n hx) hx
  there := fun c ob q hx => by
    obtain ⟨o', e1⟩ := a.there c ob q hx
    exact b.there c o' e1 hx
  tups := fun c xs q => b.tups c xs (a.tups c xs q)
  frzs := fun c ob xs q => b.frzs c ob xs (a.frzs c ob xs q)
  tbls := fun c ps q => by
    obtain ⟨m1, e1⟩ := a.tbls c ps q
    obtain ⟨m2, e2⟩ := b.tbls c _ e1
    exact ⟨m1 ++ m2, by rw [e2, Array.append_assoc]⟩
theorem Un.kept (k : ∀ b u, h.get? b = some u → h'.get? b = some u) : Un fs ex H H h h' :=
  ⟨fun b ob q _ _ _ => k b ob q, fun b ob q _ _ _ => ⟨ob.slots, k b ob q⟩, fun _ _ _ n _ => n, fun b ob q _ => ⟨ob, k b ob q⟩, fun _ _ q => q, fun _ _ _ q => q, fun _ ps q => ⟨#[], by rw [q]; simp⟩⟩
theorem Un.refl : Un fs ex H H h h := Un.kept fun _ _ q => q
theorem Un.laid (k : ∀ b u, h.get? b = some u → h'.get? b = some u) (hp : h.objs.size ≤ a) (hn : H a = none) : Un fs ex H (upd H a o) h h' where
  keep := fun b u q _ _ _ => k b u q
  slot := fun b u q _ _ _ => ⟨u.slots, k b u q⟩
  free := fun b u q n _ => by rw [upd_ne (Nat.ne_of_lt (Nat.lt_of_lt_of_le (Heap.lt_size q) hp))]; exact n
  there := fun b u q _ => ⟨u, k b u q⟩
  tups := fun b xs q => by rw [upd_ne (ne_of_none q hn)]; exact q
  frzs := fun b u xs q => by rw [upd_ne (ne_of_none q hn)]; exact q
  tbls := fun b ps q => ⟨#[], by rw [upd_ne (ne_of_none q hn), q]; simp⟩
theorem Un.write (mu : Mut (H x)) (he : e = x ∨ H e = some (.own x)) (k : ∀ b u, b ≠ e → h.get? b = some u → h'.get? b = some u) (heo : ∃ u, h'.get? e = some u) : Un fs ex H (upd H x o) h h' := by
  have hx : ∀ b, H b = none → b ≠ x := fun b n z => by subst z; rw [n] at mu; exact mu
  have hb : ∀ b, H b = none → b ≠ e := fun b n z => by
    subst z
    rcases he with r | r
    · exact hx b n r
    · rw [n] at r; cases r
  have hm : ∀ b u, H b = some u → ¬ Mut (some u) → b ≠ x := fun b u q nm z => by subst z; rw [q] at mu; exact nm mu
  refine ⟨fun b u q n _ _ => k b u (hb b n) q, fun b u q n _ _ => ⟨u.slots, k b u (hb b n) q⟩, fun b u q n _ => by rw [upd_ne (hx b n)]; exact n, fun b u q _ => ?_,
    fun b xs q => by rw [upd_ne (hm b _ q fun z => z)]; exact q, fun b u xs q => by rw [upd_ne (hm b _ q fun z => z)]; exact q, fun b ps q => ⟨#[], by rw [upd_ne (hm b _ q fun z => z), q]; simp⟩⟩
  by_cases hbe : b = e
  · subst hbe; exact heo
  · exact ⟨u, k b u hbe q⟩
theorem Un.mono (u : Un fs ex H H1 h h1) (hs : ∀ b ∈ fs, b ∈ fs') (hx : ∀ b ∈ ex, b ∈ ex') : Un fs' ex' H H1 h h1 :=
  ⟨fun b ob q n hb he => u.keep b ob q n (fun z => hb (hs b z)) fun z => he (hx b z), fun _ _ q n _ he => u.any q n fun z => he (hx _ z), fun b ob q n he => u.free b ob q n fun z => he (hx b z), fun b ob q he => u.there b ob q fun z => he (hx b z), u.tups, u.frzs, u.tbls⟩
end
def trk (h : Heap) (H : Hp) : List Addr := (List.range h.objs.size).filter fun a => (H a).isSome
def hidT (h : Heap) (H : Hp) : Heap := PySem.W.hideAll h (trk h H)
theorem hidT_size (h : Heap) (H : Hp) : (hidT h H).objs.size = h.objs.size := PySem.W.hideAll_size _ _
theorem hidT_get {h : Heap} {H : Hp} {b : Addr} {o : Obj} (e : h.get? b = some o) (n : H b = none) : (hidT h H).get? b = some o :=
  PySem.W.hideAll_get _ e fun hm => by
    have q : (H b).isSome = true := (List.mem_filter.mp hm).2
    rw [n] at q; simp at q
theorem of_hidT {h : Heap} {H : Hp} {b : Addr} {o : Obj} (e : (hidT h H).get? b = some o) : h.get? b = some o ∧ H b = none := by
  have e' : h.get? b = some o := PySem.W.of_hideAll (trk h H) e
  refine ⟨e', ?_⟩
  cases q : H b with
  | none => rfl
  | some x =>
    have hm : b ∈ trk h H := List.mem_filter.mpr ⟨List.mem_range.mpr (Heap.lt_size e'), by simp [q]⟩
    have z : (hidT h H).get? b = none := PySem.W.hideAll_none (trk h H) hm
    rw [z] at e; cases e
def allNews (g h : Heap) (L : Addr) : List (Addr × Obj) := (List.range h.objs.size).filterMap fun a => if a = L ∨ (g.get? a).isSome = true then none else (h.get? a).map fun o => (a, o)
def rest (g h : Heap) (L d : Addr) : List (Addr × Obj) := (allNews g h L).filter fun p => decide (p.1 ≠ d)
end L2
namespace L2
open PySem PySem.Spec PyProof.Rows
structure Mod (K : PySem.W.Frag) (mg : Str → Option Value) (base : Heap) : Prop where
  kin : K.In base
  glob : base.Ns mainGlobals mg
  blt : ∃ mb, base.Ns builtinsNs mb ∧ ∀ x : Str, x ≠ "__name__" → mb x = bootBuiltins x
  nolimit : base.NoLimit
/- the context: a def's body (or a comprehension's block) running. base: fixed through the whole law; s₀, H₀: the entry; outer: the frames whose slots others may change (a def's callers); stack: all frames that run;
   ex: iterators that were made ahead of the entry and are walked here (a comprehension's); fn: the names whose cells were made at the entry (a def: all; a comprehension's block: its own); calm: not within an except suite; pn: pins that every state bears; xe: what is wanted of an exception that leaves the code -/
set_option genInjectivity false in
set_option genSizeOfSpec false in
set_option genSizeOf false in
structure Cx where
  prog : Program
  w : World
  K : PySem.W.Frag
  mg : Str → Option Value
  base : Heap
  A : Around
  N : List Str
  s₀ : Shared
  H₀ : Hp
  env : Env
  outer : List Env
  stack : List Env
  ex : List Addr
  fn : Str → Bool
  calm : Bool
  pn : List (Addr × Obj)
  xe : Value → Shared → Prop
def frs (l : List Env) : List Addr := l.filterMap (·.frame)
abbrev Cx.fs (X : Cx) : List Addr := frs X.outer
def Vis (sc : Scope) (x : Str) : Prop := sc.names.lookup x = some .local ∨ sc.names.lookup x = some .cell ∨ sc.names.lookup x = some .free
def Loc (sc : Scope) (x : Str) : Prop := sc.names.lookup x = some .local ∨ sc.names.lookup x = some .cell
def Look (env : Env) (h : Heap) (m : Str → Option Value) (x : Str) (u : Value) : Prop :=
  (env.kindOf x = some .local ∧ m x = some u) ∨ ((env.kindOf x = some .cell ∨ env.kindOf x = some .free) ∧ ∃ c, env.cells.lookup x = some c ∧ h.IsCell c (some u))
structure Cx.Ok (X : Cx) : Prop where
  mod : Mod X.K X.mg X.base
  kind : X.env.scope.kind = .function
  glob : X.env.globals = mainGlobals
  blt : X.env.builtins = builtinsNs
  above : X.s₀.heap.objs.size ≤ X.env.locals
  inj : ∀ x y c, X.env.cells.lookup x = some c → X.env.cells.lookup y = some c → x = y
  has : ∀ x, (X.env.kindOf x = some .cell ∨ X.env.kindOf x = some .free) → ∃ c, X.env.cells.lookup x = some c
  cab : ∀ x c, X.fn x = true → X.env.cells.lookup x = some c → X.s₀.heap.objs.size ≤ c
  hd : X.calm = true → X.A.handled = none
  frames : X.A.frames = some X.stack
  stk : X.stack = X.outer ∨ (X.stack = X.env :: X.outer ∧ X.env.frame = some X.env.locals)
  exf : ∀ b ∈ X.ex, b ≠ X.env.locals ∧ ∀ x c, X.env.cells.lookup x = some c → c ≠ b
  bs : ∀ b o, X.base.get? b = some o → X.s₀.heap.get? b = some o ∧ X.H₀ b = none
  bsz : X.base.objs.size ≤ X.s₀.heap.objs.size
  noex : ∀ b o, X.base.get? b = some o → b ∉ X.ex
  exfs : ∀ b ∈ X.ex, b ∉ X.fs
  funs : X.s₀.heap.FunFrames X.base X.outer
  frf : ∀ b ∈ X.fs, X.H₀ b = none
structure Inv (X : Cx) (pins : List (Addr × Obj)) (σ : List (Option V)) (H : Hp) (s : Shared) : Prop where
  ok : X.Ok
  os : s.os = X.s₀.os
  bare : AllBare s.gens
  base : Un X.fs X.ex X.H₀ H X.s₀.heap s.heap
  loc : ∃ m, s.heap.Ns X.env.locals m ∧ ∀ (i : Nat) (x : Str) (v : V), X.N[i]? = some x → σ[i]? = some (some v) → Vis X.env.scope x → ∃ u, RelV v u ∧ Look X.env s.heap m x u
  cell : ∀ x c, X.env.cells.lookup x = some c → ∃ v, s.heap.IsCell c v
  free : H X.env.locals = none
  freeC : ∀ x c, X.env.cells.lookup x = some c → H c = none
  pin : ∀ p ∈ X.pn ++ pins, s.heap.get? p.1 = some p.2 ∧ H p.1 = none ∧ p.1 ≠ X.env.locals ∧ p.1 ∉ X.fs ∧ ∀ v, p.2.data ≠ .cell v
  hok : HOk X.prog X.w H s.heap
  len : σ.length = X.N.length
section
variable {X : Cx} {pins : List (Addr × Obj)} {σ : List (Option V)} {H H' : Hp} {s : Shared} {h' : Heap}
theorem Cx.Ok.nofr (ok : X.Ok) {b : Addr} {o : Obj} (e : X.base.get? b = some o) : b ∉ X.fs := fun hb => by
  have := (ok.funs.mem hb).1
  rw [e] at this; cases this
theorem Inv.bs (I : Inv X pins σ H s) : ∀ b o, X.base.get? b = some o → s.heap.get? b = some o ∧ H b = none := fun b o e =>
  ⟨I.base.keep b o (I.ok.bs b o e).1 (I.ok.bs b o e).2 (I.ok.nofr e) (I.ok.noex b o e), I.base.free b o (I.ok.bs b o e).1 (I.ok.bs b o e).2 (I.ok.noex b o e)⟩
theorem Inv.bk (I : Inv X pins σ H s) : ∀ b o, X.base.get? b = some o → s.heap.get? b = some o := fun b o e => (I.bs b o e).1
theorem Inv.mod (I : Inv X pins σ H s) : Mod X.K X.mg X.base := I.ok.mod
theorem Inv.kIn (I : Inv X pins σ H s) : X.K.In s.heap := I.ok.mod.kin.keeps I.bk
theorem Inv.nolimit (I : Inv X pins σ H s) : s.heap.NoLimit := I.ok.mod.nolimit.keeps I.bk
theorem Inv.lt (I : Inv X pins σ H s) : X.env.locals < s.heap.objs.size := let ⟨_, hn, _⟩ := I.loc; hn.lt
theorem Inv.sz (I : Inv X pins σ H s) : X.s₀.heap.objs.size ≤ s.heap.objs.size := Nat.le_trans I.ok.above (Nat.le_of_lt I.lt)
theorem Inv.nofs (I : Inv X pins σ H s) {a : Addr} (h : s.heap.objs.size ≤ a) : a ∉ X.fs := fun hb => by
  obtain ⟨_, o, ho, _⟩ := I.ok.funs.mem hb
  exact absurd (Nat.lt_of_lt_of_le (Heap.lt_size ho) (Nat.le_trans I.sz h)) (Nat.lt_irrefl _)
theorem Inv.cne (I : Inv X pins σ H s) : ∀ x c, X.env.cells.lookup x = some c → c ≠ X.env.locals := fun x c e z => by
  obtain ⟨v, o, ho, hd⟩ := I.cell x c e
  obtain ⟨m, ⟨o', es, ep, ho', hd', _⟩, _⟩ := I.loc
  rw [z, ho'] at ho; cases ho; rw [hd'] at hd; cases hd
theorem Inv.funs (I : Inv X pins σ H s) : s.heap.FunFrames X.base X.outer := by
  have all : ∀ (l : List Env), (∀ b ∈ frs l, b ∈ X.fs) → X.s₀.heap.FunFrames X.base l → s.heap.FunFrames X.base l := by
    intro l
    induction l with
    | nil => intro _ _; trivial
    | cons env r ih =>
      intro hs hl
      obtain ⟨hk, ⟨L, o, hf, hn, ho, hd⟩, hr⟩ := hl
      have hL : L ∈ X.fs := hs L (by unfold frs; rw [List.filterMap_cons, hf]; exact List.mem_cons_self)
      obtain ⟨sl, e⟩ := I.base.slot L o ho (I.ok.frf L hL) hL fun z => I.ok.exfs L z hL
      exact ⟨hk, ⟨L, _, hf, hn, e, hd⟩, ih (fun b hb => hs b (by unfold frs; rw [List.filterMap_cons, hf]; exact List.mem_cons_of_mem _ hb)) hr⟩
  exact all X.outer (fun _ hb => hb) I.ok.funs
theorem Inv.stack (I : Inv X pins σ H s) : s.heap.FunFrames X.base X.stack := by
  rcases I.ok.stk with e | ⟨e, hf⟩
  · rw [e]; exact I.funs
  · rw [e]
    obtain ⟨m, hn, _⟩ := I.loc
    refine .cons (by rw [I.ok.kind]; decide) hf hn ?_ I.funs
    exact Heap.get?_none_of_le (Nat.le_trans I.ok.bsz I.ok.above)
theorem Inv.stkSub (I : Inv X pins σ H s) : ∀ b ∈ frs X.stack, b ∈ X.env.locals :: X.fs := fun b hb => by
  rcases I.ok.stk with e | ⟨e, hf⟩
  · rw [e] at hb; exact List.mem_cons_of_mem _ hb
  · rw [e] at hb
    unfold frs at hb
    rw [List.filterMap_cons, hf] at hb
    exact hb
theorem Inv.stkFree (I : Inv X pins σ H s) : ∀ b ∈ frs X.stack, H b = none := fun b hb => by
  rcases List.mem_cons.mp (I.stkSub b hb) with e | hb
  · rw [e]; exact I.free
  · obtain ⟨_, o, ho, _⟩ := I.ok.funs.mem hb
    exact I.base.free b o ho (I.ok.frf b hb) fun z => I.ok.exfs b z hb
theorem Inv.step {g' : Array GenState} {t' : Nat} {d' : Drawn} {ch : List Addr} (I : Inv X pins σ H s)
    (hch : ∀ b ∈ ch, (b ∈ X.ex ∨ X.s₀.heap.objs.size ≤ b) ∧ b ≠ X.env.locals ∧ (∀ x c, X.env.cells.lookup x = some c → c ≠ b) ∧ ∀ p ∈ X.pn ++ pins, p.1 ≠ b)
    (keep : ∀ b o, b ≠ X.env.locals → b ∉ X.fs → b ∉ ch → s.heap.get? b = some o → H b = none → h'.get? b = some o)
    (slot : ∀ b o, b ≠ X.env.locals → b ∈ X.fs → b ∉ ch → s.heap.get? b = some o → H b = none → ∃ sl, h'.get? b = some { o with slots := sl }) (free : ∀ b o, b ∉ ch → s.heap.get? b = some o → H b = none → H' b = none)
    (there : ∀ b o, b ∉ ch → s.heap.get? b = some o → ∃ o', h'.get? b = some o')
    (tups : ∀ b xs, H b = some (.tup xs) → H' b = some (.tup xs)) (frzs : ∀ b o u, H b = some (.frz o u) → H' b = some (.frz o u)) (tbls : ∀ b ps, H b = some (.tbl ps) → ∃ more, H' b = some (.tbl (ps ++ more)))
    (ns : ∀ m, s.heap.Ns X.env.locals m → h'.Ns X.env.locals m) (hok : HOk X.prog X.w H' h') (hg : AllBare g') :
    Inv X pins σ H' { s with heap := h', gens := g', drawn := d', toks := t' } := by
  have neL : ∀ b o, X.s₀.heap.get? b = some o → b ≠ X.env.locals := fun b o e => Nat.ne_of_lt (Nat.lt_of_lt_of_le (Heap.lt_size e) I.ok.above)
  have neC : ∀ b o, X.s₀.heap.get? b = some o → b ∉ X.ex → b ∉ ch := fun b o e hx hb => by
    rcases (hch b hb).1 with z | z
    · exact hx z
    · exact absurd (Nat.lt_of_lt_of_le (Heap.lt_size e) z) (Nat.lt_irrefl _)
  have cellK : ∀ x c, X.env.cells.lookup x = some c → ∀ v, s.heap.IsCell c v → h'.IsCell c v := fun x c e v ⟨o, ho, hd⟩ => by
    have nch : c ∉ ch := fun z => (hch c z).2.2.1 x c e rfl
    by_cases hc : c ∈ X.fs
    · obtain ⟨sl, q⟩ := slot c o (I.cne x c e) hc nch ho (I.freeC x c e)
      exact ⟨_, q, hd⟩
    · exact ⟨o, keep c o (I.cne x c e) hc nch ho (I.freeC x c e), hd⟩
  refine ⟨I.ok, I.os, hg, ⟨fun b o e n hb hx => ?_, fun b o e n hb hx => ?_, fun b o e n hx => ?_, fun b o e hx => ?_, fun b xs e => tups b xs (I.base.tups b xs e), fun b o xs e => frzs b o xs (I.base.frzs b o xs e), fun b ps e => ?_⟩, ?_, fun x c e => ?_, ?_, fun x c e => ?_, fun p hp => ?_, hok, I.len⟩
  · exact keep b o (neL b o e) hb (neC b o e hx) (I.base.keep b o e n hb hx) (I.base.free b o e n hx)
  · obtain ⟨sl, e1⟩ := I.base.slot b o e n hb hx
    obtain ⟨sl', e2⟩ := slot b _ (neL b o e) hb (neC b o e hx) e1 (I.base.free b o e n hx)
    exact ⟨sl', e2⟩
  · obtain ⟨o', e1⟩ := I.base.there b o e hx
    exact free b o' (neC b o e hx) e1 (I.base.free b o e n hx)
  · obtain ⟨o', e1⟩ := I.base.there b o e hx
    exact there b o' (neC b o e hx) e1
  · obtain ⟨m1, e1⟩ := I.base.tbls b ps e
    obtain ⟨m2, e2⟩ := tbls b _ e1
    exact ⟨m1 ++ m2, by rw [e2, Array.append_assoc]⟩
  · obtain ⟨m, hn, hl⟩ := I.loc
    refine ⟨m, ns m hn, fun i x v e1 e2 e3 => ?_⟩
    obtain ⟨u, r, l⟩ := hl i x v e1 e2 e3
    refine ⟨u, r, ?_⟩
    rcases l with l | ⟨k, c, e, z⟩
    · exact .inl l
    · exact .inr ⟨k, c, e, cellK x c e _ z⟩
  · obtain ⟨v, z⟩ := I.cell x c e
    exact ⟨v, cellK x c e v z⟩
  · obtain ⟨m, ⟨o, _, _, ho, _⟩, _⟩ := I.loc
    exact free _ o (fun z => (hch _ z).2.1 rfl) ho I.free
  · obtain ⟨v, o, ho, hd⟩ := I.cell x c e
    exact free c o (fun z => (hch c z).2.2.1 x c e rfl) ho (I.freeC x c e)
  · obtain ⟨e, n, ne, nf, d⟩ := I.pin p hp
    have nch : p.1 ∉ ch := fun z => (hch p.1 z).2.2.2 p hp rfl
    exact ⟨keep p.1 p.2 ne nf nch e n, free p.1 p.2 nch e n, ne, nf, d⟩
theorem Inv.un {t' : Nat} (I : Inv X pins σ H s) (u : Un X.fs [] H H' s.heap h') (hok : HOk X.prog X.w H' h') : Inv X pins σ H' { s with heap := h', toks := t' } := by
  obtain ⟨m, ⟨o, es, ep, ho, r⟩, _⟩ := id I.loc
  obtain ⟨sl, hL⟩ := u.any ho I.free (by simp)
  exact I.step (g' := s.gens) (d' := s.drawn) (ch := []) (fun _ z => nomatch z) (fun b o _ hb _ e n => u.keep b o e n hb (by simp)) (fun b o _ hb _ e n => u.slot b o e n hb (by simp)) (fun b o _ e n => u.free b o e n (by simp)) (fun b o _ e => u.there b o e (by simp)) u.tups u.frzs u.tbls (fun m' hm => by
    obtain ⟨o', es', ep', ho', r'⟩ := hm
    rw [ho] at ho'; cases ho'
    exact ⟨_, es', ep', hL, r'⟩) hok I.bare
theorem Inv.call {g' : Array GenState} {t' : Nat} {d' : Drawn} {ch : List Addr} (I : Inv X pins σ H s) (u : Un (frs X.stack) ch H H' s.heap h') (hok : HOk X.prog X.w H' h') (hg : AllBare g')
    (hch : ∀ b ∈ ch, (b ∈ X.ex ∨ X.s₀.heap.objs.size ≤ b) ∧ b ≠ X.env.locals ∧ (∀ x c, X.env.cells.lookup x = some c → c ≠ b) ∧ ∀ p ∈ X.pn ++ pins, p.1 ≠ b) :
    Inv X pins σ H' { s with heap := h', gens := g', drawn := d', toks := t' } := by
  obtain ⟨m, ⟨o, es, ep, ho, r⟩, _⟩ := id I.loc
  obtain ⟨sl, hL⟩ := u.any ho I.free fun z => (hch _ z).2.1 rfl
  exact I.step (ch := ch) hch (fun b o hL hb hc e n => u.keep b o e n (fun z => (List.mem_cons.mp (I.stkSub b z)).elim hL hb) hc) (fun b o _ _ hc e n => u.any e n hc) (fun b o hc e n => u.free b o e n hc) (fun b o hc e => u.there b o e hc) u.tups u.frzs u.tbls (fun m' hm => by
    obtain ⟨o', es', ep', ho', r'⟩ := hm
    rw [ho] at ho'; cases ho'
    exact ⟨_, es', ep', hL, r'⟩) hok hg
theorem Inv.turned {t' : Nat} {it : Addr} (I : Inv X pins σ H s) (k : ∀ b o, b ≠ it → s.heap.get? b = some o → h'.get? b = some o) (hn : H it = none) (hL : it ≠ X.env.locals)
    (h1 : it ∈ X.ex ∨ X.s₀.heap.objs.size ≤ it) (h2 : ∀ x c, X.env.cells.lookup x = some c → c ≠ it) (h3 : ∀ p ∈ X.pn ++ pins, p.1 ≠ it) : Inv X pins σ H { s with heap := h', toks := t' } := by
  have nit : ∀ b u, H b = some u → b ≠ it := fun b u e z => by rw [z, hn] at e; cases e
  refine I.step (g' := s.gens) (d' := s.drawn) (ch := [it]) (fun b hb => ?_) (fun b o _ _ hc e _ => k b o (fun z => hc (by simp [z])) e) (fun b o _ _ hc e _ => ⟨o.slots, k b o (fun z => hc (by simp [z])) e⟩) (fun _ _ _ _ n => n)
    (fun b o hc e => ⟨o, k b o (fun z => hc (by simp [z])) e⟩) (fun _ _ e => e) (fun _ _ _ e => e) (fun b ps e => ⟨#[], by rw [e]; simp⟩) (fun m hm => ?_) (fun b u e => ?_) I.bare
  · have e : b = it := by simpa using hb
    subst e
    exact ⟨h1, hL, h2, h3⟩
  · obtain ⟨o, es, ep, ho, r⟩ := hm
    exact ⟨o, es, ep, k _ o (Ne.symm hL) ho, r⟩
  · refine (I.hok b u e).stay (fun c v hc q => k c v ?_ q) (fun _ q => q) fun _ _ q => q
    rcases hc with z | z
    · rw [z]; exact nit b u e
    · exact nit c _ z
theorem Inv.tok (I : Inv X pins σ H s) (t : Nat) : Inv X pins σ H { s with toks := t } := I.un (h' := s.heap) (t' := t) Un.refl I.hok
theorem Inv.kept {t' : Nat} (I : Inv X pins σ H s) (k : ∀ b u, s.heap.get? b = some u → h'.get? b = some u) : Inv X pins σ H { s with heap := h', toks := t' } := I.un (Un.kept k) (I.hok.kept k)
theorem Inv.laid {a : Addr} {o : HO} {t' : Nat} (I : Inv X pins σ H s) (k : ∀ b u, s.heap.get? b = some u → h'.get? b = some u) (hp : s.heap.objs.size ≤ a) (new : ObjOk X.prog X.w (upd H a o) h' a o) :
    Inv X pins σ (upd H a o) { s with heap := h', toks := t' } := I.un (Un.laid k hp (I.hok.fresh hp)) (I.hok.laid k hp new)
theorem Inv.write {x e : Addr} {o : HO} {t' : Nat} (I : Inv X pins σ H s) (mu : Mut (H x)) (he : e = x ∨ H e = some (.own x)) (k : ∀ b u, b ≠ e → s.heap.get? b = some u → h'.get? b = some u) (heo : ∃ u, h'.get? e = some u)
    (new : ObjOk X.prog X.w (upd H x o) h' x o) : Inv X pins σ (upd H x o) { s with heap := h', toks := t' } := I.un (Un.write mu he k heo) (I.hok.write mu he k heo new)
theorem Inv.pins_of {pins' : List (Addr × Obj)} (I : Inv X pins σ H s) (h : ∀ p ∈ pins', s.heap.get? p.1 = some p.2 ∧ H p.1 = none ∧ p.1 ≠ X.env.locals ∧ p.1 ∉ X.fs ∧ ∀ v, p.2.data ≠ .cell v) : Inv X pins' σ H s :=
  ⟨I.ok, I.os, I.bare, I.base, I.loc, I.cell, I.free, I.freeC, fun p hp => (List.mem_append.mp hp).elim (fun z => I.pin p (List.mem_append_left _ z)) (h p), I.hok, I.len⟩
theorem nodup_ix {N : List Str} (hN : N.Nodup) {i j : Nat} {x : Str} (a : N[i]? = some x) (b : N[j]? = some x) : i = j := by
  obtain ⟨h1, e1⟩ := List.getElem?_eq_some_iff.mp a
  obtain ⟨h2, e2⟩ := List.getElem?_eq_some_iff.mp b
  exact (List.getElem_inj hN).mp (e1.trans e2.symm)
theorem store_ok2 {M : Model} {A : Around} {E : Value → Shared → Prop} {i : Nat} {x : Str} {v : V} {u : Value} {Q : Unit → Shared → Prop} (I : Inv X pins σ H s) (hN : X.N.Nodup) (hi : X.N[i]? = some x) (hx : Loc X.env.scope x) (r : RelV v u)
    (h : ∀ s', Inv X pins (σ.set i (some v)) H s' → (∃ a, Heap.SameBut a s.heap s'.heap ∧ (a = X.env.locals ∨ X.env.cells.lookup x = some a)) → Q () s') (hf : X.fn x = true ∨ X.env.scope.names.lookup x = some .local := by first | exact .inl rfl | exact .inr rfl | assumption) : wpAny M A (storeName X.env x u) Q E s := by
  obtain ⟨m, hn, hl⟩ := id I.loc
  have hcls : (X.env.scope.kind == .class || (X.env.scope.kind == .module && X.env.locals != X.env.globals)) = false := by rw [I.ok.kind]; rfl
  have hiσ : i < σ.length := by rw [I.len]; exact (List.getElem?_eq_some_iff.mp hi).1
  have cne := I.cne
  have tracked : ∀ {a : Addr} {h' : Heap}, (∃ o, s.heap.get? a = some o ∧ H a = none) → Heap.SameBut a s.heap h' → HOk X.prog X.w H h' := fun {a h'} ha hs b ob e => by
    obtain ⟨_, _, hfree⟩ := ha
    refine (I.hok b ob e).stay (fun c w' hc q => (hs.2 c ?_).trans q) (fun _ q => q) fun _ _ q => q
    rintro rfl
    rcases hc with rfl | hc
    · rw [hfree] at e; cases e
    · rw [hfree] at hc; cases hc
  rcases hx with hk | hk
  · refine wpAny_storeName_local hk hn (fun h' hn' hs => ?_) hcls
    obtain ⟨oL, _, _, hoL, _⟩ := id hn
    refine h _ ⟨I.ok, I.os, I.bare, ⟨fun b o e n hb hx => ?_, fun b o e n hb hx => ?_, I.base.free, fun b o e hx => ?_, I.base.tups, I.base.frzs, I.base.tbls⟩, ⟨_, hn', fun j y v' e1 e2 e3 => ?_⟩, fun y c e => ?_, I.free, I.freeC, fun p hp => ?_, tracked ⟨oL, hoL, I.free⟩ hs, by simpa using I.len⟩ ⟨_, hs, .inl rfl⟩
    · exact (hs.2 b (Nat.ne_of_lt (Nat.lt_of_lt_of_le (Heap.lt_size e) I.ok.above))).trans (I.base.keep b o e n hb hx)
    · obtain ⟨sl, e1⟩ := I.base.slot b o e n hb hx
      exact ⟨sl, (hs.2 b (Nat.ne_of_lt (Nat.lt_of_lt_of_le (Heap.lt_size e) I.ok.above))).trans e1⟩
    · obtain ⟨o', e1⟩ := I.base.there b o e hx
      exact ⟨o', (hs.2 b (Nat.ne_of_lt (Nat.lt_of_lt_of_le (Heap.lt_size e) I.ok.above))).trans e1⟩
    · by_cases hj : j = i
      · subst hj
        rw [hi] at e1; cases e1
        rw [List.getElem?_set_self hiσ] at e2
        cases e2
        exact ⟨u, r, .inl ⟨hk, by simp⟩⟩
      · rw [List.getElem?_set_ne (Ne.symm hj)] at e2
        obtain ⟨u', r', q⟩ := hl j y v' e1 e2 e3
        refine ⟨u', r', ?_⟩
        rcases q with ⟨k, e⟩ | ⟨k, c, e, z⟩
        · refine .inl ⟨k, ?_⟩
          have : y ≠ x := fun e => hj (nodup_ix hN e1 (e ▸ hi))
          simp [this, e]
        · exact .inr ⟨k, c, e, z.sameBut hs (cne y c e)⟩
    · obtain ⟨w', z⟩ := I.cell y c e
      exact ⟨w', z.sameBut hs (cne y c e)⟩
    · obtain ⟨e, n, ne, nf, d⟩ := I.pin p hp
      exact ⟨(hs.2 p.1 ne).trans e, n, ne, nf, d⟩
  · have hfn : X.fn x = true := by
      rcases hf with z | z
      · exact z
      · rw [z] at hk; cases hk
    obtain ⟨c, hc⟩ := I.ok.has x (.inl hk)
    obtain ⟨w', z⟩ := I.cell x c hc
    refine wpAny_storeName_cell I.ok.kind hk hc z (fun h' hc' hs => ?_)
    obtain ⟨oc, hoc, hocd⟩ := id z
    refine h { s with heap := h' } ⟨I.ok, I.os, I.bare, ⟨fun b o e n hb hx => ?_, fun b o e n hb hx => ?_, I.base.free, fun b o e hx => ?_, I.base.tups, I.base.frzs, I.base.tbls⟩, ⟨m, hn.sameBut hs (Ne.symm (cne x c hc)), fun j y v' e1 e2 e3 => ?_⟩, fun y c' e => ?_, I.free, I.freeC, fun p hp => ?_, tracked ⟨oc, hoc, I.freeC x c hc⟩ hs, by simpa using I.len⟩ ⟨c, hs, .inr hc⟩
    · exact (hs.2 b (Nat.ne_of_lt (Nat.lt_of_lt_of_le (Heap.lt_size e) (I.ok.cab x c hfn hc)))).trans (I.base.keep b o e n hb hx)
    · obtain ⟨sl, e1⟩ := I.base.slot b o e n hb hx
      exact ⟨sl, (hs.2 b (Nat.ne_of_lt (Nat.lt_of_lt_of_le (Heap.lt_size e) (I.ok.cab x c hfn hc)))).trans e1⟩
    · obtain ⟨o', e1⟩ := I.base.there b o e hx
      exact ⟨o', (hs.2 b (Nat.ne_of_lt (Nat.lt_of_lt_of_le (Heap.lt_size e) (I.ok.cab x c hfn hc)))).trans e1⟩
    · by_cases hj : j = i
      · subst hj
        rw [hi] at e1; cases e1
        rw [List.getElem?_set_self hiσ] at e2
        cases e2
        exact ⟨u, r, .inr ⟨.inl hk, c, hc, hc'⟩⟩
      · rw [List.getElem?_set_ne (Ne.symm hj)] at e2
        obtain ⟨u', r', q⟩ := hl j y v' e1 e2 e3
        refine ⟨u', r', ?_⟩
        rcases q with q | ⟨k, c', e, z'⟩
        · exact .inl q
        · refine .inr ⟨k, c', e, z'.sameBut hs ?_⟩
          rintro rfl
          exact hj (nodup_ix hN e1 (I.ok.inj _ _ _ e hc ▸ hi))
    · by_cases hcc : c' = c
      · subst hcc; exact ⟨_, hc'⟩
      · obtain ⟨w2, z2⟩ := I.cell y c' e
        exact ⟨w2, z2.sameBut hs hcc⟩
    · obtain ⟨e, n, ne, nf, d⟩ := I.pin p hp
      refine ⟨(hs.2 p.1 ?_).trans e, n, ne, nf, d⟩
      intro q
      rw [q, hoc] at e
      have q' : oc = p.2 := Option.some.inj e
      exact d w' (by rw [← q']; exact hocd)
theorem store_ok {M : Model} {A : Around} {E : Value → Shared → Prop} {i : Nat} {x : Str} {v : V} {u : Value} {Q : Unit → Shared → Prop} (I : Inv X pins σ H s) (hN : X.N.Nodup) (hi : X.N[i]? = some x) (hx : Loc X.env.scope x) (r : RelV v u)
    (h : ∀ s', Inv X pins (σ.set i (some v)) H s' → Q () s') (hf : X.fn x = true ∨ X.env.scope.names.lookup x = some .local := by first | exact .inl rfl | exact .inr rfl | assumption) : wpAny M A (storeName X.env x u) Q E s :=
  store_ok2 I hN hi hx r (fun s' I' _ => h s' I') hf
theorem Inv.call' {s' : Shared} {ch : List Addr} (I : Inv X pins σ H s) (ho : s'.os = s.os) (u : Un (frs X.stack) ch H H' s.heap s'.heap) (hok : HOk X.prog X.w H' s'.heap) (hg : AllBare s'.gens)
    (hch : ∀ b ∈ ch, (b ∈ X.ex ∨ X.s₀.heap.objs.size ≤ b) ∧ b ≠ X.env.locals ∧ (∀ x c, X.env.cells.lookup x = some c → c ≠ b) ∧ ∀ p ∈ X.pn ++ pins, p.1 ≠ b) : Inv X pins σ H' s' := by
  obtain ⟨h', g', d', t', o'⟩ := s'
  have e : o' = s.os := ho
  subst e
  exact I.call (g' := g') (t' := t') (d' := d') u hok hg hch
end
abbrev XK := Value → Option Addr → Hp → Prop
abbrev St := List (Option V)
abbrev VK := V → Hp → Prop
abbrev TE := St → Hp → VK → Prop
abbrev TT := St → Hp → (Bool → Hp → Prop) → Prop
abbrev TA := St → Hp → (List V → Hp → Prop) → Prop
/- what is wanted behind a statement -/
set_option genInjectivity false in
set_option genSizeOfSpec false in
set_option genSizeOf false in
structure Ends where
  nx : St → Hp → Prop
  rt : VK
  bk : St → Hp → Prop := fun _ _ => False
  ct : St → Hp → Prop := fun _ _ => False
abbrev TS := Ends → St → Hp → Prop
def EP (X : Cx) (pins : List (Addr × Obj)) (σ : St) (Q : VK) (u : Value) (s' : Shared) : Prop := ∃ v H', Inv X pins σ H' s' ∧ RelV v u ∧ Q v H'
def TP (X : Cx) (pins : List (Addr × Obj)) (σ : St) (Q : Bool → Hp → Prop) (b : Bool) (s' : Shared) : Prop := ∃ H', Inv X pins σ H' s' ∧ Q b H'
def AP (X : Cx) (pins : List (Addr × Obj)) (σ : St) (Q : List V → Hp → Prop) (us : List Value) (s' : Shared) : Prop := ∃ vs H', Inv X pins σ H' s' ∧ Vals vs us ∧ Q vs H'
def SP (X : Cx) (pins : List (Addr × Obj)) (D : Ends) (f : Flow) (s' : Shared) : Prop :=
  match f with
  | .next => ∃ σ' H', Inv X pins σ' H' s' ∧ D.nx σ' H'
  | .brk => ∃ σ' H', Inv X pins σ' H' s' ∧ D.bk σ' H'
  | .cont => ∃ σ' H', Inv X pins σ' H' s' ∧ D.ct σ' H'
  | .ret u => ∃ v σ' H', Inv X pins σ' H' s' ∧ RelV v u ∧ D.rt v H'
@[irreducible] def PE (X : Cx) (e : Expr) (t : TE) : Prop :=
  ∀ (pins : List (Addr × Obj)) (s : Shared) (σ : St) (H : Hp) (Q : VK), Inv X pins σ H s → t σ H Q → wpAny (model X.prog X.w) X.A (eval e X.env) (EP X pins σ Q) X.xe s
@[irreducible] def PT (X : Cx) (e : Expr) (t : TT) : Prop :=
  ∀ (pins : List (Addr × Obj)) (s : Shared) (σ : St) (H : Hp) (Q : Bool → Hp → Prop), Inv X pins σ H s → t σ H Q → wpAny (model X.prog X.w) X.A (isTrue e X.env (eval e X.env)) (TP X pins σ Q) X.xe s
@[irreducible] def PW (X : Cx) (e : Expr) (t : TT) : Prop :=
  ∀ (whole : Sem Value) (pins : List (Addr × Obj)) (s : Shared) (σ : St) (H : Hp) (Q : Bool → Hp → Prop), Inv X pins σ H s → t σ H Q → wpAny (model X.prog X.w) X.A (isTrue e X.env whole) (TP X pins σ Q) X.xe s
theorem PW.pt {X : Cx} {e : Expr} {t : TT} (h : PW X e t) : PT X e t := by
  first
  | exact (h _)
  | (unfold PT at *; unfold PW at *; exact (h _))
@[irreducible] def PA (X : Cx) (es : List Expr) (t : TA) : Prop :=
  ∀ (pos : Pos) (pins : List (Addr × Obj)) (s : Shared) (σ : St) (H : Hp) (Q : List V → Hp → Prop), Inv X pins σ H s → t σ H Q → wpAny (model X.prog X.w) X.A (spliced (backTo pos (starEach es X.env))) (AP X pins σ Q) X.xe s
@[irreducible] def PS (X : Cx) (st : Stmt) (t : TS) : Prop :=
  ∀ (pins : List (Addr × Obj)) (s : Shared) (σ : St) (H : Hp) (D : Ends), Inv X pins σ H s → t D σ H → wpAny (model X.prog X.w) X.A (exec st X.env) (SP X pins D) X.xe s
@[irreducible] def PSs (X : Cx) (st : List Stmt) (t : TS) : Prop :=
  ∀ (pins : List (Addr × Obj)) (s : Shared) (σ : St) (H : Hp) (D : Ends), Inv X pins σ H s → t D σ H → wpAny (model X.prog X.w) X.A (execs st X.env) (SP X pins D) X.xe s
theorem thn {α : Type} {t : Sem α} {Q Q' : α → Shared → Prop} {M : Model} {A : Around} {E : Value → Shared → Prop} {s : Shared} (h : wpAny M A t Q E s) (hQ : ∀ a s, Q a s → Q' a s) : wpAny M A t Q' E s := wpAny_mono h hQ fun _ _ x => x
end L2
namespace L2
open PySem PySem.Spec PyProof.Rows
section
variable {X : Cx}
def tVar (i : Nat) : TE := fun σ H Q => ∃ v, σ[i]? = some (some v) ∧ Q v H
def tC (v : V) : TE := fun _ H Q => Q v H
theorem pe_var {i : Nat} {x : Str} {pos : Pos} (hN : X.N[i]? = some x) (hv : Vis X.env.scope x) (hd : (x == ("__debug__" : Str)) = false := by decide) (hcd : (x == ("__classdict__" : Str)) = false := by decide) : PE X (.Name x pos) (tVar i) := by
  unfold PE at *
  exact by
    intro pins s σ H Q I h
    obtain ⟨v, e, h⟩ := h
    obtain ⟨m, hn, hl⟩ := I.loc
    obtain ⟨u, r, l⟩ := hl i x v hN e hv
    have fin : EP X pins σ Q u s := ⟨v, H, I, r, h⟩
    rcases l with ⟨hk, hm⟩ | ⟨hk, c, hc, hcell⟩
    · exact wpAny_Name (wpAny_loadName_local I.ok.kind hk hn hm fin) hd
    · rcases hk with hk | hk
      · exact wpAny_Name (wpAny_loadName_cell I.ok.kind hk hc hcell fin) hd
      · exact wpAny_Name (wpAny_loadName_free I.ok.kind hk hc hcell fin hcd) hd
theorem pe_int {i j pos} : PE X (.Constant (.int i) j pos) (tC (.int i)) := by
  first
  | exact (fun _ _ _ H _ I h => wpAny_Constant_int ⟨.int i, H, I.tok _, ⟨_, rfl⟩, h⟩)
  | (unfold PE at *; exact (fun _ _ _ H _ I h => wpAny_Constant_int ⟨.int i, H, I.tok _, ⟨_, rfl⟩, h⟩))
theorem pe_bl {b j pos} : PE X (.Constant (.bool b) j pos) (tC (.bl b)) := by
  first
  | exact (fun _ _ _ H _ I h => Constant_bool ⟨.bl b, H, I, rfl, h⟩)
  | (unfold PE at *; exact (fun _ _ _ H _ I h => Constant_bool ⟨.bl b, H, I, rfl, h⟩))
theorem pe_non {j pos} : PE X (.Constant .none j pos) (tC .non) := by
  first
  | exact (fun _ _ _ H _ I h => Constant_none ⟨.non, H, I, rfl, h⟩)
  | (unfold PE at *; exact (fun _ _ _ H _ I h => Constant_none ⟨.non, H, I, rfl, h⟩))
theorem pe_str {x j pos} : PE X (.Constant (.str x) j pos) (tC (.str x)) := by
  first
  | exact (fun _ _ _ H _ I h => Calls.Constant_str ⟨.str x, H, I.tok _, ⟨_, rfl⟩, h⟩)
  | (unfold PE at *; exact (fun _ _ _ H _ I h => Calls.Constant_str ⟨.str x, H, I.tok _, ⟨_, rfl⟩, h⟩))
def Gl (X : Cx) (x : Str) : Prop := X.env.kindOf x = some .globalImplicit
theorem ld_glob {E : Value → Shared → Prop} {pins : List (Addr × Obj)} {s : Shared} {σ : St} {H : Hp} {x : Str} {u : Value} {pos : Pos} {Q : Value → Shared → Prop} (I : Inv X pins σ H s) (hg : Gl X x) (hm : X.mg x = some u) (h : Q u s)
    (hd : (x == ("__debug__" : Str)) = false := by decide) : wpAny (model X.prog X.w) X.A (eval (.Name x pos) X.env) Q E s :=
  Calls.Name_function_global I.ok.kind hg (Calls.loadGlobal_global (by rw [I.ok.glob]; exact I.mod.glob.keeps I.bk) hm h) hd
theorem ld_blt {E : Value → Shared → Prop} {pins : List (Addr × Obj)} {s : Shared} {σ : St} {H : Hp} {x : Str} {u : Value} {pos : Pos} {Q : Value → Shared → Prop} (I : Inv X pins σ H s) (hg : Gl X x) (hm : X.mg x = none) (hv : bootBuiltins x = some u) (h : Q u s)
    (hn : x ≠ "__name__" := by decide) (hd : (x == ("__debug__" : Str)) = false := by decide) : wpAny (model X.prog X.w) X.A (eval (.Name x pos) X.env) Q E s := by
  obtain ⟨mb, h1, h2⟩ := I.mod.blt
  exact Calls.Name_function_global I.ok.kind hg (Calls.loadGlobal_builtin (by rw [I.ok.glob]; exact I.mod.glob.keeps I.bk) hm (by rw [I.ok.blt]; exact h1.keeps I.bk) ((h2 x hn).trans hv) h) hd
theorem pe_glob {x : Str} {v : V} {u : Value} {pos : Pos} (hg : Gl X x) (hm : X.mg x = some u) (r : RelV v u) (hd : (x == ("__debug__" : Str)) = false := by decide) : PE X (.Name x pos) (tC v) := by
  first
  | exact (fun _ _ _ H _ I h => ld_glob I hg hm ⟨v, H, I, r, h⟩ hd)
  | (unfold PE at *; exact (fun _ _ _ H _ I h => ld_glob I hg hm ⟨v, H, I, r, h⟩ hd))
theorem pe_bltn {x : Str} {v : V} {u : Value} {pos : Pos} (hg : Gl X x) (hm : X.mg x = none) (hv : bootBuiltins x = some u) (r : RelV v u) (hn : x ≠ "__name__" := by decide) (hd : (x == ("__debug__" : Str)) = false := by decide) : PE X (.Name x pos) (tC v) := by
  first
  | exact (fun _ _ _ H _ I h => ld_blt I hg hm hv ⟨v, H, I, r, h⟩ hn hd)
  | (unfold PE at *; exact (fun _ _ _ H _ I h => ld_blt I hg hm hv ⟨v, H, I, r, h⟩ hn hd))
variable {a b : Expr} {ta tb : TE} {pos : Pos}
@[irreducible] def PC (X : Cx) (op : CmpOp) (a b : Expr) (t : TE) : Prop :=
  ∀ (pins : List (Addr × Obj)) (s : Shared) (σ : St) (H : Hp) (Q : VK), Inv X pins σ H s → t σ H Q →
    wpAny (model X.prog X.w) X.A (eval a X.env) (fun v s₁ => wpAny (model X.prog X.w) X.A (eval b X.env) (fun u s₂ => wpAny (model X.prog X.w) X.A (compareOp op v u) (EP X pins σ Q) X.xe s₂) X.xe s₁) X.xe s
theorem nobehind (b : Expr) {op : CmpOp} (h : op ≠ .In) (h2 : op ≠ .NotIn) : behindInMarks op b = false := by
  have e1 : (op == CmpOp.In) = false := by cases op <;> first | rfl | exact absurd rfl h
  have e2 : (op == CmpOp.NotIn) = false := by cases op <;> first | rfl | exact absurd rfl h2
  cases b <;> simp [behindInMarks, e1, e2]
def tIsN (ta : TE) : TE := fun σ H Q => ta σ H fun x H1 => Q (.bl (decide (x = .non))) H1
def tNotN (ta : TE) : TE := fun σ H Q => ta σ H fun x H1 => Q (.bl (!decide (x = .non))) H1
theorem RelV.none_iff {x : V} {v : Value} (r : RelV x v) : (v == Value.none) = decide (x = .non) := by
  cases x with
  | non => cases r; rfl
  | bl _ => cases r; rfl
  | int _ => obtain ⟨t, rfl⟩ := r; rfl
  | str _ => obtain ⟨t, rfl⟩ := r; rfl
  | byt _ => obtain ⟨t, rfl⟩ := r; rfl
  | flt _ => obtain ⟨t, rfl⟩ := r; rfl
  | ref _ => cases r; rfl
  | ty _ => cases r; rfl
theorem pc_isN {j pos'} (ha : PE X a ta) : PC X .Is a (.Constant .none j pos') (tIsN ta) := by
  unfold PE at *; unfold PC at *
  exact by
    intro pins s σ H Q I h
    refine thn (ha pins s σ H _ I h) fun v s1 ⟨x, H1, I1, r1, q1⟩ => ?_
    exact Constant_none (is_none_gen ⟨.bl _, H1, I1, by rw [r1.none_iff]; rfl, q1⟩)
theorem pc_notN {j pos'} (ha : PE X a ta) : PC X .IsNot a (.Constant .none j pos') (tNotN ta) := by
  unfold PE at *; unfold PC at *
  exact by
    intro pins s σ H Q I h
    refine thn (ha pins s σ H _ I h) fun v s1 ⟨x, H1, I1, r1, q1⟩ => ?_
    exact Constant_none (isnot_none_gen ⟨.bl _, H1, I1, by rw [r1.none_iff]; rfl, q1⟩)
def tB (t : TE) : TT := fun σ H Q => t σ H fun x H1 => ∃ c, x = .bl c ∧ Q c H1
theorem pt_cmp {op : CmpOp} {t : TE} (h : PC X op a b t) (h1 : behindInMarks op b = false := by first | exact nobehind _ (by decide) (by decide) | rfl) : PT X (.Compare a [op] [b] pos) (tB t) := by
  unfold PT at *; unfold PC at *
  exact by
    intro pins s σ H Q I hw
    refine wpAny_isTrue_Compare1 (thn (h pins s σ H _ I hw) fun v s1 h1 => thn h1 fun u s2 h2 => thn h2 fun c s3 ⟨x, H1, I1, r1, q1⟩ => ?_) h1
    obtain ⟨d, rfl, q⟩ := q1
    cases r1
    exact wpAny_truthy_bool ⟨H1, I1, q⟩
theorem pt_val {e : Expr} {t : TE} (h : PE X e t) (he : ∀ whole, isTrue e X.env whole = (do let v ← whole; standAt e.pos; holding [v] (truthy v)) := by intro _; rfl) : PT X e (tB t) := by
  unfold PE at *; unfold PT at *
  exact by
    intro pins s σ H Q I hw
    refine isTrue_plain (thn (h pins s σ H _ I hw) fun v s1 ⟨x, H1, I1, r1, q1⟩ => ?_) (he _)
    obtain ⟨d, rfl, q⟩ := q1
    cases r1
    exact wpAny_truthy_bool ⟨H1, I1, q⟩
variable {tA tB' : TT} {rest : List Expr}
def tAnd (t u : TT) : TT := fun σ H Q => t σ H fun c H1 => if c = true then u σ H1 Q else Q false H1
def tOr (t u : TT) : TT := fun σ H Q => t σ H fun c H1 => if c = true then Q true H1 else u σ H1 Q
def tNot (t : TT) : TT := fun σ H Q => t σ H fun c H1 => Q (!c) H1
theorem pw_and1 (ha : PT X a tA) : PW X (.BoolOp .And [a] pos) tA := by
  unfold PT at *; unfold PW at *
  exact by
    intro wh pins s σ H Q I h
    refine isTrue_and (thn (ha pins s σ H Q I h) fun c s1 e => ?_)
    cases c with
    | true => exact isTrue_and_nil e
    | false => exact e
theorem pw_or1 (ha : PT X a tA) : PW X (.BoolOp .Or [a] pos) tA := by
  unfold PT at *; unfold PW at *
  exact by
    intro wh pins s σ H Q I h
    refine isTrue_or (thn (ha pins s σ H Q I h) fun c s1 e => ?_)
    cases c with
    | false => exact isTrue_or_nil e
    | true => exact e
theorem pw_and (ha : PT X a tA) (hb : PW X (.BoolOp .And (b :: rest) pos) tB') : PW X (.BoolOp .And (a :: b :: rest) pos) (tAnd tA tB') := by
  unfold PT at *; unfold PW at *
  exact by
    intro wh pins s σ H Q I h
    refine isTrue_and (thn (ha pins s σ H _ I h) fun c s1 ⟨H1, I1, q1⟩ => ?_)
    cases c with
    | true => exact hb wh pins s1 σ H1 Q I1 q1
    | false => exact ⟨H1, I1, q1⟩
theorem pw_or (ha : PT X a tA) (hb : PW X (.BoolOp .Or (b :: rest) pos) tB') : PW X (.BoolOp .Or (a :: b :: rest) pos) (tOr tA tB') := by
  unfold PT at *; unfold PW at *
  exact by
    intro wh pins s σ H Q I h
    refine isTrue_or (thn (ha pins s σ H _ I h) fun c s1 ⟨H1, I1, q1⟩ => ?_)
    cases c with
    | true => exact ⟨H1, I1, q1⟩
    | false => exact hb wh pins s1 σ H1 Q I1 q1
theorem pt_not (ha : PT X a tA) : PT X (.UnaryOp .Not a pos) (tNot tA) := by
  unfold PT at *
  exact by
    intro pins s σ H Q I h
    exact isTrue_not (ha pins s σ H (fun c H1 => Q (!c) H1) I h)
def tAndV (ta tb : TE) : TE := fun σ H Q => ta σ H fun x H1 => ∃ c, x = .bl c ∧ if c = true then tb σ H1 Q else Q (.bl false) H1
def tNotV (ta : TE) : TE := fun σ H Q => ta σ H fun x H1 => ∃ c, x = .bl c ∧ Q (.bl (!c)) H1
theorem pe_one {op} {t : TE} (h : PE X a t) : PE X (.BoolOp op [a] pos) t := by
  first
  | exact (fun pins s σ H Q I hw => BoolOp_one (h pins s σ H Q I hw))
  | (unfold PE at *; exact (fun pins s σ H Q I hw => BoolOp_one (h pins s σ H Q I hw)))
theorem pe_and (ha : PE X a ta) (hb : PE X (.BoolOp .And (b :: rest) pos) tb) : PE X (.BoolOp .And (a :: b :: rest) pos) (tAndV ta tb) := by
  unfold PE at *
  exact by
    intro pins s σ H Q I h
    refine BoolOp_and (thn (ha pins s σ H _ I h) fun v s1 ⟨x, H1, I1, r1, q1⟩ => ?_)
    obtain ⟨c, rfl, q1⟩ := q1
    cases r1
    refine wpAny_truthy_bool ?_
    cases c with
    | true => exact hb pins s1 σ H1 Q I1 q1
    | false => exact ⟨.bl false, H1, I1, rfl, q1⟩
theorem pe_not (ha : PE X a ta) : PE X (.UnaryOp .Not a pos) (tNotV ta) := by
  unfold PE at *
  exact by
    intro pins s σ H Q I h
    refine UnaryOp_ (thn (ha pins s σ H _ I h) fun v s1 ⟨x, H1, I1, r1, q1⟩ => ?_)
    obtain ⟨c, rfl, q1⟩ := q1
    cases r1
    exact not_of (wpAny_truthy_bool ⟨.bl (!c), H1, I1, rfl, q1⟩)
end
end L2
namespace L2
open PySem PySem.Spec PyProof.Rows
def SqL (K : PySem.W.Frag) (H : Hp) (a : Addr) (xs : List V) : Prop :=
  Rd H a (.lst xs) ∨
    ∃ (o : Obj) (its : Array Value) (n : Nat), K.lookup a = some o ∧ o.cls = .type "list" ∧ o.dict = none ∧ o.data = .seq its n ∧ its.size ≤ sizeLine ∧ Vals xs its.toList
def SqT (K : PySem.W.Frag) (H : Hp) (a : Addr) (xs : List V) : Prop :=
  Rd H a (.tup xs) ∨
    ∃ (o : Obj) (its : Array Value) (n : Nat), K.lookup a = some o ∧ o.cls = .type "tuple" ∧ o.data = .seq its n ∧ its.size ≤ sizeLine ∧ Vals xs its.toList
def absV : Value → Option V
  | .none => some .non
  | .bool b => some (.bl b)
  | .int i _ => some (.int i)
  | .str x _ => some (.str x)
  | .bytes b _ => some (.byt b)
  | .float b _ => some (.flt b)
  | .ref a => some (.ref a)
  | .type n => some (.ty n)
  | _ => none
theorem RelV.abs {x : V} {u : Value} (r : RelV x u) : absV u = some x := by
  cases x with
  | non => cases r; rfl
  | bl _ => cases r; rfl
  | int _ => obtain ⟨t, rfl⟩ := r; rfl
  | str _ => obtain ⟨t, rfl⟩ := r; rfl
  | byt _ => obtain ⟨t, rfl⟩ := r; rfl
  | flt _ => obtain ⟨t, rfl⟩ := r; rfl
  | ref _ => cases r; rfl
  | ty _ => cases r; rfl
theorem RelV.inj {x y : V} {u : Value} (r : RelV x u) (q : RelV y u) : x = y := Option.some.inj (r.abs.symm.trans q.abs)
theorem Vals.inj : ∀ {xs ys : List V} {us : List Value}, Vals xs us → Vals ys us → xs = ys
  | _, _, _, .nil, .nil => rfl
  | _, _, _, .cons r t, .cons r' t' => by rw [r.inj r', Vals.inj t t']
section
variable {X : Cx} {pins : List (Addr × Obj)} {σ : St} {H : Hp} {s : Shared} {a : Addr} {xs ys : List V}
theorem SqL.of {K : PySem.W.Frag} (h : H a = some (.lst xs)) : SqL K H a xs := .inl (.inl h)
theorem SqT.of {K : PySem.W.Frag} (h : H a = some (.tup xs)) : SqT K H a xs := .inl (.inl h)
theorem Inv.list (I : Inv X pins σ H s) (h : SqL X.K H a xs) : ∃ its : List Value, Vals xs its ∧ PlainL s.heap a its.toArray ∧ xs.length ≤ sizeLine := by
  rcases h with h | ⟨o, its, n, hk, hc, hd, hs, hz, r⟩
  · obtain ⟨z, its, n, r, e⟩ := h.ok I.hok
    exact ⟨its, r, ⟨_, n, e, rfl, rfl, rfl⟩, z⟩
  · refine ⟨its.toList, r, ⟨o, n, I.kIn a o hk, hc, hd, by simpa using hs⟩, ?_⟩
    have e := r.length
    simp only [Array.length_toList] at e
    omega
theorem Inv.tuple (I : Inv X pins σ H s) (h : SqT X.K H a xs) : ∃ its : List Value, Vals xs its ∧ IsTup s.heap a its.toArray ∧ xs.length ≤ sizeLine := by
  rcases h with h | ⟨o, its, n, hk, hc, hs, hz, r⟩
  · obtain ⟨z, its, r, p⟩ := h.ok I.hok
    exact ⟨its, r, p, z⟩
  · refine ⟨its.toList, r, ⟨o, I.kIn a o hk, hc, n, by simpa using hs⟩, ?_⟩
    have e := r.length
    simp only [Array.length_toList] at e
    omega
theorem Inv.list_inj (I : Inv X pins σ H s) (h : SqL X.K H a xs) (h' : SqL X.K H a ys) : xs = ys := by
  obtain ⟨its, r, ⟨o, n, e, _, _, d⟩, _⟩ := I.list h
  obtain ⟨its', r', ⟨o', n', e', _, _, d'⟩, _⟩ := I.list h'
  rw [e] at e'; cases e'
  rw [d] at d'
  injection d' with d1 _
  have : its = its' := by simpa using congrArg Array.toList d1
  subst this
  exact r.inj r'
theorem Inv.tuple_inj (I : Inv X pins σ H s) (h : SqT X.K H a xs) (h' : SqT X.K H a ys) : xs = ys := by
  obtain ⟨its, r, ⟨o, e, _, n, d⟩, _⟩ := I.tuple h
  obtain ⟨its', r', ⟨o', e', _, n', d'⟩, _⟩ := I.tuple h'
  rw [e] at e'; cases e'
  rw [d] at d'
  injection d' with d1 _
  have : its = its' := by simpa using congrArg Array.toList d1
  subst this
  exact r.inj r'
end
abbrev Cx.wish (X : Cx) (E : Value → Shared → Prop) : Cx := { X with xe := E }
abbrev Cx.nox (X : Cx) : Cx := X.wish fun _ _ => False
theorem Cx.Ok.wish {X : Cx} (ok : X.Ok) (E : Value → Shared → Prop) : (X.wish E).Ok :=
  ⟨ok.mod, ok.kind, ok.glob, ok.blt, ok.above, ok.inj, ok.has, ok.cab, ok.hd, ok.frames, ok.stk, ok.exf, ok.bs, ok.bsz, ok.noex, ok.exfs, ok.funs, ok.frf⟩
theorem Cx.Ok.unwish {X : Cx} {E : Value → Shared → Prop} (ok : (X.wish E).Ok) : X.Ok :=
  ⟨ok.mod, ok.kind, ok.glob, ok.blt, ok.above, ok.inj, ok.has, ok.cab, ok.hd, ok.frames, ok.stk, ok.exf, ok.bs, ok.bsz, ok.noex, ok.exfs, ok.funs, ok.frf⟩
section
variable {X : Cx} {pins : List (Addr × Obj)} {σ : St} {H : Hp} {s : Shared} {E : Value → Shared → Prop}
theorem Inv.wish (I : Inv X pins σ H s) (E : Value → Shared → Prop) : Inv (X.wish E) pins σ H s := ⟨I.ok.wish E, I.os, I.bare, I.base, I.loc, I.cell, I.free, I.freeC, I.pin, I.hok, I.len⟩
theorem Inv.unwish (I : Inv (X.wish E) pins σ H s) : Inv X pins σ H s := ⟨I.ok.unwish, I.os, I.bare, I.base, I.loc, I.cell, I.free, I.freeC, I.pin, I.hok, I.len⟩
theorem SP.unwish {D : Ends} {f : Flow} {s' : Shared} (h : SP (X.wish E) pins D f s') : SP X pins D f s' := by
  cases f with
  | next => obtain ⟨σ', H', I, q⟩ := h; exact ⟨σ', H', I.unwish, q⟩
  | brk => obtain ⟨σ', H', I, q⟩ := h; exact ⟨σ', H', I.unwish, q⟩
  | cont => obtain ⟨σ', H', I, q⟩ := h; exact ⟨σ', H', I.unwish, q⟩
  | ret u => obtain ⟨v, σ', H', I, r, q⟩ := h; exact ⟨v, σ', H', I.unwish, r, q⟩
theorem PE.nox {e : Expr} {t : TE} (h : PE X.nox e t) : PE X e t := by
  unfold PE at *
  exact (fun pins s σ H Q I hw =>
    wpAny_mono (h pins s σ H Q (I.wish _) hw) (fun _ _ ⟨v, H', I', r, q⟩ => ⟨v, H', I'.unwish, r, q⟩) fun _ _ z => False.elim z)
theorem PT.nox {e : Expr} {t : TT} (h : PT X.nox e t) : PT X e t := by
  unfold PT at *
  exact (fun pins s σ H Q I hw =>
    wpAny_mono (h pins s σ H Q (I.wish _) hw) (fun _ _ ⟨H', I', q⟩ => ⟨H', I'.unwish, q⟩) fun _ _ z => False.elim z)
theorem PSs.nox {st : List Stmt} {t : TS} (h : PSs X.nox st t) : PSs X st t := by
  unfold PSs at *
  exact (fun pins s σ H D I hw =>
    wpAny_mono (h pins s σ H D (I.wish _) hw) (fun _ _ q => q.unwish) fun _ _ z => False.elim z)
end
section
variable {X : Cx} {st : Stmt} {rest : List Stmt} {t u : TS} {e : Expr} {te : TE} {pos : Pos}
def tNext : TS := fun D σ H => D.nx σ H
def tSeq (t u : TS) : TS := fun D σ H => t { D with nx := u D } σ H
theorem pss_nil : PSs X [] tNext := by
  first
  | exact (fun _ _ σ H _ I h => wpAny_execs_nil ⟨σ, H, I, h⟩)
  | (unfold PSs at *; exact (fun _ _ σ H _ I h => wpAny_execs_nil ⟨σ, H, I, h⟩))
theorem pss_cons (h1 : PS X st t) (h2 : PSs X rest u) : PSs X (st :: rest) (tSeq t u) := by
  unfold PS at *; unfold PSs at *
  exact by
    intro pins s σ H D I h
    refine wpAny_execs_cons (thn (h1 pins s σ H { D with nx := u D } I h) fun f s1 q => ?_)
    cases f with
    | next =>
      obtain ⟨σ', H', I', q⟩ := q
      exact h2 pins s1 σ' H' D I' q
    | ret v => exact q
    | brk => exact q
    | cont => exact q
theorem pss_one (h1 : PS X st t) : PSs X [st] t := by
  unfold PS at *; unfold PSs at *
  exact by
    intro pins s σ H D I h
    refine wpAny_execs_cons (thn (h1 pins s σ H D I h) fun f s1 q => ?_)
    cases f with
    | next => exact wpAny_execs_nil q
    | ret v => exact q
    | brk => exact q
    | cont => exact q
theorem Inv.quiet {pins : List (Addr × Obj)} {σ : St} {H : Hp} {s : Shared} (I : Inv X pins σ H s) : interactive X.env = false := by simp [interactive, I.ok.kind]
def tDrop (te : TE) : TS := fun D σ H => te σ H fun _ H1 => D.nx σ H1
theorem ps_expr (he : PE X e te) (hs : swapsWith e none pos.line X.env = pure false := by rfl) : PS X (.Expr e pos) (tDrop te) := by
  unfold PE at *; unfold PS at *
  exact by
    intro pins s σ H D I h
    exact wpAny_Expr_any (thn (he pins s σ H _ I h) fun v s1 ⟨x, H1, I1, r1, q1⟩ => ⟨σ, H1, I1, q1⟩) I.quiet hs
def tRet (te : TE) : TS := fun D σ H => te σ H D.rt
theorem ps_ret (he : PE X e te) : PS X (.Return (some e) pos) (tRet te) := by
  unfold PE at *; unfold PS at *
  exact by
    intro pins s σ H D I h
    exact wpAny_Return_some (thn (he pins s σ H _ I h) fun v s1 ⟨x, H1, I1, r1, q1⟩ => ⟨x, σ, H1, I1, r1, q1⟩)
def tIfS (c : TT) (t u : TS) : TS := fun D σ H => c σ H fun b H1 => if b = true then t D σ H1 else u D σ H1
theorem ps_if {c : Expr} {a b : List Stmt} {tc : TT} (hc : PT X c tc) (ha : PSs X a t) (hb : PSs X b u) : PS X (.If c a b pos) (tIfS tc t u) := by
  unfold PT at *; unfold PS at *; unfold PSs at *
  exact by
    intro pins s σ H D I h
    refine wpAny_If (thn (hc pins s σ H _ I h) fun d s1 ⟨H1, I1, q1⟩ => ?_)
    cases d with
    | true => exact ha pins s1 σ H1 D I1 q1
    | false => exact hb pins s1 σ H1 D I1 q1
def tNever : TS := fun _ _ _ => False
theorem ps_never : PS X st tNever := by
  first
  | exact (fun _ _ _ _ _ _ h => h.elim)
  | (unfold PS at *; exact (fun _ _ _ _ _ _ h => h.elim))
end
abbrev TG := V → St → Hp → (St → Hp → Prop) → Prop
abbrev TGs := List V → St → Hp → (St → Hp → Prop) → Prop
@[irreducible] def PG (X : Cx) (target : Expr) (t : TG) : Prop :=
  ∀ (pins : List (Addr × Obj)) (s : Shared) (σ : St) (H : Hp) (v : V) (u : Value) (Q : St → Hp → Prop), Inv X pins σ H s → RelV v u → t v σ H Q →
    wpAny (model X.prog X.w) X.A (assign target X.env u) (fun _ s' => ∃ σ' H', Inv X pins σ' H' s' ∧ Q σ' H') X.xe s
@[irreducible] def PGs (X : Cx) (ts : List Expr) (t : TGs) : Prop :=
  ∀ (pins : List (Addr × Obj)) (s : Shared) (σ : St) (H : Hp) (vs : List V) (us : List Value) (Q : St → Hp → Prop), Inv X pins σ H s → Vals vs us → t vs σ H Q →
    wpAny (model X.prog X.w) X.A (assignInOrder ((assignEach ts X.env).map (·.2)) us) (fun _ s' => ∃ σ' H', Inv X pins σ' H' s' ∧ Q σ' H') X.xe s
abbrev TSet := V → V → V → Hp → (Hp → Prop) → Prop
@[irreducible] def PSet (X : Cx) (t : TSet) : Prop :=
  ∀ (pins : List (Addr × Obj)) (s : Shared) (σ : St) (H : Hp) (o i v : V) (ov iv u : Value) (Q : Hp → Prop), Inv X pins σ H s → RelV o ov → RelV i iv → RelV v u → t o i v H Q →
    wpAny (model X.prog X.w) X.A (setItem ov iv u) (fun _ s' => ∃ H', Inv X pins σ H' s' ∧ Q H') X.xe s
section
variable {X : Cx} {pos : Pos}
def gName (i : Nat) : TG := fun v σ H Q => Q (σ.set i (some v)) H
theorem pg_name {i : Nat} {x : Str} (hN : X.N.Nodup) (hi : X.N[i]? = some x) (hx : Loc X.env.scope x) (hf : X.fn x = true ∨ X.env.scope.names.lookup x = some .local := by first | exact .inl rfl | exact .inr rfl | assumption) : PG X (.Name x pos) (gName i) := by
  unfold PG at *
  exact by
    intro pins s σ H v u Q I r h
    exact wpAny_assign_Name (store_ok I hN hi hx r (fun s' I' => ⟨_, H, I', h⟩) hf)
def gNil : TGs := fun vs σ H Q => vs = [] ∧ Q σ H
def gCons (t : TG) (u : TGs) : TGs := fun vs σ H Q => ∃ v r, vs = v :: r ∧ t v σ H fun σ' H' => u r σ' H' Q
theorem pgs_nil : PGs X [] gNil := by
  unfold PGs at *
  exact by
    intro pins s σ H vs us Q I r h
    obtain ⟨e, h⟩ := h
    subst e
    cases r
    exact assignInOrder_nil ⟨σ, H, I, h⟩
theorem pgs_cons {e : Expr} {es : List Expr} {t : TG} {u : TGs} (h1 : PG X e t) (h2 : PGs X es u)
    (hs : (assignEach (e :: es) X.env).map (·.2) = assign e X.env :: (assignEach es X.env).map (·.2) := by rfl) : PGs X (e :: es) (gCons t u) := by
  unfold PG at *; unfold PGs at *
  exact by
    intro pins s σ H vs us Q I r h
    obtain ⟨v, vr, e1, h⟩ := h
    subst e1
    cases r with
    | cons r rr =>
      rw [hs]
      refine assignInOrder_cons (thn (h1 pins s σ H _ _ _ I r h) fun _ s1 ⟨σ1, H1, I1, q1⟩ => ?_)
      exact h2 pins s1 σ1 H1 _ _ Q I1 rr q1
def gTup (K : PySem.W.Frag) (n : Nat) (t : TGs) : TG := fun v σ H Q => ∃ a xs, v = .ref a ∧ SqT K H a xs ∧ xs.length = n ∧ t xs σ H Q
theorem pg_tup {es : List Expr} {k : Nat} {t : TGs} {n : Nat} (hc : X.calm = true) (h : PGs X es t)
    (hn : (assignEach es X.env).length = n := by rfl) (hst : (assignEach es X.env).findIdx? (·.1) = none := by rfl) : PG X (.Tuple es k pos) (gTup X.K n t) := by
  unfold PG at *; unfold PGs at *
  exact by
    intro pins s σ H v u Q I r hw
    obtain ⟨a, xs, e1, hq, hl, hw⟩ := hw
    subst e1
    cases r
    obtain ⟨its, rv, ht, hz⟩ := I.tuple hq
    refine assign_Tuple_tuple (I.ok.hd hc) ht (by simp [hn, ← hl, rv.length]) hst fun h' hx => ?_
    have I1 : Inv X pins σ H { s with heap := h' } := I.kept (t' := s.toks) fun b o e => hx b o (Nat.ne_of_lt (Heap.lt_size e)) e
    exact h pins _ σ H xs _ Q I1 (by simpa using rv) hw
def gSub (to ti : TE) (t : TSet) : TG := fun v σ H Q => to σ H fun o H1 => ti σ H1 fun i H2 => t o i v H2 fun H3 => Q σ H3
theorem pg_sub {o i : Expr} {to ti : TE} {t : TSet} (ho : PE X o to) (hi : PE X i ti) (hs : PSet X t)
    (ha : ∀ v, assign (.Subscript o i pos) X.env v = (do
      let ov ← holding [v] (eval o X.env)
      let iv ← holding [v, ov] (eval i X.env)
      standAt pos
      holding [v, ov, iv] (setItem ov iv v)
      release [v, ov, iv] []) := by intro _; rfl) : PG X (.Subscript o i pos) (gSub to ti t) := by
  unfold PE at *; unfold PG at *; unfold PSet at *
  exact by
    intro pins s σ H v u Q I r h
    rw [ha]
    refine wpAny_bind (wpAny_holding (thn (ho pins s σ H _ I h) fun ov s1 ⟨x, H1, I1, r1, q1⟩ => ?_))
    refine wpAny_bind (wpAny_holding (thn (hi pins s1 σ H1 _ I1 q1) fun iv s2 ⟨y, H2, I2, r2, q2⟩ => ?_))
    refine wpAny_bind (wpAny_standAt (wpAny_bind (wpAny_holding (thn (hs pins s2 σ H2 x y v ov iv u _ I2 r1 r2 r q2) fun _ s3 ⟨H3, I3, q3⟩ => ?_))))
    exact wpAny_release ⟨σ, H3, I3, q3⟩
def tAsg (te : TE) (g : TG) : TS := fun D σ H => te σ H fun x H1 => g x σ H1 D.nx
theorem ps_asg {tg e : Expr} {te : TE} {g : TG} (he : PE X e te) (hg : PG X tg g) (hs : swapsWithSole [tg] e pos.line X.env = pure false := by rfl) (hw : swappedStores [tg] e X.env = pure none := by rfl)
    (h1 : (assignEach [tg] X.env).map (·.2) = [assign tg X.env] := by rfl) : PS X (.Assign [tg] e pos) (tAsg te g) := by
  unfold PE at *; unfold PS at *; unfold PG at *
  exact by
    intro pins s σ H D I h
    refine wpAny_Assign_stores (thn (he pins s σ H _ I h) fun v s1 ⟨x, H1, I1, r1, q1⟩ => ?_) hs hw
    rw [h1]
    exact thn (hg pins s1 σ H1 x v _ I1 r1 q1) fun _ s2 q => q
theorem ps_set {i : Nat} {x : Str} {e : Expr} {te : TE} {pos' : Pos} (hN : X.N.Nodup) (hi : X.N[i]? = some x) (hx : Loc X.env.scope x) (he : PE X e te) (hs : swapsWith e (some (.Name x pos')) pos.line X.env = pure false := by rfl) (hf : X.fn x = true ∨ X.env.scope.names.lookup x = some .local := by first | exact .inl rfl | exact .inr rfl | assumption) :
    PS X (.Assign [.Name x pos'] e pos) (tAsg te (gName i)) := by
  unfold PE at *; unfold PS at *
  exact by
    intro pins s σ H D I h
    refine wpAny_Assign_Name (thn (he pins s σ H _ I h) fun v s1 ⟨y, H1, I1, r1, q1⟩ => ?_) hs
    exact store_ok I1 hN hi hx r1 (fun s2 I2 => ⟨_, H1, I2, q1⟩) hf
end
section
variable {X : Cx} {pos : Pos}
end
/- at turn i: it yields x (the heap may grow), or it stops -/
set_option genInjectivity false in
set_option genSizeOfSpec false in
set_option genSizeOf false in
structure It where
  go : Nat → Hp → Prop
  yld : Nat → Hp → V → Hp → Prop
  stop : Nat → Hp → Prop
def FpOk (X : Cx) (pins : List (Addr × Obj)) (H : Hp) (b : Addr) : Prop :=
  H b = none ∧ b ≠ X.env.locals ∧ b ∉ X.fs ∧ (b ∈ X.ex ∨ X.s₀.heap.objs.size ≤ b) ∧ (∀ x c, X.env.cells.lookup x = some c → c ≠ b) ∧ ∀ p ∈ X.pn ++ pins, p.1 ≠ b
theorem Inv.fpOk {X : Cx} {pins : List (Addr × Obj)} {σ : St} {H H' : Hp} {s : Shared} {b : Addr} (I : Inv X pins σ H s) (hb : s.heap.objs.size ≤ b) (hn : H' b = none) : FpOk X pins H' b := by
  refine ⟨hn, Nat.ne_of_gt (Nat.lt_of_lt_of_le I.lt hb), I.nofs hb, .inr (Nat.le_trans I.sz hb), fun x c e z => ?_, fun p hp z => ?_⟩
  · obtain ⟨v, q⟩ := I.cell x c e
    exact absurd (Nat.lt_of_lt_of_le q.lt (by rw [z]; exact hb)) (Nat.lt_irrefl _)
  · exact absurd (Nat.lt_of_lt_of_le (Heap.lt_size (I.pin p hp).1) (by rw [z]; exact hb)) (Nat.lt_irrefl _)
structure Turn (P : Program) (w : World) (K : PySem.W.Frag) (tg : Expr) (J : It) (fp : List Addr) (it : Addr) (tn : Nat → Heap → Prop) : Prop where
  mem : it ∈ fp
  obj : ∀ i h, tn i h → ∀ b ∈ fp, ∃ o, h.get? b = some o ∧ ∀ v, o.data ≠ .cell v
  keep : ∀ i h h', tn i h → (∀ b ∈ fp, ∀ o, h.get? b = some o → h'.get? b = some o) → tn i h'
  item : ∀ (X : Cx), X.prog = P → X.w = w → X.K = K → X.calm = true → ∀ (i : Nat) (pins : List (Addr × Obj)) (s : Shared) (σ : St) (H : Hp) (E : Value → Shared → Prop), Inv X pins σ H s → (∀ b ∈ fp, FpOk X pins H b) → tn i s.heap → J.go i H →
    wpAny (model P w) X.A (pyNext (.ref it)) (fun r s1 => ∃ u, r = some u ∧
      wpAny (model P w) X.A (letOwnedTupleGo tg (.ref it) u) (fun _ s2 => ∃ x H', Inv X pins σ H' s2 ∧ RelV x u ∧ J.yld i H x H' ∧ tn (i + 1) s2.heap ∧ ∀ b ∈ fp, H' b = none) E s1) E s
  done : ∀ (X : Cx), X.prog = P → X.w = w → X.K = K → X.calm = true → ∀ (i : Nat) (pins : List (Addr × Obj)) (s : Shared) (σ : St) (H : Hp) (E : Value → Shared → Prop), Inv X pins σ H s → (∀ b ∈ fp, FpOk X pins H b) → tn i s.heap → J.stop i H →
    wpAny (model P w) X.A (pyNext (.ref it)) (fun r s1 => r = none ∧ Inv X pins σ H s1) E s
  self : ∀ (A : Around) (i : Nat) (s : Shared) (Q : Value → Shared → Prop) (E : Value → Shared → Prop), tn i s.heap → Q (.ref it) s → wpAny (model P w) A (pyIter (.ref it)) Q E s
abbrev TI := St → Hp → (It → Hp → Prop) → Prop
def PIE (X : Cx) (pins : List (Addr × Obj)) (σ : St) (tg : Expr) (R : It → Hp → Prop) (itv : Value) (s2 : Shared) : Prop :=
  ∃ (it : Addr) (fp : List Addr) (tn : Nat → Heap → Prop) (J : It) (H' : Hp), itv = .ref it ∧ Inv X pins σ H' s2 ∧ Turn X.prog X.w X.K tg J fp it tn ∧ tn 0 s2.heap ∧ (∀ b ∈ fp, FpOk X pins H' b) ∧ R J H'
@[irreducible] def PI (X : Cx) (tg iter : Expr) (wi : TI) : Prop :=
  ∀ (pins : List (Addr × Obj)) (s : Shared) (σ : St) (H : Hp) (R : It → Hp → Prop), Inv X pins σ H s → wi σ H R →
    wpAny (model X.prog X.w) X.A (eval iter X.env) (fun v s1 => wpAny (model X.prog X.w) X.A (pyIter v) (PIE X pins σ tg R) X.xe s1) X.xe s
theorem go_of {M : Model} {A : Around} {E : Value → Shared → Prop} {s : Shared} {tg : Expr} {it : Addr} {u : Value} {o : Obj} {n : String} {vs : Array Value} {Q : Unit → Shared → Prop} (ho : s.heap.get? it = some o) (hc : o.cls = .type n) (hd : o.data = .fields vs)
    (hn : ["enumerate", "zip", "dict_itemiterator", "dict_reverseitemiterator", "odict_iterator", "itertools.zip_longest", "itertools.pairwise"].contains n = false) (hQ : Q () s) : wpAny M A (letOwnedTupleGo tg (.ref it) u) Q E s := by
  unfold letOwnedTupleGo
  cases tg <;> first
    | exact wpAny_pure hQ
    | (cases u <;> first
        | exact wpAny_pure hQ
        | (refine wpAny_bind (wpAny_load ho ?_)
           rw [hc, hd]
           show wpAny M A (if (["enumerate", "zip", "dict_itemiterator", "dict_reverseitemiterator", "odict_iterator", "itertools.zip_longest", "itertools.pairwise"].contains n && vs[0]? == some (rawInt _)) = true then _ else _) Q E s
           rw [if_neg (by intro h; rw [hn, Bool.false_and] at h; cases h)]
           exact wpAny_pure hQ))
def Itl (K : PySem.W.Frag) (a : Addr) : It :=
  ⟨fun i H => ∃ xs x, SqL K H a xs ∧ xs[i]? = some x, fun i H x H' => H' = H ∧ ∀ xs, SqL K H a xs → xs[i]? = some x, fun i H => ∃ xs, SqL K H a xs ∧ xs.length ≤ i⟩
def Itt (K : PySem.W.Frag) (a : Addr) : It :=
  ⟨fun i H => ∃ xs x, SqT K H a xs ∧ xs[i]? = some x, fun i H x H' => H' = H ∧ ∀ xs, SqT K H a xs → xs[i]? = some x, fun i H => ∃ xs, SqT K H a xs ∧ xs.length ≤ i⟩
def Itr (lo : Int) (n : Nat) : It := ⟨fun i _ => i < n, fun i H x H' => H' = H ∧ x = .int (lo + i), fun i _ => n ≤ i⟩
theorem turn_list {P : Program} {w : World} {K : PySem.W.Frag} {tg : Expr} (a it : Addr) : Turn P w K tg (Itl K a) [it] it (fun i h => h.IsListIter it a i) where
  mem := by simp
  obj := fun i h st b hb => by
    have e : b = it := by simpa using hb
    subst e
    obtain ⟨o, e, c, d⟩ := st
    exact ⟨o, e, fun v z => by rw [d] at z; cases z⟩
  keep := fun i h h' st k => st.at fun o e => k it (by simp) o e
  item := by
    intro X hP hw hK hc i pins s σ H E I hf st hg
    subst hP hw hK
    obtain ⟨xs, x, hq, hx⟩ := hg
    obtain ⟨its, rv, p, hz⟩ := I.list hq
    obtain ⟨u, hu, ru⟩ := rv.get hx
    obtain ⟨f0, f1, f2, f3, f4, f5⟩ := hf it (by simp)
    refine wpAny_pyNext_list_item st p.isList (x := u) (by simpa using hu) fun h' st' sb => ?_
    have I1 : Inv X pins σ H { s with heap := h' } := I.turned (t' := s.toks) (fun b o hb e => (sb.2 b hb).trans e) f0 f1 f3 f4 f5
    obtain ⟨o, e, c, d⟩ := id st'
    exact ⟨u, rfl, go_of (s := { s with heap := h' }) e c d (by decide) ⟨x, H, I1, ru, ⟨rfl, fun ys hy => by rw [I.list_inj hy hq]; exact hx⟩, st', fun b hb => (hf b hb).1⟩⟩
  done := by
    intro X hP hw hK hc i pins s σ H E I hf st hg
    subst hP hw hK
    obtain ⟨xs, hq, hx⟩ := hg
    obtain ⟨its, rv, p, hz⟩ := I.list hq
    obtain ⟨f0, f1, f2, f3, f4, f5⟩ := hf it (by simp)
    have hl := rv.length
    exact wpAny_pyNext_list_end (I.ok.hd hc) st p.isList (by simp; omega) fun h' eb => ⟨rfl, I.turned (t' := s.toks) (fun b o hb e => eb b o hb e) f0 f1 f3 f4 f5⟩
  self := fun _ _ _ _ _ st h => wpAny_pyIter_listiter st h
theorem turn_tuple {P : Program} {w : World} {K : PySem.W.Frag} {tg : Expr} (a it : Addr) : Turn P w K tg (Itt K a) [it] it (fun i h => h.IsTupleIter it a i) where
  mem := by simp
  obj := fun i h st b hb => by
    have e : b = it := by simpa using hb
    subst e
    obtain ⟨o, e, c, d⟩ := st
    exact ⟨o, e, fun v z => by rw [d] at z; cases z⟩
  keep := fun i h h' st k => st.at fun o e => k it (by simp) o e
  item := by
    intro X hP hw hK hc i pins s σ H E I hf st hg
    subst hP hw hK
    obtain ⟨xs, x, hq, hx⟩ := hg
    obtain ⟨its, rv, p, hz⟩ := I.tuple hq
    obtain ⟨u, hu, ru⟩ := rv.get hx
    obtain ⟨f0, f1, f2, f3, f4, f5⟩ := hf it (by simp)
    refine wpAny_pyNext_tuple_item st (show s.heap.IsTuple a its.toArray from p) (x := u) (by simpa using hu) fun h' st' sb => ?_
    have I1 : Inv X pins σ H { s with heap := h' } := I.turned (t' := s.toks) (fun b o hb e => (sb.2 b hb).trans e) f0 f1 f3 f4 f5
    obtain ⟨o, e, c, d⟩ := id st'
    exact ⟨u, rfl, go_of (s := { s with heap := h' }) e c d (by decide) ⟨x, H, I1, ru, ⟨rfl, fun ys hy => by rw [I.tuple_inj hy hq]; exact hx⟩, st', fun b hb => (hf b hb).1⟩⟩
  done := by
    intro X hP hw hK hc i pins s σ H E I hf st hg
    subst hP hw hK
    obtain ⟨xs, hq, hx⟩ := hg
    obtain ⟨its, rv, p, hz⟩ := I.tuple hq
    obtain ⟨f0, f1, f2, f3, f4, f5⟩ := hf it (by simp)
    have hl := rv.length
    exact wpAny_pyNext_tuple_end (I.ok.hd hc) st (show s.heap.IsTuple a its.toArray from p) (by simp; omega) fun h' eb => ⟨rfl, I.turned (t' := s.toks) (fun b o hb e => eb b o hb e) f0 f1 f3 f4 f5⟩
  self := fun _ _ _ _ _ st h => wpAny_pyIter_tupleiter st h
theorem turn_range {P : Program} {w : World} {K : PySem.W.Frag} {tg : Expr} (it : Addr) (lo : Int) (n : Nat) : Turn P w K tg (Itr lo n) [it] it (fun i h => IsRangeIter h it (lo + (i : Nat) * 1) ((n : Int) - (i : Nat)) 1) where
  mem := by simp
  obj := fun i h st b hb => by
    have e : b = it := by simpa using hb
    subst e
    exact ⟨_, st, fun v z => by
      have z' : Data.fields _ = Data.cell v := z
      cases z'⟩
  keep := fun i h h' st k => k it (by simp) _ st
  item := by
    intro X hP hw hK hc i pins s σ H E I hf st hg
    subst hP hw hK
    obtain ⟨f0, f1, f2, f3, f4, f5⟩ := hf it (by simp)
    have W := Walks.range (prog := X.prog) (w := X.w) (I.ok.hd hc) it lo 1 n
    refine W.item i s _ _ hg st fun v h' tk hv st' kk => ?_
    obtain ⟨t, rfl⟩ := hv
    have I1 : Inv X pins σ H { s with heap := h', toks := tk } := I.turned (fun b o hb e => kk b o (by simpa using hb) e) f0 f1 f3 f4 f5
    refine ⟨_, rfl, go_of (s := { s with heap := h', toks := tk }) (n := "range_iterator") st' rfl rfl (by decide) ⟨.int (lo + i), H, I1, ⟨t, ?_⟩, ⟨rfl, rfl⟩, st', fun b hb => (hf b hb).1⟩⟩
    rw [Int.mul_one]
  done := by
    intro X hP hw hK hc i pins s σ H E I hf st hg
    subst hP hw hK
    obtain ⟨f0, f1, f2, f3, f4, f5⟩ := hf it (by simp)
    exact wpAny_pyNext_range_end (I.ok.hd hc) st (by have : n ≤ i := hg; omega) fun h' eb => ⟨rfl, I.turned (t' := s.toks) (fun b o hb e => eb b o hb e) f0 f1 f3 f4 f5⟩
  self := fun _ _ _ _ _ st h => wpAny_pyIter_rangeiter st h
end L2
namespace L2
open PySem PySem.Spec PyProof.Rows
section
variable {X : Cx} {tg : Expr}
def iList (K : PySem.W.Frag) (tl : TE) : TI := fun σ H R => tl σ H fun x H1 => ∃ a, x = .ref a ∧ (∃ xs, SqL K H1 a xs) ∧ R (Itl K a) H1
def iTup (K : PySem.W.Frag) (tl : TE) : TI := fun σ H R => tl σ H fun x H1 => ∃ a, x = .ref a ∧ (∃ xs, SqT K H1 a xs) ∧ R (Itt K a) H1
theorem pi_list {l : Expr} {tl : TE} (hl : PE X l tl) : PI X tg l (iList X.K tl) := by
  unfold PE at *; unfold PI at *
  exact by
    intro pins s σ H R I h
    refine thn (hl pins s σ H _ I h) fun v s1 ⟨x, H1, I1, r1, q1⟩ => ?_
    obtain ⟨a, e, ⟨xs, hq⟩, q⟩ := q1
    subst e
    cases r1
    obtain ⟨its, rv, p, hz⟩ := I1.list hq
    refine wpAny_pyIter_list p.isList ?_
    refine ⟨s1.heap.objs.size, [s1.heap.objs.size], _, _, H1, rfl, I1.kept (t' := s1.toks) fun b o e => Heap.get?_push_of_some _ e, turn_list a _, ⟨_, Heap.get?_push_size _ rfl, rfl, rfl⟩, fun b hb => ?_, q⟩
    have e : b = s1.heap.objs.size := by simpa using hb
    subst e
    exact I1.fpOk (Nat.le_refl _) (I1.hok.fresh (Nat.le_refl _))
theorem pi_tup {l : Expr} {tl : TE} (hl : PE X l tl) : PI X tg l (iTup X.K tl) := by
  unfold PE at *; unfold PI at *
  exact by
    intro pins s σ H R I h
    refine thn (hl pins s σ H _ I h) fun v s1 ⟨x, H1, I1, r1, q1⟩ => ?_
    obtain ⟨a, e, ⟨xs, hq⟩, q⟩ := q1
    subst e
    cases r1
    obtain ⟨its, rv, p, hz⟩ := I1.tuple hq
    refine wpAny_pyIter_tuple (show s1.heap.IsTuple a its.toArray from p) ?_
    refine ⟨s1.heap.objs.size, [s1.heap.objs.size], _, _, H1, rfl, I1.kept (t' := s1.toks) fun b o e => Heap.get?_push_of_some _ e, turn_tuple a _, ⟨_, Heap.get?_push_size _ rfl, rfl, rfl⟩, fun b hb => ?_, q⟩
    have e : b = s1.heap.objs.size := by simpa using hb
    subst e
    exact I1.fpOk (Nat.le_refl _) (I1.hok.fresh (Nat.le_refl _))
theorem range_it {pins : List (Addr × Obj)} {σ : St} {H : Hp} {s : Shared} {R : It → Hp → Prop} {E : Value → Shared → Prop} {lo hi : Int} {t u v : Tok} {tk : Nat} (I : Inv X pins σ H s) (h1 : -(2 ^ 62) ≤ lo) (h2 : lo < 2 ^ 62) (h3 : -(2 ^ 62) ≤ hi) (h4 : hi < 2 ^ 62)
    (q : R (Itr lo (hi - lo).toNat) H) : wpAny (model X.prog X.w) X.A (pyIter (.ref s.heap.objs.size)) (PIE X pins σ tg R) E { s with heap := s.heap.push { cls := .type "range", data := .fields #[.int lo t, .int hi u, .int 1 v] }, toks := tk } := by
  refine wpAny_pyIter_range (IsRange.new ..) (small_one h1 h2 h3 h4) ?_
  have I1 : Inv X pins σ H { s with heap := s.heap.push { cls := .type "range", data := .fields #[.int lo t, .int hi u, .int 1 v] }, toks := tk } := I.kept fun b o e => Heap.get?_push_of_some _ e
  refine ⟨(s.heap.push { cls := .type "range", data := .fields #[.int lo t, .int hi u, .int 1 v] }).objs.size, [(s.heap.push { cls := .type "range", data := .fields #[.int lo t, .int hi u, .int 1 v] }).objs.size], _, _, H, rfl,
    I1.kept (t' := tk) fun b o e => Heap.get?_push_of_some _ e, turn_range _ lo (hi - lo).toNat, ?_, fun b hb => ?_, q⟩
  · have e1 : lo + ((0 : Nat) : Int) * 1 = lo := by simp
    have e2 : (((hi - lo).toNat : Nat) : Int) - ((0 : Nat) : Int) = Builtin.Range.rangeSize lo hi 1 := by rw [rangeSize_one]; split <;> omega
    show IsRangeIter _ _ (lo + ((0 : Nat) : Int) * 1) ((((hi - lo).toNat : Nat) : Int) - ((0 : Nat) : Int)) 1
    rw [e1, e2]
    exact Heap.get?_push_size _ rfl
  · have e : b = (s.heap.push { cls := .type "range", data := .fields #[.int lo t, .int hi u, .int 1 v] }).objs.size := by simpa using hb
    subst e
    exact I1.fpOk (Nat.le_refl _) (I1.hok.fresh (Nat.le_refl _))
def iRng2 (ta : TA) : TI := fun σ H R => ta σ H fun vs H1 => ∃ i j : Int, vs = [.int i, .int j] ∧ (-(2 ^ 62) ≤ i ∧ i < 2 ^ 62 ∧ -(2 ^ 62) ≤ j ∧ j < 2 ^ 62) ∧ R (Itr i (j - i).toNat) H1
theorem pi_range2 {a b : Expr} {ta : TA} {p pos : Pos} (hg : Gl X "range") (hm : X.mg "range" = none) (ha : PA X [a, b] ta) (hs : starEach [a, b] X.env = [(false, eval a X.env), (false, eval b X.env)] := by rfl) (hs2 : starEach [b] X.env = [(false, eval b X.env)] := by rfl) :
    PI X tg (.Call (.Name "range" p) [a, b] [] pos) (iRng2 ta) := by
  unfold PA at *; unfold PI at *
  exact by
    intro pins s σ H R I h
    refine Call_ (ld_blt I hg hm boot_range (PyProof.Rows.callWith_type1 (thn (ha pos pins s σ H _ I h) fun us s1 ⟨vs, H1, I1, r1, q1⟩ => ?_) (by rw [hs, hs2]) (by rw [hs2]; rfl)))
    obtain ⟨i, j, e, ⟨q1, q2, q3, q4⟩, q⟩ := q1
    subst e
    cases r1 with
    | cons r rr =>
      cases rr with
      | cons r' rr =>
        cases rr
        obtain ⟨t, rfl⟩ := r
        obtain ⟨t', rfl⟩ := r'
        exact call_range_2 (range_it I1 q1 q2 q3 q4 q)
def tFor (wi : TI) (g : TG) (tb : TS) : TS := fun D σ H => wi σ H fun J H1 => ∃ W : Nat → Nat → St → Hp → Prop, (∃ m, W 0 m σ H1) ∧ ∀ i m σ H, W i m σ H →
  (J.stop i H ∧ D.nx σ H) ∨ (J.go i H ∧ ∃ N : St → Hp → Prop, (∀ σ' H', N σ' H' → ∃ m', m' < m ∧ W (i + 1) m' σ' H') ∧ ∀ x H', J.yld i H x H' → g x σ H' fun σ2 H2 => tb { D with nx := N, ct := N, bk := D.nx } σ2 H2)
def pinsAt (fp : List Addr) (h : Heap) : List (Addr × Obj) := fp.filterMap fun b => (h.get? b).map fun o => (b, o)
theorem mem_pinsAt {fp : List Addr} {h : Heap} {b : Addr} {o : Obj} (hb : b ∈ fp) (e : h.get? b = some o) : (b, o) ∈ pinsAt fp h := List.mem_filterMap.mpr ⟨b, hb, by rw [e]; rfl⟩
theorem of_pinsAt {fp : List Addr} {h : Heap} {p : Addr × Obj} (hp : p ∈ pinsAt fp h) : p.1 ∈ fp ∧ h.get? p.1 = some p.2 := by
  obtain ⟨b, hb, e⟩ := List.mem_filterMap.mp hp
  cases q : h.get? b with
  | none => rw [q] at e; cases e
  | some o =>
    rw [q] at e
    have e' : (b, o) = p := Option.some.inj e
    subst e'
    exact ⟨hb, q⟩
theorem Inv.pinned {pins : List (Addr × Obj)} {σ : St} {H : Hp} {s : Shared} {fp : List Addr} (I : Inv X pins σ H s) (hf : ∀ b ∈ fp, FpOk X pins H b) (ho : ∀ b ∈ fp, ∃ o, s.heap.get? b = some o ∧ ∀ v, o.data ≠ .cell v) : Inv X (pins ++ pinsAt fp s.heap) σ H s :=
  I.pins_of fun p hp => (List.mem_append.mp hp).elim (fun z => I.pin p (List.mem_append_right _ z)) fun z => by
    obtain ⟨hb, e⟩ := of_pinsAt z
    obtain ⟨f0, f1, f2, _⟩ := hf p.1 hb
    obtain ⟨o, e', d⟩ := ho p.1 hb
    rw [e] at e'; cases e'
    exact ⟨e, f0, f1, f2, d⟩
theorem Inv.unpinned {pins pl : List (Addr × Obj)} {σ : St} {H : Hp} {s : Shared} (I : Inv X (pins ++ pl) σ H s) : Inv X pins σ H s := I.pins_of fun p hp => I.pin p (List.mem_append_right _ (List.mem_append_left _ hp))
theorem ps_for {iter : Expr} {body : List Stmt} {wi : TI} {g : TG} {tb : TS} {pos : Pos} (hp : PassesOwn (model X.prog X.w) X.A X.env X.xe) (hc : X.calm = true) (hi : PI X tg iter wi) (hg : PG X tg g) (hb : PSs X body tb)
    (hs : ∀ x, foldedSetIterable iter X.env x = pure x := by intro _; rfl) : PS X (.For tg iter body [] pos) (tFor wi g tb) := by
  unfold PS at *; unfold PSs at *; unfold PG at *; unfold PI at *
  exact by
    intro pins s σ H D I h
    refine wpAny_For (thn (hi pins s σ H _ I h) fun v s1 h1 => thn h1 fun itv s2 h2 => ?_) hs
    obtain ⟨it, fp, tn, J, H2, e, I2, T, st2, f2, W, ⟨m0, w0⟩, turn⟩ := h2
    subst e
    -- what stays true of the iterator's objects through the loop
    have stat : ∀ {H' : Hp}, (∀ b ∈ fp, H' b = none) → ∀ b ∈ fp, FpOk X pins H' b := fun hn b hb => ⟨hn b hb, (f2 b hb).2⟩
    refine codeAny_forLoop_any (fun n s' => ∃ i σ' H', Inv X pins σ' H' s' ∧ tn i s'.heap ∧ (∀ b ∈ fp, H' b = none) ∧ W i n σ' H') ?_ m0 ⟨0, σ, H2, I2, st2, fun b hb => (f2 b hb).1, w0⟩
    rintro n s3 ⟨i, σ3, H3, I3, st3, fr3, w3⟩
    rcases turn i n σ3 H3 w3 with ⟨stop, qn⟩ | ⟨go, N, hN, step⟩
    · refine wpAny_passesOwn hp (thn (T.done X rfl rfl rfl hc i pins s3 σ3 H3 X.xe I3 (stat fr3) st3 stop) fun r s4 ⟨hr, I4⟩ => ?_)
      subst hr
      exact wpAny_execs_nil ⟨σ3, H3, I4, qn⟩
    · refine wpAny_passesOwn hp (thn (T.item X rfl rfl rfl hc i pins s3 σ3 H3 X.xe I3 (stat fr3) st3 go) fun r s4 ⟨u, hr, h4⟩ => ?_)
      subst hr
      refine wpAny_passesOwn hp (thn h4 fun _ s5 ⟨x, H5, I5, r5, y5, st5, fr5⟩ => ?_)
      have I5' := I5.pinned (stat fr5) (T.obj _ _ st5)
      refine wpAny_passesOwn hp (thn (hg _ s5 σ3 H5 x u _ I5' r5 (step x H5 y5)) fun _ s6 ⟨σ6, H6, I6, q6⟩ => ?_)
      refine wpAny_passesOwn hp (thn (hb _ s6 σ6 H6 _ I6 q6) fun f s7 q7 => ?_)
      have again : ∀ {σ7 : St} {H7 : Hp}, Inv X (pins ++ pinsAt fp s5.heap) σ7 H7 s7 → N σ7 H7 → ∃ m, m < n ∧ ∃ i σ' H', Inv X pins σ' H' s7 ∧ tn i s7.heap ∧ (∀ b ∈ fp, H' b = none) ∧ W i m σ' H' := fun {σ7 H7} I7 n7 => by
        obtain ⟨m', hm, w7⟩ := hN σ7 H7 n7
        refine ⟨m', hm, i + 1, σ7, H7, I7.unpinned, T.keep _ _ _ st5 fun b hb o e => (I7.pin (b, o) (List.mem_append_right _ (List.mem_append_right _ (mem_pinsAt hb e)))).1, fun b hb => ?_, w7⟩
        obtain ⟨o, e, d⟩ := T.obj _ _ st5 b hb
        exact (I7.pin (b, o) (List.mem_append_right _ (List.mem_append_right _ (mem_pinsAt hb e)))).2.1
      cases f with
      | next => obtain ⟨σ7, H7, I7, n7⟩ := q7; exact again I7 n7
      | cont => obtain ⟨σ7, H7, I7, n7⟩ := q7; exact again I7 n7
      | brk => obtain ⟨σ7, H7, I7, q7⟩ := q7; exact ⟨σ7, H7, I7.unpinned, q7⟩
      | ret v => obtain ⟨x7, σ7, H7, I7, r7, q7⟩ := q7; exact ⟨x7, σ7, H7, I7.unpinned, r7, q7⟩
end
theorem for_list {K : PySem.W.Frag} {a : Addr} {xs : List V} {g : TG} {tb : TS} {D : Ends} {σ : St} {H : Hp} (Pv : Nat → St → Hp → Prop) (h0 : Pv 0 σ H) (hl : ∀ i σ H, i ≤ xs.length → Pv i σ H → SqL K H a xs)
    (hs : ∀ i x σ H, xs[i]? = some x → Pv i σ H → g x σ H fun σ2 H2 => tb { D with nx := Pv (i + 1), ct := Pv (i + 1), bk := D.nx } σ2 H2) (hd : ∀ σ H, Pv xs.length σ H → D.nx σ H) :
    ∃ W : Nat → Nat → St → Hp → Prop, (∃ m, W 0 m σ H) ∧ ∀ i m σ H, W i m σ H →
      ((Itl K a).stop i H ∧ D.nx σ H) ∨ ((Itl K a).go i H ∧ ∃ N : St → Hp → Prop, (∀ σ' H', N σ' H' → ∃ m', m' < m ∧ W (i + 1) m' σ' H') ∧ ∀ x H', (Itl K a).yld i H x H' → g x σ H' fun σ2 H2 => tb { D with nx := N, ct := N, bk := D.nx } σ2 H2) := by
  refine ⟨fun i m σ H => m = xs.length - i ∧ i ≤ xs.length ∧ Pv i σ H, ⟨xs.length, by simp, Nat.zero_le _, h0⟩, ?_⟩
  rintro i m σ H ⟨rfl, hi, p⟩
  have q := hl i σ H hi p
  by_cases hlt : i < xs.length
  · refine .inr ⟨⟨xs, xs[i], q, by simp [hlt]⟩, Pv (i + 1), fun σ' H' p' => ⟨xs.length - (i + 1), by omega, rfl, hlt, p'⟩, fun x H' y => ?_⟩
    obtain ⟨e, y⟩ := y
    subst e
    exact hs i x σ _ (y xs q) p
  · have e : i = xs.length := by omega
    subst e
    exact .inl ⟨⟨xs, q, Nat.le_refl _⟩, hd σ H p⟩
theorem for_tup {K : PySem.W.Frag} {a : Addr} {xs : List V} {g : TG} {tb : TS} {D : Ends} {σ : St} {H : Hp} (Pv : Nat → St → Hp → Prop) (h0 : Pv 0 σ H) (hl : ∀ i σ H, i ≤ xs.length → Pv i σ H → SqT K H a xs)
    (hs : ∀ i x σ H, xs[i]? = some x → Pv i σ H → g x σ H fun σ2 H2 => tb { D with nx := Pv (i + 1), ct := Pv (i + 1), bk := D.nx } σ2 H2) (hd : ∀ σ H, Pv xs.length σ H → D.nx σ H) :
    ∃ W : Nat → Nat → St → Hp → Prop, (∃ m, W 0 m σ H) ∧ ∀ i m σ H, W i m σ H →
      ((Itt K a).stop i H ∧ D.nx σ H) ∨ ((Itt K a).go i H ∧ ∃ N : St → Hp → Prop, (∀ σ' H', N σ' H' → ∃ m', m' < m ∧ W (i + 1) m' σ' H') ∧ ∀ x H', (Itt K a).yld i H x H' → g x σ H' fun σ2 H2 => tb { D with nx := N, ct := N, bk := D.nx } σ2 H2) := by
  refine ⟨fun i m σ H => m = xs.length - i ∧ i ≤ xs.length ∧ Pv i σ H, ⟨xs.length, by simp, Nat.zero_le _, h0⟩, ?_⟩
  rintro i m σ H ⟨rfl, hi, p⟩
  have q := hl i σ H hi p
  by_cases hlt : i < xs.length
  · refine .inr ⟨⟨xs, xs[i], q, by simp [hlt]⟩, Pv (i + 1), fun σ' H' p' => ⟨xs.length - (i + 1), by omega, rfl, hlt, p'⟩, fun x H' y => ?_⟩
    obtain ⟨e, y⟩ := y
    subst e
    exact hs i x σ _ (y xs q) p
  · have e : i = xs.length := by omega
    subst e
    exact .inl ⟨⟨xs, q, Nat.le_refl _⟩, hd σ H p⟩
theorem for_range {lo : Int} {n : Nat} {g : TG} {tb : TS} {D : Ends} {σ : St} {H : Hp} (Pv : Nat → St → Hp → Prop) (h0 : Pv 0 σ H)
    (hs : ∀ i σ H, i < n → Pv i σ H → g (.int (lo + i)) σ H fun σ2 H2 => tb { D with nx := Pv (i + 1), ct := Pv (i + 1), bk := D.nx } σ2 H2) (hd : ∀ σ H, Pv n σ H → D.nx σ H) :
    ∃ W : Nat → Nat → St → Hp → Prop, (∃ m, W 0 m σ H) ∧ ∀ i m σ H, W i m σ H →
      ((Itr lo n).stop i H ∧ D.nx σ H) ∨ ((Itr lo n).go i H ∧ ∃ N : St → Hp → Prop, (∀ σ' H', N σ' H' → ∃ m', m' < m ∧ W (i + 1) m' σ' H') ∧ ∀ x H', (Itr lo n).yld i H x H' → g x σ H' fun σ2 H2 => tb { D with nx := N, ct := N, bk := D.nx } σ2 H2) := by
  refine ⟨fun i m σ H => m = n - i ∧ i ≤ n ∧ Pv i σ H, ⟨n, by simp, Nat.zero_le _, h0⟩, ?_⟩
  rintro i m σ H ⟨rfl, hi, p⟩
  by_cases hlt : i < n
  · refine .inr ⟨hlt, Pv (i + 1), fun σ' H' p' => ⟨n - (i + 1), by omega, rfl, hlt, p'⟩, fun x H' y => ?_⟩
    obtain ⟨e, y⟩ := y
    subst e y
    exact hs i σ _ hlt p
  · have e : i = n := by omega
    subst e
    exact .inl ⟨Nat.le_refl _, hd σ H p⟩
end L2
namespace L2
open PySem PySem.Spec PyProof.Rows
abbrev R2 := V → V → Hp → VK → Prop
@[irreducible] def OpR (X : Cx) (f : Value → Value → Sem Value) (r : R2) : Prop :=
  ∀ (pins : List (Addr × Obj)) (s : Shared) (σ : St) (H : Hp) (x y : V) (v u : Value) (Q : VK), Inv X pins σ H s → RelV x v → RelV y u → r x y H Q →
    wpAny (model X.prog X.w) X.A (f v u) (EP X pins σ Q) X.xe s
@[irreducible] def UnR (X : Cx) (f : Value → Sem Value) (r : V → Hp → VK → Prop) : Prop :=
  ∀ (pins : List (Addr × Obj)) (s : Shared) (σ : St) (H : Hp) (x : V) (v : Value) (Q : VK), Inv X pins σ H s → RelV x v → r x H Q →
    wpAny (model X.prog X.w) X.A (f v) (EP X pins σ Q) X.xe s
@[irreducible] def CallR (X : Cx) (f : Value) (r : List V → Hp → VK → Prop) : Prop :=
  ∀ (pins : List (Addr × Obj)) (s : Shared) (σ : St) (H : Hp) (xs : List V) (us : List Value) (Q : VK), Inv X pins σ H s → Vals xs us → r xs H Q →
    wpAny (model X.prog X.w) X.A (call f us) (EP X pins σ Q) X.xe s
@[irreducible] def TruR (X : Cx) (r : V → Hp → (Bool → Hp → Prop) → Prop) : Prop :=
  ∀ (pins : List (Addr × Obj)) (s : Shared) (σ : St) (H : Hp) (x : V) (v : Value) (Q : Bool → Hp → Prop), Inv X pins σ H s → RelV x v → r x H Q →
    wpAny (model X.prog X.w) X.A (truthy v) (TP X pins σ Q) X.xe s
def tOp (r : R2) (ta tb : TE) : TE := fun σ H Q => ta σ H fun x H1 => tb σ H1 fun y H2 => r x y H2 Q
def tUn (r : V → Hp → VK → Prop) (ta : TE) : TE := fun σ H Q => ta σ H fun x H1 => r x H1 Q
def rI (C : Int → Int → Prop) (g : Int → Int → V) : R2 := fun x y H Q => ∃ i j, x = .int i ∧ y = .int j ∧ C i j ∧ Q (g i j) H
def rI0 (g : Int → Int → V) : R2 := fun x y H Q => ∃ i j, x = .int i ∧ y = .int j ∧ Q (g i j) H
def rU (g : Int → V) : V → Hp → VK → Prop := fun x H Q => ∃ i, x = .int i ∧ Q (g i) H
section
variable {X : Cx} {a b c : Expr} {ta tb tc : TE} {pos : Pos}
theorem binT (ha : PE X a ta) (hb : PE X b tb) {pins : List (Addr × Obj)} {s : Shared} {σ : St} {H : Hp} {R : V → V → Hp → Prop} (I : Inv X pins σ H s)
    (h : ta σ H fun x H1 => tb σ H1 fun y H2 => R x y H2) {Q : Value → Shared → Prop} {f : Value → Value → Sem Value}
    (hf : ∀ v u s2 x y H2, Inv X pins σ H2 s2 → RelV x v → RelV y u → R x y H2 → wpAny (model X.prog X.w) X.A (f v u) Q X.xe s2) :
    wpAny (model X.prog X.w) X.A (eval a X.env) (fun v s₁ => wpAny (model X.prog X.w) X.A (eval b X.env) (fun u s₂ => wpAny (model X.prog X.w) X.A (f v u) Q X.xe s₂) X.xe s₁) X.xe s := by
  unfold PE at *
  exact by
    refine thn (ha pins s σ H _ I h) fun v s1 ⟨x, H1, I1, r1, q1⟩ => ?_
    refine thn (hb pins s1 σ H1 _ I1 q1) fun u s2 ⟨y, H2, I2, r2, q2⟩ => ?_
    exact hf v u s2 x y H2 I2 r1 r2 q2
theorem pe_op {op : Operator} {r : R2} (ho : OpR X (binaryOp op) r) (ha : PE X a ta) (hb : PE X b tb) : PE X (.BinOp a op b pos) (tOp r ta tb) := by
  unfold PE; unfold OpR at ho
  exact by
    intro pins s σ H Q I h
    exact wpAny_BinOp (binT ha hb I h fun v u s2 x y H2 I2 rx ry q => ho pins s2 σ H2 x y v u Q I2 rx ry q)
theorem pe_un {op : UnaryOp} {r : V → Hp → VK → Prop} (ho : UnR X (unaryOp op) r) (ha : PE X a ta) : PE X (.UnaryOp op a pos) (tUn r ta) := by
  unfold PE at *; unfold UnR at *
  exact by
    intro pins s σ H Q I h
    exact UnaryOp_ (thn (ha pins s σ H _ I h) fun v s1 ⟨x, H1, I1, r1, q1⟩ => ho pins s1 σ H1 x v Q I1 r1 q1)
theorem opI {f : Value → Value → Sem Value} {C : Int → Int → Prop} {g : Int → Int → Int}
    (rule : ∀ (i j : Int) (t u : Tok) (s : Shared) (Q : Value → Shared → Prop) (E : Value → Shared → Prop), C i j → Q (.int (g i j) s.toks) { s with toks := s.toks + 1 } → wpAny (model X.prog X.w) X.A (f (.int i t) (.int j u)) Q E s) :
    OpR X f (rI C fun i j => .int (g i j)) := by
  unfold OpR at *
  exact by
    intro pins s σ H x y v u Q I rx ry h
    obtain ⟨i, j, rfl, rfl, hc, q⟩ := h
    obtain ⟨t, rfl⟩ := rx
    obtain ⟨t', rfl⟩ := ry
    exact rule i j t t' s _ _ hc ⟨.int (g i j), H, I.tok _, ⟨_, rfl⟩, q⟩
theorem opI0 {f : Value → Value → Sem Value} {g : Int → Int → Int}
    (rule : ∀ (i j : Int) (t u : Tok) (s : Shared) (Q : Value → Shared → Prop) (E : Value → Shared → Prop), Q (.int (g i j) s.toks) { s with toks := s.toks + 1 } → wpAny (model X.prog X.w) X.A (f (.int i t) (.int j u)) Q E s) :
    OpR X f (rI0 fun i j => .int (g i j)) := by
  unfold OpR at *
  exact by
    intro pins s σ H x y v u Q I rx ry h
    obtain ⟨i, j, rfl, rfl, q⟩ := h
    obtain ⟨t, rfl⟩ := rx
    obtain ⟨t', rfl⟩ := ry
    exact rule i j t t' s _ _ ⟨.int (g i j), H, I.tok _, ⟨_, rfl⟩, q⟩
theorem opB0 {f : Value → Value → Sem Value} {g : Int → Int → Bool}
    (rule : ∀ (i j : Int) (t u : Tok) (s : Shared) (Q : Value → Shared → Prop) (E : Value → Shared → Prop), Q (.bool (g i j)) s → wpAny (model X.prog X.w) X.A (f (.int i t) (.int j u)) Q E s) :
    OpR X f (rI0 fun i j => .bl (g i j)) := by
  unfold OpR at *
  exact by
    intro pins s σ H x y v u Q I rx ry h
    obtain ⟨i, j, rfl, rfl, q⟩ := h
    obtain ⟨t, rfl⟩ := rx
    obtain ⟨t', rfl⟩ := ry
    exact rule i j t t' s _ _ ⟨.bl (g i j), H, I, rfl, q⟩
def CDiv (i j : Int) : Prop := 0 < j ∧ j < 1073741824
def CPow (i j : Int) : Prop := 0 ≤ j ∧ j ≤ 1000000 ∧ i.natAbs < 2 ^ 64
def CMul (i j : Int) : Prop := (-(2 ^ 64) < i ∧ i < 2 ^ 64) ∨ (-(2 ^ 64) < j ∧ j < 2 ^ 64)
theorem CMul.ok {i j : Int} (h : CMul i j) : IntMulOk i j := by
  rcases h with ⟨h1, h2⟩ | ⟨h1, h2⟩
  · exact .of_left (intBits_le_64 h1 h2)
  · exact .of_right (intBits_le_64 h1 h2)
theorem op_add : OpR X (binaryOp .Add) (rI0 fun i j => .int (i + j)) := by
  first
  | exact (opI0 fun _ _ _ _ _ _ _ q => add_int q)
  | (unfold OpR at *; exact (opI0 fun _ _ _ _ _ _ _ q => add_int q))
theorem op_sub : OpR X (binaryOp .Sub) (rI0 fun i j => .int (i - j)) := by
  first
  | exact (opI0 fun _ _ _ _ _ _ _ q => sub_int q)
  | (unfold OpR at *; exact (opI0 fun _ _ _ _ _ _ _ q => sub_int q))
theorem op_mul : OpR X (binaryOp .Mult) (rI CMul fun i j => .int (i * j)) := by
  first
  | exact (opI fun _ _ _ _ _ _ _ hc q => mul_int q hc.ok)
  | (unfold OpR at *; exact (opI fun _ _ _ _ _ _ _ hc q => mul_int q hc.ok))
theorem op_fdiv : OpR X (binaryOp .FloorDiv) (rI CDiv fun i j => .int (i / j)) := opI fun i j _ _ _ _ _ hc q => by
  have h1 : (0 : Int) < j := hc.1
  have h2 : j < 1073741824 := hc.2
  exact floordiv_int (by omega) (by rw [Int.fdiv_eq_ediv_of_nonneg i (by omega)]; exact q) (.inl (PyProof.noPylong_small (by omega)))
theorem op_mod : OpR X (binaryOp .Mod) (rI (fun _ j => 0 < j) fun i j => .int (i % j)) := opI fun i j _ _ _ _ _ hc q => by
  have h1 : (0 : Int) < j := hc
  exact mod_int' (by omega) (by rw [Int.fmod_eq_emod_of_nonneg i (by omega)]; exact q)
theorem op_pow : OpR X (binaryOp .Pow) (rI CPow fun i j => .int (i ^ j.toNat)) := by
  first
  | exact (opI fun _ _ _ _ _ _ _ hc q => pow_int_small hc.1 hc.2.1 hc.2.2 q)
  | (unfold OpR at *; exact (opI fun _ _ _ _ _ _ _ hc q => pow_int_small hc.1 hc.2.1 hc.2.2 q))
theorem unI {f : Value → Sem Value} {g : Int → Int}
    (rule : ∀ (i : Int) (t : Tok) (s : Shared) (Q : Value → Shared → Prop) (E : Value → Shared → Prop), Q (.int (g i) s.toks) { s with toks := s.toks + 1 } → wpAny (model X.prog X.w) X.A (f (.int i t)) Q E s) :
    UnR X f (rU fun i => .int (g i)) := by
  unfold UnR at *
  exact by
    intro pins s σ H x v Q I rx h
    obtain ⟨i, rfl, q⟩ := h
    obtain ⟨t, rfl⟩ := rx
    exact rule i t s _ _ ⟨.int (g i), H, I.tok _, ⟨_, rfl⟩, q⟩
theorem un_neg : UnR X (unaryOp .USub) (rU fun i => .int (-i)) := by
  first
  | exact (unI fun _ _ _ _ _ q => neg_int q)
  | (unfold UnR at *; exact (unI fun _ _ _ _ _ q => neg_int q))
end
def scal : V → V → Bool
  | .non, .non => true | .non, .int _ => true | .int _, .non => true | .non, .bl _ => true | .bl _, .non => true | .non, .str _ => true | .str _, .non => true
  | .int _, .int _ => true | .bl _, .bl _ => true | .str _, .str _ => true | .byt _, .byt _ => true
  | .int _, .str _ => true | .str _, .int _ => true | .bl _, .str _ => true | .str _, .bl _ => true
  | _, _ => false
def rEq : R2 := fun x y H Q => scal x y = true ∧ Q (.bl (decide (x = y))) H
def rNe : R2 := fun x y H Q => scal x y = true ∧ Q (.bl (!decide (x = y))) H
theorem dec_int {i j : Int} : decide (V.int i = V.int j) = (i == j) := by
  rw [Bool.eq_iff_iff]
  simp
theorem dec_bl {i j : Bool} : decide (V.bl i = V.bl j) = (i == j) := by
  rw [Bool.eq_iff_iff]
  simp
theorem dec_str {i j : Str} : decide (V.str i = V.str j) = (i == j) := by
  rw [Bool.eq_iff_iff]
  simp
theorem dec_byt {i j : Array UInt8} : decide (V.byt i = V.byt j) = (i.toList == j.toList) := by
  rw [Bool.eq_iff_iff]
  cases i
  cases j
  simp
section
variable {X : Cx} {a b c : Expr} {ta tb tc : TE} {pos : Pos}
theorem fin_bl {pins : List (Addr × Obj)} {σ : St} {H : Hp} {s : Shared} {Q : VK} {k k' : Bool} (I : Inv X pins σ H s) (q : Q (.bl k) H) (e : k = k') : EP X pins σ Q (.bool k') s := by
  subst e
  exact ⟨.bl k, H, I, rfl, q⟩
theorem op_eq : OpR X (compareOp .Eq) rEq := by
  unfold OpR at *
  exact by
    intro pins s σ H x y v u Q I rx ry h
    obtain ⟨hs, q⟩ := h
    cases x with
    | non =>
      cases rx
      cases y with
      | non => cases ry; exact PySem.EqNone.eq_none_none (fin_bl I q (by simp))
      | bl j => cases ry; exact PySem.EqNone.eq_none_bool (fin_bl I q (by simp))
      | int j => obtain ⟨t', rfl⟩ := ry; exact PySem.EqNone.eq_none_int (fin_bl I q (by simp))
      | str j => obtain ⟨t', rfl⟩ := ry; exact PySem.EqNone.eq_none_str (fin_bl I q (by simp))
      | _ => exact absurd (show false = true from hs) Bool.false_ne_true
    | bl i =>
      cases rx
      cases y with
      | non => cases ry; exact PySem.EqNone.eq_bool_none (fin_bl I q (by simp))
      | bl j => cases ry; exact eq_bool (fin_bl I q dec_bl)
      | str j => obtain ⟨t', rfl⟩ := ry; exact PySem.EqMixed.eq_bool_str (fin_bl I q (by simp))
      | _ => exact absurd (show false = true from hs) Bool.false_ne_true
    | int i =>
      obtain ⟨t, rfl⟩ := rx
      cases y with
      | non => cases ry; exact PySem.EqNone.eq_int_none (fin_bl I q (by simp))
      | int j => obtain ⟨t', rfl⟩ := ry; exact eq_int (fin_bl I q dec_int)
      | str j => obtain ⟨t', rfl⟩ := ry; exact PySem.EqMixed.eq_int_str (fin_bl I q (by simp))
      | _ => exact absurd (show false = true from hs) Bool.false_ne_true
    | str i =>
      obtain ⟨t, rfl⟩ := rx
      cases y with
      | non => cases ry; exact PySem.EqNone.eq_str_none (fin_bl I q (by simp))
      | bl j => cases ry; exact PySem.EqMixed.eq_str_bool (fin_bl I q (by simp))
      | int j => obtain ⟨t', rfl⟩ := ry; exact PySem.EqMixed.eq_str_int (fin_bl I q (by simp))
      | str j => obtain ⟨t', rfl⟩ := ry; exact eq_str (fin_bl I q dec_str)
      | _ => exact absurd (show false = true from hs) Bool.false_ne_true
    | byt i =>
      obtain ⟨t, rfl⟩ := rx
      cases y with
      | byt j => obtain ⟨t', rfl⟩ := ry; exact PySem.W.eq_bytes (fin_bl I q dec_byt)
      | _ => exact absurd (show false = true from hs) Bool.false_ne_true
    | _ => cases y <;> exact absurd (show false = true from hs) Bool.false_ne_true
theorem op_ne : OpR X (compareOp .NotEq) rNe := by
  unfold OpR at *
  exact by
    intro pins s σ H x y v u Q I rx ry h
    obtain ⟨hs, q⟩ := h
    cases x with
    | non =>
      cases rx
      cases y with
      | non => cases ry; exact PySem.EqNone.ne_none_none (fin_bl I q (by simp))
      | bl j => cases ry; exact PySem.EqNone.ne_none_bool (fin_bl I q (by simp))
      | int j => obtain ⟨t', rfl⟩ := ry; exact PySem.EqNone.ne_none_int (fin_bl I q (by simp))
      | str j => obtain ⟨t', rfl⟩ := ry; exact PySem.EqNone.ne_none_str (fin_bl I q (by simp))
      | _ => exact absurd (show false = true from hs) Bool.false_ne_true
    | bl i =>
      cases rx
      cases y with
      | non => cases ry; exact PySem.EqNone.ne_bool_none (fin_bl I q (by simp))
      | bl j => cases ry; exact ne_bool (fin_bl I q (congrArg not dec_bl))
      | str j => obtain ⟨t', rfl⟩ := ry; exact PySem.EqMixed.ne_bool_str (fin_bl I q (by simp))
      | _ => exact absurd (show false = true from hs) Bool.false_ne_true
    | int i =>
      obtain ⟨t, rfl⟩ := rx
      cases y with
      | non => cases ry; exact PySem.EqNone.ne_int_none (fin_bl I q (by simp))
      | int j => obtain ⟨t', rfl⟩ := ry; exact ne_int (fin_bl I q (congrArg not dec_int))
      | str j => obtain ⟨t', rfl⟩ := ry; exact PySem.EqMixed.ne_int_str (fin_bl I q (by simp))
      | _ => exact absurd (show false = true from hs) Bool.false_ne_true
    | str i =>
      obtain ⟨t, rfl⟩ := rx
      cases y with
      | non => cases ry; exact PySem.EqNone.ne_str_none (fin_bl I q (by simp))
      | bl j => cases ry; exact PySem.EqMixed.ne_str_bool (fin_bl I q (by simp))
      | int j => obtain ⟨t', rfl⟩ := ry; exact PySem.EqMixed.ne_str_int (fin_bl I q (by simp))
      | str j => obtain ⟨t', rfl⟩ := ry; exact ne_str (fin_bl I q (congrArg not dec_str))
      | _ => exact absurd (show false = true from hs) Bool.false_ne_true
    | byt i =>
      obtain ⟨t, rfl⟩ := rx
      cases y with
      | byt j => obtain ⟨t', rfl⟩ := ry; exact PySem.W.ne_bytes (fin_bl I q (congrArg not dec_byt))
      | _ => exact absurd (show false = true from hs) Bool.false_ne_true
    | _ => cases y <;> exact absurd (show false = true from hs) Bool.false_ne_true
theorem op_lt : OpR X (compareOp .Lt) (rI0 fun i j => .bl (decide (i < j))) := by
  first
  | exact (opB0 fun _ _ _ _ _ _ _ q => lt_int q)
  | (unfold OpR at *; exact (opB0 fun _ _ _ _ _ _ _ q => lt_int q))
theorem op_le : OpR X (compareOp .LtE) (rI0 fun i j => .bl (decide (i ≤ j))) := by
  first
  | exact (opB0 fun _ _ _ _ _ _ _ q => le_int q)
  | (unfold OpR at *; exact (opB0 fun _ _ _ _ _ _ _ q => le_int q))
theorem op_gt : OpR X (compareOp .Gt) (rI0 fun i j => .bl (decide (j < i))) := by
  first
  | exact (opB0 fun _ _ _ _ _ _ _ q => gt_int q)
  | (unfold OpR at *; exact (opB0 fun _ _ _ _ _ _ _ q => gt_int q))
theorem op_ge : OpR X (compareOp .GtE) (rI0 fun i j => .bl (decide (j ≤ i))) := by
  first
  | exact (opB0 fun _ _ _ _ _ _ _ q => ge_int q)
  | (unfold OpR at *; exact (opB0 fun _ _ _ _ _ _ _ q => ge_int q))
theorem OpR.or {f : Value → Value → Sem Value} {r r' : R2} (h : OpR X f r) (h' : OpR X f r') : OpR X f (fun x y H Q => r x y H Q ∨ r' x y H Q) := by
  unfold OpR at *
  exact by
    intro pins s σ H x y v u Q I rx ry q
    rcases q with q | q
    · exact h pins s σ H x y v u Q I rx ry q
    · exact h' pins s σ H x y v u Q I rx ry q
theorem nomark (b : Expr) {op : CmpOp} (h : op ≠ .In := by decide) (h2 : op ≠ .NotIn := by decide) : behindInMarks op b = false := by
  have e1 : (op == CmpOp.In) = false := by cases op <;> first | rfl | exact absurd rfl h
  have e2 : (op == CmpOp.NotIn) = false := by cases op <;> first | rfl | exact absurd rfl h2
  cases b <;> simp [behindInMarks, e1, e2]
theorem pe_cmpR {op : CmpOp} {r : R2} (ho : OpR X (compareOp op) r) (ha : PE X a ta) (hb : PE X b tb) (hm : behindInMarks op b = false) : PE X (.Compare a [op] [b] pos) (tOp r ta tb) := by
  unfold PE; unfold OpR at ho
  exact by
    intro pins s σ H Q I h
    exact wpAny_Compare1 (binT ha hb I h fun v u s2 x y H2 I2 rx ry q => ho pins s2 σ H2 x y v u Q I2 rx ry q) hm
def tTest (t : TE) : TT := fun σ H Q => t σ H fun x H' => ∃ k, x = .bl k ∧ Q k H'
theorem pt_cmpR {op : CmpOp} {r : R2} (ho : OpR X (compareOp op) r) (ha : PE X a ta) (hb : PE X b tb) (hm : behindInMarks op b = false) : PT X (.Compare a [op] [b] pos) (tTest (tOp r ta tb)) := by
  unfold PE at *; unfold PT at *; unfold OpR at *
  exact by
    intro pins s σ H Q I h
    refine wpAny_isTrue_Compare1 (thn (ha pins s σ H _ I h) fun v s1 ⟨x, H1, I1, r1, q1⟩ => thn (hb pins s1 σ H1 _ I1 q1) fun u s2 ⟨y, H2, I2, r2, q2⟩ =>
      thn (ho pins s2 σ H2 x y v u _ I2 r1 r2 q2) fun c s3 ⟨z, H3, I3, r3, k, e, q3⟩ => ?_) hm
    subst e
    cases r3
    exact wpAny_truthy_bool ⟨H3, I3, q3⟩
def tChain (r r' : R2) (ta tb tc : TE) : TE := fun σ H Q => ta σ H fun x H1 => tb σ H1 fun y H2 => r x y H2 fun z H3 => ∃ k, z = .bl k ∧
  (if k = true then tc σ H3 fun w' H4 => r' y w' H4 Q else Q (.bl false) H3)
theorem pe_chain {op op' : CmpOp} {r r' : R2} (ho : OpR X (compareOp op) r) (ho' : OpR X (compareOp op') r') (ha : PE X a ta) (hb : PE X b tb) (hc : PE X c tc)
    (hm : lastMarks [op, op'] [b, c] = false := by with_unfolding_all rfl) : PE X (.Compare a [op, op'] [b, c] pos) (tChain r r' ta tb tc) := by
  unfold PE at *; unfold OpR at *
  exact by
    intro pins s σ H Q I h
    refine Compare_chain (thn (ha pins s σ H _ I h) fun v s1 ⟨x, H1, I1, r1, q1⟩ => chain_link (thn (hb pins s1 σ H1 _ I1 q1) fun u s2 ⟨y, H2, I2, r2, q2⟩ =>
      thn (ho pins s2 σ H2 x y v u _ I2 r1 r2 q2) fun d s3 ⟨z, H3, I3, r3, k, e, q3⟩ => ?_)) hm
    subst e
    cases r3
    refine wpAny_truthy_bool ?_
    cases k with
    | false => exact ite_ff ⟨.bl false, H3, I3, rfl, q3⟩
    | true => exact ite_tt (chain_last (thn (hc pins s3 σ H3 _ I3 q3) fun w' s4 ⟨z', H4, I4, r4, q4⟩ => ho' pins s4 σ H4 y z' u w' Q I4 r2 r4 q4))
theorem pt_chain {op op' : CmpOp} {r r' : R2} (ho : OpR X (compareOp op) r) (ho' : OpR X (compareOp op') r') (ha : PE X a ta) (hb : PE X b tb) (hc : PE X c tc)
    (hm : lastMarks [op, op'] [b, c] = false := by with_unfolding_all rfl) : PT X (.Compare a [op, op'] [b, c] pos) (tTest (tChain r r' ta tb tc)) := by
  unfold PE at *; unfold PT at *; unfold OpR at *
  exact by
    intro pins s σ H Q I h
    refine isTrue_chain (thn (ha pins s σ H _ I h) fun v s1 ⟨x, H1, I1, r1, q1⟩ => test_link (thn (hb pins s1 σ H1 _ I1 q1) fun u s2 ⟨y, H2, I2, r2, q2⟩ =>
      thn (ho pins s2 σ H2 x y v u _ I2 r1 r2 q2) fun d s3 ⟨z, H3, I3, r3, k, e, q3⟩ => ?_)) hm
    subst e
    cases r3
    refine wpAny_truthy_bool ?_
    cases k with
    | false =>
      obtain ⟨k', e', q'⟩ := q3
      cases e'
      exact ite_ff ⟨H3, I3, q'⟩
    | true =>
      refine ite_tt (test_last (thn (hc pins s3 σ H3 _ I3 q3) fun w' s4 ⟨z', H4, I4, r4, q4⟩ => thn (ho' pins s4 σ H4 y z' u w' _ I4 r2 r4 q4) fun d' s5 ⟨z2, H5, I5, r5, k2, e2, q5⟩ => ?_))
      subst e2
      cases r5
      exact wpAny_truthy_bool ⟨H5, I5, q5⟩
def TruV (K : PySem.W.Frag) (x : V) (H : Hp) (k : Bool) : Prop :=
  match x with
  | .non => k = false
  | .bl b => k = b
  | .int i => k = (i != 0)
  | .str y => y.length ≤ sizeLine ∧ k = ((y.length : Int) != 0)
  | .byt y => y.size ≤ sizeLine ∧ k = ((y.size : Int) != 0)
  | .ref p => (∃ xs, SqL K H p xs ∧ k = !xs.isEmpty) ∨ (∃ xs, SqT K H p xs ∧ k = !xs.isEmpty) ∨ ∃ kvs, H p = some (.dK kvs) ∧ k = !kvs.isEmpty
  | _ => False
theorem isEmpty_kv {κ : Type} {kvs : List (κ × V)} {vs : List (κ × Value)} (r : KV kvs vs) : (!vs.isEmpty) = !kvs.isEmpty := by
  cases r <;> rfl
theorem isEmpty_of {xs : List V} {its : List Value} (r : Vals xs its) : (!its.toArray.isEmpty) = !xs.isEmpty := by
  cases r <;> simp
theorem line63 : (sizeLine : Nat) < 2 ^ 63 := by rw [sizeLine_eq]; decide
theorem tru_ok : TruR X (fun x H Q => ∃ k, TruV X.K x H k ∧ Q k H) := by
  unfold TruR at *
  exact by
    intro pins s σ H x v Q I rx h
    obtain ⟨k, e, q⟩ := h
    have hl := line63
    have hs : sizeLine = 16777216 := sizeLine_eq
    cases x with
    | non =>
      cases rx
      have e' : k = false := e
      subst e'
      exact truthy_none ⟨H, I, q⟩
    | bl b =>
      cases rx
      have e' : k = b := e
      subst e'
      exact wpAny_truthy_bool ⟨H, I, q⟩
    | int i =>
      obtain ⟨t, rfl⟩ := rx
      have e' : k = (i != 0) := e
      subst e'
      exact PySem.P.truthy_int ⟨H, I, q⟩
    | str y =>
      obtain ⟨t, rfl⟩ := rx
      obtain ⟨hy, e'⟩ : y.length ≤ sizeLine ∧ k = ((y.length : Int) != 0) := e
      subst e'
      exact PySem.P.truthy_str (by omega) ⟨H, I.tok _, q⟩
    | byt y =>
      obtain ⟨t, rfl⟩ := rx
      obtain ⟨hy, e'⟩ : y.size ≤ sizeLine ∧ k = ((y.size : Int) != 0) := e
      subst e'
      exact PySem.W.truthy_bytes (by omega) ⟨H, I.tok _, q⟩
    | ref p =>
      cases rx
      have e' : (∃ xs, SqL X.K H p xs ∧ k = !xs.isEmpty) ∨ (∃ xs, SqT X.K H p xs ∧ k = !xs.isEmpty) ∨ ∃ kvs, H p = some (.dK kvs) ∧ k = !kvs.isEmpty := e
      rcases e' with ⟨xs, hx, e'⟩ | ⟨xs, hx, e'⟩ | ⟨kvs, hx, e'⟩
      · subst e'
        obtain ⟨its, r, pl, hz⟩ := I.list hx
        have hlen := r.length
        exact wpAny_truthy_list pl.isList (by simp only [List.size_toArray]; omega) ⟨H, I.tok _, by rw [isEmpty_of r]; exact q⟩
      · subst e'
        obtain ⟨its, r, pl, hz⟩ := I.tuple hx
        have hlen := r.length
        exact truthy_tuple pl (by simp only [List.size_toArray]; omega) ⟨H, I.tok _, by rw [isEmpty_of r]; exact q⟩
      · subst e'
        obtain ⟨hz, hS, vs, r, m⟩ : kvs.length ≤ sizeLine ∧ (p == sysModules) = false ∧ ∃ vs, KV kvs vs ∧ s.heap.DictOf (mixKind X.prog X.w) p vs := I.hok p _ hx
        have hlen : kvs.length = vs.length := Paired.length r
        exact wpAny_truthy_dict hS m (by omega) ⟨H, I.tok _, by rw [isEmpty_kv r]; exact q⟩
    | _ => exact (show False from e).elim
theorem pt_truth (ha : PE X a ta) (he : ∀ whole, isTrue a X.env whole = (do let v ← whole; standAt a.pos; holding [v] (truthy v))) :
    PT X a (fun σ H Q => ta σ H fun x H' => ∃ k, TruV X.K x H' k ∧ Q k H') := by
  unfold PE at *; unfold PT at *; have tru_ok := tru_ok (X := X); unfold TruR at tru_ok
  exact by
    intro pins s σ H Q I h
    exact isTrue_plain (thn (ha pins s σ H _ I h) fun v s1 ⟨x, H1, I1, r1, q1⟩ => tru_ok pins s1 σ H1 x v Q I1 r1 q1) (he _)
theorem vals1 {x : V} {us : List Value} (r : Vals [x] us) : ∃ u, us = [u] ∧ RelV x u := by
  cases r with
  | cons r1 r2 => cases r2; exact ⟨_, rfl, r1⟩
theorem vals2 {x y : V} {us : List Value} (r : Vals [x, y] us) : ∃ u w', us = [u, w'] ∧ RelV x u ∧ RelV y w' := by
  cases r with
  | cons r1 r2 =>
    cases r2 with
    | cons r3 r4 => cases r4; exact ⟨_, _, rfl, r1, r3⟩
theorem call_min2 (hc : X.calm = true) : CallR X (.builtin "min") (fun xs H Q => ∃ i j, xs = [.int i, .int j] ∧ Q (.int (if j < i then j else i)) H) := by
  unfold CallR at *
  exact by
    intro pins s σ H xs us Q I r h
    obtain ⟨i, j, rfl, q⟩ := h
    obtain ⟨u, w', rfl, ⟨t, rfl⟩, ⟨t', rfl⟩⟩ := vals2 r
    refine min_two_ints (I.ok.hd hc) fun h' tk k => ⟨_, H, I.kept k, ?_, q⟩
    by_cases hj : j < i
    · rw [if_pos hj, if_pos hj]; exact ⟨_, rfl⟩
    · rw [if_neg hj, if_neg hj]; exact ⟨_, rfl⟩
theorem call_int1 : CallR X (.type "int") (fun xs H Q => (∃ i, xs = [.int i] ∧ Q (.int i) H) ∨ ∃ k, xs = [.bl k] ∧ Q (.int (if k then 1 else 0)) H) := by
  unfold CallR at *
  exact by
    intro pins s σ H xs us Q I r h
    rcases h with ⟨i, rfl, q⟩ | ⟨k, rfl, q⟩
    · obtain ⟨u, rfl, t, rfl⟩ := vals1 r
      exact call_int_int ⟨.int i, H, I, ⟨_, rfl⟩, q⟩
    · obtain ⟨u, rfl, r1⟩ := vals1 r
      cases r1
      exact call_int_bool ⟨.int (if k then 1 else 0), H, I.tok _, ⟨_, rfl⟩, q⟩
end
end L2
namespace L2
open PySem PySem.Spec PyProof.Rows
structure ObjM (h : Heap) (x dx C : Addr) (mA : Str → Option Value) : Prop where
  obj : h.get? x = some (PySem.W.instObj C dx)
  ns : h.Ns1 dx mA
  ne : dx ≠ x
theorem lookIn_ns {h : Heap} {dx : Addr} {mA : Str → Option Value} (n : h.Ns1 dx mA) : ∃ od, h.get? dx = some od ∧ ∀ name, PySem.W.lookIn name od = some (mA name) := by
  obtain ⟨o, es, ep, ho, hd, hk, _, hm⟩ := n
  refine ⟨o, ho, fun name => ?_⟩
  have e := hm name
  unfold nsFind findBy at e
  rw [← Array.find?_toList] at e
  unfold PySem.W.lookIn
  rw [hd]
  dsimp only
  split
  · rename_i y q
    rw [q] at e
    exact congrArg some e
  · rename_i q
    rw [q] at e
    have a : es.toList.any (·.refKey) = false := by
      rw [List.any_eq_false]
      intro y hy
      obtain ⟨z, t, hkey⟩ := hk y (Array.mem_toList_iff.mp hy)
      simp [DictEntry.refKey, hkey]
    have a' : ¬ es.toList.any (·.refKey) = true := by rw [a]; exact Bool.false_ne_true
    rw [if_neg a']
    exact congrArg some e
theorem ObjM.look {h : Heap} {x dx C : Addr} {mA : Str → Option Value} (I : ObjM h x dx C mA) : ∃ od, PySem.W.InstAt h x (PySem.W.instObj C dx) C (some od) ∧ ∀ name, PySem.W.lookIn name od = some (mA name) :=
  let ⟨od, ho, hl⟩ := lookIn_ns I.ns
  ⟨od, ⟨I.obj, rfl, rfl, ho⟩, hl⟩
section
variable {prog : Program} {w : World} {A : Around} {E : Value → Shared → Prop} {s : Shared} {K : PySem.W.Frag} {x dx C f : Addr} {mA : Str → Option Value} {name : Str} {v : Value}
theorem get_map {expr : Bool} {Q : Value → Shared → Prop} (X : K.In s.heap) (I : ObjM s.heap x dx C mA) (hg : PySem.W.plainGet K C name = true) (hh : PySem.W.hasDictIn K C = true)
    (ha : PySem.W.findIn K (.ref C) name = some none) (hv : mA name = some v) (hv' : PySem.W.handedIn v = true) (h : Q v { s with toks := s.toks + 1 }) :
    wpAny (model prog w) A (getAttr (.ref x) name expr) Q E s := by
  obtain ⟨od, J, hl⟩ := I.look
  exact PySem.W.get_value X J (PySem.W.plainGet_of hg).1 (PySem.W.findObj_own hh ha rfl (by rw [hl, hv])) hv' h
theorem get_meth {pl : Sem Bool} {Q : Value × List Value → Shared → Prop} (X : K.In s.heap) (I : ObjM s.heap x dx C mA) (hg : PySem.W.plainGet K C name = true)
    (hf : PySem.W.findIn K (.ref C) name = some (some (.ref f))) (ht : PySem.W.isFn K (.ref f) = true) (hv : mA name = none) (h : Q (.ref f, [.ref x]) s) :
    wpAny (model prog w) A (getMethod (.ref x) name pl) Q E s := by
  obtain ⟨od, J, hl⟩ := I.look
  exact PySem.W.method_fn X J (PySem.W.plainGet_of hg).1 (PySem.W.plainGet_of hg).2 hf (beq_iff_eq.mp ht) (by show (PySem.W.lookIn name od).map (·.isSome) = some false; rw [hl, hv]; rfl) h
theorem set_map {ns : List Str} {Q : Unit → Shared → Prop} (X : K.In s.heap) (I : ObjM s.heap x dx C mA)
    (hs : PySem.W.findIn K (.ref C) "__setattr__" = some (some (.builtin "object.__setattr__"))) (hp : PySem.W.plainOver K C = true) (ht : PySem.W.takerIn K C name = some none) (hh : PySem.W.hasDictIn K C = true)
    (hw : PySem.Within mA ns) (hsz : ns.length ≤ sizeLine)
    (h : ∀ h', ObjM h' x dx C (fun y => if y = name then some v else mA y) → Heap.SameBut dx s.heap h' → Q () { s with heap := h', toks := s.toks + 2 }) :
    wpAny (model prog w) A (setAttr (.ref x) name v) Q E s := by
  obtain ⟨od, J, hl⟩ := I.look
  refine PySem.W.set_plain X J hs (PySem.W.osa_open (s := { s with toks := s.toks + 1 }) (r := none) X J hp ht fun b => ?_)
  obtain ⟨cd, hc, hd'⟩ := PySem.W.any_some hh
  have hx : s.heap.get? x = some ⟨.ref C, some dx, .plain, #[]⟩ := I.obj
  refine wpAny_bind (wpAny_pure (wpAny_bind (wpAny_bind (wpAny_loadPart hx (wpAny_bind (PySem.W.Looks.here (s := { s with toks := s.toks + 1 }) (PySem.W.looks_clsIn X hc) ?_))))))
  rw [hd']
  refine wpAny_pure (a := some dx) (wpAny_bind (wpAny_pure (wpAny_bind ?_)))
  refine wpAny_nsSet1 (s := { s with toks := s.toks + 1 }) I.ns fun h' hn2 hs2 => ?_
  obtain ⟨oD, esD, epD, hoD, hdD, hcD⟩ := hn2.count (PySem.Within.cons name v hw)
  refine wpAny_bind (wpAny_lookBehind hoD (by rw [hdD]; exact pastItsLine_dict (Nat.le_trans hcD (by rw [List.length_cons]; omega))) ?_)
  exact wpAny_pure (h _ ⟨(hs2.2 _ (Ne.symm I.ne)).trans I.obj, hn2, I.ne⟩ hs2)
theorem make_map {R : Result → Shared → Prop} {vs : List Value} {kw : List (Str × Value)} (X : K.In s.heap) (hm : PySem.W.makesIn K C = true)
    (hi : PySem.W.findIn K (.ref C) "__init__" = some (some (.ref f))) (hf : PySem.W.typeIn K (.ref f) = some (.type "function"))
    (h : codeAny (model prog w) (A.under (.builtin "type.__call__" ⟨.ref C :: vs, kw⟩)) (.call (.ref f) ⟨.ref (s.heap.objs.size + 1) :: vs, kw⟩) (PySem.W.InitBack (s.heap.objs.size + 1) R)
      { s with heap := (s.heap.push PySem.W.emptyDict).push (PySem.W.instObj C s.heap.objs.size) }) :
    codeAny (model prog w) A (.call (.ref C) ⟨vs, kw⟩) R s := by
  obtain ⟨hh, g, d, t, os⟩ := s
  exact PySem.W.make_core (PySem.W.makes_of X hm) (PySem.W.looks_findIn X hi) (fun self => PySem.W.bind_fn X self hf) (.inl rfl) h
end
def putF (f : Str) (v : V) : List (Str × V) → List (Str × V)
  | [] => [(f, v)]
  | (g, x) :: r => if g = f then (g, v) :: r else (g, x) :: putF f v r
theorem lookup_putF (f g : Str) (v : V) : ∀ fs : List (Str × V), (putF f v fs).lookup g = if g = f then some v else fs.lookup g
  | [] => by
    show List.lookup g [(f, v)] = _
    by_cases h : g = f
    · have hb : (g == f) = true := beq_iff_eq.mpr h
      simp only [List.lookup, hb, if_pos h]
    · have hb : (g == f) = false := beq_eq_false_iff_ne.mpr h
      simp only [List.lookup, hb, if_neg h]
  | (k, x) :: r => by
    have ih := lookup_putF f g v r
    rw [show putF f v ((k, x) :: r) = (if k = f then (k, v) :: r else (k, x) :: putF f v r) from rfl]
    by_cases hk : k = f
    · rw [if_pos hk]
      by_cases h : g = k
      · have hb : (g == k) = true := beq_iff_eq.mpr h
        simp only [List.lookup, hb, if_pos (h.trans hk)]
      · have hb : (g == k) = false := beq_eq_false_iff_ne.mpr h
        simp only [List.lookup, hb, if_neg (fun e : g = f => h (e.trans hk.symm))]
    · rw [if_neg hk]
      by_cases h : g = k
      · have hb : (g == k) = true := beq_iff_eq.mpr h
        simp only [List.lookup, hb, if_neg (fun e : g = f => hk (h.symm.trans e))]
      · have hb : (g == k) = false := beq_eq_false_iff_ne.mpr h
        simp only [List.lookup, hb]
        exact ih
theorem keys_putF (f : Str) (v : V) : ∀ fs : List (Str × V), f ∈ (putF f v fs).map (·.1) ∧ ∀ g, g ∈ fs.map (·.1) → g ∈ (putF f v fs).map (·.1)
  | [] => ⟨by simp [putF], fun g h => by simp at h⟩
  | (k, x) :: r => by
    obtain ⟨i1, i2⟩ := keys_putF f v r
    rw [show putF f v ((k, x) :: r) = (if k = f then (k, v) :: r else (k, x) :: putF f v r) from rfl]
    by_cases hk : k = f
    · rw [if_pos hk]
      subst hk
      exact ⟨by simp, fun g h => by simpa using h⟩
    · rw [if_neg hk]
      refine ⟨?_, fun g h => ?_⟩
      · rw [List.map_cons]
        exact List.mem_cons_of_mem _ i1
      · rw [List.map_cons] at h ⊢
        rcases List.mem_cons.mp h with e | e
        · exact List.mem_cons.mpr (.inl e)
        · exact List.mem_cons_of_mem _ (i2 g e)
theorem length_putF (f : Str) (v : V) : ∀ fs : List (Str × V), (putF f v fs).length ≤ fs.length + 1
  | [] => by simp [putF]
  | (k, x) :: r => by
    have ih := length_putF f v r
    rw [show putF f v ((k, x) :: r) = (if k = f then (k, v) :: r else (k, x) :: putF f v r) from rfl]
    by_cases hk : k = f
    · rw [if_pos hk, List.length_cons, List.length_cons]; omega
    · rw [if_neg hk, List.length_cons, List.length_cons]; omega
theorem RelO.some_of {v : V} {o : Option Value} (r : RelO (some v) o) : ∃ u, o = some u ∧ RelV v u := by
  cases o with
  | none => exact (show False from r).elim
  | some u => exact ⟨u, rfl, r⟩
theorem RelO.none_of {o : Option Value} (r : RelO none o) : o = none := by
  cases o with
  | none => rfl
  | some u => exact (show False from r).elim
theorem handed_of {v : V} {u : Value} (r : RelV v u) : PySem.W.handedIn u = true := by
  cases v with
  | non => cases (show u = Value.none from r); rfl
  | bl b => cases (show u = Value.bool b from r); rfl
  | int i => obtain ⟨t, e⟩ := (show ∃ t, u = Value.int i t from r); cases e; rfl
  | str x => obtain ⟨t, e⟩ := (show ∃ t, u = Value.str x t from r); cases e; rfl
  | byt b => obtain ⟨t, e⟩ := (show ∃ t, u = Value.bytes b t from r); cases e; rfl
  | flt b => obtain ⟨t, e⟩ := (show ∃ t, u = Value.float b t from r); cases e; rfl
  | ref a => cases (show u = Value.ref a from r); rfl
  | ty n => cases (show u = Value.type n from r); rfl
section
variable {P : Program} {w : World} {H H' : Hp} {h h' : Heap} {a C dx : Addr} {fs fs' : List (Str × V)}
theorem ins_get (hok : HOk P w H h) (e : H a = some (.ins C dx fs)) : ∃ mA, ObjM h a dx C mA ∧ (∀ f, RelO (fs.lookup f) (mA f)) ∧ PySem.Within mA (fs.map (·.1)) ∧ fs.length ≤ 1000 ∧ H dx = some (.own a) := by
  obtain ⟨d, z, ne, ob, mA, n, r, q⟩ := (show ObjOk P w H h a (.ins C dx fs) from hok a _ e)
  exact ⟨mA, ⟨ob, n, ne⟩, r, q, z, d⟩
end
structure Cls (K : PySem.W.Frag) (C : Addr) : Prop where
  pg : PySem.W.plainGet K C Str.empty = true
  hd : PySem.W.hasDictIn K C = true
  po : PySem.W.plainOver K C = true
  sa : PySem.W.findIn K (.ref C) "__setattr__" = some (some (.builtin "object.__setattr__"))
theorem Cls.get {K : PySem.W.Frag} {C : Addr} (c : Cls K C) (f : Str) : PySem.W.plainGet K C f = true := c.pg
def NoAttr (K : PySem.W.Frag) (C : Addr) (f : Str) : Prop := PySem.W.findIn K (.ref C) f = some none
theorem NoAttr.taker {K : PySem.W.Frag} {C : Addr} {f : Str} (n : NoAttr K C f) : PySem.W.takerIn K C f = some none := by
  unfold PySem.W.takerIn
  rw [show PySem.W.findIn K (.ref C) f = some none from n]
  rfl
structure Meth (K : PySem.W.Frag) (C : Addr) (m : Str) (f : Addr) : Prop where
  at_ : PySem.W.findIn K (.ref C) m = some (some (.ref f))
  fn : PySem.W.isFn K (.ref f) = true
  kp : PySem.W.keepIn K (.ref f) = true
section
variable {X : Cx} {pins : List (Addr × Obj)} {σ : St} {H : Hp} {s : Shared} {a C dx : Addr} {fs : List (Str × V)} {f : Str} {v : V} {A : Around} {E : Value → Shared → Prop}
theorem getattr_ok {b : Bool} {Q : Value → Shared → Prop} (I : Inv X pins σ H s) (e : H a = some (.ins C dx fs)) (c : Cls X.K C) (n : NoAttr X.K C f) (l : fs.lookup f = some v)
    (h : ∀ u s', Inv X pins σ H s' → RelV v u → Q u s') : wpAny (model X.prog X.w) A (getAttr (.ref a) f b) Q E s := by
  obtain ⟨mA, O, r, _, _, _⟩ := ins_get I.hok e
  obtain ⟨u, hu, ru⟩ := RelO.some_of (v := v) (o := mA f) (by rw [← l]; exact r f)
  exact get_map I.kIn O (c.get f) c.hd n hu (handed_of ru) (h u _ (I.tok _) ru)
theorem getmeth_ok {m : Str} {g : Addr} {pl : Sem Bool} {Q : Value × List Value → Shared → Prop} (I : Inv X pins σ H s) (e : H a = some (.ins C dx fs)) (c : Cls X.K C) (k : Meth X.K C m g) (l : fs.lookup m = none)
    (h : Q (.ref g, [.ref a]) s) : wpAny (model X.prog X.w) A (getMethod (.ref a) m pl) Q E s := by
  obtain ⟨mA, O, r, _, _, _⟩ := ins_get I.hok e
  have hn : mA m = none := RelO.none_of (by rw [← l]; exact r m)
  exact get_meth I.kIn O (c.get m) k.at_ k.fn hn h
theorem setattr_ok {y : V} {u : Value} {Q : Unit → Shared → Prop} (I : Inv X pins σ H s) (e : H a = some (.ins C dx fs)) (c : Cls X.K C) (n : NoAttr X.K C f) (hl : fs.length < 1000) (ry : RelV y u)
    (h : ∀ s', Inv X pins σ (upd H a (.ins C dx (putF f y fs))) s' → Q () s') : wpAny (model X.prog X.w) A (setAttr (.ref a) f u) Q E s := by
  obtain ⟨mA, O, r, wi, _, ho⟩ := ins_get I.hok e
  have hz : (fs.map (·.1)).length ≤ sizeLine := by rw [List.length_map, sizeLine_eq]; omega
  refine set_map I.kIn O c.sa c.po n.taker c.hd wi hz fun h' O' sb => h _ ?_
  have hd : ∃ o, h'.get? dx = some o := let ⟨o, _, _, e', _⟩ := O'.ns; ⟨o, e'⟩
  refine I.write (x := a) (e := dx) (by rw [e]; exact True.intro) (.inr ho) (fun b q hb z => (sb.2 b hb).trans z) hd ?_
  refine ⟨by rw [upd_ne O.ne]; exact ho, ?_, O.ne, O'.obj, _, O'.ns, fun g => ?_, fun g hg => ?_⟩
  · have := length_putF f y fs; omega
  · show RelO ((putF f y fs).lookup g) (if g = f then some u else mA g)
    rw [lookup_putF]
    by_cases q : g = f
    · rw [if_pos q, if_pos q]; exact ry
    · rw [if_neg q, if_neg q]; exact r g
  · by_cases q : g = f
    · rw [q]; exact (keys_putF f y fs).1
    · refine (keys_putF f y fs).2 g (wi g fun z => hg ?_)
      show (if g = f then some u else mA g) = none
      rw [if_neg q]; exact z
theorem Inv.made (I : Inv X pins σ H s) : Inv X pins σ (upd (upd H s.heap.objs.size (.own (s.heap.objs.size + 1))) (s.heap.objs.size + 1) (.ins C s.heap.objs.size []))
    { s with heap := (s.heap.push PySem.W.emptyDict).push (PySem.W.instObj C s.heap.objs.size) } := by
  have e1 : (s.heap.push PySem.W.emptyDict).get? s.heap.objs.size = some PySem.W.emptyDict := Heap.get?_push_size s.heap rfl
  have e2 : ((s.heap.push PySem.W.emptyDict).push (PySem.W.instObj C s.heap.objs.size)).get? (s.heap.objs.size + 1) = some (PySem.W.instObj C s.heap.objs.size) := by
    have := Heap.get?_push_size (s.heap.push PySem.W.emptyDict) (o := PySem.W.instObj C s.heap.objs.size) rfl
    rwa [Heap.size_push] at this
  have e3 : (s.heap.push PySem.W.emptyDict).Ns s.heap.objs.size (fun _ => none) := ⟨PySem.W.emptyDict, #[], _, e1, rfl, (fun e he => absurd he (by simp)), fun _ => rfl⟩
  have I1 := I.laid (a := s.heap.objs.size) (o := .own (s.heap.objs.size + 1)) (h' := s.heap.push PySem.W.emptyDict) (t' := s.toks) (fun b u q => Heap.get?_push_of_some _ q) (Nat.le_refl _) ⟨_, e1⟩
  refine I1.laid (a := s.heap.objs.size + 1) (o := .ins C s.heap.objs.size []) (t' := s.toks) (fun b u q => Heap.get?_push_of_some _ q) (Nat.le_of_eq (Heap.size_push _ _)) ?_
  have ne : s.heap.objs.size ≠ s.heap.objs.size + 1 := Nat.ne_of_lt (Nat.lt_succ_self _)
  refine ⟨by rw [upd_ne ne, upd_same], Nat.zero_le _, ne, e2, fun _ => none, (Heap.Ns1.of_empty e3).at fun o q => Heap.get?_push_of_some _ q, fun _ => True.intro, fun y hy => absurd rfl hy⟩
theorem attr_of {prog : Program} {w : World} {env : Env} {e : Expr} {f : Str} {pos : Pos} {s : Shared} {Q : Value → Shared → Prop} (hb : attributeBase e f env (eval e env) = eval e env)
    (h : wpAny (model prog w) A (eval e env) (fun o s₁ => wpAny (model prog w) A (getAttr o f true) Q E s₁) E s) : wpAny (model prog w) A (eval (.Attribute e f pos) env) Q E s :=
  Attribute_any_ h (by rw [arm_eval_Attribute, hb])
end
def tFld (K : PySem.W.Frag) (ta : TE) (f : Str) : TE := fun σ H Q => ta σ H fun x H1 => ∃ a C dx fs v, x = .ref a ∧ H1 a = some (.ins C dx fs) ∧ Cls K C ∧ NoAttr K C f ∧ fs.lookup f = some v ∧ Q v H1
def sFld (K : PySem.W.Frag) (ta tv : TE) (f : Str) : TS := fun D σ H => tv σ H fun y H1 => ta σ H1 fun x H2 => ∃ a C dx fs, x = .ref a ∧ H2 a = some (.ins C dx fs) ∧ Cls K C ∧ NoAttr K C f ∧ fs.length < 1000 ∧
  D.nx σ (upd H2 a (.ins C dx (putF f y fs)))
section
variable {X : Cx} {o e value : Expr} {f : Str} {pos pos' tpos : Pos} {ta tv : TE}
theorem pe_fld (he : PE X e ta) (hb : attributeBase e f X.env (eval e X.env) = eval e X.env) : PE X (.Attribute e f pos) (tFld X.K ta f) := by
  unfold PE at *
  exact by
    intro pins s σ H Q I h
    refine attr_of hb (thn (he pins s σ H _ I h) fun u s1 ⟨x, H1, I1, rx, a, C, dx, fs, v, ex, ea, c, n, l, q⟩ => ?_)
    subst ex
    obtain rfl : u = Value.ref a := rx
    exact getattr_ok I1 ea c n l fun u' s2 I2 ru => ⟨v, H1, I2, ru, q⟩
theorem ps_fld (ha : PE X o ta) (hv : PE X value tv) (hs : swapsWith value (some (.Attribute o f pos')) pos.line X.env = pure false) : PS X (.Assign [.Attribute o f pos'] value pos) (sFld X.K ta tv f) := by
  unfold PE at *; unfold PS at *
  exact by
    intro pins s σ H D I h
    refine plainObj_wpAny_Assign_Attribute (thn (hv pins s σ H _ I h) fun u s1 ⟨y, H1, I1, ry, q⟩ => thn (ha pins s1 σ H1 _ I1 q) fun ov s2 ⟨x, H2, I2, rx, a, C, dx, fs, ex, ea, c, n, l, q2⟩ => ?_) hs
    subst ex
    obtain rfl : ov = Value.ref a := rx
    exact setattr_ok I2 ea c n l ry fun s3 I3 => ⟨σ, _, I3, q2⟩
end
section
variable {X : Cx} {pins : List (Addr × Obj)} {σ : St} {H : Hp} {s : Shared} {A : Around} {E : Value → Shared → Prop} {Q : Value → Shared → Prop} {c : Value} {b : Bool}
inductive TyOf (K : PySem.W.Frag) (H : Hp) : V → Value → Prop where
  | non : TyOf K H .non (.type "NoneType")
  | bl (x : Bool) : TyOf K H (.bl x) (.type "bool")
  | int (i : Int) : TyOf K H (.int i) (.type "int")
  | str (x : Str) : TyOf K H (.str x) (.type "str")
  | flt (x : UInt64) : TyOf K H (.flt x) (.type "float")
  | lst {a : Addr} {xs : List V} (e : H a = some (.lst xs)) : TyOf K H (.ref a) (.type "list")
  | frz {a : Addr} {o : Obj} {xs : List V} (e : H a = some (.frz o (.lst xs))) : TyOf K H (.ref a) (.type "list")
  | tup {a : Addr} {xs : List V} (e : H a = some (.tup xs)) : TyOf K H (.ref a) (.type "tuple")
  | dK {a : Addr} {kvs : List (Key × V)} (e : H a = some (.dK kvs)) : TyOf K H (.ref a) (.type "dict")
  | dT {a : Addr} {kvs : List (List Key × V)} (e : H a = some (.dT kvs)) : TyOf K H (.ref a) (.type "dict")
  | ins {a C dx : Addr} {fs : List (Str × V)} (e : H a = some (.ins C dx fs)) (cl : Cls K C) (ha : PySem.W.findIn K (.ref C) "__class__" = some (some (.builtin "object.__class__")))
      (hn : PySem.W.specialIn K (.builtin "object.__class__") "__get__" = some (some (.builtin "getset_descriptor.__get__"))) (htk : PySem.W.takesIn K (.builtin "object.__class__") = some true)
      (hm : PySem.W.mroIn K C (.type "object") = some true) : TyOf K H (.ref a) (.ref C)
theorem isinst_ok {x : V} {u t : Value} (I : Inv X pins σ H s) (rx : RelV x u) (ty : TyOf X.K H x t) (e : PySem.W.kitOne X.K t c = some b) (h : ∀ tk, Q (.bool b) { s with toks := tk }) :
    wpAny (model X.prog X.w) A (call (.builtin "isinstance") [u, c]) Q E s := by
  cases ty with
  | non => cases (show u = Value.none from rx); exact PySem.W.kia_one PySem.W.kitx_none I.kIn True.intro e (fun z => nomatch z) h
  | bl y => cases (show u = Value.bool y from rx); exact PySem.W.kia_one PySem.W.kitx_bool I.kIn True.intro e (fun z => nomatch z) h
  | int i => obtain ⟨t, q⟩ := (show ∃ t, u = Value.int i t from rx); cases q; exact PySem.W.kia_one PySem.W.kitx_int I.kIn True.intro e (fun z => nomatch z) h
  | str y => obtain ⟨t, q⟩ := (show ∃ t, u = Value.str y t from rx); cases q; exact PySem.W.kia_one PySem.W.kitx_str I.kIn True.intro e (fun z => nomatch z) h
  | flt y => obtain ⟨t, q⟩ := (show ∃ t, u = Value.float y t from rx); cases q; exact PySem.W.kia_one PySem.W.kitx_float I.kIn True.intro e (fun z => nomatch z) h
  | @lst a xs ea =>
    cases (show u = Value.ref a from rx)
    obtain ⟨_, _, n, _, h1⟩ := (show ObjOk X.prog X.w H s.heap a (.lst xs) from I.hok a _ ea)
    exact PySem.W.kia_one PySem.W.kitx_list I.kIn ⟨_, h1, rfl⟩ e (fun z => nomatch z) h
  | @frz a ob xs ea =>
    cases (show u = Value.ref a from rx)
    obtain ⟨_, _, _, n, _, h1⟩ := (show ObjOk X.prog X.w H s.heap a (.frz ob (.lst xs)) from I.hok a _ ea)
    exact PySem.W.kia_one PySem.W.kitx_list I.kIn ⟨_, h1, rfl⟩ e (fun z => nomatch z) h
  | @tup a xs ea =>
    cases (show u = Value.ref a from rx)
    obtain ⟨_, _, _, p⟩ := (show ObjOk X.prog X.w H s.heap a (.tup xs) from I.hok a _ ea)
    obtain ⟨o, h1, h2, _⟩ := p
    exact PySem.W.kia_one PySem.W.kitx_tuple I.kIn ⟨o, h1, h2⟩ e (fun z => nomatch z) h
  | @dK a kvs ea =>
    cases (show u = Value.ref a from rx)
    obtain ⟨_, _, vs, _, p⟩ := (show ObjOk X.prog X.w H s.heap a (.dK kvs) from I.hok a _ ea)
    obtain ⟨o, es, ep, h1, h2, _⟩ := p
    exact PySem.W.kia_one PySem.W.kitx_dict I.kIn ⟨o, h1, h2.1⟩ e (fun z => nomatch z) h
  | @dT a kvs ea =>
    cases (show u = Value.ref a from rx)
    obtain ⟨_, _, xs, _, o, es, ep, h1, h2, _⟩ := (show ObjOk X.prog X.w H s.heap a (.dT kvs) from I.hok a _ ea)
    exact PySem.W.kia_one PySem.W.kitx_dict I.kIn ⟨o, h1, h2.1⟩ e (fun z => nomatch z) h
  | @ins a C dx fs ea cl ha hn htk hm =>
    cases (show u = Value.ref a from rx)
    obtain ⟨mA, O, _⟩ := ins_get I.hok ea
    obtain ⟨od, J, _⟩ := O.look
    exact PySem.W.kia_one (PySem.W.kitx_own (cl.get _) cl.hd ha hn htk hm) I.kIn J e (fun z => nomatch z) h
end
end L2
namespace L2
open PySem PySem.Spec PyProof.Rows
structure Room (k : Nat) (A : Around) : Prop where
  hd : A.handled = none
  dp : A.depth + 3 * k + 5 < recursionLimit
  un : A.units + 16 * k + 200 < cLine
theorem Room.mono {j k : Nat} {A : Around} (r : Room k A) (h : j ≤ k) : Room j A := ⟨r.hd, by have := r.dp; omega, by have := r.un; omega⟩
theorem Room.deeper {k : Nat} {A : Around} (r : Room (k + 1) A) (env : Env) : Room k (A.deeper env) :=
  ⟨r.hd, by have := r.dp; show A.depth + 1 + 3 * k + 5 < _; omega, by have := r.un; show A.units + 3 + 16 * k + 200 < _; omega⟩
theorem Room.in1 {k : Nat} {A : Around} (r : Room (k + 1) A) : Room k A.in1 :=
  ⟨r.hd, by have := r.dp; show A.depth + 3 * k + 5 < _; omega, by have := r.un; show A.units + 1 + 16 * k + 200 < _; omega⟩
theorem make_depth {A : Around} {C : Addr} {us : List Value} {kw : List (Str × Value)} : (A.under (.builtin "type.__call__" ⟨.ref C :: us, kw⟩)).depth = A.depth + 1 := by
  first | rfl | simp [Around.under, Code.weight, Code.isCreation, Code.isGuard, Code.isCaller, Code.frames, Code.isFrame, guardIds]
theorem make_units {A : Around} {C : Addr} {us : List Value} {kw : List (Str × Value)} : (A.under (.builtin "type.__call__" ⟨.ref C :: us, kw⟩)).units = A.units + 1 := by
  first | rfl | simp [Around.under, Code.cUnits, Code.frames, Code.isFrame]
theorem Room.make {k : Nat} {A : Around} (r : Room (k + 1) A) (C : Addr) (us : List Value) (kw : List (Str × Value)) : Room k (A.under (.builtin "type.__call__" ⟨.ref C :: us, kw⟩)) :=
  ⟨r.hd, by have := r.dp; rw [make_depth]; omega, by have := r.un; rw [make_units]; omega⟩
theorem Room.depth {k : Nat} {A : Around} (r : Room k A) : A.depth < recursionLimit := by have := r.dp; omega
theorem Room.units {k : Nat} {A : Around} (r : Room k A) : A.units + 64 < cLine := by have := r.un; omega
def tNil : TA := fun _ H Q => Q [] H
def tCons (ta : TE) (tr : TA) : TA := fun σ H Q => ta σ H fun x H1 => tr σ H1 fun xs H2 => Q (x :: xs) H2
section
variable {X : Cx} {e : Expr} {es : List Expr} {te : TE} {t : TA} {pos : Pos}
theorem pa_nil : PA X [] tNil := by
  first
  | exact (fun _ _ _ _ H Q I h => Calls.spliced_nil ⟨[], H, I, .nil, h⟩)
  | (unfold PA at *; exact (fun _ _ _ _ H Q I h => Calls.spliced_nil ⟨[], H, I, .nil, h⟩))
theorem pa_cons (ha : PE X e te) (hr : PA X es t) (hs : starEach (e :: es) X.env = (false, eval e X.env) :: starEach es X.env := by rfl) : PA X (e :: es) (tCons te t) := by
  unfold PE at *; unfold PA at *
  exact by
    intro pos pins s σ H Q I h
    rw [hs]
    show wpAny _ _ (spliced ((false, eval e X.env) :: backTo pos (starEach es X.env))) _ _ s
    refine Calls.spliced_cons (thn (ha pins s σ H _ I h) fun u s1 ⟨x, H1, I1, r1, q1⟩ => ?_)
    exact thn (hr pos pins s1 σ H1 _ I1 q1) fun us s2 ⟨xs, H2, I2, r2, q2⟩ => ⟨x :: xs, H2, I2, .cons r1 r2, q2⟩
def tTup (t : TA) : TE := fun σ H Q => t σ H fun xs H1 => xs.length ≤ sizeLine ∧ ∀ p, H1 p = none → Q (.ref p) (upd H1 p (.tup xs))
def tLst (t : TA) : TE := fun σ H Q => t σ H fun xs H1 => xs.length ≤ sizeLine ∧ ∀ p, H1 p = none → Q (.ref p) (upd H1 p (.lst xs))
theorem pe_tup {x1} (h : PA X es t) : PE X (.Tuple es x1 pos) (tTup t) := by
  unfold PE at *; unfold PA at *
  exact by
    intro pins s σ H Q I hq
    refine wpAny_Tuple_spliced (thn (h pos pins s σ H _ I hq) fun us s1 ⟨xs, H1, I1, r, z, q⟩ => ⟨by rw [← r.length]; exact z, ?_⟩)
    have hf : H1 s1.heap.objs.size = none := I1.hok.fresh (Nat.le_refl _)
    refine ⟨.ref s1.heap.objs.size, upd H1 s1.heap.objs.size (.tup xs), I1.laid (t' := s1.toks) (fun b u e => Heap.get?_push_of_some _ e) (Nat.le_refl _) ?_, rfl, q _ hf⟩
    exact ⟨z, us, r, ⟨_, Heap.get?_push_size _ rfl, rfl, _, rfl⟩⟩
theorem pe_lst (h : PA X es t) : PE X (.List es pos) (tLst t) := by
  unfold PE at *; unfold PA at *
  exact by
    intro pins s σ H Q I hq
    refine wpAny_List_spliced (thn (h pos pins s σ H _ I hq) fun us s1 ⟨xs, H1, I1, r, z, q⟩ => ⟨by rw [← r.length]; exact z, ?_⟩)
    have hf : H1 s1.heap.objs.size = none := I1.hok.fresh (Nat.le_refl _)
    refine ⟨.ref s1.heap.objs.size, upd H1 s1.heap.objs.size (.lst xs), I1.laid (t' := s1.toks) (fun b u e => Heap.get?_push_of_some _ e) (Nat.le_refl _) ?_, rfl, q _ hf⟩
    exact ⟨z, us, 0, r, Heap.get?_push_size _ rfl⟩
end
abbrev Sp := List V → Hp → VK → XK → Prop
abbrev CXT := List Env → Hp → Shared → XK → Value → Shared → Prop
structure Env0 (P : Program) (w : World) (K : PySem.W.Frag) (mg : Str → Option Value) (base : Heap) (A : Around) (outer : List Env) (s : Shared) (H : Hp) : Prop where
  frames : A.frames = some outer
  mod : Mod K mg base
  bs : ∀ b o, base.get? b = some o → s.heap.get? b = some o ∧ H b = none
  bsz : base.objs.size ≤ s.heap.objs.size
  funs : s.heap.FunFrames base outer
  frf : ∀ b ∈ frs outer, H b = none
  hok : HOk P w H s.heap
  bare : AllBare s.gens
def CE (outer : List Env) (P : Program) (w : World) (H : Hp) (s : Shared) (Q : VK) (u : Value) (s' : Shared) : Prop :=
  ∃ v H', s'.os = s.os ∧ AllBare s'.gens ∧ Un (frs outer) [] H H' s.heap s'.heap ∧ HOk P w H' s'.heap ∧ RelV v u ∧ Q v H'
def CR (CX : CXT) (outer : List Env) (P : Program) (w : World) (H : Hp) (s : Shared) (Q : VK) (E : XK) (r : Result) (s' : Shared) : Prop :=
  match r with
  | .ok (.ret u) => CE outer P w H s Q u s'
  | .ok _ => False
  | .error e => CX outer H s E e s'
structure FnOk (P : Program) (w : World) (K : PySem.W.Frag) (mg : Str → Option Value) (base : Heap) (CX : CXT) (k : Nat) (f : Addr) (fd : FuncData) (ps : List Str) (sp : Sp) : Prop where
  len : ∀ vs H Q E, sp vs H Q E → vs.length = ps.length
  run : ∀ (A : Around) (outer : List Env) (s : Shared) (H : Hp) (args : Args) (us : List Value) (vs : List V) (Q : VK) (E : XK), Room k A → Env0 P w K mg base A outer s H → BindsTo s fd args (ps.zip us) → Vals vs us → sp vs H Q E →
    codeAny (model P w) A (.call (.ref f) args) (CR CX outer P w H s Q E) s
theorem FnOk.mono {P : Program} {w : World} {K : PySem.W.Frag} {mg : Str → Option Value} {base : Heap} {CX : CXT} {j k : Nat} {f : Addr} {fd : FuncData} {ps : List Str} {sp : Sp} (F : FnOk P w K mg base CX j f fd ps sp) (h : j ≤ k) :
    FnOk P w K mg base CX k f fd ps sp := ⟨F.len, fun A outer s H args us vs Q E hr => F.run A outer s H args us vs Q E (hr.mono h)⟩
theorem FnOk.imp {P : Program} {w : World} {K : PySem.W.Frag} {mg : Str → Option Value} {base : Heap} {CX : CXT} {k : Nat} {f : Addr} {fd : FuncData} {ps : List Str} {sp sp' : Sp} (F : FnOk P w K mg base CX k f fd ps sp)
    (h : ∀ vs H Q E, sp' vs H Q E → sp vs H Q E) : FnOk P w K mg base CX k f fd ps sp' :=
  ⟨fun vs H Q E q => F.len vs H Q E (h _ _ _ _ q), fun A outer s H args us vs Q E hr he hb hv hs => F.run A outer s H args us vs Q E hr he hb hv (h _ _ _ _ hs)⟩
theorem Env0.make {P : Program} {w : World} {K : PySem.W.Frag} {mg : Str → Option Value} {base : Heap} {A : Around} {outer : List Env} {s : Shared} {H : Hp} (e : Env0 P w K mg base A outer s H) (C : Addr) (us : List Value) (kw : List (Str × Value)) :
    Env0 P w K mg base (A.under (.builtin "type.__call__" ⟨.ref C :: us, kw⟩)) outer s H := ⟨by first | exact e.frames | (simpa [Around.under, Code.envs, Code.isFrame, pushEnvs] using e.frames), e.mod, e.bs, e.bsz, e.funs, e.frf, e.hok, e.bare⟩
theorem Env0.in1 {P : Program} {w : World} {K : PySem.W.Frag} {mg : Str → Option Value} {base : Heap} {A : Around} {outer : List Env} {s : Shared} {H : Hp} (e : Env0 P w K mg base A outer s H) :
    Env0 P w K mg base A.in1 outer s H := ⟨e.frames, e.mod, e.bs, e.bsz, e.funs, e.frf, e.hok, e.bare⟩
section
variable {X : Cx} {pins : List (Addr × Obj)} {σ : St} {H : Hp} {s s' : Shared}
theorem Inv.env0 (I : Inv X pins σ H s) : Env0 X.prog X.w X.K X.mg X.base X.A X.stack s H :=
  ⟨I.ok.frames, I.ok.mod, I.bs, Nat.le_trans I.ok.bsz I.sz, I.stack, I.stkFree, I.hok, I.bare⟩
theorem Inv.after {Q : VK} {u : Value} (I : Inv X pins σ H s) (h : CE X.stack X.prog X.w H s Q u s') : EP X pins σ Q u s' := by
  obtain ⟨v, H', os, bare, un, hok, r, q⟩ := h
  obtain ⟨hh, g, d, t, os'⟩ := s'
  obtain rfl : os' = s.os := os
  exact ⟨v, H', I.call (h' := hh) (g' := g) (d' := d) (t' := t) (ch := []) un hok bare (fun b z => absurd z (by simp)), r, q⟩
end
def tCall (sp : Sp) (dvs : List V) (E : XK) (t : TA) : TE := fun σ H Q => t σ H fun vs H1 => sp (vs ++ dvs) H1 Q E
def tMeth (C : Addr) (m : Str) (sp : Sp) (dvs : List V) (E : XK) (ta : TE) (t : TA) : TE := fun σ H Q => ta σ H fun x H1 => ∃ a dx fs, x = .ref a ∧ H1 a = some (.ins C dx fs) ∧ fs.lookup m = none ∧
  t σ H1 fun vs H2 => sp (x :: (vs ++ dvs)) H2 Q E
def tMake (C : Addr) (sp : Sp) (dvs : List V) (E : XK) (t : TA) : TE := fun σ H Q => t σ H fun vs H1 => ∀ x dx, H1 x = none → H1 dx = none → dx ≠ x →
  sp (.ref x :: (vs ++ dvs)) (upd (upd H1 dx (.own x)) x (.ins C dx [])) (fun v H2 => v = .non ∧ Q (.ref x) H2) E
def Binds (K : PySem.W.Frag) (fd : FuncData) (ps : List Str) (ds : List Value) : Prop :=
  ∀ (s : Shared) (us : List Value), K.In s.heap → (us ++ ds).length = ps.length → BindsTo s fd ⟨us, []⟩ (ps.zip (us ++ ds))
theorem Binds.all {K : PySem.W.Frag} {fd : FuncData} {ps : List Str} (h : ∀ us : List Value, us.length = ps.length → bindArgs fd ⟨us, []⟩ = pure (ps.zip us)) : Binds K fd ps [] := fun s us _ hl => by
  rw [List.append_nil] at hl ⊢
  exact .of_eq (h us hl)
def Passes (CX : CXT) (X : Cx) (E : XK) : Prop := ∀ (pins : List (Addr × Obj)) (σ : St) (H : Hp) (s : Shared) (e : Value) (s' : Shared), Inv X pins σ H s → CX X.stack H s E e s' → X.xe e s'
section
variable {X : Cx} {CX : CXT} {k : Nat} {f C : Addr} {fd : FuncData} {ps : List Str} {sp : Sp} {dvs : List V} {ds : List Value} {E : XK} {x m : Str} {p pos apos : Pos} {e o : Expr} {es : List Expr} {ta : TE} {t : TA}
theorem run_fn {pins : List (Addr × Obj)} {σ : St} {H : Hp} {s : Shared} {Q : VK} {us : List Value} {vs : List V} (F : FnOk X.prog X.w X.K X.mg X.base CX k f fd ps sp) (hr : Room k X.A) (hb : Binds X.K fd ps ds) (hd : Vals dvs ds) (hx : Passes CX X E)
    (I : Inv X pins σ H s) (r : Vals vs us) (h : sp (vs ++ dvs) H Q E) : wpAny (model X.prog X.w) X.A (call (.ref f) us) (EP X pins σ Q) X.xe s := by
  have r2 : Vals (vs ++ dvs) (us ++ ds) := r.append hd
  have hl : (us ++ ds).length = ps.length := by rw [← r2.length]; exact F.len _ _ _ _ h
  refine wpAny_call (codeAny_mono (F.run X.A X.stack s H ⟨us, []⟩ (us ++ ds) (vs ++ dvs) Q E hr I.env0 (hb s us I.kIn hl) r2 h) fun r s' hq => ?_)
  cases r with
  | error e => exact hx pins σ H s e s' I hq
  | ok fl =>
    cases fl with
    | ret u => exact I.after hq
    | next => exact False.elim hq
    | brk => exact False.elim hq
    | cont => exact False.elim hq
theorem pe_call (F : FnOk X.prog X.w X.K X.mg X.base CX k f fd ps sp) (hr : Room k X.A) (hg : Gl X x) (hm : X.mg x = some (.ref f)) (hk : PySem.W.keepIn X.K (.ref f) = true) (hb : Binds X.K fd ps ds) (hd : Vals dvs ds) (hx : Passes CX X E)
    (ha : PA X (e :: es) t) (hdb : (x == ("__debug__" : Str)) = false := by decide) (he : starEach (e :: es) X.env = (false, eval e X.env) :: starEach es X.env := by rfl) (hpl : (backTo pos (starEach es X.env)).any (·.1) = false := by rfl) :
    PE X (.Call (.Name x p) (e :: es) [] pos) (tCall sp dvs E t) := by
  unfold PE at *; unfold PA at *
  exact by
    intro pins s σ H Q I h
    refine wpAny_Call_Name_kw (ld_glob I hg hm ?_ hdb)
    refine PySem.W.callWith_K (h₀ := X.base) I.ok.mod.kin hk (thn (ha pos pins s σ H _ I h) fun us s1 ⟨vs, H1, I1, r, q⟩ => ⟨I1.kIn, ?_⟩) he hpl
    exact run_fn F hr hb hd hx I1 r q
theorem pe_meth0 {pl : Sem Bool} (he : PE X o ta) (c : Cls X.K C) (hm : Meth X.K C m f) (F : FnOk X.prog X.w X.K X.mg X.base CX k f fd ps sp) (hr : Room k X.A) (hb : Binds X.K fd ps ds) (hd : Vals dvs ds) (hx : Passes CX X E)
    (ht : eval (.Call (.Attribute o m apos) [] [] pos) X.env = (do
      let ov ← eval o X.env
      standAt apos.atName
      let (f, first) ← holding [ov] (getMethod ov m pl)
      callWith pos f first (backTo pos (starEach [] X.env)) (backToKw pos (keywordEach [] X.env))) := by rfl) :
    PE X (.Call (.Attribute o m apos) [] [] pos) (tMeth C m sp dvs E ta tNil) := by
  unfold PE at *
  exact by
    intro pins s σ H Q I h
    refine PySem.W.methodCall_KW (pl := pl) (thn (he pins s σ H _ I h) fun u s1 ⟨x, H1, I1, rx, a, dx, fs, ex, ea, l, q⟩ => ?_) ht
    subst ex
    obtain rfl : u = Value.ref a := rx
    refine getmeth_ok I1 ea c hm l ?_
    exact PySem.W.callWith_K0 (first := [.ref a]) I1.kIn hm.kp (run_fn (us := [.ref a]) (vs := [.ref a]) F hr hb hd hx I1 (.cons rfl .nil) q)
structure Mk (K : PySem.W.Frag) (C f : Addr) : Prop where
  makes : PySem.W.makesIn K C = true
  init : PySem.W.findIn K (.ref C) "__init__" = some (some (.ref f))
  fn : PySem.W.isFn K (.ref f) = true
  kp : PySem.W.keepIn K (.ref C) = true
theorem run_make {pins : List (Addr × Obj)} {σ : St} {H : Hp} {s : Shared} {Q : VK} {us : List Value} {vs : List V} (M : Mk X.K C f) (F : FnOk X.prog X.w X.K X.mg X.base CX k f fd ps sp) (hr : Room (k + 1) X.A) (hb : Binds X.K fd ps ds) (hd : Vals dvs ds)
    (hx : Passes CX X E) (I : Inv X pins σ H s) (r : Vals vs us)
    (h : ∀ x dx, H x = none → H dx = none → dx ≠ x → sp (.ref x :: (vs ++ dvs)) (upd (upd H dx (.own x)) x (.ins C dx [])) (fun v H2 => v = .non ∧ Q (.ref x) H2) E) :
    wpAny (model X.prog X.w) X.A (call (.ref C) us) (EP X pins σ Q) X.xe s := by
  have hq := h (s.heap.objs.size + 1) s.heap.objs.size (I.hok.fresh (Nat.le_succ _)) (I.hok.fresh (Nat.le_refl _)) (Nat.ne_of_lt (Nat.lt_succ_self _))
  have I2 := Inv.made (C := C) I
  have r2 : Vals (V.ref (s.heap.objs.size + 1) :: (vs ++ dvs)) (Value.ref (s.heap.objs.size + 1) :: (us ++ ds)) := .cons rfl (r.append hd)
  have hl : (Value.ref (s.heap.objs.size + 1) :: us ++ ds).length = ps.length := by
    have e := r2.length
    rw [F.len _ _ _ _ hq] at e
    exact e.symm
  refine wpAny_call (make_map (f := f) I.kIn M.makes M.init (beq_iff_eq.mp M.fn) (codeAny_mono (F.run _ X.stack _ _ ⟨Value.ref (s.heap.objs.size + 1) :: us, []⟩ (Value.ref (s.heap.objs.size + 1) :: (us ++ ds)) _ _ E (hr.make C us [])
    (I2.env0.make C us []) (hb _ (Value.ref (s.heap.objs.size + 1) :: us) I2.kIn hl) r2 hq) fun r s' hq' => ?_))
  cases r with
  | error e => exact hx pins σ _ _ e s' I2 hq'
  | ok fl =>
    cases fl with
    | ret u =>
      obtain ⟨v, H', I3, rv, ev, q3⟩ := I2.after hq'
      subst ev
      exact ⟨rv, ⟨V.ref (s.heap.objs.size + 1), H', I3, rfl, q3⟩⟩
    | next => exact False.elim hq'
    | brk => exact False.elim hq'
    | cont => exact False.elim hq'
theorem pe_make0 (M : Mk X.K C f) (F : FnOk X.prog X.w X.K X.mg X.base CX k f fd ps sp) (hr : Room (k + 1) X.A) (hg : Gl X x) (hm : X.mg x = some (.ref C)) (hb : Binds X.K fd ps ds) (hd : Vals dvs ds) (hx : Passes CX X E)
    (hdb : (x == ("__debug__" : Str)) = false := by decide) : PE X (.Call (.Name x p) [] [] pos) (tMake C sp dvs E tNil) := by
  unfold PE at *
  exact by
    intro pins s σ H Q I h
    refine wpAny_Call_Name_kw (ld_glob I hg hm ?_ hdb)
    exact PySem.W.callWith_K0 I.kIn M.kp (run_make (us := []) M F hr hb hd hx I .nil h)
end
section
variable {X : Cx} {CX : CXT} {k : Nat} {f C : Addr} {fd : FuncData} {ps ks : List Str} {sp : Sp} {E : XK} {x m : Str} {p pos apos kpos : Pos} {e o : Expr} {es : List Expr} {kws : List Keyword} {te ta : TE} {t tk : TA} {nm : Option Str}
variable {g : List Value → List Value → List Value} {gV : List V → List V → List V}
end
structure FnScope (N P : List Str) (sc : Scope) : Prop where
  kind : sc.kind = .function
  co : sc.isCoroutine = false
  gen : sc.isGenerator = false
  nd : N.Nodup
  pre : N.take P.length = P
  par : ∀ x ∈ P, sc.names.lookup x = some .local ∨ sc.names.lookup x = some .cell
  nofree : ∀ y ∈ sc.names, y.2 ≠ .free
theorem bindL_out {kindOf : Str → Option NameKind} {x : Str} : ∀ {binds : List (Str × Value)} {m : Str → Option Value}, (∀ v, (x, v) ∉ binds) → bindL kindOf binds m x = m x
  | [], _, _ => rfl
  | (n, v) :: r, m, h => by
    unfold bindL
    rw [bindL_out fun w hw => h w (List.mem_cons_of_mem _ hw)]
    split
    · have : x ≠ n := by rintro rfl; exact h v List.mem_cons_self
      simp [this]
    · rfl
theorem bindC_out {kindOf : Str → Option NameKind} {x : Str} : ∀ {binds : List (Str × Value)} {m : Str → Option Value}, (∀ v, (x, v) ∉ binds) → bindC kindOf binds m x = m x
  | [], _, _ => rfl
  | (n, v) :: r, m, h => by
    unfold bindC
    rw [bindC_out fun w hw => h w (List.mem_cons_of_mem _ hw)]
    split
    · rfl
    · have : x ≠ n := by rintro rfl; exact h v List.mem_cons_self
      simp [this]
theorem bindL_get {kindOf : Str → Option NameKind} {x : Str} {v : Value} : ∀ {P : List Str} {vs : List Value} {i : Nat} {m : Str → Option Value}, P.Nodup → P[i]? = some x → vs[i]? = some v → kindOf x = some .local →
    bindL kindOf (P.zip vs) m x = some v
  | [], _, _, _, _, h, _, _ => by simp at h
  | _ :: _, [], _, _, _, _, h, _ => by simp at h
  | p :: P, w :: vs, 0, m, nd, h1, h2, hk => by
    simp at h1 h2; subst h1; subst h2
    show bindL kindOf ((p, w) :: P.zip vs) m p = _
    unfold bindL
    rw [bindL_out fun v hv => (List.nodup_cons.mp nd).1 (List.of_mem_zip hv).1, if_pos hk]
    simp
  | p :: P, w :: vs, i + 1, m, nd, h1, h2, hk => by
    show bindL kindOf ((p, w) :: P.zip vs) m x = _
    unfold bindL
    exact bindL_get (i := i) (List.nodup_cons.mp nd).2 (by simpa using h1) (by simpa using h2) hk
theorem bindC_get {kindOf : Str → Option NameKind} {x : Str} {v : Value} : ∀ {P : List Str} {vs : List Value} {i : Nat} {m : Str → Option Value}, P.Nodup → P[i]? = some x → vs[i]? = some v → kindOf x ≠ some .local →
    bindC kindOf (P.zip vs) m x = some v
  | [], _, _, _, _, h, _, _ => by simp at h
  | _ :: _, [], _, _, _, _, h, _ => by simp at h
  | p :: P, w :: vs, 0, m, nd, h1, h2, hk => by
    simp at h1 h2; subst h1; subst h2
    show bindC kindOf ((p, w) :: P.zip vs) m p = _
    unfold bindC
    rw [bindC_out fun v hv => (List.nodup_cons.mp nd).1 (List.of_mem_zip hv).1, if_neg hk]
    simp
  | p :: P, w :: vs, i + 1, m, nd, h1, h2, hk => by
    show bindC kindOf ((p, w) :: P.zip vs) m x = _
    unfold bindC
    exact bindC_get (i := i) (List.nodup_cons.mp nd).2 (by simpa using h1) (by simpa using h2) hk
def start (N : List Str) (vs : List V) : St := vs.map some ++ List.replicate (N.length - vs.length) none
def cxOf (CX : CXT) (P : Program) (w : World) (K : PySem.W.Frag) (mg : Str → Option Value) (base : Heap) (N : List Str) (qual : Str) (scope : Scope) (f : Addr) (cd : Value) (A : Around) (outer : List Env) (s : Shared) (H : Hp) (E : XK) : Cx where
  prog := P
  w := w
  K := K
  mg := mg
  base := base
  A := A.deeper (envOfC qual scope s.heap.objs.size f cd)
  N := N
  s₀ := s
  H₀ := H
  env := envOfC qual scope s.heap.objs.size f cd
  outer := outer
  stack := envOfC qual scope s.heap.objs.size f cd :: outer
  ex := []
  calm := true
  fn := fun _ => true
  pn := []
  xe := fun e s' => wpAny (model P w) (A.deeper (envOfC qual scope s.heap.objs.size f cd)) (leaving (envOfC qual scope s.heap.objs.size f cd) e) (fun _ s'' => CX outer H s E e s'') (fun e' s'' => CX outer H s E e' s'') s'
theorem cell_has {sc : Scope} {n : Nat} {x : Str} (h : sc.names.lookup x = some .cell) : ∃ c, (cellsFrom n sc.names []).lookup x = some c := by
  have q := PySem.W.cellsFrom_some sc.names n [] (.inl h)
  exact Option.isSome_iff_exists.mp q
theorem inv_start {CX : CXT} {P : Program} {w : World} {K : PySem.W.Frag} {mg : Str → Option Value} {base : Heap} {N ps : List Str} {qual : Str} {scope : Scope} {f : Addr} {cd : Value} {A : Around} {outer : List Env} {s s1 : Shared} {H : Hp} {E : XK} {us : List Value} {vs : List V}
    (S : FnScope N ps scope) (hd : A.handled = none) (e0 : Env0 P w K mg base A outer s H) (hl : vs.length = ps.length) (r : Vals vs us)
    (x : InCallC s s.heap.objs.size (bindL (envOfC qual scope s.heap.objs.size f cd).kindOf (ps.zip us) fun _ => none) (cellsFrom (s.heap.objs.size + 1) scope.names []) (bindC (envOfC qual scope s.heap.objs.size f cd).kindOf (ps.zip us) fun _ => none) s1) :
    Inv (cxOf CX P w K mg base N qual scope f cd A outer s H E) [] (start N vs) H s1 := by
  have hpl : ps.length ≤ N.length := by have := congrArg List.length S.pre; rw [List.length_take] at this; omega
  obtain ⟨h1, tk, rfl, hk⟩ := x.done
  have noA : ∀ b : Addr, b ∉ (cxOf CX P w K mg base N qual scope f cd A outer s H E).ex := fun b z => absurd (show b ∈ ([] : List Addr) from z) (by simp)
  refine ⟨⟨e0.mod, S.kind, rfl, rfl, Nat.le_refl _, fun y z c h1 h2 => ?_, fun y hy => ?_, fun y c _ h => ?_, fun _ => hd, Around.frames_deeper e0.frames, .inr ⟨rfl, rfl⟩, fun b z => absurd z (noA b), e0.bs, e0.bsz, fun b _ _ => noA b, fun b z => absurd z (noA b), e0.funs, e0.frf⟩,
    rfl, e0.bare, Un.kept hk, ⟨_, x.toInCall.ns, fun i y v h1 h2 h3 => ?_⟩, fun y c h => ⟨_, x.cell y c h⟩, e0.hok.fresh (Nat.le_refl _), fun y c h => ?_, fun p hp => absurd (show p ∈ ([] : List (Addr × Obj)) from hp) (by simp), e0.hok.kept hk, ?_⟩
  · exact name_of_addr x.apart (PySem.mem_of_lookup h1) (PySem.mem_of_lookup h2)
  · have hy : scope.names.lookup y = some .cell ∨ scope.names.lookup y = some .free := hy
    rcases hy with hy | hy
    · exact cell_has hy
    · exact absurd rfl (S.nofree _ (PySem.mem_of_lookup hy))
  · exact Nat.le_of_lt (x.above y c (PySem.mem_of_lookup h))
  · have hi : i < vs.length := by
      unfold start at h2
      by_cases hi : i < vs.length
      · exact hi
      · rw [List.getElem?_append_right (by simpa using hi)] at h2
        rw [List.getElem?_replicate] at h2
        split at h2 <;> cases h2
    have ha : vs[i]? = some v := by
      unfold start at h2
      rw [List.getElem?_append_left (by simpa using hi), List.getElem?_map] at h2
      cases e : vs[i]? with
      | none => rw [e] at h2; cases h2
      | some a => rw [e] at h2; cases h2; rfl
    obtain ⟨u, hu, rv⟩ := r.get ha
    have hp : ps[i]? = some y := by
      rw [← S.pre, List.getElem?_take_of_lt (by omega)]; exact h1
    have ndP : ps.Nodup := by rw [← S.pre]; exact S.nd.sublist (List.take_sublist _ _)
    refine ⟨u, rv, ?_⟩
    rcases S.par y (List.mem_of_getElem? hp) with k | k
    · exact .inl ⟨k, bindL_get ndP hp hu k⟩
    · obtain ⟨c, e⟩ := cell_has (n := s.heap.objs.size + 1) k
      refine .inr ⟨.inl k, c, e, ?_⟩
      have q := x.cell y c e
      rw [bindC_get ndP hp hu (by show scope.names.lookup y ≠ _; rw [k]; decide)] at q
      exact q
  · exact e0.hok.fresh (Nat.le_of_lt (x.above y c (PySem.mem_of_lookup h)))
  · unfold start
    show _ = N.length
    rw [List.length_append, List.length_map, List.length_replicate]
    omega
theorem fn_of {CX : CXT} {P : Program} {w : World} {K : PySem.W.Frag} {mg : Str → Option Value} {base : Heap} {k : Nat} {f : Addr} {name qual : Str} {params : Arguments} {body : List Stmt} {scope : Scope} {dV kV doc pm cdv ct oc : Value} {an od : Option Addr}
    {osl : Array (Option Value)} {N ps : List Str} {sp : Sp} (lk : K.lookup f = some ⟨oc, od, .func (PySem.W.fnOf name qual params body scope dV kV doc pm an cdv ct), osl⟩) (hcd : PySem.W.codeIn K cdv qual = true) (S : FnScope N ps scope)
    (len : ∀ vs H Q E, sp vs H Q E → vs.length = ps.length)
    (hbody : ∀ (A : Around) (outer : List Env) (s : Shared) (H : Hp) (vs : List V) (Q : VK) (E : XK), Room k (A.deeper (envOfC qual scope s.heap.objs.size f cdv)) → sp vs H Q E →
      ∃ t, PSs (cxOf CX P w K mg base N qual scope f cdv A outer s H E) body t ∧ t { nx := fun _ H' => Q .non H', rt := Q } (start N vs) H) :
    FnOk P w K mg base CX (k + 1) f (PySem.W.fnOf name qual params body scope dV kV doc pm an cdv ct) ps sp := by
  unfold PSs at *
  exact by
    refine ⟨len, fun A outer s H args us vs Q E hr e0 hb r hsp => ?_⟩
    have hl := len _ _ _ _ hsp
    have KX : K.In s.heap := e0.mod.kin.keeps fun b o e => (e0.bs b o e).1
    have lim : s.heap.NoLimit := e0.mod.nolimit.keeps fun b o e => (e0.bs b o e).1
    have hkind : ∀ y ∈ ps.zip us, scope.names.lookup y.1 = some .local ∨ (scope.names.lookup y.1 = some .cell ∧ ((cellsFrom (s.heap.objs.size + 1) scope.names []).lookup y.1).isSome = true) := fun ⟨n, v⟩ hy => by
      rcases S.par n (List.of_mem_zip hy).1 with q | q
      · exact .inl q
      · exact .inr ⟨q, PySem.W.cellsFrom_some _ _ _ (.inl q)⟩
    refine codeAny_call_function hr.depth (KX _ _ lk) rfl S.co S.gen rfl (PySem.W.codeRec_of KX hcd) (hb _ _ _ _ ?_)
    refine wpAny_newFunctionEnv_cells S.kind hkind fun env he s1 x => ?_
    subst he
    refine ⟨lim.keeps x.toInCall.keep, codeAny_func ?_⟩
    obtain ⟨t, ht, hq⟩ := hbody A outer s H vs Q E (hr.deeper _) hsp
    have I : Inv (cxOf CX P w K mg base N qual scope f cdv A outer s H E) [] (start N vs) H s1 := inv_start S hr.hd e0 hl r x
    refine wpAny_mono (ht [] s1 (start N vs) H _ I hq) (fun fl s' hs => ?_) fun e s' hs => hs
    have fin : ∀ {σ' : St} {H' : Hp} {v : V} {u : Value}, Inv (cxOf CX P w K mg base N qual scope f cdv A outer s H E) [] σ' H' s' → RelV v u → Q v H' → CE outer P w H s Q u s' :=
      fun {σ' H' v u} J rv q => ⟨v, H', J.os, J.bare, J.base, J.hok, rv, q⟩
    cases fl with
    | ret u =>
      obtain ⟨v, σ', H', J, rv, q⟩ := hs
      exact fin J rv q
    | next =>
      obtain ⟨σ', H', J, q⟩ := hs
      exact fin (v := V.non) (u := Value.none) J rfl q
    | brk =>
      obtain ⟨_, _, _, q⟩ := hs
      exact False.elim q
    | cont =>
      obtain ⟨_, _, _, q⟩ := hs
      exact False.elim q
end L2
namespace L2
open PySem PySem.Spec PyProof.Rows
section
variable {X : Cx} {x : Str} {p pos : Pos} {e : Expr} {es : List Expr} {t : TA} {id T : String} {r : List V → Hp → VK → Prop}
def tCB (r : List V → Hp → VK → Prop) (t : TA) : TE := fun σ H Q => t σ H fun vs H1 => r vs H1 Q
theorem pe_callB (hc : CallR X (.builtin id) r) (hg : Gl X x) (hm : X.mg x = none) (hv : bootBuiltins x = some (.builtin id)) (ha : PA X (e :: es) t) (hn : x ≠ "__name__" := by decide) (hdb : (x == ("__debug__" : Str)) = false := by decide)
    (he : starEach (e :: es) X.env = (false, eval e X.env) :: starEach es X.env := by rfl) (hpl : (backTo pos (starEach es X.env)).any (·.1) = false := by rfl) : PE X (.Call (.Name x p) (e :: es) [] pos) (tCB r t) := by
  unfold PE at *; unfold PA at *; unfold CallR at *
  exact by
    intro pins s σ H Q I h
    refine wpAny_Call_Name_kw (ld_blt I hg hm hv ?_ hn hdb)
    exact PyProof.Rows.callWith_builtin1 (thn (ha pos pins s σ H _ I h) fun us s1 ⟨vs, H1, I1, r1, q1⟩ => hc pins s1 σ H1 vs us Q I1 r1 q1) he hpl
theorem pe_callTy (hc : CallR X (.type T) r) (hg : Gl X x) (hm : X.mg x = none) (hv : bootBuiltins x = some (.type T)) (ha : PA X (e :: es) t) (hn : x ≠ "__name__" := by decide) (hdb : (x == ("__debug__" : Str)) = false := by decide)
    (he : starEach (e :: es) X.env = (false, eval e X.env) :: starEach es X.env := by rfl) (hpl : (backTo pos (starEach es X.env)).any (·.1) = false := by rfl) : PE X (.Call (.Name x p) (e :: es) [] pos) (tCB r t) := by
  unfold PE at *; unfold PA at *; unfold CallR at *
  exact by
    intro pins s σ H Q I h
    refine wpAny_Call_Name_kw (ld_blt I hg hm hv ?_ hn hdb)
    exact PyProof.Rows.callWith_type1 (thn (ha pos pins s σ H _ I h) fun us s1 ⟨vs, H1, I1, r1, q1⟩ => hc pins s1 σ H1 vs us Q I1 r1 q1) he hpl
end
end L2
namespace HT
open PySem PyProof.Rows
section
open PySem.SeqAt
open PySem.AutoSeq1 (wpAny_loadPart')
open PySem.MeetsSeq PySem.MeetsSeq2 PySem.MeetsSeq3
end
section
variable {prog : Program} {w : World} {A : Around} {E : Value → Shared → Prop} {s : Shared}
theorem cat_tup {t b : Addr} {vs ws : List Value} {Q : Value → Shared → Prop} (ht : IsTup s.heap t vs.toArray) (hb : IsTup s.heap b ws.toArray) (hv : vs ≠ [])
    (h1 : ws = [] → Q (.ref t) s) (h2 : ws ≠ [] → Q (.ref s.heap.objs.size) { s with heap := s.heap.push { cls := .type "tuple", data := .seq (vs ++ ws).toArray } })
    (hsz : vs.length + ws.length ≤ sizeLine) : wpAny (model prog w) A (binaryOp .Add (.ref t) (.ref b)) Q E s := by
  obtain ⟨⟨cls, dd, data, sl⟩, ho, hc, n, hd⟩ := id ht
  obtain ⟨⟨cls2, dd2, data2, sl2⟩, ho2, hc2, n2, hd2⟩ := id hb
  simp only at hc hd hc2 hd2
  subst hc hd hc2 hd2
  have e : vs.toArray ++ ws.toArray = (vs ++ ws).toArray := by simp
  by_cases hw : ws = []
  · exact concat_meets ⟨_, ho, rfl⟩ ⟨_, ho2, rfl⟩ noFill_tuple_add seq_tuple_add PySem.F.slot_tuple_add PySem.F.entry_tuple_add (PySem.F.args_tuple_add_2 _ _)
      (tuple_addW1 t b vs.toArray ws.toArray n n2 dd dd2 sl sl2 (by simpa using hv) (by simp [hw])) ⟨ho, ho2, h1 hw⟩
  · refine concat_meets ⟨_, ho, rfl⟩ ⟨_, ho2, rfl⟩ noFill_tuple_add seq_tuple_add PySem.F.slot_tuple_add PySem.F.entry_tuple_add (PySem.F.args_tuple_add_2 _ _)
      (tuple_addW2 t b vs.toArray ws.toArray n n2 dd dd2 sl sl2 (by simpa using hv) (by simpa using hw) (by rw [List.size_toArray, List.size_toArray]; exact hsz)) ⟨ho, ho2, ?_⟩
    rw [e]
    exact h2 hw
def sIx (n d : Nat) : Option Int → Nat
  | none => d
  | some v => if v < 0 then (v + (n : Int)).toNat else min v.toNat n
theorem sIx_none (n d : Nat) : sIx n d none = d := rfl
theorem sIx_le (n d : Nat) (hd : d ≤ n) (o : Option Int) : sIx n d o ≤ n := by
  cases o with
  | none => exact hd
  | some v =>
    show (if v < 0 then (v + (n : Int)).toNat else min v.toNat n) ≤ n
    by_cases hv : v < 0
    · rw [if_pos hv]; omega
    · rw [if_neg hv]; exact Nat.min_le_right _ _
theorem clip_eq (v : Int) (n d : Nat) : (if v < 0 then max (v + (n : Int)) 0 else min v (n : Int)) = ((sIx n d (some v) : Nat) : Int) := by
  show (if v < 0 then max (v + (n : Int)) 0 else min v (n : Int)) = (((if v < 0 then (v + (n : Int)).toNat else min v.toNat n) : Nat) : Int)
  by_cases hv : v < 0
  · simp only [if_pos hv]; omega
  · simp only [if_neg hv]; omega
theorem adjust_gen (lo hi : Option Int) (n : Nat) : Builtin.Slice.sliceAdjust lo hi 1 (n : Int) = (((sIx n 0 lo : Nat) : Int), ((sIx n n hi : Nat) : Int)) := by
  have h1 : ¬ ((1 : Int) < 0) := by omega
  unfold Builtin.Slice.sliceAdjust
  simp only [h1, if_false]
  refine Prod.ext ?_ ?_
  · cases lo with
    | none => rfl
    | some v => exact clip_eq v n 0
  · cases hi with
    | none => rfl
    | some v => exact clip_eq v n n
theorem places_gen (i j : Nat) : Builtin.Slice.slicePlaces (i : Int) (j : Int) 1 = j - i := by
  unfold Builtin.Slice.slicePlaces
  have h1 : (1 : Int) > 0 := by omega
  simp only [h1, if_true, Int.ediv_one]
  split <;> omega
theorem slicePart_ {v : Value} {o : Option Int} {Q : Option Int → Shared → Prop} (p : IsPart v o) (h : Q o s) : wpAny (model prog w) A (Builtin.Slice.slicePartIndex v) Q E s := by
  cases p with
  | none => exact slicePart_none h
  | int i t => exact slicePart_int h
theorem sliceApplied_gen {sl : Addr} {vl vu : Value} {lo hi : Option Int} {n : Nat} {Q : Int × Int × Nat → Shared → Prop} (hs : s.heap.IsSliceOf sl vl vu .none) (pl : IsPart vl lo) (pu : IsPart vu hi)
    (h : Q (((sIx n 0 lo : Nat) : Int), 1, sIx n n hi - sIx n 0 lo) s) : wpAny (model prog w) A (Builtin.Slice.sliceApplied (.ref sl) (pure (n : Int))) Q E s := by
  obtain ⟨os, hos, hcs, hds⟩ := id hs
  unfold Builtin.Slice.sliceApplied Builtin.Slice.sliceFields
  refine wpAny_bind (wpAny_bind (wpAny_field hos hds (x := vl) rfl (wpAny_bind (wpAny_field hos hds (x := vu) rfl (wpAny_bind (wpAny_field hos hds (x := .none) rfl (wpAny_pure ?_)))))))
  refine wpAny_bind (slicePart_none ?_)
  show wpAny _ _ (if ((1 : Int) == 0) = true then _ else _) _ _ s
  rw [if_neg (by decide)]
  refine wpAny_bind (slicePart_ pl (wpAny_bind (slicePart_ pu (wpAny_bind (wpAny_pure ?_)))))
  show wpAny _ _ (match Builtin.Slice.sliceAdjust lo hi 1 (n : Int) with | (lo, hi) => pure (lo, (1 : Int), Builtin.Slice.slicePlaces lo hi 1)) _ _ s
  rw [adjust_gen lo hi n]
  show wpAny _ _ (pure (((sIx n 0 lo : Nat) : Int), (1 : Int), Builtin.Slice.slicePlaces ((sIx n 0 lo : Nat) : Int) ((sIx n n hi : Nat) : Int) 1)) _ _ s
  rw [places_gen]
  exact wpAny_pure h
theorem pick_gen (xs : Array Value) (i k : Nat) : ((List.range k).filterMap fun (m : Nat) => xs[((i : Int) + (m : Int) * 1).toNat]?).toArray = ((xs.toList.drop i).take k).toArray := by
  have e : (fun (m : Nat) => xs[((i : Int) + (m : Int) * 1).toNat]?) = fun m => xs[i + m]? := by
    funext m
    have : ((i : Int) + (m : Int) * 1).toNat = i + m := by omega
    rw [this]
  rw [e]
  have := pick_run xs i k
  rw [List.filterMap_map] at this
  have e2 : ((fun x => xs[x]?) ∘ fun x => i + x) = fun m => xs[i + m]? := rfl
  rw [e2] at this
  rw [this]
theorem getItem_tuple_cut {t sl : Addr} {items : Array Value} {vl vu : Value} {lo hi : Option Int} {Q : Value → Shared → Prop} (ht : IsTup s.heap t items) (hs : s.heap.IsSliceOf sl vl vu .none) (pl : IsPart vl lo) (pu : IsPart vu hi)
    (hw : ¬ (sIx items.size 0 lo = 0 ∧ sIx items.size items.size hi = items.size))
    (h : Q (.ref s.heap.objs.size) { s with heap := s.heap.push { cls := .type "tuple", data := .seq ((items.toList.drop (sIx items.size 0 lo)).take (sIx items.size items.size hi - sIx items.size 0 lo)).toArray } })
    (hsz : items.size ≤ sizeLine) : wpAny (model prog w) A (getItem (.ref t) (.ref sl)) Q E s := by
  have htake : sizeOk (.seq ((items.toList.drop (sIx items.size 0 lo)).take (sIx items.size items.size hi - sIx items.size 0 lo)).toArray) := by
    show ((items.toList.drop (sIx items.size 0 lo)).take (sIx items.size items.size hi - sIx items.size 0 lo)).toArray.size ≤ sizeLine
    rw [List.size_toArray, List.length_take, List.length_drop, Array.length_toList]
    omega
  have hj : sIx items.size items.size hi ≤ items.size := sIx_le _ _ (Nat.le_refl _) hi
  obtain ⟨os, hos, hcs, hds⟩ := id hs
  have hTs : s.TypeIs (.ref sl) "slice" := ⟨os, hos, hcs⟩
  unfold getItem
  try with_reducible refine wpAny_holding ?_
  first | refine wpAny_bind (wpAny_pure ?_) | skip
  refine wpAny_bind (wpAny_sequenceKey ht.typeIs (by decide) ?_)
  refine wpAny_bind (wpAny_callSpecial?_slot (name := Str.ofString "__getitem__") ht.typeIs PyProof.Rows.slot_tuple_getitem
    (wpAny_call_entry PyProof.Rows.slot_tuple_getitem ht.typeIs entry_tuple_getitem ?_ (args_tuple_getitem _ _)))
  show wpAny _ _ (Builtin.Tuple.tupleItemsOf (.ref t) >>= _) _ _ s
  refine wpAny_bind (tupleItemsOf_ ht ?_)
  refine wpAny_bind (wpAny_typeOf hTs ?_)
  rw [if_pos (by decide)]
  refine wpAny_bind (sliceApplied_gen hs pl pu ?_)
  have hno : ¬ ((((sIx items.size 0 lo : Nat) : Int) == 0 && (1 : Int) == 1 && (sIx items.size items.size hi - sIx items.size 0 lo) == items.size) = true) := by
    intro q
    rw [Bool.and_eq_true, Bool.and_eq_true] at q
    have q1 : ((sIx items.size 0 lo : Nat) : Int) = 0 := eq_of_beq q.1.1
    have q2 : sIx items.size items.size hi - sIx items.size 0 lo = items.size := eq_of_beq q.2
    exact hw ⟨by omega, by omega⟩
  show wpAny _ _ (if (((sIx items.size 0 lo : Nat) : Int) == 0 && (1 : Int) == 1 && (sIx items.size items.size hi - sIx items.size 0 lo) == items.size) = true then _ else _) _ _ s
  rw [if_neg hno, pick_gen]
  first
    | exact wpAny_bind (m := Builtin.Tuple.tupleExact _) (wpAny_newObj_type (wpAny_pure ⟨_, rfl, wpAny_pure h⟩) htake)
    | exact wpAny_bind (m := Builtin.Tuple.tupleExact _) (wpAny_newObj_type (wpAny_bind (wpAny_pure (wpAny_pure ⟨_, rfl, wpAny_pure h⟩))) htake)
    | exact wpAny_bind (wpAny_bind (m := Builtin.Tuple.tupleExact _) (wpAny_newObj_type (wpAny_pure (wpAny_pure ⟨_, rfl, wpAny_pure h⟩)) htake))
    | exact wpAny_bind (wpAny_bind (m := Builtin.Tuple.tupleExact _) (wpAny_newObj_type (wpAny_pure ⟨_, rfl, wpAny_pure h⟩) htake))
end
end HT
namespace L2
open PySem PySem.Spec PyProof.Rows
abbrev TO := St → Hp → (Option Int → Hp → Prop) → Prop
@[irreducible] def PO (X : Cx) (e : Option Expr) (t : TO) : Prop :=
  ∀ (pins : List (Addr × Obj)) (s : Shared) (σ : St) (H : Hp) (Q : Option Int → Hp → Prop), Inv X pins σ H s → t σ H Q →
    wpAny (model X.prog X.w) X.A (evalPart e X.env) (fun u s' => ∃ o H', Inv X pins σ H' s' ∧ IsPart u o ∧ Q o H') X.xe s
def tNoPart : TO := fun _ H Q => Q none H
def tPart (t : TE) : TO := fun σ H Q => t σ H fun x H1 => ∃ i, x = .int i ∧ Q (some i) H1
section
variable {X : Cx} {e : Expr} {te : TE} {lo hi : Option Expr} {tl th : TO} {pos p2 : Pos}
theorem po_none : PO X none tNoPart := by
  unfold PO at *
  exact by
    intro pins s σ H Q I h
    rw [evalPart_none]
    exact wpAny_pure ⟨none, H, I, .none, h⟩
theorem po_some (h : PE X e te) : PO X (some e) (tPart te) := by
  unfold PE at *; unfold PO at *
  exact by
    intro pins s σ H Q I hw
    rw [evalPart_some]
    refine thn (h pins s σ H _ I hw) fun u s1 ⟨x, H1, I1, r1, q1⟩ => ?_
    obtain ⟨i, rfl, q⟩ := q1
    obtain ⟨t, rfl⟩ := r1
    exact ⟨some i, H1, I1, .int i t, q⟩
@[irreducible] def SlR (X : Cx) (r : V → Option Int → Option Int → Hp → VK → Prop) : Prop :=
  ∀ (pins : List (Addr × Obj)) (s : Shared) (σ : St) (H : Hp) (x : V) (v vl vu : Value) (lo hi : Option Int) (sl : Addr) (Q : VK), Inv X pins σ H s → RelV x v → s.heap.IsSliceOf sl vl vu .none → IsPart vl lo → IsPart vu hi → r x lo hi H Q →
    ∃ T id, typeLookup (.type T) "__getitem__" = pure (some (.builtin id)) ∧ s.TypeIs v T ∧ wpAny (model X.prog X.w) X.A (getItem v (.ref sl)) (EP X pins σ Q) X.xe s
theorem SlR.or {r r' : V → Option Int → Option Int → Hp → VK → Prop} (h : SlR X r) (h' : SlR X r') : SlR X (fun x lo hi H Q => r x lo hi H Q ∨ r' x lo hi H Q) := by
  unfold SlR at *
  exact by
    intro pins s σ H x v vl vu lo hi sl Q I rx hs pl pu q
    rcases q with q | q
    · exact h pins s σ H x v vl vu lo hi sl Q I rx hs pl pu q
    · exact h' pins s σ H x v vl vu lo hi sl Q I rx hs pl pu q
def tSl (r : V → Option Int → Option Int → Hp → VK → Prop) (te : TE) (tl th : TO) : TE := fun σ H Q => te σ H fun x H1 => tl σ H1 fun l H2 => th σ H2 fun u H3 => r x l u H3 Q
theorem pe_slice {r : V → Option Int → Option Int → Hp → VK → Prop} (hr : SlR X r) (he : PE X e te) (hl : PO X lo tl) (hu : PO X hi th) : PE X (.Subscript e (.Slice lo hi none p2) pos) (tSl r te tl th) := by
  unfold PE at *; unfold PO at *; unfold SlR at *
  exact by
    intro pins s σ H Q I h
    refine Subscript_ (thn (he pins s σ H _ I h) fun v s1 ⟨x, H1, I1, r1, q1⟩ => ?_)
    refine wpAny_Slice (thn (hl pins s1 σ H1 _ I1 q1) fun vl s2 ⟨l, H2, I2, pl, q2⟩ => thn (hu pins s2 σ H2 _ I2 q2) fun vu s3 ⟨u, H3, I3, pu, q3⟩ => ?_)
    rw [evalPart_none]
    refine wpAny_pure ?_
    have I4 : Inv X pins σ H3 { s3 with heap := s3.heap.push { cls := .type "slice", data := .fields #[vl, vu, .none] } } := I3.kept (t' := s3.toks) fun b ob q => Heap.get?_push_of_some _ q
    obtain ⟨T, id, hT, ht, hg⟩ := hr pins { s3 with heap := s3.heap.push { cls := .type "slice", data := .fields #[vl, vu, .none] } } σ H3 x v vl vu l u s3.heap.objs.size Q I4 r1 (Heap.IsSliceOf.new ..) pl pu q3
    show wpAny (model X.prog X.w) X.A (subscriptTail e (.Slice lo hi none p2) v (.ref s3.heap.objs.size)) (EP X pins σ Q) X.xe { s3 with heap := s3.heap.push { cls := .type "slice", data := .fields #[vl, vu, .none] } }
    exact tail_any (ops := [.ref s3.heap.objs.size, v]) ht hT hg (by with_unfolding_all rfl)
def cutV (xs : List V) (lo hi : Option Int) : List V := (xs.drop (HT.sIx xs.length 0 lo)).take (HT.sIx xs.length xs.length hi - HT.sIx xs.length 0 lo)
theorem cutV_length (xs : List V) (lo hi : Option Int) : (cutV xs lo hi).length ≤ xs.length := by
  unfold cutV
  rw [List.length_take, List.length_drop]
  omega
def rSlT (K : PySem.W.Frag) : V → Option Int → Option Int → Hp → VK → Prop := fun x lo hi H Q => ∃ a xs, x = .ref a ∧ SqT K H a xs ∧
  ¬ (HT.sIx xs.length 0 lo = 0 ∧ HT.sIx xs.length xs.length hi = xs.length) ∧ ∀ p, H p = none → Q (.ref p) (upd H p (.tup (cutV xs lo hi)))
theorem sl_tup : SlR X (rSlT X.K) := by
  unfold SlR at *
  exact by
    intro pins s σ H x v vl vu lo hi sl Q I rx hs pl pu h
    obtain ⟨a, xs, rfl, hx, hw, q⟩ := h
    cases rx
    obtain ⟨its, r, ht, hz⟩ := I.tuple hx
    have hlen : its.toArray.size = xs.length := by rw [List.size_toArray]; exact r.length.symm
    refine ⟨"tuple", _, PyProof.Rows.slot_tuple_getitem.lookup, ht.typeIs, ?_⟩
    refine HT.getItem_tuple_cut ht hs pl pu (by rw [hlen]; exact hw) ?_ (by rw [hlen]; exact hz)
    rw [hlen]
    refine ⟨.ref s.heap.objs.size, _, I.laid (t' := s.toks) (o := .tup (cutV xs lo hi)) (fun b ob q => Heap.get?_push_of_some _ q) (Nat.le_refl _) ?_, rfl, q _ (I.hok.fresh (Nat.le_refl _))⟩
    exact ⟨Nat.le_trans (cutV_length xs lo hi) hz, _, (r.drop (HT.sIx xs.length 0 lo)).take (HT.sIx xs.length xs.length hi - HT.sIx xs.length 0 lo), IsTup.new _ _⟩
def rCatT (K : PySem.W.Frag) : R2 := fun x y H Q => ∃ a b xs ys, x = .ref a ∧ y = .ref b ∧ SqT K H a xs ∧ SqT K H b ys ∧ xs ≠ [] ∧ xs.length + ys.length ≤ sizeLine ∧
  (ys = [] → Q (.ref a) H) ∧ (ys ≠ [] → ∀ p, H p = none → Q (.ref p) (upd H p (.tup (xs ++ ys))))
theorem Vals.nil_iff {xs : List V} {us : List Value} (r : Vals xs us) : us = [] ↔ xs = [] := by
  cases r with
  | nil => simp
  | cons _ _ => simp
theorem op_catT : OpR X (binaryOp .Add) (rCatT X.K) := by
  unfold OpR at *
  exact by
    intro pins s σ H x y v u Q I rx ry h
    obtain ⟨a, b, xs, ys, rfl, rfl, ha, hb, hx, hz, q1, q2⟩ := h
    cases rx
    cases ry
    obtain ⟨its, r1, p1, _⟩ := I.tuple ha
    obtain ⟨its2, r2, p2, _⟩ := I.tuple hb
    refine HT.cat_tup p1 p2 (fun z => hx (r1.nil_iff.mp z)) (fun z => ⟨.ref a, H, I, rfl, q1 (r2.nil_iff.mp z)⟩) (fun z => ?_) (by rw [← r1.length, ← r2.length]; exact hz)
    refine ⟨.ref s.heap.objs.size, _, I.laid (t' := s.toks) (o := .tup (xs ++ ys)) (fun b ob q => Heap.get?_push_of_some _ q) (Nat.le_refl _) ?_, rfl, q2 (fun w => z (r2.nil_iff.mpr w)) _ (I.hok.fresh (Nat.le_refl _))⟩
    exact ⟨by rw [List.length_append]; exact hz, _, r1.append r2, IsTup.new _ _⟩
end
end L2
namespace L2
open PySem PySem.Spec PyProof.Rows
def ixN (n : Nat) (i : Int) : Option Nat := if 0 ≤ i then (if i < n then some i.toNat else none) else if -(n : Int) ≤ i then some (i + n).toNat else none
def atI {α : Type} (xs : List α) (i : Int) : Option α := (ixN xs.length i).bind fun j => xs[j]?
theorem ixN_seq {n : Nat} {i : Int} {j : Nat} (h : ixN n i = some j) : seqIndex? i n = some j ∧ j < n ∧ -(n : Int) ≤ i ∧ i < n := by
  unfold ixN at h
  by_cases h0 : 0 ≤ i
  · rw [if_pos h0] at h
    by_cases h1 : i < n
    · rw [if_pos h1] at h
      have e : i.toNat = j := Option.some.inj h
      exact ⟨by rw [seqIndex_of h0 h1, e], by omega, by omega, h1⟩
    · rw [if_neg h1] at h; cases h
  · rw [if_neg h0] at h
    by_cases h1 : -(n : Int) ≤ i
    · rw [if_pos h1] at h
      have e : (i + n).toNat = j := Option.some.inj h
      exact ⟨by rw [seqIndex_neg (by omega) h1, e], by omega, h1, by omega⟩
    · rw [if_neg h1] at h; cases h
theorem atI_get {α : Type} {xs : List α} {i : Int} {v : α} (h : atI xs i = some v) : ∃ j, seqIndex? i xs.length = some j ∧ xs[j]? = some v ∧ j < xs.length ∧ -(xs.length : Int) ≤ i ∧ i < xs.length := by
  unfold atI at h
  cases e : ixN xs.length i with
  | none => rw [e] at h; cases h
  | some j =>
    rw [e] at h
    obtain ⟨h1, h2, h3, h4⟩ := ixN_seq e
    exact ⟨j, h1, h, h2, h3, h4⟩
theorem atI_nat {α : Type} {xs : List α} {j : Nat} {v : α} (h : xs[j]? = some v) : atI xs (j : Int) = some v := by
  have hj : j < xs.length := (List.getElem?_eq_some_iff.mp h).1
  have e : ixN xs.length (j : Int) = some j := by
    unfold ixN
    rw [if_pos (by omega), if_pos (by omega)]; simp
  unfold atI; rw [e]; exact h
theorem atI_last {α : Type} (xs : List α) (v : α) : atI (xs ++ [v]) (-1) = some v := by
  have hl : (xs ++ [v]).length = xs.length + 1 := by simp
  have e : ixN (xs ++ [v]).length (-1) = some xs.length := by
    unfold ixN
    rw [hl, if_neg (by decide), if_pos (by omega)]
    congr 1
    omega
  unfold atI
  rw [e]
  show (xs ++ [v])[xs.length]? = some v
  simp
def PlainIx (b : Expr) : Prop := ∀ o i, subscripted b false o i = operate [o, i] (getItem o i)
@[irreducible] def IxR (X : Cx) (r : R2) : Prop :=
  ∀ (value slice : Expr) (pins : List (Addr × Obj)) (s : Shared) (σ : St) (H : Hp) (x y : V) (v u : Value) (Q : VK), Inv X pins σ H s → RelV x v → RelV y u → r x y H Q →
    subscripted slice false v u = operate [v, u] (getItem v u) → wpAny (model X.prog X.w) X.A (subscriptTail value slice v u) (EP X pins σ Q) X.xe s
@[irreducible] def MtR (X : Cx) (id : String) (r : V → List V → Hp → VK → Prop) : Prop :=
  ∀ (pins : List (Addr × Obj)) (s : Shared) (σ : St) (H : Hp) (x : V) (xs : List V) (v : Value) (us : List Value) (Q : VK), Inv X pins σ H s → RelV x v → Vals xs us → r x xs H Q →
    wpAny (model X.prog X.w) X.A (call (.builtin id) (v :: us)) (EP X pins σ Q) X.xe s
section
variable {X : Cx} {a b : Expr} {ta tb : TE} {pos : Pos}
theorem IxR.or {r r' : R2} (h : IxR X r) (h' : IxR X r') : IxR X (fun x y H Q => r x y H Q ∨ r' x y H Q) := by
  unfold IxR at *
  exact by
    intro value slice pins s σ H x y v u Q I rx ry q hs
    rcases q with q | q
    · exact h value slice pins s σ H x y v u Q I rx ry q hs
    · exact h' value slice pins s σ H x y v u Q I rx ry q hs
theorem MtR.or {id : String} {r r' : V → List V → Hp → VK → Prop} (h : MtR X id r) (h' : MtR X id r') : MtR X id (fun x xs H Q => r x xs H Q ∨ r' x xs H Q) := by
  unfold MtR at *
  exact by
    intro pins s σ H x xs v us Q I rx rs q
    rcases q with q | q
    · exact h pins s σ H x xs v us Q I rx rs q
    · exact h' pins s σ H x xs v us Q I rx rs q
theorem pe_ix {r : R2} (hr : IxR X r) (ha : PE X a ta) (hb : PE X b tb) (hs : PlainIx b) : PE X (.Subscript a b pos) (tOp r ta tb) := by
  unfold PE; unfold IxR at hr
  exact by
    intro pins s σ H Q I h
    exact Subscript_ (binT ha hb I h fun v u s2 x y H2 I2 rx ry q => hr a b pins s2 σ H2 x y v u Q I2 rx ry q (hs _ _))
def rIxL (K : PySem.W.Frag) : R2 := fun x y H Q => ∃ p xs i v, x = .ref p ∧ y = .int i ∧ SqL K H p xs ∧ atI xs i = some v ∧ Q v H
def rIxT (K : PySem.W.Frag) : R2 := fun x y H Q => ∃ p xs i v, x = .ref p ∧ y = .int i ∧ SqT K H p xs ∧ atI xs i = some v ∧ Q v H
theorem ix_list : IxR X (rIxL X.K) := by
  unfold IxR at *
  exact by
    intro value slice pins s σ H x y v u Q I rx ry h hs
    obtain ⟨p, xs, i, z, rfl, rfl, hq, he, q⟩ := h
    cases rx
    obtain ⟨t, rfl⟩ := ry
    obtain ⟨its, r, pl, hz⟩ := I.list hq
    obtain ⟨j, h1, h2, h3, h4, h5⟩ := atI_get he
    obtain ⟨w, ew, rw'⟩ := r.get h2
    have hl := r.length
    have hn := line63
    have fin : EP X pins σ Q w s := ⟨z, H, I, rw', q⟩
    by_cases h0 : 0 ≤ i
    · have hj : i.toNat = j := by
        rw [seqIndex_of h0 h5] at h1
        exact Option.some.inj h1
      exact item_listR pl.isList h0 (by omega) (by rw [hj]; simpa using ew) fin hs
    · have hj : (i + (its.toArray.size : Int)).toNat = j := by
        rw [seqIndex_neg (by omega) h4] at h1
        rw [List.size_toArray, ← hl]
        exact Option.some.inj h1
      exact subscriptTail_builtinR (x := w) pl.isList.typeIs slot_list_getitem.lookup
        (wpAny_getItem_list_neg (Q := fun r s' => r = w ∧ EP X pins σ Q r s') pl.isList (by omega) (by rw [List.size_toArray] <;> omega) (by omega) (by rw [hj]; simpa using ew) ⟨rfl, fin⟩) hs
theorem ix_tup : IxR X (rIxT X.K) := by
  unfold IxR at *
  exact by
    intro value slice pins s σ H x y v u Q I rx ry h hs
    obtain ⟨p, xs, i, z, rfl, rfl, hq, he, q⟩ := h
    cases rx
    obtain ⟨t, rfl⟩ := ry
    obtain ⟨its, r, pl, hz⟩ := I.tuple hq
    obtain ⟨j, h1, h2, h3, h4, h5⟩ := atI_get he
    obtain ⟨w, ew, rw'⟩ := r.get h2
    have hl := r.length
    have hn := line63
    have fin : EP X pins σ Q w s := ⟨z, H, I, rw', q⟩
    exact subscriptTail_builtinR (x := w) pl.typeIs slot_tuple_getitem.lookup
      (getItem_tuple (j := j) (Q := fun r s' => r = w ∧ EP X pins σ Q r s') pl (by omega) (by omega) (by rw [List.size_toArray, ← hl]; exact h1) (by simpa using ew) ⟨rfl, fin⟩) hs
theorem mapSeq_set (its : List Value) (n j : Nat) (u : Value) : Obj.mapSeq (·.setIfInBounds j u) { cls := .type "list", data := .seq its.toArray n } = { cls := .type "list", data := .seq (its.set j u).toArray n } := by
  simp [Obj.mapSeq]
theorem Inv.lst {pins : List (Addr × Obj)} {σ : St} {H : Hp} {s : Shared} {p : Addr} {xs : List V} (I : Inv X pins σ H s) (h : H p = some (.lst xs)) :
    ∃ (its : List Value) (n : Nat), Vals xs its ∧ s.heap.get? p = some { cls := .type "list", data := .seq its.toArray n } ∧ xs.length ≤ sizeLine := by
  obtain ⟨z, its, n, r, e⟩ := I.hok p _ h
  exact ⟨its, n, r, e, z⟩
theorem Inv.lstUpd {pins : List (Addr × Obj)} {σ : St} {H : Hp} {s : Shared} {p : Addr} {xs ys : List V} {its its' : List Value} {n n' : Nat} {f : Obj → Obj} (I : Inv X pins σ H s) (h : H p = some (.lst xs))
    (ho : s.heap.get? p = some { cls := .type "list", data := .seq its.toArray n }) (hf : f { cls := .type "list", data := .seq its.toArray n } = { cls := .type "list", data := .seq its'.toArray n' }) (r : Vals ys its') (hz : ys.length ≤ sizeLine) (t : Nat) :
    Inv X pins σ (upd H p (.lst ys)) { s with heap := s.heap.update p f, toks := t } := by
  have e : (s.heap.update p f).get? p = some { cls := .type "list", data := .seq its'.toArray n' } := by
    rw [Heap.get?_update_self f ho (by rw [hf] <;> rfl), hf]
  refine I.write (x := p) (e := p) (by rw [h]; trivial) (.inl rfl) (fun b u hb q => (Heap.get?_update_other _ _ (Ne.symm hb)).trans q) ⟨_, e⟩ ?_
  exact ⟨hz, its', n', r, e⟩
def rSetL : V → V → V → Hp → (Hp → Prop) → Prop := fun o i v H Q => ∃ p xs k j, o = .ref p ∧ i = .int k ∧ H p = some (.lst xs) ∧ ixN xs.length k = some j ∧ Q (upd H p (.lst (xs.set j v)))
theorem set_list : PSet X rSetL := by
  unfold PSet at *
  exact by
    intro pins s σ H o i v ov iv u Q I ro ri rv h
    obtain ⟨p, xs, k, j, rfl, rfl, hp, hj, q⟩ := h
    cases ro
    obtain ⟨t, rfl⟩ := ri
    obtain ⟨its, n, r, ho, hz⟩ := I.lst hp
    obtain ⟨h1, h2, h3, h4⟩ := ixN_seq hj
    have hl := r.length
    have hn := line63
    have I' : Inv X pins σ (upd H p (.lst (xs.set j v))) { s with heap := s.heap.update p (Obj.mapSeq (·.setIfInBounds j u)) } :=
      I.lstUpd hp ho (mapSeq_set its n j u) (r.set rv j) (by rw [List.length_set]; exact hz) s.toks
    by_cases h0 : 0 ≤ k
    · have hk : k.toNat = j := by
        rw [seqIndex_of h0 h4] at h1
        exact Option.some.inj h1
      exact PySem.W.ki_setAt ho h0 (by omega) (by rw [List.size_toArray, ← hl]; exact h4) (by rw [hk]; exact ⟨_, I', q⟩)
    · have hk : (k + (its.toArray.size : Int)).toNat = j := by
        rw [seqIndex_neg (by omega) h3] at h1
        rw [List.size_toArray, ← hl]
        exact Option.some.inj h1
      exact PySem.W.ki_setBack ho (by omega) (by rw [List.size_toArray, ← hl]; exact h3) (by omega) (by rw [hk]; exact ⟨_, I', q⟩)
def flatV : V → Bool
  | .non => true
  | .bl _ => true
  | .int _ => true
  | .str _ => true
  | _ => false
def eqV : V → V → Bool
  | .non, .non => true
  | .bl a, .bl b => a == b
  | .bl a, .int b => (if a then 1 else 0) == b
  | .int a, .bl b => a == (if b then 1 else 0)
  | .int a, .int b => a == b
  | .str a, .str b => a == b
  | _, _ => false
theorem eqAt_V {A : Around} {s : Shared} {y x : V} {u v : Value} (ry : RelV y u) (rx : RelV x v) (fy : flatV y = true) (fx : flatV x = true) : SeqAt.EqAt A s u v (eqV y x) := by
  cases y with
  | non =>
    cases ry
    cases x with
    | non => cases rx; exact SeqAt.EqAt.same _
    | bl b => cases rx; exact SeqAt.EqAt.none_bool b
    | int b => obtain ⟨t, rfl⟩ := rx; exact SeqAt.EqAt.none_int b t
    | str b => obtain ⟨t, rfl⟩ := rx; exact SeqAt.EqAt.none_str b t
    | _ => exact absurd (show false = true from fx) Bool.false_ne_true
  | bl a =>
    cases ry
    cases x with
    | non => cases rx; exact SeqAt.EqAt.bool_none a
    | bl b => cases rx; exact SeqAt.EqAt.bool_bool a b
    | int b => obtain ⟨t, rfl⟩ := rx; exact SeqAt.EqAt.bool_int a b t
    | str b => obtain ⟨t, rfl⟩ := rx; exact SeqAt.EqAt.bool_str a b t
    | _ => exact absurd (show false = true from fx) Bool.false_ne_true
  | int a =>
    obtain ⟨t', rfl⟩ := ry
    cases x with
    | non => cases rx; exact SeqAt.EqAt.int_none a t'
    | bl b => cases rx; exact SeqAt.EqAt.int_bool a t' b
    | int b => obtain ⟨t, rfl⟩ := rx; exact SeqAt.EqAt.int_int a t' b t
    | str b => obtain ⟨t, rfl⟩ := rx; exact SeqAt.EqAt.int_str a t' b t
    | _ => exact absurd (show false = true from fx) Bool.false_ne_true
  | str a =>
    obtain ⟨t', rfl⟩ := ry
    cases x with
    | non => cases rx; exact SeqAt.EqAt.str_none a t'
    | bl b => cases rx; exact SeqAt.EqAt.str_bool a t' b
    | int b => obtain ⟨t, rfl⟩ := rx; exact SeqAt.EqAt.str_int a t' b t
    | str b => obtain ⟨t, rfl⟩ := rx; exact SeqAt.EqAt.str_str a t' b t
    | _ => exact absurd (show false = true from fx) Bool.false_ne_true
  | _ => exact absurd (show false = true from fy) Bool.false_ne_true
def eqU (x : V) (u : Value) : Bool := match u with
  | .none => eqV .non x
  | .bool b => eqV (.bl b) x
  | .int i _ => eqV (.int i) x
  | .str z _ => eqV (.str z) x
  | _ => false
theorem eqU_of {x y : V} {u : Value} (r : RelV y u) (f : flatV y = true) : eqU x u = eqV y x := by
  cases y with
  | non => cases r; rfl
  | bl b => cases r; rfl
  | int i => obtain ⟨t, rfl⟩ := r; rfl
  | str z => obtain ⟨t, rfl⟩ := r; rfl
  | _ => exact absurd (show false = true from f) Bool.false_ne_true
theorem any_eqU {x : V} : ∀ {xs : List V} {us : List Value}, Vals xs us → xs.all flatV = true → us.any (eqU x) = xs.any fun y => eqV y x
  | _, _, .nil, _ => rfl
  | y :: xs, u :: us, .cons r t, f => by
    rw [List.all_cons, Bool.and_eq_true] at f
    rw [List.any_cons, List.any_cons, eqU_of r f.1, any_eqU t f.2]
theorem mem_eqAt {A : Around} {s : Shared} {x : V} {v : Value} (rx : RelV x v) (fx : flatV x = true) : ∀ {xs : List V} {us : List Value}, Vals xs us → xs.all flatV = true → ∀ u ∈ us, SeqAt.EqAt A s u v (eqU x u)
  | _, _, .nil, _ => fun u hu => by cases hu
  | y :: xs, u :: us, .cons r t, f => fun u' hu => by
    rw [List.all_cons, Bool.and_eq_true] at f
    rcases List.mem_cons.mp hu with rfl | hu
    · rw [eqU_of r f.1]; exact eqAt_V r rx f.1 fx
    · exact mem_eqAt rx fx t f.2 u' hu
def inV (x : V) (xs : List V) : Bool := xs.any fun y => eqV y x
def rIn (K : PySem.W.Frag) (neg : Bool) : R2 := fun x y H Q => ∃ p xs, y = .ref p ∧ (SqL K H p xs ∨ SqT K H p xs) ∧ flatV x = true ∧ xs.all flatV = true ∧ Q (.bl (if neg then !inV x xs else inV x xs)) H
theorem op_in_seq : OpR X (compareOp .In) (rIn X.K false) := by
  unfold OpR at *
  exact by
    intro pins s σ H x y v u Q I rx ry h
    obtain ⟨p, xs, rfl, hq, fx, fs, q⟩ := h
    cases ry
    rcases hq with hq | hq
    · obtain ⟨its, r, pl, hz⟩ := I.list hq
      refine SeqAt.in_listAt (eqU x) pl.isList (fun w hw => mem_eqAt rx fx r fs w (by simpa using hw)) ⟨.bl _, H, I, rfl, ?_⟩
      rw [show its.toArray.any (eqU x) = its.any (eqU x) by simp, any_eqU r fs]
      exact q
    · obtain ⟨its, r, pl, hz⟩ := I.tuple hq
      refine SeqAt.in_tupleAt (eqU x) pl (fun w hw => mem_eqAt rx fx r fs w (by simpa using hw)) ⟨.bl _, H, I, rfl, ?_⟩
      rw [show its.toArray.any (eqU x) = its.any (eqU x) by simp, any_eqU r fs]
      exact q
theorem op_notIn_seq : OpR X (compareOp .NotIn) (rIn X.K true) := by
  unfold OpR at *
  exact by
    intro pins s σ H x y v u Q I rx ry h
    obtain ⟨p, xs, rfl, hq, fx, fs, q⟩ := h
    cases ry
    rcases hq with hq | hq
    · obtain ⟨its, r, pl, hz⟩ := I.list hq
      refine SeqAt.notIn_listAt (eqU x) pl.isList (fun w hw => mem_eqAt rx fx r fs w (by simpa using hw)) ⟨.bl _, H, I, rfl, ?_⟩
      rw [show its.toArray.any (eqU x) = its.any (eqU x) by simp, any_eqU r fs]
      exact q
    · obtain ⟨its, r, pl, hz⟩ := I.tuple hq
      refine SeqAt.notIn_tupleAt (eqU x) pl (fun w hw => mem_eqAt rx fx r fs w (by simpa using hw)) ⟨.bl _, H, I, rfl, ?_⟩
      rw [show its.toArray.any (eqU x) = its.any (eqU x) by simp, any_eqU r fs]
      exact q
theorem call_len_seq : CallR X (.builtin "len") (fun xs H Q => ∃ p ys, xs = [.ref p] ∧ (SqL X.K H p ys ∨ SqT X.K H p ys) ∧ Q (.int ys.length) H) := by
  unfold CallR at *
  exact by
    intro pins s σ H xs us Q I r h
    obtain ⟨p, ys, rfl, hq, q⟩ := h
    obtain ⟨u, rfl, rx⟩ := vals1 r
    cases rx
    have hn := line63
    rcases hq with hq | hq
    · obtain ⟨its, r', pl, hz⟩ := I.list hq
      have hlen := r'.length
      exact Calls.call_len_list pl.isList (by simp only [List.size_toArray] <;> omega) ⟨.int ys.length, H, I.tok _, ⟨s.toks + 1, by rw [List.size_toArray, hlen]⟩, q⟩
    · obtain ⟨its, r', pl, hz⟩ := I.tuple hq
      have hlen := r'.length
      exact len_tuple pl (by simp only [List.size_toArray] <;> omega) ⟨.int ys.length, H, I.tok _, ⟨s.toks + 1, by rw [List.size_toArray, hlen]⟩, q⟩
theorem CallR.or {f : Value} {r r' : List V → Hp → VK → Prop} (h : CallR X f r) (h' : CallR X f r') : CallR X f (fun xs H Q => r xs H Q ∨ r' xs H Q) := by
  unfold CallR at *
  exact by
    intro pins s σ H xs us Q I rs q
    rcases q with q | q
    · exact h pins s σ H xs us Q I rs q
    · exact h' pins s σ H xs us Q I rs q
theorem call_list_of : CallR X (.type "list") (fun xs H Q => ∃ p ys, xs = [.ref p] ∧ (SqL X.K H p ys ∨ SqT X.K H p ys) ∧ ∀ l, H l = none → Q (.ref l) (upd H l (.lst ys))) := by
  unfold CallR at *
  exact by
    intro pins s σ H xs us Q I r h
    obtain ⟨p, ys, rfl, hq, q⟩ := h
    obtain ⟨u, rfl, rx⟩ := vals1 r
    cases rx
    have fin : ∀ (its : List Value), Vals ys its → ys.length ≤ sizeLine → ∀ (h' : Heap) (c' : Nat), (∀ b o', s.heap.get? b = some o' → h'.get? b = some o') →
        h'.get? s.heap.objs.size = some { cls := .type "list", dict := none, data := .seq its.toArray c', slots := #[] } → EP X pins σ Q (.ref s.heap.objs.size) { s with heap := h' } := fun its r' hz h' c' kp e =>
      ⟨.ref s.heap.objs.size, _, I.laid (t' := s.toks) kp (Nat.le_refl _) (show ObjOk X.prog X.w _ h' _ (.lst ys) from ⟨hz, its, c', r', e⟩), rfl, q _ (I.hok.fresh (Nat.le_refl _))⟩
    rcases hq with hq | hq
    · obtain ⟨its, r', pl, hz⟩ := I.list hq
      have hlen := r'.length
      obtain ⟨o, ho, hc, n, hd⟩ := pl.isList
      exact call_list_seq p (.inl rfl) ho hc hd (fun h' c' kp e => fin its r' hz h' c' kp e) (by simp only [List.size_toArray] <;> omega)
    · obtain ⟨its, r', pl, hz⟩ := I.tuple hq
      have hlen := r'.length
      obtain ⟨o, ho, hc, n, hd⟩ := pl
      exact call_list_seq p (.inr rfl) ho hc hd (fun h' c' kp e => fin its r' hz h' c' kp e) (by simp only [List.size_toArray] <;> omega)
def tyV (K : PySem.W.Frag) (T : String) (x : V) (H : Hp) : Prop := match x with
  | .str _ => T = "str"
  | .int _ => T = "int"
  | .ref p => (T = "list" ∧ ∃ xs, SqL K H p xs) ∨ (T = "tuple" ∧ ∃ o, K.lookup p = some o ∧ o.cls = .type "tuple" ∧ o.dict = none) ∨
      (T = "dict" ∧ ((∃ kvs, H p = some (.dK kvs)) ∨ ∃ kvs, H p = some (.dT kvs))) ∨ (T = "set" ∧ ∃ S n, H p = some (.set S n))
  | _ => False
theorem tyV_is {pins : List (Addr × Obj)} {σ : St} {H : Hp} {s : Shared} {T : String} {x : V} {v : Value} (I : Inv X pins σ H s) (r : RelV x v) (ty : tyV X.K T x H) :
    s.TypeIs v T ∧ ∀ a, v = .ref a → ∃ ob, s.heap.get? a = some ob ∧ ob.dict = none := by
  cases x with
  | str z =>
    obtain ⟨t, rfl⟩ := r
    cases (show T = "str" from ty)
    exact ⟨typeIs_str s z t, fun _ e => nomatch e⟩
  | int i =>
    obtain ⟨t, rfl⟩ := r
    cases (show T = "int" from ty)
    exact ⟨typeIs_int s i t, fun _ e => nomatch e⟩
  | ref p =>
    cases r
    rcases ty with ⟨rfl, xs, hq⟩ | ⟨rfl, o, hk, hc, hd⟩ | ⟨rfl, hk⟩ | ⟨rfl, S, n, hk⟩
    · obtain ⟨its, _, pl, _⟩ := I.list hq
      refine ⟨pl.isList.typeIs, fun a e => ?_⟩
      cases e
      obtain ⟨o, n, e, c, hd, _⟩ := pl
      exact ⟨o, e, hd⟩
    · refine ⟨⟨o, I.kIn p o hk, hc⟩, fun a e => ?_⟩
      cases e
      exact ⟨o, I.kIn _ o hk, hd⟩
    · have z : ∃ o, s.heap.get? p = some o ∧ o.ExactDict := by
        rcases hk with ⟨kvs, hk⟩ | ⟨kvs, hk⟩
        · obtain ⟨_, _, _, _, o, _, _, e, ex, _⟩ := I.hok p _ hk
          exact ⟨o, e, ex⟩
        · obtain ⟨_, _, _, _, o, _, _, e, ex, _⟩ := I.hok p _ hk
          exact ⟨o, e, ex⟩
      obtain ⟨o, e, ex⟩ := z
      refine ⟨⟨o, e, ex.1⟩, fun a e2 => ?_⟩
      cases e2
      exact ⟨o, e, ex.2.1⟩
    · obtain ⟨o, _, _, _, e, ex, _⟩ := I.hok p _ hk
      refine ⟨⟨o, e, ex.1⟩, fun a e2 => ?_⟩
      cases e2
      exact ⟨o, e, ex.2.1⟩
  | _ => exact False.elim ty
def tBM (K : PySem.W.Frag) (T : String) (r : V → List V → Hp → VK → Prop) (to : TE) (t : TA) : TE := fun σ H Q => to σ H fun x H1 => tyV K T x H1 ∧ t σ H1 fun xs H2 => r x xs H2 Q
variable {o e : Expr} {es : List Expr} {to : TE} {t : TA} {name : Str} {apos cpos : Pos} {T id : String} {r : V → List V → Hp → VK → Prop}
theorem pe_bm (pa : PlainAttrs T) (slot : Slot T name id) (hty : typeOf (.builtin id) = pure (.type "method_descriptor")) (hm : MtR X id r) (ho : PE X o to) (ha : PA X (e :: es) t)
    (hbase : attributeBase o name X.env (eval o X.env) = eval o X.env := by rfl)
    (hfew : ((backTo cpos (starEach (e :: es) X.env)).all (fun x => !x.1) && (backToKw cpos (keywordEach [] X.env)).all (fun x => x.1.isSome)
      && decide ((e :: es).length + ([] : List Keyword).length + (if ([] : List Keyword).isEmpty then 0 else 1) < 30)) = true := by rfl)
    (hline : (apos.endLine == cpos.line) = true := by rfl) (hs : starEach (e :: es) X.env = (false, eval e X.env) :: starEach es X.env := by rfl) (hplain : (backTo cpos (starEach es X.env)).any (·.1) = false := by rfl) :
    PE X (.Call (.Attribute o name apos) (e :: es) [] cpos) (tBM X.K T r to t) := by
  unfold PE at *; unfold PA at *; unfold MtR at *
  exact by
    intro pins s σ H Q I h
    refine wpAny_Call_method_late hbase hfew hline rfl (thn (ho pins s σ H _ I h) fun v s1 ⟨x, H1, I1, r1, ty, q1⟩ => ?_)
    obtain ⟨h1, h2⟩ := tyV_is I1 r1 ty
    refine ⟨T, id, pa, slot, hty, h1, h2, ?_⟩
    have hA := ha cpos pins s1 σ H1 _ I1 q1
    rw [hs] at hA ⊢
    refine Calls.callWith_builtin (by show (false || (backTo cpos (starEach es X.env)).any (·.1)) = false; rw [hplain] <;> rfl) (Calls.evalArgs_plain ?_)
    exact thn hA fun us s2 ⟨vs, H2, I2, r2, q2⟩ => hm pins s2 σ H2 x vs v us Q I2 r1 r2 q2
/- xs.append(e), list.index on a module's tuple .. are MtR facts of 06m -/
end
end L2
namespace L2
open PySem PySem.Spec PyProof.Rows
@[irreducible] def MtM (X : Cx) (id : String) (r : V → List V → Hp → VK → Prop) : Prop :=
  ∀ (pins : List (Addr × Obj)) (s : Shared) (σ : St) (H : Hp) (x : V) (xs : List V) (v : Value) (us : List Value) (Q : VK), Inv X pins σ H s → RelV x v → Vals xs us → r x xs H Q →
    wpAny (model X.prog X.w) X.A (call (.builtin id) (v :: us)) (EP X pins σ Q) X.xe s
theorem Vals.one : ∀ {x : V} {us : List Value}, Vals [x] us → ∃ u, us = [u] ∧ RelV x u
  | _, _, .cons r .nil => ⟨_, rfl, r⟩
theorem Vals.two : ∀ {x y : V} {us : List Value}, Vals [x, y] us → ∃ u v, us = [u, v] ∧ RelV x u ∧ RelV y v
  | _, _, _, .cons r (.cons q .nil) => ⟨_, _, rfl, r, q⟩
theorem Vals.dropLast {xs : List V} {us : List Value} (h : Vals xs us) : Vals xs.dropLast us.dropLast := by
  induction h with
  | nil => exact .nil
  | cons r t ih =>
    cases t with
    | nil => exact .nil
    | cons q t' => exact .cons r ih
theorem Vals.reverse {xs : List V} {us : List Value} (h : Vals xs us) : Vals xs.reverse us.reverse := by
  induction h with
  | nil => exact .nil
  | cons r t ih => rw [List.reverse_cons, List.reverse_cons]; exact Vals.append ih (.cons r .nil)
section
variable {X : Cx} {pins : List (Addr × Obj)} {σ : St} {H : Hp} {s : Shared} {l b : Addr} {xs ys zs : List V}
theorem Inv.lset {its its' : List Value} {n : Nat} {f : Array Value → Array Value} {t' : Nat} (I : Inv X pins σ H s) (hH : H l = some (.lst xs))
    (e : s.heap.get? l = some { cls := .type "list", data := .seq its.toArray n }) (hf : f its.toArray = its'.toArray) (hv : Vals ys its') (hz : ys.length ≤ sizeLine) :
    Inv X pins σ (upd H l (.lst ys)) { s with heap := s.heap.update l (Obj.mapSeq f), toks := t' } := by
  have q := PySem.IsL.update e f
  rw [hf] at q
  refine I.write (x := l) (e := l) (by rw [hH]; exact trivial) (.inl rfl) (fun b' u hb hu => (Heap.get?_update_other s.heap (Obj.mapSeq f) (Ne.symm hb)).trans hu) ⟨_, q⟩ ?_
  exact ⟨hz, its', _, hv, q⟩
theorem Inv.lnew {its : List Value} {t' : Nat} (I : Inv X pins σ H s) (hv : Vals ys its) (hz : ys.length ≤ sizeLine) :
    Inv X pins σ (upd H s.heap.objs.size (.lst ys)) { s with heap := s.heap.push { cls := .type "list", data := .seq its.toArray }, toks := t' } :=
  I.laid (fun _ _ q => Heap.get?_push_of_some _ q) (Nat.le_refl _) ⟨hz, its, 0, hv, Heap.get?_push_size _ rfl⟩
theorem Inv.fresh (I : Inv X pins σ H s) : H s.heap.objs.size = none := I.hok.fresh (Nat.le_refl _)
theorem Inv.lstM (I : Inv X pins σ H s) (hH : H l = some (.lst xs)) : xs.length ≤ sizeLine ∧ ∃ (its : List Value) (n : Nat), Vals xs its ∧ xs.length = its.length ∧ s.heap.get? l = some { cls := .type "list", data := .seq its.toArray n } := by
  obtain ⟨z, its, n, r, e⟩ := I.hok l _ hH
  exact ⟨z, its, n, r, r.length, e⟩
theorem notLongL {n : Nat} (h : n ≤ sizeLine) : Builtin.List.listTooLong n = false := by
  unfold Builtin.List.listTooLong
  exact decide_eq_false (by omega)
end
section
variable {X : Cx}
def rAppend : V → List V → Hp → VK → Prop := fun x vs H Q => ∃ l xs y, x = .ref l ∧ vs = [y] ∧ H l = some (.lst xs) ∧ xs.length < sizeLine ∧ Q .non (upd H l (.lst (xs ++ [y])))
theorem mt_append : MtM X "list.append" rAppend := by
  unfold MtM at *
  exact by
    intro pins s σ H x vs v us Q I rx rv h
    obtain ⟨l, xs, y, rfl, rfl, hH, hz, q⟩ := h
    cases rx
    obtain ⟨u, rfl, ru⟩ := rv.one
    obtain ⟨z, its, n, r, hl, e⟩ := I.lstM hH
    refine call_meets F.slot_list_append ⟨_, e, rfl⟩ F.entry_list_append (F.args_list_append_2 _ _) (PySem.list_append l its.toArray n u (by rw [List.size_toArray]; omega)) ⟨e, ?_⟩
    refine ⟨.non, _, I.lset (its' := its ++ [u]) hH e (by simp) (r.append (.cons ru .nil)) ?_, rfl, q⟩
    rw [List.length_append, List.length_singleton]
    omega
def rExtend : V → List V → Hp → VK → Prop := fun x vs H Q => ∃ l b xs zs, x = .ref l ∧ vs = [.ref b] ∧ H l = some (.lst xs) ∧ H b = some (.lst zs) ∧ xs.length + zs.length ≤ sizeLine ∧ Q .non (upd H l (.lst (xs ++ zs)))
theorem mt_extend : MtM X "list.extend" rExtend := by
  unfold MtM at *
  exact by
    intro pins s σ H x vs v us Q I rx rv h
    obtain ⟨l, b, xs, zs, rfl, rfl, hH, hB, hz, q⟩ := h
    cases rx
    obtain ⟨u, rfl, ru⟩ := rv.one
    cases ru
    obtain ⟨z, its, n, r, hl, e⟩ := I.lstM hH
    obtain ⟨z2, its2, n2, r2, hl2, e2⟩ := I.lstM hB
    have hsz : its.toArray.size + its2.toArray.size ≤ sizeLine := by rw [List.size_toArray, List.size_toArray]; omega
    have hlong : ¬ (!its.toArray.isEmpty && Builtin.List.listTooLong (its.toArray.size + its2.toArray.size)) = true := by
      rw [notLongL hsz, Bool.and_false]
      exact Bool.false_ne_true
    refine call_meets F.slot_list_extend ⟨_, e, rfl⟩ F.entry_list_extend (F.args_list_extend_2 _ _)
      (AutoSeq1.list_extend_list_list_0 l its.toArray n b its2.toArray n2 hlong (by rw [List.size_toArray]; omega) (by omega)) ⟨e, e2, ?_⟩
    refine ⟨.non, _, I.lset (its' := its ++ its2) hH e (by simp) (r.append r2) ?_, rfl, q⟩
    rw [List.length_append]
    omega
def rCat : R2 := fun x y H Q => ∃ l b xs zs, x = .ref l ∧ y = .ref b ∧ H l = some (.lst xs) ∧ H b = some (.lst zs) ∧ xs.length + zs.length ≤ sizeLine ∧ ∀ p, H p = none → Q (.ref p) (upd H p (.lst (xs ++ zs)))
theorem op_cat : OpR X (binaryOp .Add) rCat := by
  unfold OpR at *
  exact by
    intro pins s σ H x y v u Q I rx ry h
    obtain ⟨l, b, xs, zs, rfl, rfl, hH, hB, hz, q⟩ := h
    cases rx
    cases ry
    obtain ⟨z, its, n, r, hl, e⟩ := I.lstM hH
    obtain ⟨z2, its2, n2, r2, hl2, e2⟩ := I.lstM hB
    refine PySem.P.add_list e e2 ?_ (by rw [List.size_toArray, List.size_toArray]; omega)
    have ea : its.toArray ++ its2.toArray = (its ++ its2).toArray := by simp
    rw [ea]
    exact ⟨.ref _, _, I.lnew (t' := s.toks) (r.append r2) (by rw [List.length_append]; omega), rfl, q _ I.fresh⟩
end
section
variable {prog : Program} {w : World} {A : Around} {E : Value → Shared → Prop} {s : Shared}
set_option maxRecDepth 100000 in
end
section
variable {X : Cx}
end
end L2
namespace L2
open PySem PySem.Spec PyProof.Rows
section
variable {κ : Type} [DecidableEq κ]
def valV (kvs : List (κ × V)) (k : κ) : Option V := (kvs.find? fun kv => decide (kv.1 = k)).map (·.2)
def putK (kvs : List (κ × V)) (k : κ) (v : V) : List (κ × V) :=
  if (kvs.any fun kv => decide (kv.1 = k)) = true then kvs.map (fun kv => if kv.1 = k then (kv.1, v) else kv) else kvs ++ [(k, v)]
def dropK (kvs : List (κ × V)) (k : κ) : List (κ × V) := kvs.filter fun kv => decide (kv.1 ≠ k)
theorem valV_nil {k : κ} : valV ([] : List (κ × V)) k = none := rfl
theorem valV_pos {p : κ × V} {r : List (κ × V)} {k : κ} (e : p.1 = k) : valV (p :: r) k = some p.2 := by simp [valV, List.find?_cons, e]
theorem valV_neg {p : κ × V} {r : List (κ × V)} {k : κ} (e : ¬ p.1 = k) : valV (p :: r) k = valV r k := by simp [valV, List.find?_cons, e]
theorem valV_any (k : κ) : ∀ kvs : List (κ × V), (kvs.any fun kv => decide (kv.1 = k)) = (valV kvs k).isSome
  | [] => rfl
  | p :: r => by
    rw [List.any_cons]
    by_cases e : p.1 = k
    · simp only [valV_pos e, decide_eq_true e, Bool.true_or, Option.isSome_some]
    · rw [valV_neg e, decide_eq_false e, Bool.false_or]; exact valV_any k r
theorem valV_map (k j : κ) (y : V) : ∀ kvs : List (κ × V), valV (kvs.map fun kv => if kv.1 = k then (kv.1, y) else kv) j = (valV kvs j).map fun x => if j = k then y else x
  | [] => rfl
  | p :: r => by
    have ih := valV_map k j y r
    rw [List.map_cons]
    by_cases h : p.1 = k
    · rw [if_pos h]
      by_cases e : p.1 = j
      · rw [valV_pos (p := (p.1, y)) e, valV_pos e, Option.map_some, if_pos (e.symm.trans h)]
      · rw [valV_neg (p := (p.1, y)) e, valV_neg e, ih]
    · rw [if_neg h]
      by_cases e : p.1 = j
      · rw [valV_pos (p := p) e, valV_pos e, Option.map_some, if_neg (fun z => h (e.trans z))]
      · rw [valV_neg (p := p) e, valV_neg e, ih]
theorem valV_snoc (k j : κ) (y : V) : ∀ kvs : List (κ × V), valV kvs k = none → valV (kvs ++ [(k, y)]) j = if j = k then some y else valV kvs j
  | [], _ => by
    by_cases e : k = j
    · rw [if_pos e.symm]; exact valV_pos (p := (k, y)) e
    · rw [if_neg (fun z => e z.symm)]; exact valV_neg (p := (k, y)) e
  | p :: r, hn => by
    rw [List.cons_append]
    have hk : ¬ p.1 = k := fun z => by rw [valV_pos z] at hn; cases hn
    rw [valV_neg hk] at hn
    have ih := valV_snoc k j y r hn
    by_cases e : p.1 = j
    · rw [valV_pos e, valV_pos e, if_neg (fun z => hk (e.trans z))]
    · rw [valV_neg e, valV_neg e, ih]
theorem valV_put (kvs : List (κ × V)) (k j : κ) (y : V) : valV (putK kvs k y) j = if j = k then some y else valV kvs j := by
  unfold putK
  by_cases a : (kvs.any fun kv => decide (kv.1 = k)) = true
  · rw [if_pos a, valV_map]
    rw [valV_any] at a
    by_cases e : j = k
    · obtain ⟨x, hx⟩ := Option.isSome_iff_exists.mp a
      rw [if_pos e, e, hx, Option.map_some, if_pos rfl]
    · rw [if_neg e]
      cases valV kvs j with
      | none => rfl
      | some x => rw [Option.map_some, if_neg e]
  · rw [if_neg a]
    refine valV_snoc k j y kvs ?_
    rw [valV_any] at a
    cases q : valV kvs k with
    | none => rfl
    | some x => rw [q] at a; exact (a rfl).elim
theorem length_putK (kvs : List (κ × V)) (k : κ) (v : V) : (putK kvs k v).length ≤ kvs.length + 1 := by
  unfold putK
  split
  · rw [List.length_map]; omega
  · rw [List.length_append, List.length_cons, List.length_nil]; omega
theorem RelO.isSome_eq {o : Option V} {u : Option Value} (r : RelO o u) : o.isSome = u.isSome := by
  cases o with
  | none => cases u with
    | none => rfl
    | some _ => exact (show False from r).elim
  | some _ => cases u with
    | none => exact (show False from r).elim
    | some _ => rfl
theorem RelO.getD {o : Option V} {u : Option Value} {d : V} {d' : Value} (r : RelO o u) (rd : RelV d d') : RelV (o.getD d) (u.getD d') := by
  cases o with
  | none => cases u with
    | none => exact rd
    | some _ => exact (show False from r).elim
  | some _ => cases u with
    | none => exact (show False from r).elim
    | some _ => exact r
theorem KV.val {kvs : List (κ × V)} {vs : List (κ × Value)} (r : KV kvs vs) (k : κ) : RelO (valV kvs k) (valueAt vs k) := by
  unfold KV at r
  induction r with
  | nil => exact True.intro
  | @cons p q ps qs h t ih =>
    obtain ⟨h1, h2⟩ := h
    by_cases e : p.1 = k
    · have e' : q.1 = k := h1.symm.trans e
      have b : valueAt (q :: qs) k = some q.2 := by simp [valueAt, List.find?_cons, e']
      rw [valV_pos e, b]; exact h2
    · have e' : ¬ q.1 = k := fun z => e (h1.trans z)
      have b : valueAt (q :: qs) k = valueAt qs k := by simp [valueAt, List.find?_cons, e']
      rw [valV_neg e, b]; exact ih
theorem KV.any {kvs : List (κ × V)} {vs : List (κ × Value)} (r : KV kvs vs) (k : κ) : (kvs.any fun kv => decide (kv.1 = k)) = vs.any fun kv => decide (kv.1 = k) := by
  unfold KV at r
  induction r with
  | nil => rfl
  | cons h t ih => rw [List.any_cons, List.any_cons, ih, h.1]
theorem KV.repl {kvs : List (κ × V)} {vs : List (κ × Value)} (r : KV kvs vs) (k : κ) {y : V} {u : Value} (ry : RelV y u) :
    KV (kvs.map fun kv => if kv.1 = k then (kv.1, y) else kv) (vs.map fun kv => if kv.1 = k then (kv.1, u) else kv) := by
  unfold KV at r ⊢
  induction r with
  | nil => exact .nil
  | @cons p q ps qs h t ih =>
    rw [List.map_cons, List.map_cons]
    refine .cons ?_ ih
    obtain ⟨h1, h2⟩ := h
    by_cases e : p.1 = k
    · rw [if_pos e, if_pos (h1.symm.trans e)]; exact ⟨h1, ry⟩
    · rw [if_neg e, if_neg (fun z => e (h1.trans z))]; exact ⟨h1, h2⟩
theorem KV.put {kvs : List (κ × V)} {vs : List (κ × Value)} (r : KV kvs vs) (k : κ) {y : V} {u : Value} (ry : RelV y u) : KV (putK kvs k y) (stored vs k u) := by
  unfold putK stored
  rw [r.any k]
  by_cases e : (vs.any fun kv => decide (kv.1 = k)) = true
  · rw [if_pos e, if_pos e]; exact r.repl k ry
  · rw [if_neg e, if_neg e]; exact Paired.snoc r ⟨rfl, ry⟩
theorem KV.drop {kvs : List (κ × V)} {vs : List (κ × Value)} (r : KV kvs vs) (k : κ) : KV (dropK kvs k) (without vs k) := by
  unfold KV at r ⊢
  unfold dropK without
  induction r with
  | nil => exact .nil
  | @cons p q ps qs h t ih =>
    obtain ⟨h1, h2⟩ := h
    rw [List.filter_cons, List.filter_cons]
    by_cases e : p.1 = k
    · have a : ¬ decide (p.1 ≠ k) = true := by simp [e]
      have b : ¬ decide (q.1 ≠ k) = true := by simp [h1.symm.trans e]
      rw [if_neg a, if_neg b]; exact ih
    · have e' : ¬ q.1 = k := fun z => e (h1.trans z)
      have a : decide (p.1 ≠ k) = true := by simp [e]
      have b : decide (q.1 ≠ k) = true := by simp [e']
      rw [if_pos a, if_pos b]; exact .cons ⟨h1, h2⟩ ih
theorem KV.keys {kvs : List (κ × V)} {vs : List (κ × Value)} (r : KV kvs vs) : kvs.map (·.1) = vs.map (·.1) := by
  unfold KV at r
  induction r with
  | nil => rfl
  | cons h t ih => rw [List.map_cons, List.map_cons, ih, h.1]
theorem KV.length {kvs : List (κ × V)} {vs : List (κ × Value)} (r : KV kvs vs) : kvs.length = vs.length := Paired.length r
end
theorem kV_is {P : Program} {w : World} {k : Key} {u : Value} (r : RelV (kV k) u) : (mixKind P w).is k u = true := by
  cases k with
  | inl i => obtain ⟨t, e⟩ := (show ∃ t, u = Value.int i t from r); subst e; exact mixKind_int P w i t
  | inr x => obtain ⟨t, e⟩ := (show ∃ t, u = Value.str x t from r); subst e; exact mixKind_str P w x t
theorem items_are {P : Program} {w : World} : ∀ {ks : List Key} {us : List Value}, Vals (ks.map kV) us → ItemsAre (mixKind P w) ks us
  | [], _, r => by rw [List.map_nil] at r; cases r; exact .nil
  | k :: ks, _, r => by
    rw [List.map_cons] at r
    cases r with
    | cons h t => exact .cons (kV_is h) (items_are t)
abbrev KT (H : Hp) : List (List Key × V) → List (List Key × Addr × Value) → Prop := Paired fun p q => p.1 = q.1 ∧ H q.2.1 = some (.tup (p.1.map kV)) ∧ RelV p.2 q.2.2
theorem KT.val {H : Hp} {kvs : List (List Key × V)} {xs : List (List Key × Addr × Value)} (r : KT H kvs xs) (k : List Key) : RelO (valV kvs k) ((atKey xs k).map (·.2)) := by
  induction r with
  | nil => exact True.intro
  | @cons p q ps qs h t ih =>
    obtain ⟨h1, _, h2⟩ := h
    by_cases e : p.1 = k
    · have e' : q.1 = k := h1.symm.trans e
      have b : atKey (q :: qs) k = some q.2 := by simp [atKey, List.find?_cons, e']
      rw [valV_pos e, b]; exact h2
    · have e' : ¬ q.1 = k := fun z => e (h1.trans z)
      have b : atKey (q :: qs) k = atKey qs k := by simp [atKey, List.find?_cons, e']
      rw [valV_neg e, b]; exact ih
theorem KT.repl {H : Hp} {kvs : List (List Key × V)} {xs : List (List Key × Addr × Value)} (r : KT H kvs xs) (k : List Key) {y : V} {u : Value} (ry : RelV y u) :
    KT H (kvs.map fun kv => if kv.1 = k then (kv.1, y) else kv) (xs.map (putAt k u)) := by
  induction r with
  | nil => exact .nil
  | @cons p q ps qs h t ih =>
    rw [List.map_cons, List.map_cons]
    refine .cons ?_ ih
    obtain ⟨h1, h2, h3⟩ := h
    unfold putAt
    by_cases e : p.1 = k
    · rw [if_pos e, if_pos (h1.symm.trans e)]; exact ⟨h1, h2, ry⟩
    · rw [if_neg e, if_neg (fun z => e (h1.trans z))]; exact ⟨h1, h2, h3⟩
theorem KT.put {H : Hp} {kvs : List (List Key × V)} {xs : List (List Key × Addr × Value)} (r : KT H kvs xs) (k : List Key) {b : Addr} {y : V} {u : Value} (hb : H b = some (.tup (k.map kV))) (ry : RelV y u) :
    KT H (putK kvs k y) (storedH xs k b u) := by
  have e : (kvs.any fun kv => decide (kv.1 = k)) = (atKey xs k).isSome := by
    rw [valV_any, (r.val k).isSome_eq, Option.isSome_map]
  unfold putK storedH
  rw [e]
  by_cases q : (atKey xs k).isSome = true
  · rw [if_pos q, if_pos q]; exact r.repl k ry
  · rw [if_neg q, if_neg q]; exact Paired.snoc r ⟨rfl, hb, ry⟩
theorem KT.keeps {H H' : Hp} {kvs : List (List Key × V)} {xs : List (List Key × Addr × Value)} (r : KT H kvs xs) (ht : ∀ b ys, H b = some (.tup ys) → H' b = some (.tup ys)) : KT H' kvs xs :=
  Paired.mapP r fun _ _ z => ⟨z.1, ht _ _ z.2.1, z.2.2⟩
section
variable {P : Program} {w : World} {H : Hp} {h : Heap} {a : Addr}
theorem rd_of {u : HO} (ok : HOk P w H h) (e : Rd H a u) : ObjOk P w H h a u := e.ok ok
theorem dk_rd {kvs : List (Key × V)} (ok : HOk P w H h) (e : Rd H a (.dK kvs)) : kvs.length ≤ sizeLine ∧ (a == sysModules) = false ∧ ∃ vs, KV kvs vs ∧ h.DictOf (mixKind P w) a vs :=
  show ObjOk P w H h a (.dK kvs) from rd_of ok e
theorem dk_of {kvs : List (Key × V)} (ok : HOk P w H h) (e : H a = some (.dK kvs)) : kvs.length ≤ sizeLine ∧ (a == sysModules) = false ∧ ∃ vs, KV kvs vs ∧ h.DictOf (mixKind P w) a vs := dk_rd ok (.inl e)
theorem key_of {ks : List Key} (ok : HOk P w H h) (e : H a = some (.tup (ks.map kV))) : (tupleKind (mixKind P w)).is h ks a := by
  obtain ⟨_, its, r, o, h1, h2, n, h3⟩ := (show ObjOk P w H h a (.tup (ks.map kV)) from ok a _ e)
  exact ⟨o, its.toArray, n, h1, h2, h3, by simpa using items_are r⟩
theorem dt_rd {kvs : List (List Key × V)} (ok : HOk P w H h) (e : Rd H a (.dT kvs)) : kvs.length ≤ sizeLine ∧ (a == sysModules) = false ∧
    ∃ xs, KT H kvs xs ∧ h.DictOfH (tupleKind (mixKind P w)) a xs := by
  obtain ⟨z, y, xs, r, o, es, ep, h1, h2, h3, h4, h5⟩ := (show ObjOk P w H h a (.dT kvs) from rd_of ok e)
  refine ⟨z, y, xs, r, o, es, ep, h1, h2, h3, h4, fun x hx => ?_, h5⟩
  have all : ∀ {l : List (List Key × V)} {m : List (List Key × Addr × Value)}, KT H l m → ∀ x ∈ m, (tupleKind (mixKind P w)).is h x.1 x.2.1 := by
    intro l m q
    induction q with
    | nil => intro x hx; exact nomatch hx
    | @cons p q ps qs hq t ih =>
      intro x hx
      rcases List.mem_cons.mp hx with e | hx
      · subst e
        exact key_of ok (by rw [← hq.1]; exact hq.2.1)
      · exact ih x hx
  exact all r x hx
theorem dt_of {kvs : List (List Key × V)} (ok : HOk P w H h) (e : H a = some (.dT kvs)) : kvs.length ≤ sizeLine ∧ (a == sysModules) = false ∧
    ∃ xs, KT H kvs xs ∧ h.DictOfH (tupleKind (mixKind P w)) a xs := dt_rd ok (.inl e)
end
def DGet (H : Hp) (a : Addr) (y : V) (r : Option V) : Prop :=
  (∃ kvs k, Rd H a (.dK kvs) ∧ y = kV k ∧ r = valV kvs k) ∨ ∃ kvs k b, Rd H a (.dT kvs) ∧ y = .ref b ∧ H b = some (.tup (k.map kV)) ∧ r = valV kvs k
def DPut (H : Hp) (a : Addr) (y v : V) (H' : Hp) : Prop :=
  (∃ kvs k, H a = some (.dK kvs) ∧ y = kV k ∧ kvs.length < sizeLine ∧ H' = upd H a (.dK (putK kvs k v))) ∨
  ∃ kvs k b, H a = some (.dT kvs) ∧ y = .ref b ∧ H b = some (.tup (k.map kV)) ∧ kvs.length < sizeLine ∧ H' = upd H a (.dT (putK kvs k v))
theorem DGet.k {H : Hp} {a : Addr} {kvs : List (Key × V)} {k : Key} (e : H a = some (.dK kvs)) : DGet H a (kV k) (valV kvs k) := .inl ⟨kvs, k, .inl e, rfl, rfl⟩
theorem DPut.k {H : Hp} {a : Addr} {kvs : List (Key × V)} {k : Key} {v : V} (e : H a = some (.dK kvs)) (hl : kvs.length < sizeLine) : DPut H a (kV k) v (upd H a (.dK (putK kvs k v))) := .inl ⟨kvs, k, e, rfl, hl, rfl⟩
section
variable {X : Cx} {pins : List (Addr × Obj)} {σ : St} {H : Hp} {s : Shared} {a : Addr} {y v : V} {u r : Value} {o : Option V} {A : Around} {E : Value → Shared → Prop}
theorem Inv.big (I : Inv X pins σ H s) : sysModules < s.heap.objs.size := by
  have h : mainGlobals < s.heap.objs.size := (I.mod.glob.keeps I.bk).lt
  exact Nat.lt_trans (by decide) h
theorem d_in {Q : Value → Shared → Prop} (hu : A.units + 1 < cLine) (I : Inv X pins σ H s) (g : DGet H a y o) (ry : RelV y u) (h : ∀ s', Inv X pins σ H s' → Q (.bool o.isSome) s') :
    wpAny (model X.prog X.w) A (compareOp .In u (.ref a)) Q E s := by
  rcases g with ⟨kvs, k, e, ey, l⟩ | ⟨kvs, k, b, e, ey, eb, l⟩
  · subst ey
    obtain ⟨z, hd, vs, rel, dd⟩ := dk_rd I.hok e
    refine wpAny_in_of (kV_is ry) hd dd.mapOf ?_
    rw [← (rel.val k).isSome_eq, ← l]
    exact h _ (I.tok _)
  · subst ey
    cases (show u = Value.ref b from ry)
    obtain ⟨z, hd, xs, rel, dd⟩ := dt_rd I.hok e
    refine wpAny_in_heap (tupleKind_room_in1 hu) (key_of I.hok eb) hd dd ?_
    have q := (rel.val k).isSome_eq
    rw [Option.isSome_map] at q
    rw [← q, ← l]
    exact h _ (I.tok _)
theorem d_write {h' : Heap} {t' : Nat} {ob : HO} (I : Inv X pins σ H s) (mu : Mut (H a)) (hs : Heap.SameBut a s.heap h') (he : ∃ q, h'.get? a = some q) (new : ObjOk X.prog X.w (upd H a ob) h' a ob) :
    Inv X pins σ (upd H a ob) { s with heap := h', toks := t' } :=
  I.write (x := a) (e := a) mu (.inl rfl) (fun b q hb z => (hs.2 b hb).trans z) he new
theorem dk_new {P : Program} {w : World} {H' : Hp} {h' : Heap} {kvs : List (Key × V)} {vs : List (Key × Value)} (z : kvs.length ≤ sizeLine) (hd : (a == sysModules) = false) (rel : KV kvs vs) (dd : h'.DictOf (mixKind P w) a vs) :
    ObjOk P w H' h' a (.dK kvs) := ⟨z, hd, vs, rel, dd⟩
theorem d_setItem {H' : Hp} {Q : Unit → Shared → Prop} (hu : A.units + 1 < cLine) (I : Inv X pins σ H s) (g : DPut H a y v H') (ry : RelV y u) (rv : RelV v r) (h : ∀ s', Inv X pins σ H' s' → Q () s') :
    wpAny (model X.prog X.w) A (setItem (.ref a) u r) Q E s := by
  rcases g with ⟨kvs, k, e, ey, l, eH⟩ | ⟨kvs, k, b, e, ey, eb, l, eH⟩
  · subst ey eH
    obtain ⟨z, hd, vs, rel, dd⟩ := dk_of I.hok e
    have hz : vs.length ≤ sizeLine := by rw [← rel.length]; exact z
    have hl : (putK kvs k v).length ≤ sizeLine := by have := length_putK kvs k v; omega
    refine wpAny_setItem_pairs (hsz := hz) (kV_is ry) dd fun h' dd' hs => h _ ?_
    have he : ∃ q, h'.get? a = some q := let ⟨q, _, _, hq, _⟩ := dd'; ⟨q, hq⟩
    exact d_write I (by rw [e]; exact True.intro) hs he (dk_new hl hd (rel.put k rv) dd')
  · subst ey eH
    cases (show u = Value.ref b from ry)
    obtain ⟨z, hd, xs, rel, dd⟩ := dt_of I.hok e
    have hz : xs.length ≤ sizeLine := by rw [← Paired.length rel]; exact z
    have hl : (putK kvs k v).length ≤ sizeLine := by have := length_putK kvs k v; omega
    refine wpAny_setItem_heap (hsz := hz) (tupleKind_room_in1 hu) (key_of I.hok eb) dd fun h' dd' hs => h _ ?_
    obtain ⟨q, es, ep, hq, h2, h3, h4, _, h5⟩ := dd'
    refine d_write I (by rw [e]; exact True.intro) hs ⟨q, hq⟩ ⟨hl, hd, _, (rel.put k eb rv).keeps fun c ys ec => ?_, q, es, ep, hq, h2, h3, h4, h5⟩
    rw [upd_ne (ne_of ec e (fun z => nomatch z))]
    exact ec
end
section
variable {X : Cx} {pins : List (Addr × Obj)} {σ : St} {H : Hp} {s : Shared} {a : Addr} {kvs : List (Key × V)} {k : Key} {u : Value} {A : Around} {E : Value → Shared → Prop}
end
def tDIn (ty td : TE) : TE := fun σ H Q => ty σ H fun y H1 => td σ H1 fun x H2 => ∃ a o, x = .ref a ∧ DGet H2 a y o ∧ Q (.bl o.isSome) H2
def sDPut (td ty tv : TE) : TS := fun D σ H => tv σ H fun v H1 => td σ H1 fun x H2 => ty σ H2 fun y H3 => ∃ a H4, x = .ref a ∧ DPut H3 a y v H4 ∧ D.nx σ H4
section
variable {X : Cx} {o i e value : Expr} {pos pos' tpos : Pos} {td ty tv : TE}
theorem pc_din (hu : X.A.units + 1 < cLine) (hi : PE X i ty) (ho : PE X o td) : PC X .In i o (tDIn ty td) := by
  unfold PE at *; unfold PC at *
  exact by
    intro pins s σ H Q I h
    refine thn (hi pins s σ H _ I h) fun iv s1 ⟨y, H1, I1, ry, q1⟩ => thn (ho pins s1 σ H1 _ I1 q1) fun u s2 ⟨x, H2, I2, rx, a, ov, ex, g, q2⟩ => ?_
    subst ex
    obtain rfl : u = Value.ref a := rx
    exact d_in hu I2 g ry fun s3 I3 => ⟨.bl ov.isSome, H2, I3, rfl, q2⟩
theorem ps_dput (hu : X.A.units + 1 < cLine) (ho : PE X o td) (hi : PE X i ty) (hv : PE X value tv) (hs : swapsWith value (some (.Subscript o i pos')) pos.line X.env = pure false) :
    PS X (.Assign [.Subscript o i pos'] value pos) (sDPut td ty tv) := by
  unfold PE at *; unfold PS at *
  exact by
    intro pins s σ H D I h
    refine wpAny_Assign_Subscript (thn (hv pins s σ H _ I h) fun r s1 ⟨v, H1, I1, rv, q1⟩ => thn (ho pins s1 σ H1 _ I1 q1) fun u s2 ⟨x, H2, I2, rx, q2⟩ => thn (hi pins s2 σ H2 _ I2 q2) fun iv s3 ⟨y, H3, I3, ry, a, H4, ex, g, q3⟩ => ?_) hs
    subst ex
    obtain rfl : u = Value.ref a := rx
    exact d_setItem hu I3 g ry rv fun s4 I4 => ⟨σ, H4, I4, q3⟩
end
theorem dk_empty {P : Program} {w : World} {H : Hp} (h : Heap) (hb : sysModules < h.objs.size) : ObjOk P w H (h.push { cls := .type "dict", data := .dict #[] }) h.objs.size (.dK []) :=
  ⟨Nat.zero_le _, beq_eq_false_iff_ne.mpr (Ne.symm (Nat.ne_of_lt hb)), [], .nil, Heap.DictOf.new h⟩
def tDNewK : TE := fun _ H Q => ∀ p, H p = none → Q (.ref p) (upd H p (.dK []))
section
variable {X : Cx} {pos : Pos}
theorem pe_dnewK : PE X (.Dict [] [] pos) tDNewK := by
  unfold PE at *
  exact (fun pins s σ H Q I h =>
    wpAny_Dict_empty ⟨.ref s.heap.objs.size, _, I.laid (a := s.heap.objs.size) (o := .dK []) (t' := s.toks) (fun _ _ q => Heap.get?_push_of_some _ q) (Nat.le_refl _) (dk_empty s.heap I.big), rfl, h _ (I.hok.fresh (Nat.le_refl _))⟩)
end
section
variable {X : Cx} {pins : List (Addr × Obj)} {σ : St} {H : Hp} {s : Shared} {a : Addr} {y d : V} {u r : Value} {o : Option V} {A : Around} {E : Value → Shared → Prop}
end
section
variable {X : Cx} {o e f : Expr} {apos cpos : Pos} {td ty tx : TE}
end
section
variable {X : Cx} {pins : List (Addr × Obj)} {σ : St} {H : Hp} {s : Shared} {a : Addr} {kvs : List (Key × V)} {A : Around} {E : Value → Shared → Prop}
end
section
variable {X : Cx} {pins : List (Addr × Obj)} {σ : St} {H : Hp} {s : Shared} {a : Addr} {y : V} {u : Value} {A : Around} {E : Value → Shared → Prop}
end
end L2
namespace Att
open PySem PySem.W PySem.Calls PyProof.Rows
theorem ints_of_wellAll {P : Params} {h : Heap} : ∀ (ns : List Int) (vs : List Value), WellAll P h vs (ns.map WData.int) → IntsAre vs ns := by
  intro ns
  induction ns with
  | nil =>
    intro vs w
    rw [List.map_nil] at w
    cases w
    exact .nil
  | cons n ns ih =>
    intro vs w
    rw [List.map_cons] at w
    cases w with
    | cons a b =>
      cases a
      exact .cons _ _ (ih _ b)
theorem script_of {l : OpenLaw} {n : Nat} (hn : l.most = some n) {P : Params} {h : Heap} {args : List WData} {vals : List Value}
    (hpre : l.row.toRowW.claim.pre args = true) (hwl : WellAll P h vals args) :
    ∃ a vs ns, vals = [Value.ref a] ∧ args = [WData.list (ns.map WData.int)] ∧ h.get? a = some { cls := .type "list", data := .seq vs.toArray } ∧ IntsAre vs ns ∧ ns.length ≤ n := by
  have hsh : WShape.hasAll [] args [.list .int] = true := (pre_splitW hpre).1
  have hc : l.pre.holds [] { args := args } = true := (pre_splitW hpre).2
  obtain ⟨d, r, rfl, h1, h2⟩ := hasAllW_cons hsh
  obtain rfl := hasAllW_nil h2
  obtain ⟨xs, rfl, h3⟩ := hasW_list h1
  obtain ⟨ns, rfl⟩ := items_int h3
  have hlen : ns.length ≤ n := by
    unfold OpenLaw.pre at hc
    have h4 : (WTm.not (.lt (.lit (.int (n : Int))) (.len (.arg 0)))).holds [] { args := [.list (ns.map .int)] } = true := by
      have h4 := (holds_andW hc).1
      rw [hn] at h4
      exact h4
    have h5 := condW_of h4 (w_not (w_lt w_lit (w_len_list (w_arg rfl))))
    rw [List.length_map] at h5
    refine Nat.le_of_not_lt fun q => ?_
    have q' : (n : Int) < ((ns.length : Nat) : Int) := by omega
    first
      | (rw [decide_eq_true q'] at h5; exact absurd h5 (by decide))
      | (simp at h5; omega)
  cases hwl with
  | cons w1 w2 =>
    cases w2
    cases w1 with
    | list ho hall => exact ⟨_, _, ns, rfl, rfl, ho, ints_of_wellAll ns _ hall, hlen⟩
theorem post_true (l : OpenLaw) (args : List WData) : l.row.toRowW.claim.post args (.bool true) args = true :=
  postW_of (r := l.row.toRowW) (X := (true == true))
    (show WShape.has [] (.bool true) .bool = true by first | rfl | decide | simp [WShape.has, WShape.arms, WShape.armsAll])
    (show (WTm.eq .res (.lit (.bool true))).value [] { args := args, res := some (.bool true), after := args } = some (.bool (true == true)) from w_eq_bool (w_res rfl) w_lit) rfl
theorem attach_call {l : OpenLaw} {n : Nat} {q : Program} {loose : List Str} {XP : (Str → Option Value) → Heap → Prop} {YP : World → Heap → Prop} {d : DefRec}
    (hn : l.most = some n) (hdf : d.params.defaults = [])
    (call : ∀ (w : World) (s₀ s₁ : Shared) (mg mb : Str → Option Value) (fa : Addr) (o : Obj) (pm cd doc : Value) (a : Addr) (vs : List Value) (ns : List Int),
      Ground q loose [] XP w s₀ mg mb s₁.heap → YP w s₁.heap →
      s₁.heap.get? fa = some o → o.data = .func (docDef d.name d.params d.body d.scope pm cd doc) → s₁.heap.CodeRec cd d.name → mg d.name = some (.ref fa) →
      s₁.heap.get? a = some { cls := .type "list", data := .seq vs.toArray } → IntsAre vs ns → ns.length ≤ n → s₁.gens = #[] →
      codeAny (model l.prog w) callerA (.call (.ref fa) ⟨[.ref a], []⟩) (fun r s' => r = .ok (.ret (.bool true)) ∧ OldK s₁.heap s'.heap ∧ s'.os = s₁.os ∧ AllBare s'.gens) s₁) :
    WalkO q loose XP YP l.row.toRowW d [] (fun f vs => PySem.call f vs) := by
  intro w s₀ s₁ mg mb G Y fa o pm cd doc dV kV ho hd hcd hD hmg hg args vals as hpre hlay hrd hwl hlo
  obtain rfl : dV = .none := Dflts.none hD hdf
  obtain rfl : kV = .none := Dflts.noKw hD
  obtain ⟨a, vs, ns, rfl, rfl, hobj, hints, hlen⟩ := script_of hn hpre hwl
  refine enter_call (codeAny_mono (call w s₀ s₁ mg mb fa o pm cd doc a vs ns G Y ho (fd_plain hd) hcd hmg hobj hints hlen hg) fun r s' hq => ?_)
  obtain ⟨rfl, h2, h3, h4⟩ := hq
  exact ⟨.inl ⟨.bool true, .bool true, [], rfl, fun _ => rfl, .bool true, post_true l _, fun _ => ⟨List.Pairwise.nil, fun _ hm => (nomatch hm)⟩⟩, h2, h3, h4⟩
section
variable {prog : Program} {w : World} {A : Around} {E : Value → Shared → Prop} {s : Shared} {K : Frag}
def ledger (h : Heap) (L d : Addr) : List (Addr × Obj) := (List.range h.objs.size).filterMap fun a => if a = L ∨ a = d then none else (h.get? a).map fun o => (a, o)
end
end Att
namespace L2
open PySem PySem.Spec PyProof.Rows
theorem vals_ints : ∀ {vs : List Value} {ns : List Int}, IntsAre vs ns → Vals (ns.map V.int) vs
  | _, _, .nil => .nil
  | _, _, .cons n t h => .cons ⟨t, rfl⟩ (vals_ints h)
def Only (H : Hp) : Prop := ∀ b, H b = none ∨ ∃ o xs, H b = some (.frz o (.lst xs))
theorem law_call {P : Program} {w : World} {K : PySem.W.Frag} {mg mb : Str → Option Value} {CX : CXT} {k : Nat} {fa a : Addr} {fd : FuncData} {x : Str} {sp : Sp} {s₁ : Shared} {vs : List Value} {ns : List Int}
    (KX : K.In s₁.heap) (hns : s₁.heap.Ns mainGlobals mg) (hb : s₁.heap.Ns builtinsNs mb) (hbb : ∀ x : Str, x ≠ "__name__" → mb x = bootBuiltins x) (hlim : s₁.heap.NoLimit) (hg : s₁.gens = #[])
    (ha : s₁.heap.get? a = some { cls := .type "list", data := .seq vs.toArray }) (hi : IntsAre vs ns) (hl : ns.length ≤ sizeLine) (hr : Room k callerA)
    (F : ∀ base : Heap, K.In base → base.Ns mainGlobals mg → FnOk P w K mg base CX k fa fd [x] sp) (hbind : ∀ (s : Shared) (u : Value), BindsTo s fd ⟨[u], []⟩ [(x, u)])
    (hsp : ∀ H : Hp, Only H → SqL K H a (ns.map V.int) → sp [.ref a] H (fun v _ => v = .bl true) fun _ _ _ => False)
    (hCX : ∀ H e s', CX [] H s₁ (fun _ _ _ => False) e s' → False) :
    codeAny (model P w) callerA (.call (.ref fa) ⟨[.ref a], []⟩) (fun r s' => r = .ok (.ret (.bool true)) ∧ OldK s₁.heap s'.heap ∧ s'.os = s₁.os ∧ AllBare s'.gens) s₁ := by
  have rv := vals_ints hi
  have lenV := hi.length
  -- from an abstract heap in which nothing but the script may be tracked
  have core : ∀ H : Hp, Only H → SqL K H a (ns.map V.int) → HOk P w H s₁.heap → (∀ b, H b ≠ none → b = a) → (H a ≠ none → K.lookup a = none) →
      codeAny (model P w) callerA (.call (.ref fa) ⟨[.ref a], []⟩) (fun r s' => r = .ok (.ret (.bool true)) ∧ OldK s₁.heap s'.heap ∧ s'.os = s₁.os ∧ AllBare s'.gens) s₁ := by
    intro H hO hS hok hA hK
    have base_of : ∀ {b : Addr} {o : Obj}, s₁.heap.get? b = some o → H b = none → (hidT s₁.heap H).get? b = some o := fun e n => hidT_get e n
    have noA : ∀ {b : Addr} {o : Obj} {es : Array DictEntry} {ep : Nat}, s₁.heap.get? b = some o → o.data = .dict es ep → H b = none := fun {b o es ep} e d => by
      cases q : H b with
      | none => rfl
      | some u =>
        have e' : b = a := hA b (by rw [q]; simp)
        subst e'
        rw [ha] at e; cases e
        have d' : Data.seq vs.toArray _ = Data.dict es ep := d
        cases d'
    have nsK : ∀ {b : Addr} {m : Str → Option Value}, s₁.heap.Ns b m → (hidT s₁.heap H).Ns b m := fun {b m} ⟨o, es, ep, e, d, r⟩ => ⟨o, es, ep, base_of e (noA e d), d, r⟩
    have hKb : K.In (hidT s₁.heap H) := fun b o e => base_of (KX b o e) (by
      cases q : H b with
      | none => rfl
      | some u =>
        have e' : b = a := hA b (by rw [q]; simp)
        subst e'
        rw [hK (by rw [q]; simp)] at e; cases e)
    have hM : Mod K mg (hidT s₁.heap H) := ⟨hKb, nsK hns, ⟨mb, nsK hb, hbb⟩, let ⟨mc, h1, h2⟩ := hlim; ⟨mc, nsK h1, h2⟩⟩
    have e0 : Env0 P w K mg (hidT s₁.heap H) callerA [] s₁ H := ⟨rfl, hM, fun b o e => of_hidT e, Nat.le_of_eq (hidT_size _ _), trivial, fun b hb => absurd (show b ∈ ([] : List Addr) from hb) (by simp), hok, .of_eq hg⟩
    refine codeAny_mono ((F _ hKb (nsK hns)).run callerA [] s₁ H ⟨[.ref a], []⟩ [.ref a] [.ref a] _ _ hr e0 (hbind s₁ (.ref a)) (.cons rfl .nil) (hsp H hO hS)) fun r s' h => ?_
    cases r with
    | error e => exact (hCX H e s' h).elim
    | ok fl =>
      cases fl with
      | next => exact False.elim h
      | brk => exact False.elim h
      | cont => exact False.elim h
      | ret u =>
        obtain ⟨v, H', os, bare, un, hok', r', q⟩ := h
        have q' : v = .bl true := q
        subst q'
        obtain rfl : u = Value.bool true := r'
        refine ⟨rfl, OldK.of_keep fun b o e => ?_, os, bare⟩
        cases q : H b with
        | none => exact un.keep b o e q (by intro z; exact absurd (show b ∈ ([] : List Addr) from z) (by simp)) (by simp)
        | some u =>
          rcases hO b with z | ⟨ob, xs, z⟩
          · rw [q] at z; cases z
          · have z2 := un.frzs b ob _ z
            obtain ⟨e1, _⟩ := hok b _ z
            obtain ⟨e2, _⟩ := hok' b _ z2
            rw [e] at e1; cases e1
            exact e2
  cases hk : K.lookup a with
  | some o =>
    -- the script is one of the module's own objects
    have e := KX a o hk
    rw [ha] at e
    cases e
    refine core (fun _ => none) (fun _ => .inl rfl) (.inr ⟨_, vs.toArray, _, hk, rfl, rfl, rfl, by rw [List.size_toArray, lenV]; exact hl, by simpa using rv⟩) (fun b u z => by have z' : (none : Option HO) = some u := z; cases z') (fun b z => absurd rfl z) fun z => absurd rfl z
  | none =>
    refine core (fun b => if b = a then some (.frz { cls := .type "list", data := .seq vs.toArray } (.lst (ns.map V.int))) else none) (fun b => ?_) (.inl (.inr ⟨{ cls := .type "list", data := .seq vs.toArray }, if_pos rfl⟩)) (fun b u z => ?_) (fun b z => ?_) fun _ => hk
    · by_cases hb : b = a
      · exact .inr ⟨_, _, if_pos hb⟩
      · exact .inl (if_neg hb)
    · by_cases hb : b = a
      · have z' := (if_pos hb).symm.trans z
        cases z'
        subst hb
        exact ⟨ha, by rw [List.length_map]; exact hl, vs, _, rv, ha⟩
      · have z' := (if_neg hb).symm.trans z
        cases z'
    · by_cases hb : b = a
      · exact hb
      · exact absurd (if_neg hb) z
end L2
namespace L2
open PySem PySem.Spec PyProof.Rows
theorem walk_of {l : PySem.W.OpenLaw} {n k : Nat} {q : Program} {loose : List Str} {XP : (Str → Option Value) → Heap → Prop} {YP : World → Heap → Prop} {d : DefRec} {K : Params → PySem.W.Frag} {CX : World → CXT} {sp : World → Sp} {x : Str}
    (hn : l.most = some n) (hn2 : n ≤ sizeLine) (hdf : d.params.defaults = []) (hr : Room k callerA)
    (hY : ∀ (w : World) (h : Heap), YP w h → (K w.params).In h)
    (F : ∀ (w : World) (mg : Str → Option Value) (fa : Addr) (h : Heap), (K w.params).In h → h.Ns mainGlobals mg → mg d.name = some (.ref fa) →
      ∃ fd : FuncData, (∀ (s : Shared) (u : Value), BindsTo s fd ⟨[u], []⟩ [(x, u)]) ∧
        ∀ base : Heap, (K w.params).In base → base.Ns mainGlobals mg → FnOk l.prog w (K w.params) mg base (CX w) k fa fd [x] (sp w))
    (hsp : ∀ (w : World) (H : Hp) (a : Addr) (ns : List Int), ns.length ≤ n → Only H → SqL (K w.params) H a (ns.map V.int) → sp w [.ref a] H (fun v _ => v = .bl true) fun _ _ _ => False)
    (hCX : ∀ (w : World) (H : Hp) (s : Shared) (e : Value) (s' : Shared), CX w [] H s (fun _ _ _ => False) e s' → False) :
    PySem.W.WalkO q loose XP YP l.row.toRowW d [] (fun f vs => PySem.call f vs) := by
  refine Att.attach_call hn hdf fun w s₀ s₁ mg mb fa o pm cd doc a vs ns G Y ho hd hcd hmg hobj hints hlen hg => ?_
  have KX := hY w _ Y
  obtain ⟨fd, hb, hF⟩ := F w mg fa _ KX G.T.g hmg
  exact law_call KX G.T.g G.T.b G.T.builtins G.T.nolimit hg hobj hints (Nat.le_trans hlen hn2) hr hF hb (fun H hO hS => hsp w H a ns hlen hO hS) fun H e s' => hCX w H s₁ e s'
theorem walk_ofK {l : PySem.W.OpenLaw} {n k : Nat} {q : Program} {loose : List Str} {XP : (Str → Option Value) → Heap → Prop} {YP : World → Heap → Prop} {d : DefRec} {K : Params → PySem.W.Frag} {CX : CXT} {sp : PySem.W.Frag → Sp} {x : Str}
    (hn : l.most = some n) (hn2 : n ≤ sizeLine) (hdf : d.params.defaults = []) (hr : Room k callerA)
    (hY : ∀ (w : World) (h : Heap), YP w h → (K w.params).In h)
    (F : ∀ (w : World) (mg : Str → Option Value) (fa : Addr) (h : Heap), (K w.params).In h → h.Ns mainGlobals mg → mg d.name = some (.ref fa) →
      ∃ fd : FuncData, (∀ (s : Shared) (u : Value), BindsTo s fd ⟨[u], []⟩ [(x, u)]) ∧
        ∀ base : Heap, (K w.params).In base → base.Ns mainGlobals mg → FnOk l.prog w (K w.params) mg base CX k fa fd [x] (sp (K w.params)))
    (hsp : ∀ (K : PySem.W.Frag) (H : Hp) (a : Addr) (ns : List Int), ns.length ≤ n → Only H → SqL K H a (ns.map V.int) → sp K [.ref a] H (fun v _ => v = .bl true) fun _ _ _ => False)
    (hCX : ∀ (H : Hp) (s : Shared) (e : Value) (s' : Shared), CX [] H s (fun _ _ _ => False) e s' → False) :
    PySem.W.WalkO q loose XP YP l.row.toRowW d [] (fun f vs => PySem.call f vs) :=
  walk_of (K := K) (CX := fun _ => CX) (sp := fun w => sp (K w.params)) hn hn2 hdf hr hY F (fun w H a ns h1 h2 h3 => hsp (K w.params) H a ns h1 h2 h3) fun _ H s e s' => hCX H s e s'
end L2
/- THE LAST THEOREM (shape; LID, My.* are yours):
   My.Adr: a structure of the addresses that your layer names (classes, functions); My.Txt K t: a structure (Prop) of the equations over K;
   My.txt_mk : {K} {implicit addresses ..} (e1 : nsIn K mainGlobals "law" = some (some (.ref f))) (e2 : K.lookup f = some ⟨oc, od, .func (fnOf "law" "law" params body scope dV kV doc pm an cdv ct), sl⟩) (e3 : codeIn K cdv "law" = true) .. : ∃ t, My.Txt K t
set_option maxRecDepth 100000 in
set_option maxHeartbeats 0 in
(the tactic k_is has no namespace: write k_is) -/
namespace L2
open PySem PySem.Spec PyProof.Rows
def inClass (s : Stmt) (j : Nat) : Stmt := match s with
  | .ClassDef _ _ _ body _ _ _ _ _ _ _ => body.getD j (.Pass ⟨0, 0, 0, 0⟩)
  | _ => .Pass ⟨0, 0, 0, 0⟩
def defArgs (s : Stmt) : Arguments := match s with
  | .FunctionDef _ a _ _ _ _ _ _ _ _ => a
  | _ => { posonlyargs := [], args := [], vararg := none, kwonlyargs := [], kw_defaults := [], kwarg := none, defaults := [] }
def defBody (s : Stmt) : List Stmt := match s with
  | .FunctionDef _ _ b _ _ _ _ _ _ _ => b
  | _ => []
def defScope (s : Stmt) : Scope := match s with
  | .FunctionDef _ _ _ _ _ _ sc _ _ _ => sc
  | _ => { kind := .function, names := [], isGenerator := false, isCoroutine := false }
abbrev CX0 : CXT := fun _ _ _ _ _ _ => False
abbrev E0 : XK := fun _ _ _ => False
theorem pass0 {X : Cx} : Passes CX0 X E0 := fun _ _ _ _ _ _ _ h => h.elim
structure Fun (K : PySem.W.Frag) (x qual : Str) (st : Stmt) (f : Addr) (fd : FuncData) : Prop where
  ex : ∃ (oc : Value) (od : Option Addr) (kV doc pm : Value) (an : Option Addr) (cdv ct : Value) (osl : Array (Option Value)),
    fd = PySem.W.fnOf x qual (defArgs st) (defBody st) (defScope st) .none kV doc pm an cdv ct ∧ K.lookup f = some ⟨oc, od, .func fd, osl⟩ ∧ PySem.W.codeIn K cdv qual = true
  kp : PySem.W.keepIn K (.ref f) = true
section
variable {P : Program} {w : World} {K : PySem.W.Frag} {mg : Str → Option Value} {base : Heap}
theorem Fun.ok {x qual : Str} {st : Stmt} {f : Addr} {fd : FuncData} {N ps : List Str} {k : Nat} {sp : Sp} (F : Fun K x qual st f fd) (S : FnScope N ps (defScope st)) (len : ∀ vs H Q E, sp vs H Q E → vs.length = ps.length)
    (hbody : ∀ (cdv : Value) (A : Around) (outer : List Env) (s : Shared) (H : Hp) (vs : List V) (Q : VK) (E : XK), Room k (A.deeper (envOfC qual (defScope st) s.heap.objs.size f cdv)) → sp vs H Q E →
      ∃ t, PSs (cxOf CX0 P w K mg base N qual (defScope st) f cdv A outer s H E).nox (defBody st) t ∧ t { nx := fun _ H' => Q .non H', rt := Q } (start N vs) H) : FnOk P w K mg base CX0 (k + 1) f fd ps sp := by
  obtain ⟨oc, od, kV, doc, pm, an, cdv, ct, osl, rfl, lk, hcd⟩ := F.ex
  refine fn_of lk hcd S len fun A outer s H vs Q E hr hsp => ?_
  obtain ⟨t, h, q⟩ := hbody cdv A outer s H vs Q E hr hsp
  exact ⟨t, h.nox, q⟩
theorem Fun.binds {x qual : Str} {st : Stmt} {f : Addr} {fd : FuncData} {ps : List Str} (F : Fun K x qual st f fd)
    (h : ∀ (kV doc pm : Value) (an : Option Addr) (cdv ct : Value) (us : List Value), us.length = ps.length → bindArgs (PySem.W.fnOf x qual (defArgs st) (defBody st) (defScope st) .none kV doc pm an cdv ct) ⟨us, []⟩ = pure (ps.zip us)) : Binds K fd ps [] := by
  obtain ⟨oc, od, kV, doc, pm, an, cdv, ct, osl, rfl, lk, hcd⟩ := F.ex
  exact .all (h kV doc pm an cdv ct)
theorem fun_mk {x qual : Str} {st : Stmt} {f : Addr} {oc : Value} {od an : Option Addr} {osl : Array (Option Value)} {kV doc pm cdv ct : Value} (l : K.lookup f = some ⟨oc, od, .func (PySem.W.fnOf x qual (defArgs st) (defBody st) (defScope st) .none kV doc pm an cdv ct), osl⟩)
    (c : PySem.W.codeIn K cdv qual = true) (k : PySem.W.keepIn K (.ref f) = true) : Fun K x qual st f (PySem.W.fnOf x qual (defArgs st) (defBody st) (defScope st) .none kV doc pm an cdv ct) := ⟨⟨oc, od, kV, doc, pm, an, cdv, ct, osl, rfl, l, c⟩, k⟩
end
theorem hu_of {A : Around} {k : Nat} (hr : Room k A) : A.units + 1 < cLine := Nat.lt_of_le_of_lt (Nat.add_le_add_left (by decide : 1 ≤ 64) _) hr.units
section
variable {X : Cx}
theorem pv (i : Nat) {x : Str} {pos : Pos} (hN : X.N[i]? = some x := by rfl) (hv : Vis X.env.scope x := by first | exact Or.inl rfl | exact Or.inr (Or.inl rfl) | exact Or.inr (Or.inr rfl)) (hd : (x == ("__debug__" : Str)) = false := by decide)
    (hcd : (x == ("__classdict__" : Str)) = false := by decide) : PE X (.Name x pos) (tVar i) := by
  first
  | exact (pe_var hN hv hd hcd)
  | (unfold PE at *; exact (pe_var hN hv hd hcd))
end
theorem iteF {A B : Prop} (h : B) : if false = true then A else B := by
  rw [if_neg Bool.false_ne_true]
  exact h
theorem iteT {A B : Prop} (h : A) : if true = true then A else B := by
  rw [if_pos rfl]
  exact h
theorem ite2 {c A B : Prop} [Decidable c] (h1 : c → A) (h2 : ¬ c → B) : if c then A else B := by
  by_cases h : c
  · rw [if_pos h]
    exact h1 h
  · rw [if_neg h]
    exact h2 h
def Same (H H' : Hp) : Prop := ∀ b o, H b = some o → H' b = some o
theorem Same.refl (H : Hp) : Same H H := fun _ _ h => h
theorem Same.trans {H H1 H2 : Hp} (a : Same H H1) (b : Same H1 H2) : Same H H2 := fun c o h => b c o (a c o h)
theorem Same.free {H H' : Hp} (e : Same H H') {l : Addr} (h : H' l = Option.none) : H l = Option.none := by
  cases q : H l with
  | none => rfl
  | some o =>
    rw [e l o q] at h
    cases h
theorem Same.seq {K : PySem.W.Frag} {H H' : Hp} {a : Addr} {xs : List V} (e : Same H H') (h : SqL K H a xs) : SqL K H' a xs := by
  rcases h with (h | ⟨o, h⟩) | h
  · exact .inl (.inl (e _ _ h))
  · exact .inl (.inr ⟨o, e _ _ h⟩)
  · exact .inr h
section
variable {κ : Type} [DecidableEq κ]
end
end L2
set_option maxHeartbeats 4000000
namespace L2
open PySem PySem.Spec PyProof.Rows
section
variable {X : Cx} {a b c : Expr} {ta tb tc : TE} {pos : Pos}
inductive ClsV : V → Value → Prop where
  | ty (n : String) : ClsV (.ty n) (.type n)
  | own (C : Addr) : ClsV (.ref C) (.ref C)
def rIsi (K : PySem.W.Frag) : List V → Hp → VK → Prop := fun xs H Q => ∃ x c cv t b, xs = [x, c] ∧ ClsV c cv ∧ TyOf K H x t ∧ PySem.W.kitOne K t cv = some b ∧ Q (.bl b) H
theorem call_isi : CallR X (.builtin "isinstance") (rIsi X.K) := by
  unfold CallR at *
  exact by
    intro pins s σ H xs us Q I rv h
    obtain ⟨x, c, cv, t, b, rfl, hc, ty, e, q⟩ := h
    obtain ⟨u, cu, rfl, ru, rc⟩ := rv.two
    have ec : cu = cv := by cases hc <;> exact rc
    subst ec
    exact isinst_ok I ru ty e fun tk => ⟨.bl b, H, I.tok tk, rfl, q⟩
end
end L2
namespace L2
open PySem PySem.Spec PyProof.Rows
/- what a block's context hangs on: the closure's cells, the state and abstract heap ahead of the block, the iterator's records -/
set_option genInjectivity false in
set_option genSizeOfSpec false in
set_option genSizeOf false in
structure Bk where
  cl : List (Str × Addr)
  s2 : Shared
  H2 : Hp
  fp : List Addr
def cxComp (X : Cx) (scope : Scope) (N' : List Str) (B : Bk) : Cx :=
  { X with N := N', s₀ := B.s2, H₀ := B.H2, env := compEnvC scope B.cl B.s2.heap.objs.size X.env, outer := X.stack, stack := X.stack, ex := B.fp, fn := fun _ => false, pn := [], xe := fun _ _ => False }
def capS (js : List (Option Nat)) (σ : St) : St := js.map fun o => o.bind fun j => (σ[j]?).join
structure Cap (X : Cx) (scope : Scope) (N' : List Str) (js : List (Option Nat)) : Prop where
  len : js.length = N'.length
  ok : ∀ (i j : Nat) (x : Str), js[i]? = some (some j) → N'[i]? = some x → X.N[j]? = some x ∧ scope.names.lookup x = some .free ∧ (X.env.kindOf x = some .cell ∨ X.env.kindOf x = some .free)
theorem closure_go {env : Env} : ∀ (names : List (Str × NameKind)) (cs : List (Str × Addr)), (∀ x ∈ names, x.2 = .free → ∃ c, env.cells.lookup x.1 = some c) → (∀ x c, cs.lookup x = some c → env.cells.lookup x = some c) →
    ∃ cl, (forIn names cs (fun (x : Str × NameKind) (r : List (Str × Addr)) => match x with
      | (name, kind) => if (kind == NameKind.free) = true then (do let y ← cellOf env name; pure (ForInStep.yield ((name, y) :: r))) else pure (ForInStep.yield r)) : Sem (List (Str × Addr))) = pure cl ∧
      (∀ x c, cl.lookup x = some c → env.cells.lookup x = some c) ∧ (∀ x c, cs.lookup x = some c → ∃ c', cl.lookup x = some c') ∧ ∀ x, (x, NameKind.free) ∈ names → ∃ c, cl.lookup x = some c := by
  intro names
  induction names with
  | nil => intro cs _ h2; exact ⟨cs, rfl, h2, fun x c e => ⟨c, e⟩, fun x hx => absurd hx (by simp)⟩
  | cons y r ih =>
    intro cs h1 h2
    obtain ⟨n, k⟩ := y
    have h1r : ∀ x ∈ r, x.2 = .free → ∃ c, env.cells.lookup x.1 = some c := fun x hx => h1 x (List.mem_cons_of_mem _ hx)
    by_cases hk : k = .free
    · subst hk
      obtain ⟨c, hc⟩ := h1 (n, .free) List.mem_cons_self rfl
      have h2' : ∀ x d, List.lookup x ((n, c) :: cs) = some d → env.cells.lookup x = some d := fun x d e => by
        by_cases hx : x = n
        · subst hx
          simp only [List.lookup_cons, beq_self_eq_true] at e
          rw [hc]; exact e
        · have hb : (x == n) = false := by simpa using hx
          simp only [List.lookup_cons, hb] at e
          exact h2 x d e
      obtain ⟨cl, e1, e2, e3, e4⟩ := ih ((n, c) :: cs) h1r h2'
      refine ⟨cl, ?_, e2, fun x d e => ?_, fun x hx => ?_⟩
      · rw [List.forIn_cons]
        have q : cellOf env n = pure c := by unfold cellOf; rw [hc]
        show ((if (NameKind.free == NameKind.free) = true then (do let y ← cellOf env n; pure (ForInStep.yield ((n, y) :: cs))) else pure (ForInStep.yield cs)) >>= _) = _
        rw [if_pos (by decide), q]
        exact e1
      · by_cases hx : x = n
        · exact e3 x c (by subst hx; simp [List.lookup_cons])
        · exact e3 x d (by have hb : (x == n) = false := by simpa using hx
                           simp only [List.lookup_cons, hb]; exact e)
      · rcases List.mem_cons.mp hx with z | z
        · injection z with z1 _
          exact e3 x c (by subst z1; simp [List.lookup_cons])
        · exact e4 x z
    · obtain ⟨cl, e1, e2, e3, e4⟩ := ih cs h1r h2
      refine ⟨cl, ?_, e2, e3, fun x hx => ?_⟩
      · rw [List.forIn_cons]
        have hb : (k == NameKind.free) = false := by simpa using hk
        show ((if (k == NameKind.free) = true then _ else pure (ForInStep.yield cs)) >>= _) = _
        rw [if_neg (by rw [hb]; decide)]
        exact e1
      · rcases List.mem_cons.mp hx with z | z
        · injection z with _ z2
          exact absurd z2.symm hk
        · exact e4 x z
theorem closure_of {scope : Scope} {env : Env} (h : ∀ x ∈ scope.names, x.2 = .free → ∃ c, env.cells.lookup x.1 = some c) :
    ∃ cl, closureFor scope env = pure cl ∧ (∀ x c, cl.lookup x = some c → env.cells.lookup x = some c) ∧ ∀ x, (x, NameKind.free) ∈ scope.names → ∃ c, cl.lookup x = some c := by
  obtain ⟨cl, e1, e2, _, e4⟩ := closure_go (env := env) scope.names [] h (fun x c e => by simp at e)
  refine ⟨cl, ?_, e2, e4⟩
  have q : closureFor scope env = (forIn scope.names [] (fun (x : Str × NameKind) (r : List (Str × Addr)) => match x with
      | (name, kind) => if (kind == NameKind.free) = true then (do let y ← cellOf env name; pure (ForInStep.yield ((name, y) :: r))) else pure (ForInStep.yield r)) : Sem (List (Str × Addr))) >>= fun r => pure r := rfl
  rw [q, e1]
  rfl
theorem relabel_free {env : Env} : ∀ {names : List (Str × NameKind)} {x : Str}, names.lookup x = some .free →
    (names.map fun (n, k) => if (k == NameKind.free && env.scope.kind == .function && env.kindOf n == some .cell) then (n, NameKind.cell) else (n, k)).lookup x = some .cell ∨
    (names.map fun (n, k) => if (k == NameKind.free && env.scope.kind == .function && env.kindOf n == some .cell) then (n, NameKind.cell) else (n, k)).lookup x = some .free
  | [], _, h => by simp at h
  | (n, k) :: r, x, h => by
    have ih := @relabel_free env r x
    simp only [List.map_cons]
    cases hx : x == n with
    | true =>
      simp only [List.lookup_cons, hx] at h
      cases h
      by_cases hc : (NameKind.free == NameKind.free && env.scope.kind == .function && env.kindOf n == some .cell) = true
      · rw [if_pos hc]; left; simp only [List.lookup_cons, hx]
      · rw [if_neg hc]; right; simp only [List.lookup_cons, hx]
    | false =>
      simp only [List.lookup_cons, hx] at h
      by_cases hc : (k == NameKind.free && env.scope.kind == .function && env.kindOf n == some .cell) = true
      · rw [if_pos hc]; simp only [List.lookup_cons, hx]; exact ih h
      · rw [if_neg hc]; simp only [List.lookup_cons, hx]; exact ih h
theorem relabel_inv {env : Env} : ∀ {names : List (Str × NameKind)} {x : Str},
    ((names.map fun (n, k) => if (k == NameKind.free && env.scope.kind == .function && env.kindOf n == some .cell) then (n, NameKind.cell) else (n, k)).lookup x = some .cell ∨
    (names.map fun (n, k) => if (k == NameKind.free && env.scope.kind == .function && env.kindOf n == some .cell) then (n, NameKind.cell) else (n, k)).lookup x = some .free) →
    names.lookup x = some .cell ∨ names.lookup x = some .free
  | [], _, h => by simp at h
  | (n, k) :: r, x, h => by
    have ih := @relabel_inv env r x
    simp only [List.map_cons] at h
    cases hx : x == n with
    | true =>
      simp only [List.lookup_cons, hx]
      by_cases hc : (k == NameKind.free && env.scope.kind == .function && env.kindOf n == some .cell) = true
      · right
        have : k = .free := by
          simp only [Bool.and_eq_true] at hc
          simpa using hc.1.1
        rw [this]
      · rw [if_neg hc] at h
        simp only [List.lookup_cons, hx] at h
        exact h
    | false =>
      simp only [List.lookup_cons, hx]
      apply ih
      by_cases hc : (k == NameKind.free && env.scope.kind == .function && env.kindOf n == some .cell) = true
      · rw [if_pos hc] at h; simp only [List.lookup_cons, hx] at h; exact h
      · rw [if_neg hc] at h; simp only [List.lookup_cons, hx] at h; exact h
theorem comp_start {X : Cx} {pins : List (Addr × Obj)} {σ : St} {H2 : Hp} {s2 : Shared} {scope : Scope} {cl : List (Str × Addr)} {N' : List Str} {js : List (Option Nat)} {fp : List Addr} {h' : Heap} {t' : Nat} {m0 : Str → Option Value}
    (I : Inv X pins σ H2 s2) (hk : scope.kind = .function) (hcell : ∀ y ∈ scope.names, y.2 ≠ .cell)
    (hf : ∀ b ∈ fp, FpOk X pins H2 b) (ho : ∀ b ∈ fp, ∃ o, s2.heap.get? b = some o)
    (c1 : ∀ x c, cl.lookup x = some c → X.env.cells.lookup x = some c) (c2 : ∀ x, (x, NameKind.free) ∈ scope.names → ∃ c, cl.lookup x = some c)
    (cap : Cap X scope N' js) (ns : h'.Ns s2.heap.objs.size m0) (sb : ∀ b o, s2.heap.get? b = some o → h'.get? b = some o) :
    Inv (cxComp X scope N' ⟨cl, s2, H2, fp⟩) [] (capS js σ) H2 { s2 with heap := h', toks := t' } := by
  have isc : ∀ c v, s2.heap.IsCell c v → h'.IsCell c v := fun c v ⟨o, e, d⟩ => ⟨o, sb _ _ e, d⟩
  refine ⟨⟨I.ok.mod, hk, I.ok.glob, I.ok.blt, Nat.le_refl _, fun x y c h1 h2 => I.ok.inj x y c (c1 x c h1) (c1 y c h2), fun x hx => ?_, fun x c h => absurd h (by simp [cxComp]), I.ok.hd, I.ok.frames, .inl rfl, fun b hb => ⟨?_, fun x c e => ?_⟩, I.bs, Nat.le_trans I.ok.bsz I.sz,
    fun b o e hb => ?_, fun b hb hs => ?_, I.stack, I.stkFree⟩, rfl, I.bare, Un.kept sb, ⟨m0, ns, fun i x v e1 e2 e3 => ?_⟩, fun x c e => ?_, I.hok.fresh (Nat.le_refl _), fun x c e => I.freeC x c (c1 x c e), fun p hp => absurd hp (by simp [cxComp]), I.hok.kept sb, ?_⟩
  · have hx' := relabel_inv (env := X.env) (names := scope.names) (x := x) hx
    rcases hx' with z | z
    · exact absurd rfl (hcell _ (PySem.mem_of_lookup z))
    · exact c2 x (PySem.mem_of_lookup z)
  · obtain ⟨o, e⟩ := ho b hb
    exact Nat.ne_of_lt (Heap.lt_size e)
  · exact (hf b hb).2.2.2.2.1 x c (c1 x c e)
  · rcases (hf b hb).2.2.2.1 with z | z
    · exact I.ok.noex b o e z
    · exact absurd (Nat.lt_of_lt_of_le (Heap.lt_size e) (Nat.le_trans I.ok.bsz z)) (Nat.lt_irrefl _)
  · rcases List.mem_cons.mp (I.stkSub b hs) with z | z
    · exact (hf b hb).2.1 z
    · exact (hf b hb).2.2.1 z
  · have e2' : ((js.map fun o => o.bind fun j => (σ[j]?).join) : St)[i]? = some (some v) := e2
    rw [List.getElem?_map] at e2'
    cases q : js[i]? with
    | none => rw [q] at e2'; cases e2'
    | some o =>
      rw [q] at e2'
      cases o with
      | none => simp at e2'
      | some j =>
        have q2 : (σ[j]?).join = some v := by simpa using e2'
        have q3 : σ[j]? = some (some v) := by
          cases z : σ[j]? with
          | none => rw [z] at q2; cases q2
          | some w => rw [z] at q2; exact congrArg some q2
        obtain ⟨n1, n2, n3⟩ := cap.ok i j x q e1
        obtain ⟨m, hm, hl⟩ := I.loc
        obtain ⟨u, r, l⟩ := hl j x v n1 q3 (.inr n3)
        refine ⟨u, r, .inr ⟨relabel_free (env := X.env) n2, ?_⟩⟩
        obtain ⟨c, hc⟩ := c2 x (PySem.mem_of_lookup n2)
        refine ⟨c, hc, ?_⟩
        rcases l with ⟨l, _⟩ | ⟨_, c', e', z'⟩
        · rcases n3 with n3 | n3 <;> (rw [n3] at l; cases l)
        · have := c1 x c hc
          rw [e'] at this; cases this
          exact isc _ _ z'
  · obtain ⟨v, z⟩ := I.cell x c (c1 x c e)
    exact ⟨v, isc _ _ z⟩
  · show (js.map _).length = N'.length
    rw [List.length_map]; exact cap.len
@[irreducible] def PIfs (X : Cx) (ifs : List Expr) (t : TT) : Prop :=
  ∀ (pins : List (Addr × Obj)) (s : Shared) (σ : St) (H : Hp) (Q : Bool → Hp → Prop), Inv X pins σ H s → t σ H Q →
    wpAny (model X.prog X.w) X.A (forIn ifs true fun c r => if r = true then do let ok ← isTrue c X.env (eval c X.env); pure (ForInStep.yield ok) else pure (ForInStep.yield r)) (TP X pins σ Q) X.xe s
def tAll : TT := fun _ H Q => Q true H
theorem pifs_nil {X : Cx} : PIfs X [] tAll := by
  first
  | exact (fun _ _ _ H _ I h => wpAny_tests_nil ⟨H, I, h⟩)
  | (unfold PIfs at *; exact (fun _ _ _ H _ I h => wpAny_tests_nil ⟨H, I, h⟩))
theorem pifs_one {X : Cx} {c : Expr} {t : TT} (hc : PT X c t) : PIfs X [c] t := by
  first
  | exact (fun pins s σ H Q I h => wpAny_tests_one (hc pins s σ H Q I h))
  | (unfold PT at *; unfold PIfs at *; exact (fun pins s σ H Q I h => wpAny_tests_one (hc pins s σ H Q I h)))
section
variable {prog : Program} {w : World} {A : Around} {R : Result → Shared → Prop} {s : Shared}
theorem compLoop_go {elt target iter : Expr} {ifs : List Expr} {scope : Scope} {pos : Pos} {it acc : Value} {env : Env} (I : Nat → Shared → Prop)
    (turn : ∀ n s, I n s → wpAny (model prog w) A (pyNext it) (fun r s₁ => match r with
      | none => R (.ok .next) s₁
      | some v => wpAny (model prog w) A (letOwnedTupleGo target it v) (fun _ s₁ => wpAny (model prog w) A (assign target env v) (fun _ s₂ =>
          wpAny (model prog w) A (forIn ifs true fun c r => if r = true then do let ok ← isTrue c env (eval c env); pure (ForInStep.yield ok) else pure (ForInStep.yield r)) (fun ok s₃ =>
            if ok = true then wpAny (model prog w) A (eval elt env) (fun x s₄ =>
              wpAny (model prog w) A (call (.builtin "list.append") [acc, x]) (fun _ s₅ => ∃ m, m < n ∧ I m s₅) (fun _ _ => False) s₄) (fun _ _ => False) s₃
            else ∃ m, m < n ∧ I m s₃) (fun _ _ => False) s₂) (fun _ _ => False) s₁) (fun _ _ => False) s₁) (fun _ _ => False) s)
    (n : Nat) (h : I n s) :
    codeAny (model prog w) A (.compLoop (.ListComp elt [⟨target, iter, ifs, 0⟩] scope pos) 0 it acc env) R s := by
  refine codeAny_loop rfl I (fun n s hI => ?_) n h
  show wpAny _ A ((compTurn (.ListComp elt [⟨target, iter, ifs, 0⟩] scope pos) 0 it acc env).onRaise (fun x => do noteFrame x env; theTreesLotGoes x)) _ _ s
  refine wpAny_noted ?_
  rw [compTurn_list]
  refine wpAny_bind (wpAny_standAt (wpAny_bind (wpAny_mono (turn n s hI) (fun r s₁ h₁ => ?_) fun _ _ h' => h'.elim)))
  cases r with
  | none => exact wpAny_pure h₁
  | some v =>
    refine wpAny_bind (wpAny_mono h₁ (fun _ s₁ h₁ => ?_) fun _ _ h' => h'.elim)
    refine wpAny_bind (wpAny_mono h₁ (fun _ s₂ h₂ => wpAny_bind (wpAny_mono h₂ (fun ok s₃ h₃ => ?_) fun _ _ h' => h'.elim)) fun _ _ h' => h'.elim)
    cases ok with
    | false => exact wpAny_pure ⟨rfl, h₃⟩
    | true =>
      exact wpAny_bind (wpAny_bind (wpAny_mono h₃ (fun x s₄ h₄ => wpAny_bind (wpAny_mono h₄ (fun _ s₅ h₅ => wpAny_pure (wpAny_pure ⟨rfl, h₅⟩)) fun _ _ h' => h'.elim)) fun _ _ h' => h'.elim))
end
def tLoop (J : It) (l : Addr) (g : TG) (tc : TT) (te : TE) (σ : St) (H : Hp) (Q : VK) : Prop :=
  ∃ W : Nat → Nat → St → List V → Hp → Prop, (∃ m, W 0 m σ [] H) ∧ ∀ i m σ acc H, W i m σ acc H → H l = some (.lst acc) ∧ ((J.stop i H ∧ Q (.ref l) H) ∨
    (J.go i H ∧ acc.length < sizeLine ∧ ∀ x H', J.yld i H x H' → g x σ H' fun σ2 H2 => tc σ2 H2 fun b H3 => if b = true then
      te σ2 H3 fun v H4 => H4 l = some (.lst acc) ∧ ∃ m', m' < m ∧ W (i + 1) m' σ2 (acc ++ [v]) (upd H4 l (.lst (acc ++ [v])))
      else ∃ m', m' < m ∧ W (i + 1) m' σ2 acc H3))
def tComp (js : List (Option Nat)) (wi : TI) (g : Bk → TG) (tc : Bk → TT) (te : Bk → TE) : TE := fun σ H Q => wi σ H fun J H1 => ∀ l B, H1 l = none → tLoop J l (g B) (tc B) (te B) (capS js σ) (upd H1 l (.lst [])) Q
section
variable {X : Cx} {elt tg iter : Expr} {ifs : List Expr} {scope : Scope} {pos : Pos} {N' : List Str} {js : List (Option Nat)} {wi : TI} {g : Bk → TG} {tc : Bk → TT} {te : Bk → TE}
theorem comp_block {pins : List (Addr × Obj)} {σ : St} {H1 : Hp} {s1 : Shared} {it : Addr} {fp : List Addr} {tn : Nat → Heap → Prop} {J : It} {cl : List (Str × Addr)} {Q : VK} {RR : Value → Addr → Result → Shared → Prop}
    (hc : X.calm = true) (hk : scope.kind = .function) (hcell : ∀ y ∈ scope.names, y.2 ≠ .cell) (cap : Cap X scope N' js)
    (blk : ∀ B, PG (cxComp X scope N' B) tg (g B) ∧ PIfs (cxComp X scope N' B) ifs (tc B) ∧ PE (cxComp X scope N' B) elt (te B))
    (c1 : ∀ x c, cl.lookup x = some c → X.env.cells.lookup x = some c) (c2 : ∀ x, (x, NameKind.free) ∈ scope.names → ∃ c, cl.lookup x = some c)
    (I : Inv X pins σ H1 s1) (T : Turn X.prog X.w X.K tg J fp it tn) (st : tn 0 s1.heap) (hf : ∀ b ∈ fp, FpOk X pins H1 b)
    (h : ∀ l B, H1 l = none → tLoop J l (g B) (tc B) (te B) (capS js σ) (upd H1 l (.lst [])) Q)
    (hRR : ∀ l C H' s' (m' : Str → Option Value), Inv X pins σ H' s' → Q (.ref l) H' → s'.heap.Ns C m' → H' C = none → C ≠ X.env.locals → (∀ x c, X.env.cells.lookup x = some c → c ≠ C) → C ∉ X.fs → X.s₀.heap.objs.size ≤ C → (∀ p ∈ X.pn ++ pins, p.1 ≠ C) →
      RR (.ref l) C (.ok .next) s') :
    wpAny (model X.prog X.w) X.A (newList []) (fun acc s₃ => wpAny (model X.prog X.w) X.A (newFunctionEnv scope X.env.globals cl [] X.env.qual none .none (some X.env)) (fun cenv s₄ =>
      codeAny (model X.prog X.w) X.A (.compStart (.ListComp elt [⟨tg, iter, ifs, 0⟩] scope pos) 0 (.ref it) acc { cenv with scope := relabel scope X.env }) (RR acc cenv.locals) s₄) X.xe s₃) X.xe s1 := by
  unfold PE at *; unfold PG at *; unfold PIfs at *
  exact by
    refine wpAny_newObj_type ?_
    have I2 : Inv X pins σ (upd H1 s1.heap.objs.size (.lst [])) { s1 with heap := s1.heap.push { cls := .type "list", data := .seq ([] : List Value).toArray } } := I.lnew (t' := s1.toks) .nil (Nat.zero_le _)
    have hl : H1 s1.heap.objs.size = none := I.fresh
    generalize es2 : ({ s1 with heap := s1.heap.push { cls := .type "list", data := .seq ([] : List Value).toArray } } : Shared) = s2 at I2 ⊢
    generalize el : s1.heap.objs.size = l at *
    have ne_fp : ∀ b ∈ fp, b ≠ l := fun b hb => by
      obtain ⟨o, e, _⟩ := T.obj _ _ st b hb
      rw [← el]
      exact Nat.ne_of_lt (Heap.lt_size e)
    have hf2 : ∀ b ∈ fp, FpOk X pins (upd H1 l (.lst [])) b := fun b hb => ⟨by rw [upd_ne (ne_fp b hb)]; exact (hf b hb).1, (hf b hb).2⟩
    have kp : ∀ b o, s1.heap.get? b = some o → s2.heap.get? b = some o := fun b o e => by rw [← es2]; exact Heap.get?_push_of_some _ e
    have st2 : tn 0 s2.heap := T.keep _ _ _ st fun b _ o e => kp b o e
    refine wpAny_newFunctionEnv hcell (by intro y hy; simp at hy) (fun h' ns sb => ?_) hk
    have kp2 : ∀ b o, s2.heap.get? b = some o → h'.get? b = some o := fun b o e => (sb.2 b (Nat.ne_of_lt (Heap.lt_size e))).trans (Heap.get?_push_of_some _ e)
    have st3 : tn 0 h' := T.keep _ _ _ st2 fun b _ o e => kp2 b o e
    have I3 := comp_start (t' := s2.toks + ([] : List (Str × Value)).length) (m0 := fun x => ([] : List (Str × Value)).reverse.lookup x) I2 hk hcell hf2 (fun b hb => by obtain ⟨o, e, _⟩ := T.obj _ _ st2 b hb; exact ⟨o, e⟩) c1 c2 cap ns kp2
    obtain ⟨pg, pif, pel⟩ := blk ⟨cl, s2, upd H1 l (.lst []), fp⟩
    obtain ⟨W, ⟨m0, w0⟩, turn⟩ := h l ⟨cl, s2, upd H1 l (.lst []), fp⟩ hl
    have fpY : ∀ {H' : Hp}, (∀ b ∈ fp, H' b = none) → ∀ b ∈ fp, FpOk (cxComp X scope N' ⟨cl, s2, upd H1 l (.lst []), fp⟩) [] H' b := fun {H'} hn b hb =>
      ⟨hn b hb, (I3.ok.exf b hb).1, I3.ok.exfs b hb, .inl hb, (I3.ok.exf b hb).2, fun p hp => absurd hp (by simp [cxComp])⟩
    have loop : codeAny (model X.prog X.w) X.A (.compLoop (.ListComp elt [⟨tg, iter, ifs, 0⟩] scope pos) 0 (.ref it) (.ref l) (compEnvC scope cl s2.heap.objs.size X.env)) (RR (.ref l) s2.heap.objs.size) { s2 with heap := h', toks := s2.toks + ([] : List (Str × Value)).length } := by
      refine compLoop_go (fun n s' => ∃ i σ' acc H', Inv (cxComp X scope N' ⟨cl, s2, upd H1 l (.lst []), fp⟩) [] σ' H' s' ∧ tn i s'.heap ∧ (∀ b ∈ fp, H' b = none) ∧ W i n σ' acc H') ?_ m0 ⟨0, _, _, _, I3, st3, fun b hb => (hf2 b hb).1, w0⟩
      rintro n s3 ⟨i, σ3, acc, H3, J3, t3, f3, w3⟩
      obtain ⟨hacc, alt⟩ := turn i n σ3 acc H3 w3
      rcases alt with ⟨stop, q⟩ | ⟨go, hz, step⟩
      · refine thn (T.done (cxComp X scope N' ⟨cl, s2, upd H1 l (.lst []), fp⟩) rfl rfl rfl hc i [] s3 σ3 H3 (fun _ _ => False) J3 (fpY f3) t3 stop) fun r s4 ⟨hr, J4⟩ => ?_
        subst hr
        have IX : Inv X pins σ H3 s4 := I2.call' (ch := fp) J4.os J4.base J4.hok J4.bare fun b hb => ⟨(hf2 b hb).2.2.2.1, (hf2 b hb).2.1, (hf2 b hb).2.2.2.2.1, (hf2 b hb).2.2.2.2.2⟩
        obtain ⟨m', hn', _⟩ := J4.loc
        refine hRR l s2.heap.objs.size H3 s4 m' IX q hn' J4.free (Nat.ne_of_gt I2.lt) (fun x c e => ?_) (I2.nofs (Nat.le_refl _)) I2.sz fun p hp => Nat.ne_of_lt (Heap.lt_size (I2.pin p hp).1)
        obtain ⟨v, z⟩ := I2.cell x c e
        exact Nat.ne_of_lt z.lt
      · refine thn (T.item (cxComp X scope N' ⟨cl, s2, upd H1 l (.lst []), fp⟩) rfl rfl rfl hc i [] s3 σ3 H3 (fun _ _ => False) J3 (fpY f3) t3 go) fun r s4 ⟨u, hr, h4⟩ => ?_
        subst hr
        refine thn h4 fun _ s5 ⟨x, H5, J5, r5, y5, t5, f5⟩ => ?_
        have J5' := J5.pinned (fpY f5) (T.obj _ _ t5)
        refine thn (pg _ s5 σ3 H5 x u _ J5' r5 (step x H5 y5)) fun _ s6 ⟨σ6, H6, J6, q6⟩ => ?_
        refine thn (pif _ s6 σ6 H6 _ J6 q6) fun ok s7 ⟨H7, J7, q7⟩ => ?_
        have again : ∀ {σ8 : St} {H8 : Hp} {s8 : Shared} {acc8 : List V}, Inv (cxComp X scope N' ⟨cl, s2, upd H1 l (.lst []), fp⟩) ([] ++ pinsAt fp s5.heap) σ8 H8 s8 → (∃ m', m' < n ∧ W (i + 1) m' σ8 acc8 H8) →
            ∃ m, m < n ∧ ∃ i σ' acc H', Inv (cxComp X scope N' ⟨cl, s2, upd H1 l (.lst []), fp⟩) [] σ' H' s8 ∧ tn i s8.heap ∧ (∀ b ∈ fp, H' b = none) ∧ W i m σ' acc H' := fun {σ8 H8 s8 acc8} J8 hw => by
          obtain ⟨m', hm, w8⟩ := hw
          refine ⟨m', hm, i + 1, σ8, acc8, H8, J8.unpinned, T.keep _ _ _ t5 fun b hb o e => (J8.pin (b, o) (List.mem_append_right _ (List.mem_append_right _ (mem_pinsAt hb e)))).1, fun b hb => ?_, w8⟩
          obtain ⟨o, e, d⟩ := T.obj _ _ t5 b hb
          exact (J8.pin (b, o) (List.mem_append_right _ (List.mem_append_right _ (mem_pinsAt hb e)))).2.1
        cases ok with
        | false => exact again J7 q7
        | true =>
          refine thn (pel _ s7 σ6 H7 _ J7 q7) fun xv s8 ⟨v, H8, J8, r8, hl8, m', hm, w8⟩ => ?_
          have mtq := mt_append (X := cxComp X scope N' ⟨cl, s2, upd H1 l (.lst []), fp⟩)
          unfold MtM at mtq
          refine thn (mtq _ s8 σ6 H8 (.ref l) [v] (.ref l) [xv] (fun _ H9 => H9 = upd H8 l (.lst (acc ++ [v]))) J8 rfl (.cons r8 .nil) ⟨l, acc, v, rfl, rfl, hl8, hz, rfl⟩) fun _ s9 ⟨v9, H9, J9, _, e9⟩ => ?_
          subst e9
          exact again J9 ⟨m', hm, w8⟩
    exact codeAny_compStart_list loop (T.self X.A 0 _ _ _ st3 loop)
theorem pe_comp (hc : X.calm = true) (hk : scope.kind = .function) (hcell : ∀ y ∈ scope.names, y.2 ≠ .cell) (hnames : ∀ y ∈ scope.names, y.2 = .local → scope.names.lookup y.1 = some .local)
    (hfree : ∀ y ∈ scope.names, y.2 = .free → (X.env.kindOf y.1 = some .cell ∨ X.env.kindOf y.1 = some .free)) (cap : Cap X scope N' js) (hi : PI X tg iter wi)
    (blk : ∀ B, PG (cxComp X scope N' B) tg (g B) ∧ PIfs (cxComp X scope N' B) ifs (tc B) ∧ PE (cxComp X scope N' B) elt (te B))
    (hs : ∀ x, foldedSetIterable iter X.env x = pure x := by intro _; rfl) : PE X (.ListComp elt [⟨tg, iter, ifs, 0⟩] scope pos) (tComp js wi g tc te) := by
  unfold PE; unfold PI at hi
  exact by
    intro pins s σ H Q I h
    obtain ⟨cl, hcl, c1, c2⟩ := closure_of (scope := scope) (env := X.env) fun x hx hxf => I.ok.has x.1 (hfree x hx hxf)
    rw [eval_ListComp]
    refine wpAny_comprehension_free (use := none) rfl hs hcl hk hnames (thn (hi pins s σ H _ I h) fun v s1 h1 => thn h1 fun itv s2 h2 => ?_)
    obtain ⟨it, fp, tn, J, H2, e, I2, T, st2, f2, hloop⟩ := h2
    subst e
    refine comp_block (RR := fun acc C => compPost (model X.prog X.w) X.A X.xe none (EP X pins σ Q) acc C) hc hk hcell cap blk c1 c2 I2 T st2 f2 hloop ?_
    intro l C H' s' m' I' q ns fC hL hcl' hfs hs0 hpin
    exact ⟨m', ns, fun h'' sb => ⟨.ref l, H', I'.turned (t' := s'.toks) (fun b o hb e => (sb.2 b hb).trans e) fC hL (.inr hs0) hcl' hpin, rfl, q⟩⟩
theorem ps_setComp {i : Nat} {y : Str} {py spos : Pos} (hN : X.N.Nodup) (hy : X.N[i]? = some y) (hyk : X.env.kindOf y = some .local) (hc : X.calm = true) (hk : scope.kind = .function) (hcell : ∀ y ∈ scope.names, y.2 ≠ .cell)
    (hnames : ∀ y ∈ scope.names, y.2 = .local → scope.names.lookup y.1 = some .local)
    (hfree : ∀ y ∈ scope.names, y.2 = .free → (X.env.kindOf y.1 = some .cell ∨ X.env.kindOf y.1 = some .free)) (cap : Cap X scope N' js) (hi : PI X tg iter wi)
    (blk : ∀ B, PG (cxComp X scope N' B) tg (g B) ∧ PIfs (cxComp X scope N' B) ifs (tc B) ∧ PE (cxComp X scope N' B) elt (te B))
    (hsw : swapsWith (.ListComp elt [⟨tg, iter, ifs, 0⟩] scope pos) (some (.Name y py)) spos.line X.env = pure true := by rfl)
    (hs : ∀ x, foldedSetIterable iter X.env x = pure x := by intro _; rfl) : PS X (.Assign [.Name y py] (.ListComp elt [⟨tg, iter, ifs, 0⟩] scope pos) spos) (tAsg (tComp js wi g tc te) (gName i)) := by
  unfold PS; unfold PI at hi
  exact by
    intro pins s σ H D I h
    obtain ⟨cl, hcl, c1, c2⟩ := closure_of (scope := scope) (env := X.env) fun x hx hxf => I.ok.has x.1 (hfree x hx hxf)
    rw [exec_Assign_Name_used _ _ _ _ hsw]
    refine wpAny_bind (wpAny_standAt (wpAny_bind ?_))
    show wpAny _ X.A (do let _ ← comprehension (.ListComp elt [⟨tg, iter, ifs, 0⟩] scope pos) scope X.env _ (newList []) false (eval iter X.env) (some (assign (.Name y py) X.env))) _ _ s
    refine wpAny_bind (wpAny_mono (wpAny_comprehension_free (use := some (assign (.Name y py) X.env)) (Q := fun _ s' => SP X pins D .next s') rfl hs hcl hk hnames
      (thn (hi pins s σ H _ I h) fun v s1 h1 => thn h1 fun itv s2 h2 => ?_)) (fun _ s' hq => wpAny_pure (wpAny_pure hq)) fun _ _ e => e)
    obtain ⟨it, fp, tn, J, H2, e, I2, T, st2, f2, hloop⟩ := h2
    subst e
    refine comp_block (RR := fun acc C => compPost (model X.prog X.w) X.A X.xe (some (assign (.Name y py) X.env)) (fun _ s' => SP X pins D .next s') acc C) hc hk hcell cap blk c1 c2 I2 T st2 f2 hloop ?_
    intro l C H' s' m' I' q ns fC hL hcl' hfs hs0 hpin
    show wpAny _ X.A (assign (.Name y py) X.env (.ref l)) _ _ _
    refine wpAny_assign_Name (store_ok2 (v := .ref l) I' hN hy (.inl hyk) rfl (fun s'' I'' sb => ?_) (.inr hyk))
    obtain ⟨a, sb, ha⟩ := sb
    have hCa : C ≠ a := by
      rcases ha with z | z
      · rw [z]; exact hL
      · exact fun z' => hcl' y a z z'.symm
    refine ⟨m', ns.sameBut sb hCa, fun h'' sb2 => ?_⟩
    exact ⟨σ.set i (some (.ref l)), H', I''.turned (t' := s''.toks) (fun b o hb e => (sb2.2 b hb).trans e) fC hL (.inr hs0) hcl' hpin, q⟩
end
end L2
namespace L2
open PySem PySem.Spec PyProof.Rows
theorem ObjOk.there {P : Program} {w : World} {H : Hp} {h : Heap} {a : Addr} {o : HO} (x : ObjOk P w H h a o) : ∃ ob, h.get? a = some ob := by
  cases o with
  | lst xs => obtain ⟨_, _, _, _, e⟩ := x; exact ⟨_, e⟩
  | tup xs => obtain ⟨_, _, _, ob, e, _⟩ := x; exact ⟨_, e⟩
  | dK kvs => obtain ⟨_, _, _, _, o, _, _, e, _⟩ := x; exact ⟨_, e⟩
  | dT kvs => obtain ⟨_, _, _, _, o, _, _, e, _⟩ := x; exact ⟨_, e⟩
  | set S n => obtain ⟨o, _, _, _, e, _⟩ := x; exact ⟨_, e⟩
  | ins C dx fs => obtain ⟨_, _, _, e, _⟩ := x; exact ⟨_, e⟩
  | own y => obtain ⟨_, e⟩ := x; exact ⟨_, e⟩
  | xd fs => obtain ⟨_, ⟨_, _, _, e, _⟩, _⟩ := x; exact ⟨_, e⟩
  | rng lo hi => obtain ⟨_, _, _, e⟩ := x; exact ⟨_, e⟩
  | frz ob u => obtain ⟨e, _⟩ := x; exact ⟨_, e⟩
  | tbl ps => exact ⟨_, (show h.get? a = some _ from x)⟩
  | met f y => exact ⟨_, (show h.get? a = some _ from x)⟩
  | ext φ => obtain ⟨_, ⟨_, e⟩, _⟩ := x; exact ⟨_, e⟩
theorem HOk.track {P : Program} {w : World} {H : Hp} {h h' : Heap} (x : HOk P w H h) (k : ∀ b u o, H b = some u → h.get? b = some o → h'.get? b = some o) : HOk P w H h' := fun a o e =>
  (x a o e).stay (fun b u hb q => by
    rcases hb with z | z
    · subst z; exact k _ _ _ e q
    · exact k _ _ _ z q) (fun _ q => q) fun _ _ q => q
theorem dict_mapF (o : Obj) (f : Array Value → Array Value) : (Obj.mapFields f o).dict = o.dict := by
  obtain ⟨c, d, dt, sl⟩ := o
  cases dt <;> rfl
def ExAt (h : Heap) (e : Addr) (C : Value) (dd : Option Addr) (t1 : Value) : Prop := ∃ oe vs, h.get? e = some oe ∧ oe.cls = C ∧ oe.dict = dd ∧ oe.data = .fields vs ∧ vs[1]? = some t1
def TrAt (h : Heap) (T : Addr) (fl : Value) : Prop := ∃ oT ts, h.get? T = some oT ∧ oT.data = .fields ts ∧ ts[3]? = some fl
structure Moved (fs : List Addr) (e : Addr) (T0 : Option Addr) (h h' : Heap) : Prop where
  keep : ∀ b o, b ≠ e → some b ≠ T0 → b ∉ fs → h.get? b = some o → h'.get? b = some o
  slot : ∀ b o, b ∈ fs → h.get? b = some o → ∃ sl, h'.get? b = some { o with slots := sl }
  there : ∀ b o, h.get? b = some o → ∃ o', h'.get? b = some o'
section
variable {M : Model} {A : Around} {E : Value → Shared → Prop} {s : Shared}
theorem up_self {h : Heap} {a : Addr} {o : Obj} {vs : Array Value} {f : Array Value → Array Value} (e : h.get? a = some o) (hd : o.data = .fields vs) : (h.update a (Obj.mapFields f)).get? a = some (Obj.mapFields f o) :=
  Heap.get?_update_self _ e (Obj.isFreed_of_fields (Obj.data_mapFields hd _))
theorem note_new {base : Heap} {env : Env} {outer : List Env} {L e : Addr} {C : Value} {dd : Option Addr} {t1 head : Value} {hadNext : Bool} {Q : Unit → Shared → Prop}
    (hfr : A.frames = some (env :: outer)) (hl : s.heap.FunFrames base (env :: outer)) (hf : env.frame = some L) (X : ExAt s.heap e C dd t1)
    (h : ∀ h' T, ExAt h' e C dd (.ref T) → TrAt h' T (rawInt L) → s.heap.objs.size ≤ T → T ≠ e → Moved (frs (env :: outer)) e none s.heap h' → Q () { s with heap := h' }) :
    wpAny M A (do let a ← frameOf env; let pl ← entryPlaceOf L hadNext; let b ← EntryCells.newEntry head a .none (rawInt L) .none pl; setField (.ref e) 1 b) Q E s := by
  obtain ⟨oe, vs, he, hC, hdd, hd, h1⟩ := X
  have ne : e ∉ frs (env :: outer) := fun hm => by
    obtain ⟨_, o, ho, hnf⟩ := hl.mem hm
    rw [he] at ho; cases ho
    exact hnf vs hd
  refine wpAny_bind (wpAny_frameOf_fun hfr hl hf fun g so => ?_)
  refine wpAny_bind (wpAny_entryPlaceOf fun pl hpl => ?_)
  unfold EntryCells.newEntry newFields
  refine wpAny_bind (wpAny_newObj_type ?_ (hpl.sizeOk5 _ _ _ _ _))
  have hg : g.get? e = some oe := (so.2.1 e ne).trans he
  have hsz := (Array.getElem?_eq_some_iff.mp h1).1
  refine wpAny_setField (Heap.get?_push_of_some _ hg) hd hsz ?_
  have nT : g.objs.size ≠ e := Nat.ne_of_gt (Heap.lt_size hg)
  refine h _ g.objs.size ⟨_, _, up_self (Heap.get?_push_of_some _ hg) hd, (Obj.cls_mapFields _ _).trans hC, (dict_mapF _ _).trans hdd, Obj.data_mapFields hd _, by simp [hsz]⟩
    ⟨_, _, (Heap.get?_update_other _ _ (Ne.symm nT)).trans (Heap.get?_push_size g rfl), rfl, ?_⟩ (Nat.le_of_eq so.1.symm) nT ⟨fun b o h1 _ h3 q => ?_, fun b o hb q => ?_, fun b o q => ?_⟩
  · rcases hpl with rfl | ⟨_, _, _, _, _, _, _, rfl⟩ <;> simp
  · rw [Heap.get?_update_other _ _ (Ne.symm h1)]
    exact Heap.get?_push_of_some _ ((so.2.1 b h3).trans q)
  · obtain ⟨sl, z⟩ := so.2.2 b o q
    refine ⟨sl, ?_⟩
    rw [Heap.get?_update_other _ _ (fun k => ne (by rw [k]; exact hb))]
    exact Heap.get?_push_of_some _ z
  · by_cases k : b = e
    · rw [k]; exact ⟨_, up_self (Heap.get?_push_of_some _ hg) hd⟩
    · obtain ⟨sl, z⟩ := so.2.2 b o q
      exact ⟨_, by rw [Heap.get?_update_other _ _ (Ne.symm k)]; exact Heap.get?_push_of_some _ z⟩
theorem note_fly {base : Heap} {env : Env} {outer : List Env} {L e : Addr} {C : Value} {dd : Option Addr} {T0 : Option Addr} {Q : Unit → Shared → Prop}
    (hfr : A.frames = some (env :: outer)) (hl : s.heap.FunFrames base (env :: outer)) (hf : env.frame = some L) (X : ExAt s.heap e C dd (T0.elim .none Value.ref)) (hT : ∀ T, T0 = some T → TrAt s.heap T .none ∧ T ≠ e)
    (h : ∀ h' T, ExAt h' e C dd (.ref T) → TrAt h' T (rawInt L) → s.heap.objs.size ≤ T → T ≠ e → Moved (frs (env :: outer)) e T0 s.heap h' → Q () { s with heap := h' }) :
    wpAny M A (noteFrame (.ref e) env) Q E s := by
  obtain ⟨oe, vs, he, hC, hdd, hd, h1⟩ := id X
  unfold noteFrame
  simp only [hf]
  refine wpAny_bind (wpAny_field he hd h1 ?_)
  cases T0 with
  | none =>
    rw [if_neg (by decide)]
    exact note_new hfr hl hf X h
  | some T =>
    obtain ⟨⟨oT, ts, hT, hdT, h3⟩, hne⟩ := hT T rfl
    show wpAny M A (if (Value.ref T != Value.none) = true then _ else _) Q E s
    rw [if_pos (by simp)]
    refine wpAny_bind (wpAny_field hT hdT h3 ?_)
    rw [if_neg (by simp [rawInt])]
    refine wpAny_bind (wpAny_setField hT hdT (Array.getElem?_eq_some_iff.mp h3).1 ?_)
    have oth : ∀ b, b ≠ T → (s.heap.update T (Obj.mapFields (·.setIfInBounds 3 Value.none))).get? b = s.heap.get? b := fun b hb => Heap.get?_update_other _ _ (Ne.symm hb)
    have nfr : ∀ b o, b ∈ frs (env :: outer) → s.heap.get? b = some o → b ≠ T := fun b o hb q z => by
      obtain ⟨_, o', ho', hnf⟩ := hl.mem hb
      rw [z, hT] at ho'; cases ho'
      exact hnf _ hdT
    have hl2 : (s.heap.update T (Obj.mapFields (·.setIfInBounds 3 Value.none))).FunFrames base (env :: outer) := hl.of_keeps fun b o hb hnf => ⟨o, (oth b fun z => by rw [z, hT] at hb; cases hb; exact hnf _ hdT).trans hb, rfl⟩
    refine note_new (s := { s with heap := s.heap.update T (Obj.mapFields (·.setIfInBounds 3 Value.none)) }) hfr hl2 hf ⟨oe, vs, (oth e (Ne.symm hne)).trans he, hC, hdd, hd, h1⟩ fun h' T2 x1 x2 x3 x4 mv => ?_
    have goneT : s.heap.objs.size ≤ T2 := Nat.le_trans (Nat.le_of_eq (Heap.size_after_update ..).symm) x3
    refine h h' T2 x1 x2 goneT x4 ⟨fun b o k1 k2 k3 q => mv.keep b o k1 (by simp) k3 ((oth b fun z => k2 (by rw [z])).trans q), fun b o hb q => mv.slot b o hb ((oth b (nfr b o hb q)).trans q), fun b o q => ?_⟩
    by_cases k : b = T
    · exact mv.there b _ (by rw [k]; exact up_self hT hdT)
    · exact mv.there b o ((oth b k).trans q)
theorem rest_fly {e T : Addr} {C : Value} {dd : Option Addr} {fl : Value} {Q : Unit → Shared → Prop} (X : ExAt s.heap e C dd (.ref T)) (hT : TrAt s.heap T fl) (hne : T ≠ e)
    (h : ∀ h', ExAt h' e C dd (.ref T) → TrAt h' T .none → (∀ b o, b ≠ T → s.heap.get? b = some o → h'.get? b = some o) → (∀ b o, s.heap.get? b = some o → ∃ o', h'.get? b = some o') → Q () { s with heap := h' }) :
    wpAny M A (setFlight (.ref e) none) Q E s := by
  obtain ⟨oe, vs, he, hC, hdd, hd, h1⟩ := X
  obtain ⟨oT, ts, hT, hdT, h3⟩ := hT
  have hsz := (Array.getElem?_eq_some_iff.mp h3).1
  unfold setFlight
  refine wpAny_bind (wpAny_field he hd h1 ?_)
  rw [if_pos (by simp)]
  have oth : ∀ b, b ≠ T → (s.heap.update T (Obj.mapFields (·.setIfInBounds 3 ((none : Option Addr).elim Value.none fun f => rawInt f)))).get? b = s.heap.get? b := fun b hb => Heap.get?_update_other _ _ (Ne.symm hb)
  refine wpAny_setField hT hdT hsz (h _ ⟨oe, vs, (oth e (Ne.symm hne)).trans he, hC, hdd, hd, h1⟩ ⟨_, _, up_self hT hdT, Obj.data_mapFields hdT _, by simp [hsz]⟩ (fun b o k q => (oth b k).trans q) fun b o q => ?_)
  by_cases k : b = T
  · rw [k]; exact ⟨_, up_self hT hdT⟩
  · exact ⟨o, (oth b k).trans q⟩
end
def CXx (P : Program) (w : World) : CXT := fun outer H s E u s' => ∃ (e : Addr) (C : Value) (dd : Option Addr) (T : Addr) (H' : Hp), u = .ref e ∧ s'.os = s.os ∧ AllBare s'.gens ∧ Un (frs outer) [] H H' s.heap s'.heap ∧ HOk P w H' s'.heap ∧
  ExAt s'.heap e C dd (.ref T) ∧ TrAt s'.heap T .none ∧ T ≠ e ∧ H' e = none ∧ H' T = none ∧ s.heap.get? e = none ∧ s.heap.get? T = none ∧ E C dd H'
def PassesS (CX : CXT) (X : Cx) (Ez : St → XK) : Prop := ∀ (pins : List (Addr × Obj)) (σ : St) (H : Hp) (s : Shared) (e : Value) (s' : Shared), Inv X pins σ H s → CX X.stack H s (Ez σ) e s' → X.xe e s'
theorem un_moved {l l' : List Env} {H H' : Hp} {h g h' : Heap} {e : Addr} {T0 : Option Addr} (u : Un (frs l') [] H H' h g) (mv : Moved (frs l) e T0 g h') (hsub : ∀ b ∈ frs l', b ∈ frs l) (hnew : ∀ b o, h.get? b = some o → b ∈ frs l → b ∈ frs l')
    (he : h.get? e = none) (hT : ∀ T, T0 = some T → h.get? T = none) : Un (frs l') [] H H' h h' := by
  have k1 : ∀ b o, h.get? b = some o → b ≠ e := fun b o q z => by rw [z, he] at q; cases q
  have k2 : ∀ b o, h.get? b = some o → some b ≠ T0 := fun b o q z => by rw [hT b z.symm] at q; cases q
  refine ⟨fun b o q n hb hx => ?_, fun b o q n hb hx => ?_, u.free, fun b o q hx => ?_, u.tups, u.frzs, u.tbls⟩
  · exact mv.keep b o (k1 b o q) (k2 b o q) (fun z => hb (hnew b o q z)) (u.keep b o q n hb hx)
  · obtain ⟨sl, q1⟩ := u.slot b o q n hb hx
    obtain ⟨sl2, q2⟩ := mv.slot b _ (hsub b hb) q1
    exact ⟨sl2, q2⟩
  · obtain ⟨o1, q1⟩ := u.there b o q hx
    exact mv.there b o1 q1
section
variable {P : Program} {w : World} {K : PySem.W.Frag} {mg : Str → Option Value} {base : Heap} {N : List Str} {qual : Str} {scope : Scope} {f : Addr} {cd : Value} {A : Around} {outer : List Env} {s₀ : Shared} {H₀ : Hp} {E : XK}
theorem frs_cons {env : Env} {outer : List Env} {L : Addr} (h : env.frame = some L) : frs (env :: outer) = L :: frs outer := by
  unfold frs
  rw [List.filterMap_cons, h]
theorem leave_fly {M : Model} {A : Around} {E : Value → Shared → Prop} {s : Shared} {base : Heap} {env : Env} {outer : List Env} {L e : Addr} {C : Value} {dd : Option Addr} {T0 : Option Addr} {Q : Unit → Shared → Prop}
    (hfr : A.frames = some (env :: outer)) (hl : s.heap.FunFrames base (env :: outer)) (hf : env.frame = some L) (X : ExAt s.heap e C dd (T0.elim .none Value.ref)) (hT : ∀ T, T0 = some T → TrAt s.heap T .none ∧ T ≠ e)
    (h : ∀ h' T, ExAt h' e C dd (.ref T) → TrAt h' T .none → s.heap.objs.size ≤ T → T ≠ e → Moved (frs (env :: outer)) e T0 s.heap h' → Q () { s with heap := h' }) :
    wpAny M A (noteFrame (.ref e) env) (fun _ s2 => wpAny M A (setFlight (.ref e) none) Q E s2) E s := by
  refine note_fly hfr hl hf X hT fun h1 T x1 x2 x3 x4 mv => ?_
  refine rest_fly (s := { s with heap := h1 }) x1 x2 x4 fun h2 y1 y2 k1 k2 => h h2 T y1 y2 x3 x4 ?_
  have nT : ∀ b o, s.heap.get? b = some o → b ≠ T := fun b o q z => absurd (Heap.lt_size q) (by rw [z]; exact Nat.not_lt.mpr x3)
  refine ⟨fun b o z1 z2 z3 q => k1 b o (nT b o q) (mv.keep b o z1 z2 z3 q), fun b o hb q => ?_, fun b o q => ?_⟩
  · obtain ⟨sl, q1⟩ := mv.slot b o hb q
    exact ⟨sl, k1 b _ (nT b o q) q1⟩
  · obtain ⟨o1, q1⟩ := mv.there b o q
    exact k2 b o1 q1
theorem funFrames_un {base h h' : Heap} : ∀ {l : List Env}, h.FunFrames base l → (∀ b o, b ∈ frs l → h.get? b = some o → ∃ sl, h'.get? b = some { o with slots := sl }) → h'.FunFrames base l
  | [], _, _ => trivial
  | env :: r, hl, k => by
    obtain ⟨hk, ⟨L, o, hf, hn, ho, hd⟩, hr⟩ := hl
    have e := frs_cons (outer := r) hf
    obtain ⟨sl, z⟩ := k L o (by rw [e]; exact List.mem_cons_self) ho
    exact ⟨hk, ⟨L, _, hf, hn, z, hd⟩, funFrames_un hr fun b o' hb q => k b o' (by rw [e]; exact List.mem_cons_of_mem _ hb) q⟩
theorem un_enter {fs : List Addr} {L : Addr} {H H1 H2 : Hp} {h h1 h2 : Heap} (a : Un fs [] H H1 h h1) (b : Un (L :: fs) [] H1 H2 h1 h2) (hL : h.get? L = none) : Un fs [] H H2 h h2 where
  keep := fun c o q n hc hx => b.keep c o (a.keep c o q n hc hx) (a.free c o q n hx) (fun z => (List.mem_cons.mp z).elim (fun y => by rw [y, hL] at q; cases q) hc) (by simp)
  slot := fun c o q n hc hx => by
    obtain ⟨sl, q1⟩ := a.slot c o q n hc hx
    obtain ⟨sl2, q2⟩ := b.slot c _ q1 (a.free c o q n hx) (List.mem_cons_of_mem _ hc) (by simp)
    exact ⟨sl2, q2⟩
  free := fun c o q n hx => by
    obtain ⟨o1, q1⟩ := a.there c o q hx
    exact b.free c o1 q1 (a.free c o q n hx) (by simp)
  there := fun c o q hx => by
    obtain ⟨o1, q1⟩ := a.there c o q hx
    exact b.there c o1 q1 (by simp)
  tups := fun c xs q => b.tups c xs (a.tups c xs q)
  frzs := fun c o xs q => b.frzs c o xs (a.frzs c o xs q)
  tbls := fun c ps q => by
    obtain ⟨m1, e1⟩ := a.tbls c ps q
    obtain ⟨m2, e2⟩ := b.tbls c _ e1
    exact ⟨m1 ++ m2, by rw [e2, Array.append_assoc]⟩
theorem pass_def : PassesS (CXx P w) (cxOf (CXx P w) P w K mg base N qual scope f cd A outer s₀ H₀ E) (fun _ => E) := by
  intro pins σ H s u s' I h
  obtain ⟨e, C, dd, T, H', rfl, os, bare, un, hok, x1, x2, x3, f1, f2, n1, n2, hE⟩ := h
  have fe : frs (envOfC qual scope s₀.heap.objs.size f cd :: outer) = s₀.heap.objs.size :: frs outer := frs_cons rfl
  have un' : Un (s₀.heap.objs.size :: frs outer) [] H H' s.heap s'.heap := by rw [← fe]; exact un
  have ib : Un (frs outer) [] H₀ H s₀.heap s.heap := I.base
  have nL : s₀.heap.get? s₀.heap.objs.size = none := Heap.get?_none_of_le (Nat.le_refl _)
  have um := un_enter ib un' nL
  have hfun : s'.heap.FunFrames base (envOfC qual scope s₀.heap.objs.size f cd :: outer) := funFrames_un I.stack fun b o hb q => un.slot b o q (I.stkFree b hb) hb (by simp)
  have ntr : ∀ b u, H' b = some u → b ∉ frs (envOfC qual scope s₀.heap.objs.size f cd :: outer) := fun b u q hb => by
    obtain ⟨_, o, ho, _⟩ := I.stack.mem hb
    have := un.free b o ho (I.stkFree b hb) (by simp)
    rw [q] at this; cases this
  show wpAny _ _ (leaving _ (.ref e)) _ _ s'
  unfold leaving
  refine wpAny_bind (leave_fly (T0 := some T) (L := s₀.heap.objs.size) I.ok.frames hfun rfl x1 (fun T' z => by cases z; exact ⟨x2, x3⟩) fun h' T2 y1 y2 y3 y4 mv => ?_)
  have none_of : ∀ b, s.heap.get? b = none → s₀.heap.get? b = none := fun b hb => by
    cases q : s₀.heap.get? b with
    | none => rfl
    | some o => obtain ⟨o1, q1⟩ := ib.there b o q (by simp); rw [hb] at q1; cases q1
  refine ⟨e, C, dd, T2, H', rfl, os.trans I.os, bare, un_moved (l := envOfC qual scope s₀.heap.objs.size f cd :: outer) um mv (fun b hb => by rw [fe]; exact List.mem_cons_of_mem _ hb) (fun b o q hb => ?_) (none_of e n1) (fun T' z => by cases z; exact none_of T n2),
    hok.track fun b u o q1 q2 => mv.keep b o (fun z => by rw [z, f1] at q1; cases q1) (fun z => by cases z; rw [f2] at q1; cases q1) (ntr b u q1) q2, y1, y2, y4, f1, ?_, none_of e n1, ?_, hE⟩
  · rw [fe] at hb
    rcases List.mem_cons.mp hb with z | z
    · rw [z, nL] at q; cases q
    · exact z
  · cases q : H' T2 with
    | none => rfl
    | some u => obtain ⟨ob, hob⟩ := (hok T2 u q).there; exact absurd (Heap.lt_size hob) (Nat.not_lt.mpr y3)
  · cases q : s₀.heap.get? T2 with
    | none => rfl
    | some o => obtain ⟨o1, q1⟩ := um.there T2 o q (by simp); exact absurd (Heap.lt_size q1) (Nat.not_lt.mpr y3)
def Rz (X : Cx) (E : XK) : Prop := ∀ (pins : List (Addr × Obj)) (σ : St) (H : Hp) (s : Shared) (h' : Heap) (e : Addr) (C : Value) (vs : List Value), Inv X pins σ H s → Heap.MadeExcOf s.heap h' e C vs → E C none H → X.xe (.ref e) { s with heap := h' }
theorem rz_def : Rz (cxOf (CXx P w) P w K mg base N qual scope f cd A outer s₀ H₀ E) E := by
  intro pins σ H s h1 e C vs I mx hE
  obtain ⟨t, he, htn, ht⟩ := mx.there
  have fe : frs (envOfC qual scope s₀.heap.objs.size f cd :: outer) = s₀.heap.objs.size :: frs outer := frs_cons rfl
  have ib : Un (frs outer) [] H₀ H s₀.heap s.heap := I.base
  have nL : s₀.heap.get? s₀.heap.objs.size = none := Heap.get?_none_of_le (Nat.le_refl _)
  have um : Un (frs outer) [] H₀ H s₀.heap h1 := ib.trans (Un.kept mx.keeps)
  have hfun : h1.FunFrames base (envOfC qual scope s₀.heap.objs.size f cd :: outer) := funFrames_un I.stack fun b o hb q => ⟨o.slots, mx.keeps b o q⟩
  have ntr : ∀ b u, H b = some u → b ∉ frs (envOfC qual scope s₀.heap.objs.size f cd :: outer) := fun b u q hb => by
    have := I.stkFree b hb
    rw [q] at this; cases this
  have hok1 : HOk P w H h1 := I.hok.kept mx.keeps
  have fE : H e = none := by
    cases q : H e with
    | none => rfl
    | some u => obtain ⟨ob, hob⟩ := (I.hok e u q).there; rw [mx.new] at hob; cases hob
  have none_of : ∀ b, s.heap.get? b = none → s₀.heap.get? b = none := fun b hb => by
    cases q : s₀.heap.get? b with
    | none => rfl
    | some o => obtain ⟨o1, q1⟩ := ib.there b o q (by simp); rw [hb] at q1; cases q1
  show wpAny _ _ (leaving _ (.ref e)) _ _ { s with heap := h1 }
  unfold leaving
  refine wpAny_bind (leave_fly (s := { s with heap := h1 }) (T0 := none) (L := s₀.heap.objs.size) (C := C) (dd := none) I.ok.frames hfun rfl ⟨_, _, he, rfl, rfl, rfl, rfl⟩ (fun T' z => by cases z) fun h' T2 y1 y2 y3 y4 mv => ?_)
  refine ⟨e, C, none, T2, H, rfl, I.os, I.bare, un_moved (l := envOfC qual scope s₀.heap.objs.size f cd :: outer) um mv (fun b hb => by rw [fe]; exact List.mem_cons_of_mem _ hb) (fun b o q hb => ?_) (none_of e mx.new) (fun T' z => by cases z),
    hok1.track fun b u o q1 q2 => mv.keep b o (fun z => by rw [z, fE] at q1; cases q1) (by simp) (ntr b u q1) q2, y1, y2, y4, fE, ?_, none_of e mx.new, ?_, hE⟩
  · rw [fe] at hb
    rcases List.mem_cons.mp hb with z | z
    · rw [z, nL] at q; cases q
    · exact z
  · cases q : H T2 with
    | none => rfl
    | some u => obtain ⟨ob, hob⟩ := (hok1 T2 u q).there; exact absurd (Heap.lt_size hob) (Nat.not_lt.mpr y3)
  · cases q : s₀.heap.get? T2 with
    | none => rfl
    | some o => obtain ⟨o1, q1⟩ := um.there T2 o q (by simp); exact absurd (Heap.lt_size q1) (Nat.not_lt.mpr y3)
end
def tCallS (sp : Sp) (dvs : List V) (Ez : St → XK) (t : TA) : TE := fun σ H Q => t σ H fun vs H1 => sp (vs ++ dvs) H1 Q (Ez σ)
section
variable {X : Cx} {CX : CXT} {k : Nat} {f C : Addr} {fd : FuncData} {ps : List Str} {sp : Sp} {dvs : List V} {ds : List Value} {Ez : St → XK} {x m : Str} {p pos apos : Pos} {e o : Expr} {es : List Expr} {ta : TE} {t : TA}
theorem run_fnS {pins : List (Addr × Obj)} {σ : St} {H : Hp} {s : Shared} {Q : VK} {us : List Value} {vs : List V} (F : FnOk X.prog X.w X.K X.mg X.base CX k f fd ps sp) (hr : Room k X.A) (hb : Binds X.K fd ps ds) (hd : Vals dvs ds) (hx : PassesS CX X Ez)
    (I : Inv X pins σ H s) (r : Vals vs us) (h : sp (vs ++ dvs) H Q (Ez σ)) : wpAny (model X.prog X.w) X.A (call (.ref f) us) (EP X pins σ Q) X.xe s := by
  have r2 : Vals (vs ++ dvs) (us ++ ds) := r.append hd
  have hl : (us ++ ds).length = ps.length := by rw [← r2.length]; exact F.len _ _ _ _ h
  refine wpAny_call (codeAny_mono (F.run X.A X.stack s H ⟨us, []⟩ (us ++ ds) (vs ++ dvs) Q (Ez σ) hr I.env0 (hb s us I.kIn hl) r2 h) fun r s' hq => ?_)
  cases r with
  | error e => exact hx pins σ H s e s' I hq
  | ok fl =>
    cases fl with
    | ret u => exact I.after hq
    | next => exact False.elim hq
    | brk => exact False.elim hq
    | cont => exact False.elim hq
theorem pe_callS (F : FnOk X.prog X.w X.K X.mg X.base CX k f fd ps sp) (hr : Room k X.A) (hg : Gl X x) (hm : X.mg x = some (.ref f)) (hk : PySem.W.keepIn X.K (.ref f) = true) (hb : Binds X.K fd ps ds) (hd : Vals dvs ds) (hx : PassesS CX X Ez)
    (ha : PA X (e :: es) t) (hdb : (x == ("__debug__" : Str)) = false := by decide) (he : starEach (e :: es) X.env = (false, eval e X.env) :: starEach es X.env := by rfl) (hpl : (backTo pos (starEach es X.env)).any (·.1) = false := by rfl) :
    PE X (.Call (.Name x p) (e :: es) [] pos) (tCallS sp dvs Ez t) := by
  unfold PE at *; unfold PA at *
  exact by
    intro pins s σ H Q I h
    refine wpAny_Call_Name_kw (ld_glob I hg hm ?_ hdb)
    refine PySem.W.callWith_K (h₀ := X.base) I.ok.mod.kin hk (thn (ha pos pins s σ H _ I h) fun us s1 ⟨vs, H1, I1, r, q⟩ => ⟨I1.kIn, ?_⟩) he hpl
    exact run_fnS F hr hb hd hx I1 r q
end
end L2
namespace L2
open PySem PySem.Spec PyProof.Rows
def vmro : List Value := [.type "ValueError", .type "Exception", .type "BaseException", .type "object"]
def NsK (K : PySem.W.Frag) (N : Addr) (es : Array DictEntry) : Prop := ∃ c d ep sl, K.lookup N = some ⟨c, d, .dict es ep, sl⟩ ∧ StrKeys es
theorem NsK.ns {K : PySem.W.Frag} {N : Addr} {es : Array DictEntry} {h : Heap} (x : NsK K N es) (X : K.In h) : h.Ns N (nsFind es) := by
  obtain ⟨c, d, ep, sl, lk, sk⟩ := x
  exact ⟨_, es, ep, X _ _ lk, rfl, sk, fun _ => rfl⟩
inductive TailK (K : PySem.W.Frag) : List Value → Prop
  | base : TailK K vmro
  | own {A : Addr} {c0 : Value} {dd : Option Addr} {cd : ClassData} {sl : Array (Option Value)} {tl : List Value} {es : Array DictEntry} :
      K.lookup A = some { cls := c0, dict := dd, data := .cls cd, slots := sl } → NsK K cd.ns es → nsFind es "__init__" = none → TailK K tl → TailK K (.ref A :: tl)
theorem TailK.own' {K : PySem.W.Frag} {h : Heap} {bm : List Value} (t : TailK K bm) (X : K.In h) : OwnTail h vmro bm := by
  induction t with
  | base => exact .base
  | own l n i _ ih => exact .own (X _ _ l) (n.ns X) i ih
structure XCls (K : PySem.W.Frag) (C : Addr) : Prop where
  ex : ∃ nm q N bs bm hdct sn sub ab col dd k0 k1 k2 k3 k5 es, K.lookup C = some (excClassObj nm q C N bs bm hdct sn sub ab col dd k0 k1 k2 k3 k5 "ValueError.__new__") ∧ NsK K N es ∧ nsFind es "__init__" = none ∧ TailK K bm
def tRaise (t : TA) (C : Value) (E : XK) : TS := fun _ σ H => t σ H fun vs H1 => vs.length ≤ sizeLine ∧ E C none H1
theorem ps_raise {X : Cx} {C : Addr} {x : Str} {np cpos pos : Pos} {e₀ : Expr} {rest : List Expr} {t : TA} {E : XK} (xc : XCls X.K C) (hc : X.calm = true) (hg : Gl X x) (hm : X.mg x = some (.ref C)) (hz : Rz X E) (ha : PA X (e₀ :: rest) t)
    (hdb : (x == ("__debug__" : Str)) = false := by decide) (he : starEach (e₀ :: rest) X.env = (false, eval e₀ X.env) :: starEach rest X.env := by rfl) (hpl : (backTo cpos (starEach rest X.env)).any (·.1) = false := by rfl) :
    PS X (.Raise (some (.Call (.Name x np) (e₀ :: rest) [] cpos)) none pos) (tRaise t (.ref C) E) := by
  unfold PA at *; unfold PS at *
  exact by
    intro pins s σ H D I h
    obtain ⟨nm, q, N, bs, bm, hdct, sn, sub, ab, col, dd, k0, k1, k2, k3, k5, es, lk, nk, ni, tl⟩ := xc.ex
    refine wpAny_Raise_call_subT (C := C) (nm := nm) (q := q) (N := N) (bs := bs) (bm := bm) (hdct := hdct) (sn := sn) (sub := sub) (ab := ab) (col := col) (dd := dd) (k0 := k0) (k1 := k1) (k2 := k2) (k3 := k3) (k5 := k5)
      F.excBase_ValueError (mN := nsFind es) ((tl.own' I.kIn).hasType F.excBase_ValueError.hasBase) (I.ok.hd hc) ?_ ni (ld_glob I hg hm ⟨rfl, ?_⟩ hdb)
    · rw [he]
      show (false || (backTo cpos (starEach rest X.env)).any (·.1)) = false
      rw [hpl]; rfl
    · have hA := ha cpos pins s σ H _ I h
      rw [he] at hA ⊢
      refine Calls.evalArgs_plain (wpAny_mono hA (fun us s2 ⟨vs, H1, I1, r, z, hE⟩ => ?_) fun _ _ y => y)
      exact ⟨rfl, by rw [← r.length]; exact z, I1.kIn _ _ lk, nk.ns I1.kIn, tl.own' I1.kIn, fun h' e mx => hz pins σ H1 s2 h' e (.ref C) us I1 mx hE⟩
theorem Fun.okx {P : Program} {w : World} {K : PySem.W.Frag} {mg : Str → Option Value} {base : Heap} {x qual : Str} {st : Stmt} {f : Addr} {fd : FuncData} {N ps : List Str} {k : Nat} {sp : Sp} (F : Fun K x qual st f fd) (S : FnScope N ps (defScope st)) (len : ∀ vs H Q E, sp vs H Q E → vs.length = ps.length)
    (hbody : ∀ (cdv : Value) (A : Around) (outer : List Env) (s : Shared) (H : Hp) (vs : List V) (Q : VK) (E : XK), Room k (A.deeper (envOfC qual (defScope st) s.heap.objs.size f cdv)) → sp vs H Q E →
      ∃ t, PSs (cxOf (CXx P w) P w K mg base N qual (defScope st) f cdv A outer s H E) (defBody st) t ∧ t { nx := fun _ H' => Q .non H', rt := Q } (start N vs) H) : FnOk P w K mg base (CXx P w) (k + 1) f fd ps sp := by
  obtain ⟨oc, od, kV, doc, pm, an, cdv, ct, osl, rfl, lk, hcd⟩ := F.ex
  exact fn_of lk hcd S len fun A outer s H vs Q E hr hsp => hbody cdv A outer s H vs Q E hr hsp
section
variable {X : Cx} {pins pins' : List (Addr × Obj)} {σ : St} {H : Hp} {s : Shared} {W : Value → Shared → Prop}
def Cx.tr (X : Cx) (pins : List (Addr × Obj)) (W : Value → Shared → Prop) : Cx := { X with xe := W, pn := X.pn ++ pins }
theorem Cx.Ok.tr (ok : X.Ok) : (X.tr pins W).Ok := ⟨ok.mod, ok.kind, ok.glob, ok.blt, ok.above, ok.inj, ok.has, ok.cab, ok.hd, ok.frames, ok.stk, ok.exf, ok.bs, ok.bsz, ok.noex, ok.exfs, ok.funs, ok.frf⟩
theorem Cx.Ok.untr (ok : (X.tr pins W).Ok) : X.Ok := ⟨ok.mod, ok.kind, ok.glob, ok.blt, ok.above, ok.inj, ok.has, ok.cab, ok.hd, ok.frames, ok.stk, ok.exf, ok.bs, ok.bsz, ok.noex, ok.exfs, ok.funs, ok.frf⟩
theorem Inv.tr (I : Inv X pins σ H s) : Inv (X.tr pins W) [] σ H s := ⟨I.ok.tr, I.os, I.bare, I.base, I.loc, I.cell, I.free, I.freeC, fun p hp => I.pin p (by simpa [Cx.tr] using hp), I.hok, I.len⟩
theorem Inv.untr (I : Inv (X.tr pins W) pins' σ H s) : Inv X pins σ H s := ⟨I.ok.untr, I.os, I.bare, I.base, I.loc, I.cell, I.free, I.freeC, fun p hp => I.pin p (List.mem_append_left _ hp), I.hok, I.len⟩
theorem SP.untr {D : Ends} {f : Flow} (h : SP (X.tr pins W) pins' D f s) : SP X pins D f s := by
  cases f with
  | next => obtain ⟨a, b, I, q⟩ := h; exact ⟨a, b, I.untr, q⟩
  | brk => obtain ⟨a, b, I, q⟩ := h; exact ⟨a, b, I.untr, q⟩
  | cont => obtain ⟨a, b, I, q⟩ := h; exact ⟨a, b, I.untr, q⟩
  | ret u => obtain ⟨v, a, b, I, r, q⟩ := h; exact ⟨v, a, b, I.untr, r, q⟩
def Cx.sui (X : Cx) (e : Addr) : Cx := { X with A := X.A.mark (some (.ref e)), calm := false, xe := fun _ _ => False }
theorem Cx.Ok.sui (ok : X.Ok) (e : Addr) : (X.sui e).Ok := ⟨ok.mod, ok.kind, ok.glob, ok.blt, ok.above, ok.inj, ok.has, ok.cab, fun z => Bool.noConfusion z, ok.frames, ok.stk, ok.exf, ok.bs, ok.bsz, ok.noex, ok.exfs, ok.funs, ok.frf⟩
theorem Inv.sui (I : Inv X pins σ H s) (e : Addr) : Inv (X.sui e) pins σ H s := ⟨I.ok.sui e, I.os, I.bare, I.base, I.loc, I.cell, I.free, I.freeC, I.pin, I.hok, I.len⟩
theorem Inv.unsui {e : Addr} (ok : X.Ok) (I : Inv (X.sui e) pins σ H s) : Inv X pins σ H s := ⟨ok, I.os, I.bare, I.base, I.loc, I.cell, I.free, I.freeC, I.pin, I.hok, I.len⟩
theorem Inv.adopt {e : Addr} {o : HO} (I : Inv X pins σ H s) (hn : H e = none) (h0 : X.s₀.heap.get? e = none) (hL : e ≠ X.env.locals) (hc : ∀ x c, X.env.cells.lookup x = some c → c ≠ e) (hp : ∀ p ∈ X.pn ++ pins, p.1 ≠ e)
    (new : ObjOk X.prog X.w (upd H e o) s.heap e o) : Inv X pins σ (upd H e o) s := by
  have ne : ∀ b u, H b = some u → b ≠ e := fun b u q z => by rw [z, hn] at q; cases q
  refine ⟨I.ok, I.os, I.bare, ⟨I.base.keep, I.base.slot, fun b ob q n hx => ?_, I.base.there, fun b xs q => ?_, fun b ob u q => ?_, fun b ps q => ?_⟩, I.loc, I.cell, ?_, fun x c q => ?_, fun p hq => ?_, fun b u q => ?_, I.len⟩
  · rw [upd_ne (fun z => by rw [z, h0] at q; cases q)]
    exact I.base.free b ob q n hx
  · have q1 := I.base.tups b xs q
    rw [upd_ne (ne b _ q1)]; exact q1
  · have q1 := I.base.frzs b ob u q
    rw [upd_ne (ne b _ q1)]; exact q1
  · obtain ⟨m, q1⟩ := I.base.tbls b ps q
    exact ⟨m, by rw [upd_ne (ne b _ q1)]; exact q1⟩
  · rw [upd_ne (Ne.symm hL)]; exact I.free
  · rw [upd_ne (hc x c q)]; exact I.freeC x c q
  · obtain ⟨a1, a2, a3, a4, a5⟩ := I.pin p hq
    exact ⟨a1, by rw [upd_ne (hp p hq)]; exact a2, a3, a4, a5⟩
  · by_cases hb : b = e
    · subst hb; rw [upd_same] at q; cases q; exact new
    · rw [upd_ne hb] at q
      exact (I.hok b u q).stay (fun _ _ _ z => z) (fun c z => by rw [upd_ne (ne c _ z)]; exact z) fun c xs z => by rw [upd_ne (ne c _ z)]; exact z
theorem goes_ok {M : Model} {A : Around} {E : Value → Shared → Prop} {i : Nat} {n : Str} {pos : Pos} {Q : Unit → Shared → Prop} (I : Inv X pins σ H s) (hN : X.N.Nodup) (hi : X.N[i]? = some n) (hk : X.env.kindOf n = some .local)
    (h : ∀ s', Inv X pins (σ.set i none) H s' → Q () s') : wpAny M A (do bindName X.env n .none; unbindBehindTheSuite X.env n pos) Q E s := by
  obtain ⟨m, hn, hl⟩ := id I.loc
  have hcls : (X.env.scope.kind == .class || (X.env.scope.kind == .module && X.env.locals != X.env.globals)) = false := by rw [I.ok.kind]; rfl
  refine wpAny_nameGoes_keeps hk hn hcls fun h' v hn' hs => h _ ?_
  obtain ⟨oL, _, _, hoL, _⟩ := id hn
  have kb : ∀ b o, b ≠ X.env.locals → s.heap.get? b = some o → h'.get? b = some o := fun b o hb e => (hs.2 b hb).trans e
  have nL : ∀ b o, X.s₀.heap.get? b = some o → b ≠ X.env.locals := fun b o e => Nat.ne_of_lt (Nat.lt_of_lt_of_le (Heap.lt_size e) I.ok.above)
  refine ⟨I.ok, I.os, I.bare, ⟨fun b o e n hb hx => kb b o (nL b o e) (I.base.keep b o e n hb hx), fun b o e n hb hx => ?_, I.base.free, fun b o e hx => ?_, I.base.tups, I.base.frzs, I.base.tbls⟩, ⟨_, hn', fun j y v' e1 e2 e3 => ?_⟩, fun y c e => ?_, I.free, I.freeC, fun p hp => ?_,
    I.hok.track fun b u o q1 q2 => kb b o (fun z => by rw [z, I.free] at q1; cases q1) q2, by simpa using I.len⟩
  · obtain ⟨sl, e1⟩ := I.base.slot b o e n hb hx
    exact ⟨sl, kb b _ (nL b o e) e1⟩
  · obtain ⟨o', e1⟩ := I.base.there b o e hx
    exact ⟨o', kb b o' (nL b o e) e1⟩
  · by_cases hj : j = i
    · subst hj
      have hj' : j < σ.length := by rw [I.len]; exact (List.getElem?_eq_some_iff.mp e1).1
      rw [List.getElem?_set_self hj'] at e2
      cases e2
    · rw [List.getElem?_set_ne (Ne.symm hj)] at e2
      obtain ⟨u', r', q⟩ := hl j y v' e1 e2 e3
      refine ⟨u', r', ?_⟩
      rcases q with ⟨k, e⟩ | ⟨k, c, e, z⟩
      · refine .inl ⟨k, ?_⟩
        have : y ≠ n := fun e => hj (nodup_ix hN e1 (e ▸ hi))
        simp [this, e]
      · exact .inr ⟨k, c, e, z.sameBut hs (I.cne y c e)⟩
  · obtain ⟨w', z⟩ := I.cell y c e
    exact ⟨w', z.sameBut hs (I.cne y c e)⟩
  · obtain ⟨e, n', ne, nf, d⟩ := I.pin p hp
    exact ⟨kb _ _ ne e, n', ne, nf, d⟩
end
def exO (C : Value) (dd : Option Addr) (e : Addr) : HO := .ext fun h => ∃ oe vs, h.get? e = some oe ∧ oe.cls = C ∧ oe.dict = dd ∧ oe.data = .fields vs
theorem exO_ok {P : Program} {w : World} {H : Hp} {h : Heap} {e : Addr} {C t1 : Value} {dd : Option Addr} (x : ExAt h e C dd t1) : ObjOk P w H h e (exO C dd e) := by
  obtain ⟨oe, vs, he, hC, hdd, hd, _⟩ := x
  exact ⟨⟨oe, vs, he, hC, hdd, hd⟩, ⟨oe, he⟩, fun h1 h2 ⟨o, v, q, r⟩ k => ⟨o, v, k o q, r⟩⟩
def tTry (K : PySem.W.Frag) (Cv : Value) (i : Nat) (tb : (St → XK) → List (Addr × Obj) → (Value → Shared → Prop) → TS) (th : Addr → TS) : TS := fun D σ H => ∃ Ez : St → XK, (∀ pins W, tb Ez pins W D σ H) ∧
  ∀ σ1 C dd H1, Ez σ1 C dd H1 → PySem.W.exmOne K C Cv = some true ∧ ∀ e, H1 e = none →
    th e { nx := fun σ2 H2 => D.nx (σ2.set i none) H2, rt := D.rt, bk := fun σ2 H2 => D.bk (σ2.set i none) H2, ct := fun σ2 H2 => D.ct (σ2.set i none) H2 } (σ1.set i (some (.ref e))) (upd H1 e (exO C dd e))
section
variable {X : Cx}
theorem ps_try {body suite : List Stmt} {b₀ : Stmt} {tx n : Str} {i : Nat} {np hpos pos : Pos} {Cv : Value} {tb : (St → XK) → List (Addr × Obj) → (Value → Shared → Prop) → TS} {th : Addr → TS}
    (hst : X.stack = X.env :: X.outer) (hfr : X.env.frame = some X.env.locals) (hex : X.ex = []) (hN : X.N.Nodup) (hi : X.N[i]? = some n) (hk : X.env.kindOf n = some .local) (hg : Gl X tx) (hm : X.mg tx = some Cv)
    (hb : ∀ Ez pins W, PassesS (CXx X.prog X.w) (X.tr pins W) Ez → PSs (X.tr pins W) body (tb Ez pins W)) (hs : ∀ e, PSs (X.sui e) (b₀ :: suite) (th e)) (hdb : (tx == ("__debug__" : Str)) = false := by decide) :
    PS X (.Try body [.ExceptHandler (some (.Name tx np)) (some n) (b₀ :: suite) hpos] [] [] pos) (tTry X.K Cv i tb th) := by
  unfold PS at *; unfold PSs at *
  exact by
    intro pins s σ H D I h
    obtain ⟨Ez, hb1, hh⟩ := h
    let W : Value → Shared → Prop := fun u s' => ∃ σ1 H1 s1, Inv X pins σ1 H1 s1 ∧ CXx X.prog X.w X.stack H1 s1 (Ez σ1) u s'
    have hp : PassesS (CXx X.prog X.w) (X.tr pins W) Ez := fun pins' σ1 H1 s1 u s' I1 hx => ⟨σ1, H1, s1, I1.untr, hx⟩
    refine wpAny_Try_except (wpAny_mono ((hb Ez pins W hp) [] s σ H D I.tr (hb1 pins W)) (fun f s1 q => ?_) (fun u s' q => ?_))
    · have q' := q.untr
      cases f with
      | next => exact wpAny_execs_nil q'
      | brk => exact q'
      | cont => exact q'
      | ret v => exact q'
    · obtain ⟨σ1, H1, s1, I1, e, C, dd, T, H', rfl, os, bare, un, hok, x1, x2, x3, f1, f2, n1, n2, hE⟩ := q
      have hfun : s'.heap.FunFrames X.base (X.env :: X.outer) := by
        rw [← hst]
        exact funFrames_un I1.stack fun b o hb q => un.slot b o q (I1.stkFree b hb) hb (by simp)
      refine leave_fly (T0 := some T) (L := X.env.locals) (by rw [← hst]; exact I1.ok.frames) hfun hfr x1 (fun T' z => by cases z; exact ⟨x2, x3⟩) fun h' T2 y1 y2 y3 y4 mv => ?_
      rw [← hst] at mv
      have ntr : ∀ b u, H' b = some u → b ∉ frs X.stack := fun b u q hb => by
        obtain ⟨_, o, ho, _⟩ := I1.stack.mem hb
        have := un.free b o ho (I1.stkFree b hb) (by simp)
        rw [q] at this; cases this
      have hU : Un (frs X.stack) [] H1 H' s1.heap h' := un_moved (l := X.stack) un mv (fun _ z => z) (fun _ _ _ z => z) n1 fun T' z => by cases z; exact n2
      have hO : HOk X.prog X.w H' h' := hok.track fun b u o q1 q2 => mv.keep b o (fun z => by rw [z, f1] at q1; cases q1) (fun z => by cases z; rw [f2] at q1; cases q1) (ntr b u q1) q2
      have I2 : Inv X pins σ1 H' { s' with heap := h' } := I1.call' (s' := { s' with heap := h' }) (ch := []) os hU hO bare fun _ z => absurd z (by simp)
      -- the exception becomes an object of ours
      have he0 : X.s₀.heap.get? e = none := by
        cases q : X.s₀.heap.get? e with
        | none => rfl
        | some o =>
          obtain ⟨o1, q1⟩ := I1.base.there e o q (by rw [hex]; simp)
          rw [n1] at q1; cases q1
      have live : ∀ b o, s1.heap.get? b = some o → b ≠ e := fun b o q z => by rw [z, n1] at q; cases q
      have heL : e ≠ X.env.locals := by
        obtain ⟨m, ⟨o, _, _, ho, _⟩, _⟩ := I1.loc
        exact Ne.symm (live _ _ ho)
      have heC : ∀ x c, X.env.cells.lookup x = some c → c ≠ e := fun x c q => by
        obtain ⟨v, o, ho, _⟩ := I1.cell x c q
        exact live _ _ ho
      have heP : ∀ p ∈ X.pn ++ pins, p.1 ≠ e := fun p hp => live _ _ (I1.pin p hp).1
      have I3 : Inv X pins σ1 (upd H' e (exO C dd e)) { s' with heap := h' } := I2.adopt f1 he0 heL heC heP (exO_ok y1)
      -- the trace's record is nobody's
      have szT : ∀ b o, s'.heap.get? b = some o → b ≠ T2 := fun b o q => Nat.ne_of_lt (Nat.lt_of_lt_of_le (Heap.lt_size q) y3)
      have liveT : ∀ b o, s1.heap.get? b = some o → b ≠ T2 := fun b o q => by
        obtain ⟨o', q'⟩ := un.there b o q (by simp)
        exact szT b o' q'
      have hTL : T2 ≠ X.env.locals := by
        obtain ⟨m, ⟨o, _, _, ho, _⟩, _⟩ := I1.loc
        exact Ne.symm (liveT _ _ ho)
      have hT0 : X.s₀.heap.objs.size ≤ T2 := by
        obtain ⟨m, ⟨o, _, _, ho, _⟩, _⟩ := I1.loc
        obtain ⟨o', q'⟩ := un.there _ o ho (by simp)
        exact Nat.le_trans I1.ok.above (Nat.le_trans (Nat.le_of_lt (Heap.lt_size q')) y3)
      have hTC : ∀ x c, X.env.cells.lookup x = some c → c ≠ T2 := fun x c q => by
        obtain ⟨v, o, ho, _⟩ := I1.cell x c q
        exact liveT _ _ ho
      have hTP : ∀ p ∈ X.pn ++ pins, p.1 ≠ T2 := fun p hp => liveT _ _ (I1.pin p hp).1
      have hTn : upd H' e (exO C dd e) T2 = none := by
        rw [upd_ne y4]
        cases q : H' T2 with
        | none => rfl
        | some u => obtain ⟨ob, hob⟩ := (hok T2 u q).there; exact absurd rfl (szT T2 ob hob)
      obtain ⟨hmt, hsu⟩ := hh σ1 C dd H' hE
      obtain ⟨oe, vs, hoe, hcls, _⟩ := id y1
      have LT : PySem.W.Looks (model X.prog X.w) h' (typeOf (.ref e)) C := by
        subst hcls
        exact (PySem.W.Looks.ld hoe).andThen .now
      have ok : X.Ok := I.ok
      refine wpAny_handleBy_cons (codeAny_handlers_test (ld_glob (X := X.sui e) (I3.sui e) hg hm ?_ hdb)) (by intro q; cases q)
      refine PySem.W.Looks.here (PySem.W.exm_one I3.kIn LT hmt) ?_
      show codeAny _ _ (.handlers (.ref e) [.ExceptHandler none (some n) (b₀ :: suite) hpos] X.env) _ _
      refine codeAny_handlers_suite_as ?_
      refine rest_fly y1 y2 y4 fun h2 z1 z2 k1 k2 => ?_
      have I4 : Inv X pins σ1 (upd H' e (exO C dd e)) { s' with heap := h2 } := I3.turned (t' := s'.toks) (fun b o hb q => k1 b o hb q) hTn hTL (.inr hT0) hTC hTP
      refine store_ok (X := X.sui e) (v := .ref e) (I4.sui e) hN hi (.inl hk) rfl (fun s5 I5 => ?_) (.inr hk)
      refine wpAny_mono ((hs e) pins s5 _ _ _ I5 (hsu e f1)) (fun f s6 q => ?_) fun _ _ z => z.elim
      show wpAny _ _ (do bindName X.env n .none; unbindBehindTheSuite X.env n hpos) _ _ s6
      cases f with
      | next => obtain ⟨σ6, H6, I6, q6⟩ := q; exact goes_ok (I6.unsui ok) hN hi hk fun s7 I7 => ⟨_, _, I7, q6⟩
      | brk => obtain ⟨σ6, H6, I6, q6⟩ := q; exact goes_ok (I6.unsui ok) hN hi hk fun s7 I7 => ⟨_, _, I7, q6⟩
      | cont => obtain ⟨σ6, H6, I6, q6⟩ := q; exact goes_ok (I6.unsui ok) hN hi hk fun s7 I7 => ⟨_, _, I7, q6⟩
      | ret v => obtain ⟨x6, σ6, H6, I6, r6, q6⟩ := q; exact goes_ok (I6.unsui ok) hN hi hk fun s7 I7 => ⟨_, _, _, I7, r6, q6⟩
end
end L2
namespace L2
open PySem PySem.Spec PyProof.Rows PySem.W
section
variable {prog : Program} {w : World} {A : Around} {E : Value → Shared → Prop} {s : Shared} {K : Frag} {e C : Addr} {oe : Obj}
theorem findX {a g : Value} {name : Str} (hc : (clsIn K C).isSome = true) (ha : findIn K (.ref C) name = some (some a)) (hg : specialIn K a "__get__" = some (some g)) (ht : takesIn K a = some true) : findObj K C none name = some (.bind g a) := by
  obtain ⟨cd, hc⟩ := Option.isSome_iff_exists.mp hc
  unfold findObj
  rw [hc, Option.bind_some, ha, Option.bind_some]
  simp [hg, ht]
structure XAsk (K : Frag) (C : Addr) : Prop where
  cs : (clsIn K C).isSome = true
  ga : findIn K (.ref C) "__getattribute__" = some (some (.builtin "BaseException.__getattribute__"))
  gt : findIn K (.ref C) "__getattr__" = some none
  ca : findIn K (.ref C) "__class__" = some (some (.builtin "object.__class__"))
  gg : specialIn K (.builtin "object.__class__") "__get__" = some (some (.builtin "getset_descriptor.__get__"))
  tk : takesIn K (.builtin "object.__class__") = some true
  mo : mroIn K C (.type "object") = some true
  sb : subIn K (.ref C) (.type "BaseException") = some true
theorem xcheck {nameV : Value} {Q : Unit → Shared → Prop} (U : XAsk K C) (X : K.In s.heap) (I : InstAt s.heap e oe C none) (hq : Q () s) :
    wpAny (model prog w) A (checkBuiltinCall "BaseException.__getattribute__" ⟨[.ref e, nameV], []⟩) Q E s := by
  have hk : builtinKind "BaseException.__getattribute__" = some .slot := by decide +kernel
  have hsplit : splitId "BaseException.__getattribute__" = some ("BaseException", "__getattribute__") := by decide +kernel
  have L0 := I.type (M := model prog w)
  have L1 := looks_subIn (M := model prog w) X U.sb
  have LI : Looks (model prog w) s.heap (isInstance (.ref e) (.type "BaseException")) true := L0.andThen L1
  have ha := F.args_bexc_ga (.ref e) nameV
  simp only [checkBuiltinCall, hk, hsplit]
  refine wpAny_bind (LI.at ?_)
  rw [if_neg (by decide)]
  exact wpAny_of_eq ha hq
theorem xentry {tk : Tok} {Q : Fin → Shared → Prop} (U : XAsk K C) (X : K.In s.heap) (I : InstAt s.heap e oe C none) (hq : Q (.done (.ret (.ref C))) s) :
    wpAny (model prog w) A (Builtin.«object.__getattribute__» ⟨[.ref e, .str "__class__" tk], []⟩) Q E s := by
  obtain ⟨hh, g, d, t, os⟩ := s
  have L0 := I.type (M := model prog w)
  have L3 := looks_find (M := model prog w) X I (findX U.cs U.ca U.gg U.tk)
  unfold Builtin.«object.__getattribute__»
  refine wpAny_bind (wpAny_of_eq (show slotArgs "__getattribute__" 1 ⟨[.ref e, .str "__class__" tk], []⟩ = pure (.ref e, [.str "__class__" tk]) from rfl) ?_)
  refine wpAny_bind (wpAny_of_eq (show Builtin.ObjectAttr.attrName (.str "__class__" tk) = pure ("__class__" : Str) from rfl) ?_)
  refine wpAny_bind (L0.at (wpAny_bind (L3.at ?_)))
  show wpAny _ _ (Builtin.ObjectAttr.bindTo (.builtin "getset_descriptor.__get__") (.builtin "object.__class__") (.ref e) (.ref C)) _ _ _
  show wpAny _ _ (holding [.builtin "object.__class__"] (call (.builtin "getset_descriptor.__get__") [.builtin "object.__class__", .ref e, .ref C]) >>= ret) _ _ _
  exact wpAny_bind (wpAny_holding (wpAny_call (class_get X I U.mo (wpAny_pure hq))))
theorem xclass {Q : Option Value → Shared → Prop} (U : XAsk K C) (X : K.In s.heap) (I : InstAt s.heap e oe C none) (h : Q (some (.ref C)) { s with toks := s.toks + 1 }) : wpAny (model prog w) A (getAttr? (.ref e) "__class__") Q E s := by
  obtain ⟨hh, g, d, t, os⟩ := s
  have L0 := I.type (M := model prog w)
  have L1 := looks_findIn (M := model prog w) X U.ga
  have L2 := looks_findIn (M := model prog w) X U.gt
  have L3 := looks_find (M := model prog w) X I (findX U.cs U.ca U.gg U.tk)
  unfold getAttr? getAttrBy? getAttrBy
  refine wpAny_bind (wpAny_mkText (wpAny_bind (wpAny_attempt (wpAny_holding (wpAny_bind (L0.at (wpAny_bind (L1.at ?_))))))))
  show wpAny _ _ (getAttrByItsOwn (.ref e) _ (.ref C) (.builtin "BaseException.__getattribute__") false false) _ _ _
  unfold getAttrByItsOwn
  refine wpAny_bind ?_
  show wpAny _ _ (typeLookup (.ref C) "__getattr__") _ _ _
  refine L2.at ?_
  refine wpAny_bind (wpAny_attempt (wpAny_holding ?_))
  show wpAny _ _ (boundAndCalled (.builtin "BaseException.__getattribute__") (.ref e) _) _ _ _
  unfold boundAndCalled
  refine wpAny_bind (wpAny_of_eq (F.attr_ValueError.ga.bind (.ref e)) ?_)
  refine wpAny_call (codeAny_call_builtin F.attr_ValueError.ga.plain F.entry_bexc_ga (xcheck U X I (xentry U X I ?_)))
  exact wpAny_pure (wpAny_pure h)
theorem kitx_exc (U : XAsk K C) : KitX K (.ref e) (.ref C) (fun h => ∃ oe, InstAt h e oe C none) where
  ty := fun M h _ ⟨_, I⟩ => I.type
  it := fun _ _ X _ => by
    obtain ⟨cd, hc⟩ := Option.isSome_iff_exists.mp U.cs
    unfold clsIn at hc
    split at hc
    · rename_i c' d' cd' sl' ho
      intro A' Q' E' s' k q
      unfold isType loadHead
      exact wpAny_bind (wpAny_loadPart (k _ _ (X _ _ ho)) (wpAny_pure q))
    · cases hc
  ne := fun h tp dd its n sl X htp => by
    obtain ⟨cd, hc⟩ := Option.isSome_iff_exists.mp U.cs
    refine Bool.eq_false_iff.mpr fun q => ?_
    have z : C = tp := Value.ref.inj (beq_iff_eq.mp q)
    subst z
    unfold clsIn at hc
    split at hc
    · rename_i c' d' cd' sl' ho
      have z := (X _ _ ho).symm.trans htp
      cases z
    · cases hc
  ca := fun X ⟨_, I⟩ k => xclass U X I k
end
theorem exO_inst {P : Program} {w : World} {H : Hp} {h : Heap} {e C : Addr} (ok : HOk P w H h) (q : H e = some (exO (.ref C) none e)) : ∃ oe, InstAt h e oe C none := by
  obtain ⟨⟨oe, vs, he, hC, hdd, hd⟩, _⟩ := ok e _ q
  refine ⟨oe, he, hC, ?_, ?_⟩
  · obtain ⟨a, b, c, d⟩ := oe
    have hd' : c = .fields vs := hd
    subst hd'
    rfl
  · rw [hdd]
    trivial
section
variable {X : Cx}
def rIsiX (K : Frag) : List V → Hp → VK → Prop := fun xs H Q => ∃ e c cv C b, xs = [.ref e, c] ∧ ClsV c cv ∧ H e = some (exO (.ref C) none e) ∧ XAsk K C ∧ kitOne K (.ref C) cv = some b ∧ Q (.bl b) H
theorem call_isiX : CallR X (.builtin "isinstance") (rIsiX X.K) := by
  unfold CallR at *
  exact by
    intro pins s σ H xs us Q I rv h
    obtain ⟨e, c, cv, C, b, rfl, hc, he, U, k, q⟩ := h
    obtain ⟨u, cu, rfl, ru, rc⟩ := rv.two
    have ec : cu = cv := by cases hc <;> exact rc
    subst ec
    cases (show u = Value.ref e from ru)
    exact kia_one (kitx_exc U) I.kIn (exO_inst I.hok he) k (fun z => nomatch z) fun tk => ⟨.bl b, H, I.tok tk, rfl, q⟩
def rIsiA (K : Frag) : List V → Hp → VK → Prop := fun xs H Q => rIsi K xs H Q ∨ rIsiX K xs H Q
theorem call_isiA : CallR X (.builtin "isinstance") (rIsiA X.K) := by
  first
  | exact (call_isi.or call_isiX)
  | (unfold CallR at *; exact (call_isi.or call_isiX))
end
end L2
namespace L2
open PySem PySem.Spec PyProof.Rows
theorem bt_len : bootBuiltins "len" = some (.builtin "len") := by decide +kernel
theorem bt_isinstance : bootBuiltins "isinstance" = some (.builtin "isinstance") := by decide +kernel
theorem bt_int : bootBuiltins "int" = some (.type "int") := by decide +kernel
theorem bt_bool : bootBuiltins "bool" = some (.type "bool") := by decide +kernel
theorem bt_list : bootBuiltins "list" = some (.type "list") := by decide +kernel
theorem bt_tuple : bootBuiltins "tuple" = some (.type "tuple") := by decide +kernel
theorem bt_ValueError : bootBuiltins "ValueError" = some (.type "ValueError") := by decide +kernel
theorem bt_all : bootBuiltins "all" = some (.builtin "all") := by decide +kernel
theorem bt_min : bootBuiltins "min" = some (.builtin "min") := by decide +kernel
theorem rel_int {n : Int} {t : Tok} : RelV (.int n) (.int n t) := ⟨_, rfl⟩
theorem rel_str {n : Str} {t : Tok} : RelV (.str n) (.str n t) := ⟨_, rfl⟩
theorem Same.new {H : Hp} {p : Addr} {o : HO} (h : H p = none) : Same H (upd H p o) := fun b u q => by
  rw [upd_ne (ne_of_none q h)]
  exact q
theorem Same.seqT {K : PySem.W.Frag} {H H' : Hp} {a : Addr} {xs : List V} (e : Same H H') (h : SqT K H a xs) : SqT K H' a xs := by
  rcases h with (h | ⟨o, h⟩) | h
  · exact .inl (.inl (e _ _ h))
  · exact .inl (.inr ⟨o, e _ _ h⟩)
  · exact .inr h
theorem atI_in {α : Type} {xs : List α} {i : Int} (h0 : 0 ≤ i) (h1 : i < xs.length) : ∃ v, atI xs i = some v ∧ v ∈ xs := by
  have e : ((i.toNat : Nat) : Int) = i := Int.toNat_of_nonneg h0
  have hl : i.toNat < xs.length := by omega
  refine ⟨xs[i.toNat], ?_, List.getElem_mem hl⟩
  have q := atI_nat (xs := xs) (List.getElem?_eq_getElem hl)
  rw [e] at q
  exact q
theorem atI_toNat {α : Type} {xs : List α} {i : Int} {v : α} (h0 : 0 ≤ i) (h : xs[i.toNat]? = some v) : atI xs i = some v := by
  have q := atI_nat (xs := xs) h
  rw [Int.toNat_of_nonneg h0] at q
  exact q
theorem TyOf.same {K : PySem.W.Frag} {H H' : Hp} {x : V} {t : Value} (e : Same H H') (h : TyOf K H x t) : TyOf K H' x t := by
  cases h with
  | non => exact .non
  | bl b => exact .bl b
  | int i => exact .int i
  | str x => exact .str x
  | flt x => exact .flt x
  | lst q => exact .lst (e _ _ q)
  | frz q => exact .frz (e _ _ q)
  | tup q => exact .tup (e _ _ q)
  | dK q => exact .dK (e _ _ q)
  | dT q => exact .dT (e _ _ q)
  | ins q a b c d f => exact .ins (e _ _ q) a b c d f
def Own (K : PySem.W.Frag) (H : Hp) (x : V) : Prop := ∃ n, TyOf K H x (.type n)
theorem Own.same {K : PySem.W.Frag} {H H' : Hp} {x : V} (e : Same H H') (h : Own K H x) : Own K H' x := let ⟨n, t⟩ := h; ⟨n, t.same e⟩
theorem Own.non {K : PySem.W.Frag} {H : Hp} : Own K H .non := ⟨_, .non⟩
theorem Own.bl {K : PySem.W.Frag} {H : Hp} {b : Bool} : Own K H (.bl b) := ⟨_, .bl b⟩
theorem Own.int {K : PySem.W.Frag} {H : Hp} {i : Int} : Own K H (.int i) := ⟨_, .int i⟩
theorem Own.str {K : PySem.W.Frag} {H : Hp} {x : Str} : Own K H (.str x) := ⟨_, .str x⟩
theorem Own.lst {K : PySem.W.Frag} {H : Hp} {a : Addr} {xs : List V} (h : H a = some (.lst xs)) : Own K H (.ref a) := ⟨_, .lst h⟩
theorem Own.tup {K : PySem.W.Frag} {H : Hp} {a : Addr} {xs : List V} (h : H a = some (.tup xs)) : Own K H (.ref a) := ⟨_, .tup h⟩
theorem Own.dK {K : PySem.W.Frag} {H : Hp} {a : Addr} {xs : List (Key × V)} (h : H a = some (.dK xs)) : Own K H (.ref a) := ⟨_, .dK h⟩
def isInt : V → Bool
  | .int _ => true
  | .bl _ => true
  | _ => false
def isBool : V → Bool
  | .bl _ => true
  | _ => false
def isStr : V → Bool
  | .str _ => true
  | _ => false
theorem kit_int {K : PySem.W.Frag} {H : Hp} {x : V} {n : String} (ty : TyOf K H x (.type n)) : PySem.W.kitOne K (.type n) (.type "int") = some (isInt x) := by
  cases ty <;> rfl
theorem kit_bool {K : PySem.W.Frag} {H : Hp} {x : V} {n : String} (ty : TyOf K H x (.type n)) : PySem.W.kitOne K (.type n) (.type "bool") = some (isBool x) := by
  cases ty <;> rfl
theorem kit_str {K : PySem.W.Frag} {H : Hp} {x : V} {n : String} (ty : TyOf K H x (.type n)) : PySem.W.kitOne K (.type n) (.type "str") = some (isStr x) := by
  cases ty <;> rfl
theorem rIsiA.own {K : PySem.W.Frag} {H : Hp} {x : V} {c : String} {Q : VK} {b : Bool} (h : Own K H x) (k : ∀ n, TyOf K H x (.type n) → PySem.W.kitOne K (.type n) (.type c) = some b) (q : Q (.bl b) H) : rIsiA K [x, .ty c] H Q := by
  obtain ⟨n, t⟩ := h
  exact .inl ⟨x, .ty c, _, _, _, rfl, .ty c, t, k n t, q⟩
theorem rIsiA.int {K : PySem.W.Frag} {H : Hp} {x : V} {Q : VK} (h : Own K H x) (q : Q (.bl (isInt x)) H) : rIsiA K [x, .ty "int"] H Q := rIsiA.own h (fun _ => kit_int) q
theorem rIsiA.bool {K : PySem.W.Frag} {H : Hp} {x : V} {Q : VK} (h : Own K H x) (q : Q (.bl (isBool x)) H) : rIsiA K [x, .ty "bool"] H Q := rIsiA.own h (fun _ => kit_bool) q
theorem rIsiA.str {K : PySem.W.Frag} {H : Hp} {x : V} {Q : VK} (h : Own K H x) (q : Q (.bl (isStr x)) H) : rIsiA K [x, .ty "str"] H Q := rIsiA.own h (fun _ => kit_str) q
theorem iteB {b : Bool} {A B : Prop} (h1 : b = true → A) (h2 : b = false → B) : if b = true then A else B := by
  cases b
  · exact iteF (h2 rfl)
  · exact iteT (h1 rfl)
theorem le_ble {a b : Nat} (h : Nat.ble a b = true) : a ≤ b := Nat.le_of_ble_eq_true h
end L2
namespace L2
open PySem PySem.Spec PyProof.Rows
section
variable {X : Cx} {pins : List (Addr × Obj)} {σ : St} {H H' : Hp} {s : Shared} {h' : Heap}
theorem Inv.turns {t' : Nat} {wr : List Addr} (I : Inv X pins σ H s) (k : ∀ b o, b ∉ wr → s.heap.get? b = some o → h'.get? b = some o) (hw : ∀ b ∈ wr, FpOk X pins H b) : Inv X pins σ H { s with heap := h', toks := t' } := by
  have nit : ∀ b u, H b = some u → b ∉ wr := fun b u e z => by rw [(hw b z).1] at e; cases e
  refine I.step (g' := s.gens) (d' := s.drawn) (ch := wr) (fun b hb => ?_) (fun b o _ _ hc e _ => k b o hc e) (fun b o _ _ hc e _ => ⟨o.slots, k b o hc e⟩) (fun _ _ _ _ n => n)
    (fun b o hc e => ⟨o, k b o hc e⟩) (fun _ _ e => e) (fun _ _ _ e => e) (fun b ps e => ⟨#[], by rw [e]; simp⟩) (fun m hm => ?_) (fun b u e => ?_) I.bare
  · obtain ⟨_, f1, _, f3, f4, f5⟩ := hw b hb
    exact ⟨f3, f1, f4, f5⟩
  · obtain ⟨o, es, ep, ho, r⟩ := hm
    exact ⟨o, es, ep, k _ o (fun z => (hw _ z).2.1 rfl) ho, r⟩
  · refine (I.hok b u e).stay (fun c v hc q => k c v ?_ q) (fun _ q => q) fun _ _ q => q
    rcases hc with z | z
    · rw [z]; exact nit b u e
    · exact nit c _ z
end
def Ite (K : PySem.W.Frag) (a : Addr) : It :=
  ⟨fun i H => ∃ xs x, SqL K H a xs ∧ xs[i]? = some x, fun i H v H' => ∃ T x, v = .ref T ∧ H T = none ∧ H' = upd H T (.tup [.int i, x]) ∧ ∀ xs, SqL K H a xs → xs[i]? = some x, fun i H => ∃ xs, SqL K H a xs ∧ xs.length = i⟩
theorem turn_enum {P : Program} {w : World} {K : PySem.W.Frag} {es : List Expr} {k : Nat} {pos : Pos} (a e it : Addr) (hei : e ≠ it) :
    Turn P w K (.Tuple es k pos) (Ite K a) [e, it] e (fun i h => (∃ old, IsEnum h e it i old) ∧ h.IsListIter it a i) where
  mem := by simp
  obj := fun i h st b hb => by
    obtain ⟨⟨old, he⟩, o, ho, hc, hd⟩ := st
    rcases List.mem_cons.mp hb with rfl | hb
    · exact ⟨_, he, fun v z => by cases z⟩
    · have e : b = it := by simpa using hb
      subst e
      exact ⟨o, ho, fun v z => by rw [hd] at z; cases z⟩
  keep := fun i h h' st k => by
    obtain ⟨⟨old, he⟩, hi⟩ := st
    exact ⟨⟨old, k e (by simp) _ he⟩, hi.at fun o x => k it (by simp) o x⟩
  item := by
    intro X hP hw hK hc i pins s σ H E I hf st hg
    subst hP hw hK
    obtain ⟨xs, x, hq, hx⟩ := hg
    obtain ⟨its, rv, p, hz⟩ := I.list hq
    obtain ⟨u, hu, ru⟩ := rv.get hx
    obtain ⟨he, hi⟩ := st
    have hlt : i < its.toArray.size := by
      obtain ⟨hl, _⟩ := List.getElem?_eq_some_iff.mp hu
      simpa using hl
    have na : ∀ b ∈ [e, it], a ≠ b := fun b hb z => by
      obtain ⟨o, ho, _⟩ := id p.isList
      subst z
      rcases List.mem_cons.mp hb with rfl | hb
      · obtain ⟨old, he⟩ := he
        have l1 := p.isList
        obtain ⟨o, ho, hc, n, hd⟩ := l1
        rw [he] at ho; cases ho; exact absurd (show Value.type "enumerate" = Value.type "list" from hc) (by decide)
      · have e' : a = it := by simpa using hb
        subst e'
        obtain ⟨o, ho, hc, n, hd⟩ := p.isList
        obtain ⟨o', ho', hc', hd'⟩ := hi
        rw [ho] at ho'; cases ho'
        rw [hc] at hc'; exact absurd hc' (by decide)
    have W := WalksT.enumerate (prog := X.prog) (w := X.w) (I.ok.hd hc) e it a hei (na e (by simp)) (na it (by simp)) its.toArray
    refine W.item i s _ _ hlt ⟨he, hi, p.isList⟩ fun T vals h1 tk hp hT hIs hm hk => ?_
    obtain ⟨t, y, hy, rfl⟩ := hp
    have ey : y = u := by
      have : its.toArray[i]? = some u := by simpa using hu
      rw [this] at hy
      exact (Option.some.inj hy).symm
    subst ey
    refine ⟨_, rfl, W.go es k pos i T _ _ _ hm fun h2 st2 hk2 => ?_⟩
    have hTn : H T = none := I.hok.fresh hT
    have hap := W.apart i T h1 hm
    have I1 : Inv X pins σ H { s with heap := h2, toks := tk } := I.turns (t' := tk) (fun b o hb e => hk2 b o hb (hk b o hb e)) hf
    have hT2 : h2.IsTuple T #[.int i t, y] := by
      obtain ⟨o, ho, r⟩ := hIs
      exact ⟨o, hk2 T o hap ho, r⟩
    have fT : ∀ b ∈ [e, it], upd H T (.tup [.int i, x]) b = none := fun b hb => by
      rw [upd_ne (fun z => hap (by rw [← z]; exact hb))]
      exact (hf b hb).1
    have hs0 : X.s₀.heap.objs.size ≤ T := Nat.le_trans I.sz hT
    have I2 : Inv X pins σ (upd H T (.tup [.int i, x])) { s with heap := h2, toks := tk } := by
      refine I1.adopt hTn (Heap.get?_none_of_le hs0) (Nat.ne_of_gt (Nat.lt_of_lt_of_le I.lt hT)) (fun z c e q => ?_) (fun p hp q => ?_) ⟨le_ble rfl, [.int i t, y], .cons ⟨t, rfl⟩ (.cons ru .nil), hT2⟩
      · obtain ⟨v, q1⟩ := I.cell z c e
        exact absurd (Nat.lt_of_lt_of_le q1.lt (by rw [q]; exact hT)) (Nat.lt_irrefl _)
      · exact absurd (Nat.lt_of_lt_of_le (Heap.lt_size (I.pin p hp).1) (by rw [q]; exact hT)) (Nat.lt_irrefl _)
    exact ⟨.ref T, _, I2, rfl, ⟨T, x, rfl, hTn, rfl, fun ys hy => by rw [I.list_inj hy hq]; exact hx⟩, ⟨st2.1, st2.2.1⟩, fT⟩
  done := by
    intro X hP hw hK hc i pins s σ H E I hf st hg
    subst hP hw hK
    obtain ⟨xs, hq, hx⟩ := hg
    obtain ⟨its, rv, p, hz⟩ := I.list hq
    obtain ⟨⟨old, he⟩, hi⟩ := st
    have D := Draws.list (prog := X.prog) (w := X.w) (A := X.A.in1) (I.ok.hd hc) it a (fun z => by
      subst z
      obtain ⟨o, ho, hc, n, hd⟩ := p.isList
      obtain ⟨o', ho', hc', hd'⟩ := hi
      rw [ho] at ho'; cases ho'
      rw [hc] at hc'; exact absurd hc' (by decide)) its.toArray
    have en : its.toArray.size = i := by rw [List.size_toArray, ← rv.length]; exact hx
    refine wpAny_pyNext_enum_endD D he (by rw [en]; exact ⟨hi, p.isList⟩) fun h' hx' => ⟨rfl, ?_⟩
    exact I.turns (t' := s.toks) (wr := [e, it]) (fun b o hb q => hx' b o (fun z => hb (by simp [z])) q) hf
  self := fun A i s Q E st h => by
    obtain ⟨⟨old, he⟩, _⟩ := st
    exact wpAny_pyIter_enum he h
theorem bt_enumerate : bootBuiltins "enumerate" = some (.type "enumerate") := by decide +kernel
def iEnum (K : PySem.W.Frag) (ta : TA) : TI := fun σ H R => ta σ H fun vs H1 => ∃ a, vs = [.ref a] ∧ (∃ xs, SqL K H1 a xs) ∧ R (Ite K a) H1
theorem pi_enum {X : Cx} {es : List Expr} {k : Nat} {tpos p pos : Pos} {a : Expr} {ta : TA} (hg : Gl X "enumerate") (hm : X.mg "enumerate" = none) (ha : PA X [a] ta)
    (he : starEach [a] X.env = [(false, eval a X.env)] := by rfl) : PI X (.Tuple es k tpos) (.Call (.Name "enumerate" p) [a] [] pos) (iEnum X.K ta) := by
  unfold PA at *; unfold PI at *
  exact by
    intro pins s σ H R I h
    refine wpAny_Call_Name_kw (ld_blt I hg hm bt_enumerate ?_ (by decide) (by decide))
    refine PyProof.Rows.callWith_type1 (thn (ha pos pins s σ H _ I h) fun us s1 ⟨vs, H1, I1, r, q⟩ => ?_) he (by rfl)
    obtain ⟨b, rfl, ⟨xs, hq⟩, q⟩ := q
    obtain ⟨u, rfl, ru⟩ := vals1 r
    cases ru
    obtain ⟨its, rv, pl, hz⟩ := I1.list hq
    refine call_enumerate_list pl.isList fun h' he hi hsz hk => ?_
    refine wpAny_pyIter_enum he ?_
    have I2 : Inv X pins σ H1 { s1 with heap := h' } := I1.kept (t' := s1.toks) hk
    refine ⟨s1.heap.objs.size + 1, [s1.heap.objs.size + 1, s1.heap.objs.size], _, _, H1, rfl, I2, turn_enum b _ _ (Nat.succ_ne_self _), ⟨⟨_, he⟩, hi⟩, fun c hc => ?_, q⟩
    have hle : s1.heap.objs.size ≤ c := by
      rcases List.mem_cons.mp hc with e | hc
      · rw [e]; exact Nat.le_succ _
      · have e : c = s1.heap.objs.size := by simpa using hc
        rw [e]; exact Nat.le_refl _
    exact I1.fpOk hle (I1.hok.fresh hle)
def Nx (n i : Nat) (P : Prop) : Prop := ∃ m', m' < n - i ∧ m' = n - (i + 1) ∧ i + 1 ≤ n ∧ P
theorem Nx.mk {n i : Nat} {P : Prop} (hi : i < n) (p : P) : Nx n i P := ⟨n - (i + 1), by omega, rfl, hi, p⟩
theorem loop_by {J : It} {l : Addr} {g : TG} {tc : TT} {te : TE} {σ : St} {H : Hp} {Q : VK} (n : Nat) (Pv : Nat → St → List V → Hp → Prop) (hsz : n ≤ sizeLine) (h0 : Pv 0 σ [] H)
    (hl : ∀ i σ acc H, i ≤ n → Pv i σ acc H → H l = some (.lst acc) ∧ acc.length ≤ i)
    (hgo : ∀ i σ acc H, i < n → Pv i σ acc H → J.go i H)
    (hs : ∀ i x σ acc H H', i < n → Pv i σ acc H → J.yld i H x H' → g x σ H' fun σ2 H2 => tc σ2 H2 fun b H3 => if b = true then
      te σ2 H3 fun v H4 => H4 l = some (.lst acc) ∧ Nx n i (Pv (i + 1) σ2 (acc ++ [v]) (upd H4 l (.lst (acc ++ [v])))) else Nx n i (Pv (i + 1) σ2 acc H3))
    (hd : ∀ σ acc H, Pv n σ acc H → J.stop n H ∧ Q (.ref l) H) : tLoop J l g tc te σ H Q := by
  refine ⟨fun i m σ acc H => m = n - i ∧ i ≤ n ∧ Pv i σ acc H, ⟨n, by simp, Nat.zero_le _, h0⟩, ?_⟩
  rintro i m σ acc H ⟨rfl, hi, p⟩
  obtain ⟨q1, q2⟩ := hl i σ acc H hi p
  refine ⟨q1, ?_⟩
  by_cases hlt : i < n
  · exact .inr ⟨hgo i σ acc H hlt p, by omega, fun x H' y => hs i x σ acc H H' hlt p y⟩
  · have e : i = n := by omega
    subst e
    exact .inl (hd σ acc H p)
theorem for_enum {K : PySem.W.Frag} {a : Addr} {xs : List V} {g : TG} {tb : TS} {D : Ends} {σ : St} {H : Hp} (Pv : Nat → St → Hp → Prop) (h0 : Pv 0 σ H) (hl : ∀ i σ H, i ≤ xs.length → Pv i σ H → SqL K H a xs)
    (hs : ∀ (i : Nat) x σ H T, xs[i]? = some x → Pv i σ H → H T = none → g (.ref T) σ (upd H T (.tup [.int i, x])) fun σ2 H2 => tb { D with nx := Pv (i + 1), ct := Pv (i + 1), bk := D.nx } σ2 H2) (hd : ∀ σ H, Pv xs.length σ H → D.nx σ H) :
    ∃ W : Nat → Nat → St → Hp → Prop, (∃ m, W 0 m σ H) ∧ ∀ i m σ H, W i m σ H →
      ((Ite K a).stop i H ∧ D.nx σ H) ∨ ((Ite K a).go i H ∧ ∃ N : St → Hp → Prop, (∀ σ' H', N σ' H' → ∃ m', m' < m ∧ W (i + 1) m' σ' H') ∧ ∀ v H', (Ite K a).yld i H v H' → g v σ H' fun σ2 H2 => tb { D with nx := N, ct := N, bk := D.nx } σ2 H2) := by
  refine ⟨fun i m σ H => m = xs.length - i ∧ i ≤ xs.length ∧ Pv i σ H, ⟨xs.length, by simp, Nat.zero_le _, h0⟩, ?_⟩
  rintro i m σ H ⟨rfl, hi, p⟩
  have q := hl i σ H hi p
  by_cases hlt : i < xs.length
  · refine .inr ⟨⟨xs, xs[i], q, by simp [hlt]⟩, Pv (i + 1), fun σ' H' p' => ⟨xs.length - (i + 1), by omega, rfl, hlt, p'⟩, fun v H' y => ?_⟩
    obtain ⟨T, x, rfl, hT, rfl, hx⟩ := y
    exact hs i x σ H T (hx xs q) p hT
  · have e : i = xs.length := by omega
    subst e
    exact .inl ⟨⟨xs, q, rfl⟩, hd σ H p⟩
theorem boolsAre_of : ∀ {bs : List Bool} {us : List Value}, Vals (bs.map V.bl) us → LSm.BoolsAre us bs
  | [], _, .nil => .nil
  | b :: r, _, .cons h t => by
    cases h
    exact .cons b (boolsAre_of t)
theorem kept_it {s : Shared} {h' : Heap} {o : Obj} (hk : ∀ b x, b ∉ [s.heap.objs.size] → (s.heap.push o).get? b = some x → h'.get? b = some x) : ∀ b x, s.heap.get? b = some x → h'.get? b = some x :=
  fun b x e => hk b x (fun hm => by rw [List.mem_singleton.mp hm] at e; exact Nat.lt_irrefl _ (Heap.lt_size e)) (Heap.get?_push_of_some _ e)
theorem call_all {X : Cx} (hc : X.calm = true) : CallR X (.builtin "all") (fun xs H Q => ∃ (a : Addr) (bs : List Bool), xs = [.ref a] ∧ SqL X.K H a (bs.map V.bl) ∧ Q (.bl (bs.all id)) H) := by
  unfold CallR at *
  exact by
    intro pins s σ H xs us Q I r h
    obtain ⟨a, bs, rfl, hq, q⟩ := h
    obtain ⟨u, rfl, ru⟩ := vals1 r
    cases ru
    obtain ⟨its, rv, pl, hz⟩ := I.list hq
    have hb := boolsAre_of rv
    have hl := pl.isList
    have hlt : a < s.heap.objs.size := by obtain ⟨_, e, _⟩ := hl; exact Heap.lt_size e
    refine call_all_walk (wpAny_pyIter_list hl ?_)
    refine ⟨s.heap.objs.size, [s.heap.objs.size, a], [s.heap.objs.size], its.toArray.size, _, _, fun i => (bs[i]?).getD true, rfl, Walks.list (A := X.A.in1) (I.ok.hd hc) _ a (Nat.ne_of_lt hlt) its.toArray,
      ⟨⟨_, Heap.get?_push_size _ rfl, rfl, rfl⟩, hl.push _⟩, fun i v s' Q' E' hP hQ => ?_, fun h' tk hk => ?_⟩
    · obtain ⟨b, e, rfl⟩ := hb.get i v (by simpa using hP)
      simp only [e, Option.getD_some] at hQ
      exact wpAny_truthy_bool hQ
    · have e : ((List.range its.toArray.size).all fun i => (bs[i]?).getD true) = bs.all id := by
        rw [List.size_toArray, hb.length]; exact LSm.range_all bs
      rw [e]
      exact ⟨.bl (bs.all id), H, I.kept (t' := tk) (kept_it hk), rfl, q⟩
end L2
namespace L2
open PySem PySem.Spec PyProof.Rows
section
variable {X : Cx}
end
inductive SeqEq (K : PySem.W.Frag) (H : Hp) (R : V → V → Bool → Prop) : V → V → Bool → Prop where
  | list {a b : Addr} {xs ys : List V} {e : Nat → Bool} (ha : SqL K H a xs) (hb : SqL K H b ys) (hl : xs.length = ys.length) (he : ∀ i x y, xs[i]? = some x → ys[i]? = some y → R x y (e i)) : SeqEq K H R (.ref a) (.ref b) ((List.range xs.length).all e)
  | listN {a b : Addr} {xs ys : List V} (ha : SqL K H a xs) (hb : SqL K H b ys) (hl : xs.length ≠ ys.length) : SeqEq K H R (.ref a) (.ref b) false
  | tup {a b : Addr} {xs ys : List V} {e : Nat → Bool} (ha : SqT K H a xs) (hb : SqT K H b ys) (he : ∀ i x y, xs[i]? = some x → ys[i]? = some y → R x y (e i)) : SeqEq K H R (.ref a) (.ref b) ((List.range (min xs.length ys.length)).all e && xs.length == ys.length)
def EqD (K : PySem.W.Frag) (H : Hp) : Nat → V → V → Bool → Prop
  | 0, x, y, b => (flatV x = true ∧ flatV y = true ∧ b = eqV x y) ∨ ∃ a, x = .ref a ∧ y = .ref a ∧ b = true
  | n + 1, x, y, b => ((flatV x = true ∧ flatV y = true ∧ b = eqV x y) ∨ ∃ a, x = .ref a ∧ y = .ref a ∧ b = true) ∨ SeqEq K H (EqD K H n) x y b
theorem eqV_self {x : V} (h : flatV x = true) : eqV x x = true := by
  cases x <;> simp_all [flatV, eqV]
section
variable {X : Cx} {pins : List (Addr × Obj)} {σ : St} {H : Hp} {s : Shared}
theorem all_range {n : Nat} {e : Nat → Bool} (h : ∀ i, i < n → e i = true) : (List.range n).all e = true := by
  rw [List.all_eq_true]
  exact fun i hi => h i (List.mem_range.mp hi)
theorem EqD.self (I : Inv X pins σ H s) : ∀ {n : Nat} {x : V} {b : Bool}, EqD X.K H n x x b → b = true := by
  intro n
  induction n with
  | zero =>
    intro x b h
    rcases h with ⟨h1, _, h2⟩ | ⟨_, _, _, h⟩
    · rw [h2]; exact eqV_self h1
    · exact h
  | succ n ih =>
    intro x b h
    rcases h with (⟨h1, _, h2⟩ | ⟨_, _, _, h⟩) | h
    · rw [h2]; exact eqV_self h1
    · exact h
    · cases h with
      | @list a _ xs ys e ha hb hl he =>
        have q := I.list_inj ha hb
        subst q
        exact all_range fun i hi => ih (he i xs[i] xs[i] (by simp [hi]) (by simp [hi]))
      | listN ha hb hl => exact absurd (congrArg List.length (I.list_inj ha hb)) hl
      | @tup a _ xs ys e ha hb he =>
        have q := I.tuple_inj ha hb
        subst q
        rw [Nat.min_self, all_range fun i hi => ih (he i xs[i] xs[i] (by simp [hi]) (by simp [hi]))]
        simp
theorem SeqEq.rc {A : Around} {R : V → V → Bool → Prop} {x y : V} {b : Bool} {u v : Value} (I : Inv X pins σ H s) (h : SeqEq X.K H R x y b) (rx : RelV x u) (ry : RelV y v) (hu : A.units < cLine)
    (hR : ∀ x y b u v, R x y b → RelV x u → RelV y v → SeqAt.EqAt A.in1 s u v b) : SeqAt.RcAt A s u v b := by
  cases h with
  | @list a c xs ys e ha hb hl he =>
    cases rx; cases ry
    obtain ⟨its, r1, p1, z1⟩ := I.list ha
    obtain ⟨jts, r2, p2, z2⟩ := I.list hb
    have l1 := r1.length
    have l2 := r2.length
    have q := SeqAt.RcAt.lists (A := A) (s := s) (e := e) p1.isList p2.isList (by simp only [List.size_toArray]; omega) hu fun j h1 h2 => ?_
    · rw [List.size_toArray, ← l1] at q
      exact q
    · simp only [List.size_toArray] at h1 h2
      have g1 : xs[j]? = some xs[j] := by simp
      have g2 : ys[j]? = some ys[j] := by simp
      obtain ⟨w1, k1, rr1⟩ := r1.get g1
      obtain ⟨w2, k2, rr2⟩ := r2.get g2
      have e1 : its.toArray[j] = w1 := by
        have := List.getElem?_eq_some_iff.mp k1
        obtain ⟨_, this⟩ := this
        simpa using this
      have e2 : jts.toArray[j] = w2 := by
        have := List.getElem?_eq_some_iff.mp k2
        obtain ⟨_, this⟩ := this
        simpa using this
      rw [e1, e2]
      exact hR _ _ _ _ _ (he j _ _ g1 g2) rr1 rr2
  | @listN a c xs ys ha hb hl =>
    cases rx; cases ry
    obtain ⟨its, r1, p1, z1⟩ := I.list ha
    obtain ⟨jts, r2, p2, z2⟩ := I.list hb
    have l1 := r1.length
    have l2 := r2.length
    exact SeqAt.RcAt.lists_lengths p1.isList p2.isList (by simp only [List.size_toArray, bne_iff_ne]; omega) hu
  | @tup a c xs ys e ha hb he =>
    cases rx; cases ry
    obtain ⟨its, r1, p1, z1⟩ := I.tuple ha
    obtain ⟨jts, r2, p2, z2⟩ := I.tuple hb
    have l1 := r1.length
    have l2 := r2.length
    have q := SeqAt.RcAt.tuples (A := A) (s := s) (e := e) p1 p2 hu fun j h1 h2 => ?_
    · rw [List.size_toArray, List.size_toArray, ← l1, ← l2] at q
      exact q
    · simp only [List.size_toArray] at h1 h2
      have g1 : xs[j]? = some xs[j] := by simp
      have g2 : ys[j]? = some ys[j] := by simp
      obtain ⟨w1, k1, rr1⟩ := r1.get g1
      obtain ⟨w2, k2, rr2⟩ := r2.get g2
      have e1 : its.toArray[j] = w1 := by
        have := List.getElem?_eq_some_iff.mp k1
        obtain ⟨_, this⟩ := this
        simpa using this
      have e2 : jts.toArray[j] = w2 := by
        have := List.getElem?_eq_some_iff.mp k2
        obtain ⟨_, this⟩ := this
        simpa using this
      rw [e1, e2]
      exact hR _ _ _ _ _ (he j _ _ g1 g2) rr1 rr2
theorem SeqEq.rcNe {A : Around} {R : V → V → Bool → Prop} {x y : V} {b : Bool} {u v : Value} (I : Inv X pins σ H s) (h : SeqEq X.K H R x y b) (rx : RelV x u) (ry : RelV y v) (hu : A.units < cLine)
    (hR : ∀ x y b u v, R x y b → RelV x u → RelV y v → SeqAt.EqAt A.in1 s u v b) : SeqAt.RcNeAt A s u v (!b) := by
  cases h with
  | @list a c xs ys e ha hb hl he =>
    cases rx; cases ry
    obtain ⟨its, r1, p1, z1⟩ := I.list ha
    obtain ⟨jts, r2, p2, z2⟩ := I.list hb
    have l1 := r1.length
    have l2 := r2.length
    have q := SeqAt.RcNeAt.lists (A := A) (s := s) (e := e) p1.isList p2.isList (by simp only [List.size_toArray]; omega) hu fun j h1 h2 => ?_
    · rw [List.size_toArray, ← l1] at q
      exact q
    · simp only [List.size_toArray] at h1 h2
      have g1 : xs[j]? = some xs[j] := by simp
      have g2 : ys[j]? = some ys[j] := by simp
      obtain ⟨w1, k1, rr1⟩ := r1.get g1
      obtain ⟨w2, k2, rr2⟩ := r2.get g2
      have e1 : its.toArray[j] = w1 := by
        have := List.getElem?_eq_some_iff.mp k1
        obtain ⟨_, this⟩ := this
        simpa using this
      have e2 : jts.toArray[j] = w2 := by
        have := List.getElem?_eq_some_iff.mp k2
        obtain ⟨_, this⟩ := this
        simpa using this
      rw [e1, e2]
      exact hR _ _ _ _ _ (he j _ _ g1 g2) rr1 rr2
  | @listN a c xs ys ha hb hl =>
    cases rx; cases ry
    obtain ⟨its, r1, p1, z1⟩ := I.list ha
    obtain ⟨jts, r2, p2, z2⟩ := I.list hb
    have l1 := r1.length
    have l2 := r2.length
    exact SeqAt.RcNeAt.lists_lengths p1.isList p2.isList (by simp only [List.size_toArray, bne_iff_ne]; omega) hu
  | @tup a c xs ys e ha hb he =>
    cases rx; cases ry
    obtain ⟨its, r1, p1, z1⟩ := I.tuple ha
    obtain ⟨jts, r2, p2, z2⟩ := I.tuple hb
    have l1 := r1.length
    have l2 := r2.length
    have q := SeqAt.RcNeAt.tuples (A := A) (s := s) (e := e) p1 p2 hu fun j h1 h2 => ?_
    · rw [List.size_toArray, List.size_toArray, ← l1, ← l2] at q
      exact q
    · simp only [List.size_toArray] at h1 h2
      have g1 : xs[j]? = some xs[j] := by simp
      have g2 : ys[j]? = some ys[j] := by simp
      obtain ⟨w1, k1, rr1⟩ := r1.get g1
      obtain ⟨w2, k2, rr2⟩ := r2.get g2
      have e1 : its.toArray[j] = w1 := by
        have := List.getElem?_eq_some_iff.mp k1
        obtain ⟨_, this⟩ := this
        simpa using this
      have e2 : jts.toArray[j] = w2 := by
        have := List.getElem?_eq_some_iff.mp k2
        obtain ⟨_, this⟩ := this
        simpa using this
      rw [e1, e2]
      exact hR _ _ _ _ _ (he j _ _ g1 g2) rr1 rr2
theorem EqD.at (I : Inv X pins σ H s) : ∀ (n : Nat) (A : Around) (x y : V) (b : Bool) (u v : Value), A.units + n < cLine → EqD X.K H n x y b → RelV x u → RelV y v → SeqAt.EqAt A s u v b := by
  intro n
  induction n with
  | zero =>
    intro A x y b u v hu h rx ry
    rcases h with ⟨h1, h2, rfl⟩ | ⟨a, rfl, rfl, rfl⟩
    · exact eqAt_V rx ry h1 h2
    · cases rx; cases ry
      exact SeqAt.EqAt.same _
  | succ n ih =>
    intro A x y b u v hu h rx ry
    rcases h with (⟨h1, h2, rfl⟩ | ⟨a, rfl, rfl, rfl⟩) | h
    · exact eqAt_V rx ry h1 h2
    · cases rx; cases ry
      exact SeqAt.EqAt.same _
    · have rc := SeqEq.rc (A := A) I h rx ry (by omega) fun x y b u v hd r1 r2 => ih A.in1 x y b u v (by show A.units + 1 + n < cLine; omega) hd r1 r2
      have refs : ∃ a c, x = .ref a ∧ y = .ref c := by cases h <;> exact ⟨_, _, rfl, rfl⟩
      obtain ⟨a, c, rfl, rfl⟩ := refs
      cases rx; cases ry
      by_cases hac : a = c
      · subst hac
        have hb : b = true := EqD.self (n := n + 1) I (.inr h)
        subst hb
        exact SeqAt.EqAt.same _
      · exact SeqAt.EqAt.of_refs hac rc
def rEqD (K : PySem.W.Frag) (neg : Bool) : R2 := fun x y H Q => ∃ n b, n ≤ 60 ∧ SeqEq K H (EqD K H n) x y b ∧ Q (.bl (if neg then !b else b)) H
theorem op_eqD (hu : X.A.units + 62 < cLine) : OpR X (compareOp .Eq) (rEqD X.K false) := by
  unfold OpR at *
  exact by
    intro pins s σ H x y v u Q I rx ry h
    obtain ⟨n, b, hn, he, q⟩ := h
    exact SeqEq.rc (A := X.A) I he rx ry (by omega) (fun x y b u v hd r1 r2 => EqD.at I n X.A.in1 x y b u v (by show X.A.units + 1 + n < cLine; omega) hd r1 r2) X.prog X.w _ _ (fin_bl I q rfl)
theorem op_neD (hu : X.A.units + 62 < cLine) : OpR X (compareOp .NotEq) (rEqD X.K true) := by
  unfold OpR at *
  exact by
    intro pins s σ H x y v u Q I rx ry h
    obtain ⟨n, b, hn, he, q⟩ := h
    exact SeqEq.rcNe (A := X.A) I he rx ry (by omega) (fun x y b u v hd r1 r2 => EqD.at I n X.A.in1 x y b u v (by show X.A.units + 1 + n < cLine; omega) hd r1 r2) X.prog X.w _ _ (fin_bl I q rfl)
def eqL : List V → List V → Bool
  | [], [] => true
  | x :: xs, y :: ys => eqV x y && eqL xs ys
  | _, _ => false
end
theorem eqL_range : ∀ {xs ys : List V}, xs.length = ys.length → (List.range xs.length).all (fun i => eqV (xs.getD i .non) (ys.getD i .non)) = eqL xs ys
  | [], [], _ => rfl
  | x :: xs, y :: ys, h => by
    have h' : xs.length = ys.length := by simpa using h
    rw [List.length_cons, List.range_succ_eq_map, List.all_cons, List.all_map, eqL, ← eqL_range h']
    rfl
  | [], _ :: _, h => by simp at h
  | _ :: _, [], h => by simp at h
theorem eqL_len : ∀ {xs ys : List V}, xs.length ≠ ys.length → eqL xs ys = false
  | [], [], h => absurd rfl h
  | x :: xs, y :: ys, h => by
    rw [eqL, eqL_len (xs := xs) (ys := ys) (by simpa using h), Bool.and_false]
  | [], _ :: _, _ => rfl
  | _ :: _, [], _ => rfl
theorem SeqEq.flatL {K : PySem.W.Frag} {H : Hp} {n : Nat} {a b : Addr} {xs ys : List V} (ha : SqL K H a xs) (hb : SqL K H b ys) (fx : xs.all flatV = true) (fy : ys.all flatV = true) : SeqEq K H (EqD K H n) (.ref a) (.ref b) (eqL xs ys) := by
  by_cases hl : xs.length = ys.length
  · rw [← eqL_range hl]
    refine .list ha hb hl fun i x y hx hy => ?_
    have q : (flatV x = true ∧ flatV y = true ∧ eqV (xs.getD i .non) (ys.getD i .non) = eqV x y) := by
      refine ⟨List.all_eq_true.mp fx x (List.mem_of_getElem? hx), List.all_eq_true.mp fy y (List.mem_of_getElem? hy), ?_⟩
      rw [List.getD_eq_getElem?_getD, List.getD_eq_getElem?_getD, hx, hy]
      rfl
    cases n with
    | zero => exact .inl q
    | succ n => exact .inl (.inl q)
  · rw [eqL_len hl]
    exact .listN ha hb hl
theorem SeqEq.flatT {K : PySem.W.Frag} {H : Hp} {n : Nat} {a b : Addr} {xs ys : List V} (ha : SqT K H a xs) (hb : SqT K H b ys) (hl : xs.length = ys.length) (fx : xs.all flatV = true) (fy : ys.all flatV = true) : SeqEq K H (EqD K H n) (.ref a) (.ref b) (eqL xs ys) := by
  have q := SeqEq.tup (K := K) (H := H) (R := EqD K H n) (e := fun i => eqV (xs.getD i .non) (ys.getD i .non)) ha hb fun i x y hx hy => ?_
  · rw [← hl, Nat.min_self, eqL_range hl] at q
    simpa using q
  · have q : (flatV x = true ∧ flatV y = true ∧ eqV (xs.getD i .non) (ys.getD i .non) = eqV x y) := by
      refine ⟨List.all_eq_true.mp fx x (List.mem_of_getElem? hx), List.all_eq_true.mp fy y (List.mem_of_getElem? hy), ?_⟩
      rw [List.getD_eq_getElem?_getD, List.getD_eq_getElem?_getD, hx, hy]
      rfl
    cases n with
    | zero => exact .inl q
    | succ n => exact .inl (.inl q)
end L2
namespace L2
open PySem PySem.Spec PyProof.Rows
end L2
namespace L2
open PySem PySem.Spec PyProof.Rows
def strKeysB (es : Array DictEntry) : Bool := es.all fun e => match e.key with | .str _ _ => true | _ => false
theorem strKeys_of {es : Array DictEntry} (h : strKeysB es = true) : StrKeys es := by
  intro e he
  have q := Array.all_eq_true_iff_forall_mem.mp h e he
  split at q
  · rename_i n t hk
    exact ⟨n, t, hk⟩
  · cases q
theorem XCls.mk2 {K : PySem.W.Frag} {C N A : Addr} {nm q : Str} {bs : List Value} {hdct : Bool} {sn : List Str} {sub : List Value} {ab : Bool} {col : Option Bool} {dd : Option Addr} {k0 k1 k2 k3 k5 : Option Value} {es : Array DictEntry} {c d ep sl}
    {c0 : Value} {dd' : Option Addr} {cd : ClassData} {sl0 : Array (Option Value)} {es' : Array DictEntry} {c' d' ep' sl'}
    (l : K.lookup C = some (excClassObj nm q C N bs (.ref A :: vmro) hdct sn sub ab col dd k0 k1 k2 k3 k5 "ValueError.__new__")) (ln : K.lookup N = some ⟨c, d, .dict es ep, sl⟩) (sk : strKeysB es = true) (ni : nsFind es "__init__" = none)
    (la : K.lookup A = some { cls := c0, dict := dd', data := .cls cd, slots := sl0 }) (lna : K.lookup cd.ns = some ⟨c', d', .dict es' ep', sl'⟩) (ska : strKeysB es' = true) (nia : nsFind es' "__init__" = none) : XCls K C :=
  ⟨nm, q, N, bs, _, hdct, sn, sub, ab, col, dd, k0, k1, k2, k3, k5, es, l, ⟨c, d, ep, sl, ln, strKeys_of sk⟩, ni, .own la ⟨c', d', ep', sl', lna, strKeys_of ska⟩ nia .base⟩
theorem hu62 {A : Around} {k : Nat} (hr : Room k A) : A.units + 62 < cLine := by have := hr.un; omega
theorem cap_nil {X : Cx} {scope : Scope} {N' : List Str} {js : List (Option Nat)} (hl : js.length = N'.length) (h : js.all Option.isNone = true) : Cap X scope N' js :=
  ⟨hl, fun i j x h1 _ => by
    have q := List.all_eq_true.mp h _ (List.mem_of_getElem? h1)
    cases q⟩
theorem free_nil {X : Cx} {scope : Scope} (h : (scope.names.all fun y => match y.2 with | .free => false | _ => true) = true) : ∀ y ∈ scope.names, y.2 = .free → (X.env.kindOf y.1 = some .cell ∨ X.env.kindOf y.1 = some .free) := fun y hy e => by
  have q := List.all_eq_true.mp h y hy
  rw [e] at q
  cases q
theorem rIsiA.exc {K : PySem.W.Frag} {H : Hp} {e C c : Addr} {b : Bool} {Q : VK} (h : H e = some (exO (.ref C) none e)) (q : XAsk K C) (k : PySem.W.kitOne K (.ref C) (.ref c) = some b) (hQ : Q (.bl b) H) : rIsiA K [.ref e, .ref c] H Q :=
  .inr ⟨e, .ref c, .ref c, C, b, rfl, .own c, h, q, k, hQ⟩
theorem rIsiA.excT {K : PySem.W.Frag} {H : Hp} {e C : Addr} {c : String} {b : Bool} {Q : VK} (h : H e = some (exO (.ref C) none e)) (q : XAsk K C) (k : PySem.W.kitOne K (.ref C) (.type c) = some b) (hQ : Q (.bl b) H) : rIsiA K [.ref e, .ty c] H Q :=
  .inr ⟨e, .ty c, .type c, C, b, rfl, .ty c, h, q, k, hQ⟩
theorem passE0 {P : Program} {w : World} {X : Cx} : PassesS (CXx P w) X (fun _ => E0) := by
  intro pins σ H s e s' I h
  obtain ⟨_, _, _, _, _, _, _, _, _, _, _, _, _, _, _, _, _, h⟩ := h
  exact h.elim
end L2
namespace L2
open PySem PySem.Spec PyProof.Rows
structure FunD (K : PySem.W.Frag) (x qual : Str) (st : Stmt) (dV : Value) (f : Addr) (fd : FuncData) : Prop where
  ex : ∃ (oc : Value) (od : Option Addr) (kV doc pm : Value) (an : Option Addr) (cdv ct : Value) (osl : Array (Option Value)),
    fd = PySem.W.fnOf x qual (defArgs st) (defBody st) (defScope st) dV kV doc pm an cdv ct ∧ K.lookup f = some ⟨oc, od, .func fd, osl⟩ ∧ PySem.W.codeIn K cdv qual = true
  kp : PySem.W.keepIn K (.ref f) = true
theorem FunD.okx {P : Program} {w : World} {K : PySem.W.Frag} {mg : Str → Option Value} {base : Heap} {x qual : Str} {st : Stmt} {dV : Value} {f : Addr} {fd : FuncData} {N ps : List Str} {k : Nat} {sp : Sp} (F : FunD K x qual st dV f fd) (S : FnScope N ps (defScope st)) (len : ∀ vs H Q E, sp vs H Q E → vs.length = ps.length)
    (hbody : ∀ (cdv : Value) (A : Around) (outer : List Env) (s : Shared) (H : Hp) (vs : List V) (Q : VK) (E : XK), Room k (A.deeper (envOfC qual (defScope st) s.heap.objs.size f cdv)) → sp vs H Q E →
      ∃ t, PSs (cxOf (CXx P w) P w K mg base N qual (defScope st) f cdv A outer s H E) (defBody st) t ∧ t { nx := fun _ H' => Q .non H', rt := Q } (start N vs) H) : FnOk P w K mg base (CXx P w) (k + 1) f fd ps sp := by
  obtain ⟨oc, od, kV, doc, pm, an, cdv, ct, osl, rfl, lk, hcd⟩ := F.ex
  exact fn_of lk hcd S len fun A outer s H vs Q E hr hsp => hbody cdv A outer s H vs Q E hr hsp
section
variable {X : Cx} {CX : CXT} {k : Nat} {f C : Addr} {fd : FuncData} {ps ks : List Str} {sp : Sp} {Ez : St → XK} {x : Str} {p pos : Pos} {e : Expr} {es : List Expr} {kws : List Keyword} {t tk : TA} {na : Nat} {g : List Value → List Value → List Value} {gV : List V → List V → List V}
end
theorem free_of {X : Cx} {scope : Scope} (l : List Str) (h : (scope.names.all fun y => match y.2 with | .free => l.contains y.1 | _ => true) = true) (hl : ∀ x ∈ l, X.env.kindOf x = some .cell ∨ X.env.kindOf x = some .free) :
    ∀ y ∈ scope.names, y.2 = .free → (X.env.kindOf y.1 = some .cell ∨ X.env.kindOf y.1 = some .free) := fun y hy e => by
  have q := List.all_eq_true.mp h y hy
  rw [e] at q
  exact hl _ (List.contains_iff_mem.mp q)
def tCut (t u : TS) : TS := fun D σ H => ∃ Mid : St → Hp → Prop, t { D with nx := Mid } σ H ∧ ∀ σ' H', Mid σ' H' → u D σ' H'
theorem pss_cut {X : Cx} {st : Stmt} {rest : List Stmt} {t u : TS} (h1 : PS X st t) (h2 : PSs X rest u) : PSs X (st :: rest) (tCut t u) := by
  unfold PS at *; unfold PSs at *
  exact by
    intro pins s σ H D I h
    obtain ⟨Mid, h, hm⟩ := h
    refine wpAny_execs_cons (thn (h1 pins s σ H { D with nx := Mid } I h) fun f s1 q => ?_)
    cases f with
    | next =>
      obtain ⟨σ', H', I', q⟩ := q
      exact h2 pins s1 σ' H' D I' (hm σ' H' q)
    | ret v => exact q
    | brk => exact q
    | cont => exact q
theorem lenS {α : Type} {n : Nat} : ∀ {us : List α}, us.length = n + 1 → ∃ a r, us = a :: r ∧ r.length = n
  | a :: r, h => ⟨a, r, rfl, by simpa using h⟩
theorem len0 {α : Type} : ∀ {us : List α}, us.length = 0 → us = []
  | [], _ => rfl
theorem fm_nil {α : Type} {p : α → Prop} : ∀ x ∈ ([] : List α), p x := fun _ h => nomatch h
theorem fm_cons {α : Type} {p : α → Prop} {a : α} {l : List α} (h : p a) (r : ∀ x ∈ l, p x) : ∀ x ∈ a :: l, p x := fun x hx => by
  rcases List.mem_cons.mp hx with e | e
  · subst e; exact h
  · exact r x e
theorem cap_of {X : Cx} {scope : Scope} {N' : List Str} {js : List (Option Nat)} (hl : js.length = N'.length)
    (h : ∀ p ∈ js.zip N', ∀ j, p.1 = some j → X.N[j]? = some p.2 ∧ scope.names.lookup p.2 = some .free ∧ (X.env.kindOf p.2 = some .cell ∨ X.env.kindOf p.2 = some .free)) : Cap X scope N' js :=
  ⟨hl, fun i j x h1 h2 => h (some j, x) (List.mem_of_getElem? (i := i) (by rw [List.getElem?_zip_eq_some]; exact ⟨h1, h2⟩)) j rfl⟩
end L2
namespace L2
open PySem PySem.Spec PyProof.Rows
section
variable {X : Cx}
end
end L2
namespace L2
open PySem PySem.Spec PyProof.Rows
section
variable {X : Cx}
theorem ints_are : ∀ {ns : List Int} {us : List Value}, Vals (ns.map V.int) us → IntsAre us ns
  | [], _, .nil => .nil
  | _ :: _, _, .cons ⟨_, h⟩ r => by
    subst h
    exact .cons _ _ (ints_are r)
theorem ints_vals : ∀ {ns : List Int} {us : List Value}, IntsAre us ns → Vals (ns.map V.int) us
  | [], _, .nil => .nil
  | _ :: _, _, .cons _ _ r => .cons ⟨_, rfl⟩ (ints_vals r)
theorem call_sorted (hc : X.calm = true) : CallR X (.builtin "sorted") (fun xs H Q => ∃ (a : Addr) (ns : List Int), xs = [.ref a] ∧ SqL X.K H a (ns.map V.int) ∧ ns.length < 64 ∧
    ∀ (l : Addr) (ms : List Int), H l = none → ms.Perm ns → ms.Pairwise (· ≤ ·) → Q (.ref l) (upd H l (.lst (ms.map V.int)))) := by
  unfold CallR at *
  exact by
    intro pins s σ H xs us Q I r h
    obtain ⟨a, ns, rfl, hq, hl, q⟩ := h
    obtain ⟨u, rfl, rx⟩ := vals1 r
    cases rx
    obtain ⟨its, r', pl, hz⟩ := I.list hq
    have hlen := r'.length
    rw [List.length_map] at hlen
    refine sorted_ints pl.isList (ints_are r') (by omega) fun out ns' a1 a2 a3 => ?_
    obtain ⟨e, he⟩ := sortedAll_at s.heap its out
    have hn := a2.length_eq
    have h64 : 64 ≤ sizeLine := le_ble rfl
    exact ⟨.ref (s.heap.objs.size + 1), _, I.laid (t' := s.toks) (fun _ _ => sortedAll_old) (Nat.le_succ _) (show ObjOk X.prog X.w _ _ _ (.lst (ns'.map V.int)) from ⟨by rw [List.length_map]; omega, out.toList, e, ints_vals a1, he⟩), rfl, q _ _ (I.hok.fresh (Nat.le_succ _)) a2 a3⟩
end
structure CDivB (i j : Int) : Prop where
  lo : 0 < j
  hi : j < 2 ^ 200
theorem own_def {P : Program} {w : World} {K : PySem.W.Frag} {mg : Str → Option Value} {base : Heap} {N : List Str} {qual : Str} {scope : Scope} {f : Addr} {cd : Value} {A : Around} {outer : List Env} {s₀ : Shared} {H₀ : Hp} {E : XK} {CX : CXT} :
    PassesOwn (model P w) (cxOf CX P w K mg base N qual scope f cd A outer s₀ H₀ E).A (cxOf CX P w K mg base N qual scope f cd A outer s₀ H₀ E).env (cxOf CX P w K mg base N qual scope f cd A outer s₀ H₀ E).xe := PassesOwn.leaving
theorem MtM.r {X : Cx} {id : String} {r : V → List V → Hp → VK → Prop} (h : MtM X id r) : MtR X id r := by
  first
  | exact (h)
  | (unfold MtR at *; unfold MtM at *; exact (h))
theorem bt_sorted : bootBuiltins "sorted" = some (.builtin "sorted") := by decide +kernel
end L2
namespace L2
open PySem PySem.Spec PyProof.Rows
theorem loop_lst {K : PySem.W.Frag} {a l : Addr} {xs : List V} {g : TG} {tc : TT} {te : TE} {σ : St} {H : Hp} {Q : VK} (Pv : Nat → St → List V → Hp → Prop) (hsz : xs.length ≤ sizeLine) (h0 : Pv 0 σ [] H)
    (hl : ∀ i σ acc H, i ≤ xs.length → Pv i σ acc H → H l = some (.lst acc) ∧ SqL K H a xs ∧ acc.length ≤ i)
    (hs : ∀ i x σ acc H, xs[i]? = some x → Pv i σ acc H → g x σ H fun σ2 H2 => tc σ2 H2 fun b H3 => if b = true then
      te σ2 H3 fun v H4 => H4 l = some (.lst acc) ∧ Nx xs.length i (Pv (i + 1) σ2 (acc ++ [v]) (upd H4 l (.lst (acc ++ [v])))) else Nx xs.length i (Pv (i + 1) σ2 acc H3))
    (hd : ∀ σ acc H, Pv xs.length σ acc H → Q (.ref l) H) : tLoop (Itl K a) l g tc te σ H Q :=
  loop_by xs.length Pv hsz h0 (fun i σ acc H hi p => ⟨(hl i σ acc H hi p).1, (hl i σ acc H hi p).2.2⟩)
    (fun i σ acc H hi p => ⟨xs, xs[i], (hl i σ acc H (Nat.le_of_lt hi) p).2.1, List.getElem?_eq_getElem hi⟩)
    (fun i x σ acc H H' hi p y => by
      obtain ⟨e, y⟩ := y
      subst e
      exact hs i x σ acc _ (y xs (hl i σ acc _ (Nat.le_of_lt hi) p).2.1) p)
    (fun σ acc H p => ⟨⟨xs, (hl _ σ acc H (Nat.le_refl _) p).2.1, Nat.le_refl _⟩, hd σ acc H p⟩)
def Tr : Nat → Type
  | 0 => Int
  | n + 1 => List (Tr n)
abbrev ls {n : Nat} (ts : Tr (n + 1)) : List (Tr n) := ts
abbrev Ow := Addr → Option (List Nat)
def AtR (H : Hp) : (n : Nat) → V → Tr n → Prop
  | 0, v, i => v = .int i
  | n + 1, v, ts => ∃ a vs, v = .ref a ∧ H a = some (.lst vs) ∧ vs.length = (ls ts).length ∧ ∀ (j : Nat) w t, vs[j]? = some w → (ls ts)[j]? = some t → AtR H n w t
def At (o : Ow) (H : Hp) : (n : Nat) → List Nat → V → Tr n → Prop
  | 0, _, v, i => v = .int i
  | n + 1, p, v, ts => ∃ a vs, v = .ref a ∧ o a = some p ∧ H a = some (.lst vs) ∧ vs.length = (ls ts).length ∧ ∀ (j : Nat) w t, vs[j]? = some w → (ls ts)[j]? = some t → At o H n (j :: p) w t
theorem At.r {o : Ow} {H : Hp} : ∀ {n : Nat} {p : List Nat} {v : V} {t : Tr n}, At o H n p v t → AtR H n v t
  | 0, _, _, _, h => h
  | n + 1, _, _, _, ⟨a, vs, e, _, h, l, k⟩ => ⟨a, vs, e, h, l, fun j w t hw ht => (k j w t hw ht).r⟩
theorem AtR.keep {H H' : Hp} (s : ∀ a xs, H a = some (.lst xs) → H' a = some (.lst xs)) : ∀ {n : Nat} {v : V} {t : Tr n}, AtR H n v t → AtR H' n v t
  | 0, _, _, h => h
  | n + 1, _, _, ⟨a, vs, e, h, l, k⟩ => ⟨a, vs, e, s _ _ h, l, fun j w t hw ht => (k j w t hw ht).keep s⟩
theorem AtR.same {H H' : Hp} (s : Same H H') {n : Nat} {v : V} {t : Tr n} (h : AtR H n v t) : AtR H' n v t := h.keep fun a xs e => s a _ e
theorem At.frame {o o' : Ow} {H H' : Hp} : ∀ {n : Nat} {p : List Nat} {v : V} {t : Tr n}, At o H n p v t → (∀ a r xs, o a = some r → p <:+ r → H a = some (.lst xs) → H' a = some (.lst xs) ∧ o' a = some r) → At o' H' n p v t
  | 0, _, _, _, h, _ => h
  | n + 1, p, _, _, ⟨a, vs, e, ho, h, l, k⟩, f =>
    have q := f a p vs ho (List.suffix_refl p) h
    ⟨a, vs, e, q.2, q.1, l, fun j w t hw ht => (k j w t hw ht).frame fun b r xs hb hs hx => f b r xs hb ((List.suffix_cons j p).trans hs) hx⟩
theorem At.under {o : Ow} {H : Hp} (q : List Nat) : ∀ {n : Nat} {p : List Nat} {v : V} {t : Tr n}, At o H n p v t → At (fun a => (o a).map (· ++ q)) H n (p ++ q) v t
  | 0, _, _, _, h => h
  | n + 1, p, _, _, ⟨a, vs, e, ho, h, l, k⟩ => ⟨a, vs, e, (by show (o a).map (· ++ q) = _; rw [ho]; rfl), h, l, fun j w t hw ht => (k j w t hw ht).under q⟩
theorem cons_not_suffix {j : Nat} {p : List Nat} : ¬ (j :: p) <:+ p := fun h => by
  have := h.length_le
  rw [List.length_cons] at this
  omega
theorem cons_ne_suffix {j i : Nat} {p r : List Nat} (h : (j :: p) <:+ r) (h' : (i :: p) <:+ r) : j = i := by
  have e1 : (j :: p) = r.drop (r.length - (j :: p).length) := List.suffix_iff_eq_drop.mp h
  have e2 : (i :: p) = r.drop (r.length - (i :: p).length) := List.suffix_iff_eq_drop.mp h'
  rw [List.length_cons] at e1 e2
  rw [← e2] at e1
  exact (List.cons.inj e1).1
theorem At.app {o o' : Ow} {H H' : Hp} {n : Nat} {p : List Nat} {a : Addr} {ts : Tr (n + 1)} {vs : List V} {w : V} {t : Tr n} (h : At o H (n + 1) p (.ref a) ts) (hv : H a = some (.lst vs)) (hf : ∀ b r xs, o b = some r → b ≠ a → H b = some (.lst xs) → H' b = some (.lst xs))
    (ho : ∀ b r, o b = some r → o' b = some r) (e : H' a = some (.lst (vs ++ [w]))) (hw : At o' H' n ((ls ts).length :: p) w t) : At o' H' (n + 1) p (.ref a) (ls ts ++ [t] : List (Tr n)) := by
  obtain ⟨a', vs', ea, ho', h', l, k⟩ := h
  cases ea
  rw [hv] at h'
  cases h'
  refine ⟨a, _, rfl, ho _ _ ho', e, by show (vs ++ [w]).length = (ls ts ++ [t]).length; rw [List.length_append, List.length_append, l]; rfl, fun j x u hx hu => ?_⟩
  have hu : (ls ts ++ [t])[j]? = some u := hu
  rcases Nat.lt_trichotomy j vs.length with q | q | q
  · rw [List.getElem?_append_left q] at hx
    rw [List.getElem?_append_left (by omega)] at hu
    refine (k j x u hx hu).frame fun b r xs hb hs hx => ?_
    have hne : b ≠ a := fun z => by
      subst z
      rw [ho'] at hb
      cases hb
      exact cons_not_suffix hs
    exact ⟨hf b r xs hb hne hx, ho b r hb⟩
  · subst q
    rw [List.getElem?_append_right (Nat.le_refl _), Nat.sub_self] at hx
    rw [List.getElem?_append_right (by omega), show vs.length - (ls ts).length = 0 by omega] at hu
    cases hx
    cases hu
    rw [l]
    exact hw
  · rw [List.getElem?_append_right (by omega)] at hx
    have : [w].length ≤ j - vs.length := by rw [List.length_singleton]; omega
    rw [List.getElem?_eq_none this] at hx
    cases hx
theorem At.put {o o' : Ow} {H H' : Hp} {n : Nat} {p : List Nat} {a : Addr} {ts : Tr (n + 1)} {vs : List V} {i : Nat} {w : V} {t : Tr n} (h : At o H (n + 1) p (.ref a) ts) (hv : H a = some (.lst vs)) (hi : i < vs.length)
    (hf : ∀ b r xs, o b = some r → b ≠ a → ¬ (i :: p) <:+ r → H b = some (.lst xs) → H' b = some (.lst xs)) (ho : ∀ b r, o b = some r → ¬ (i :: p) <:+ r → o' b = some r)
    (e : H' a = some (.lst (vs.set i w))) (hw : At o' H' n (i :: p) w t) : At o' H' (n + 1) p (.ref a) ((ls ts).set i t : List (Tr n)) := by
  obtain ⟨a', vs', ea, ho', h', l, k⟩ := h
  cases ea
  rw [hv] at h'
  cases h'
  refine ⟨a, _, rfl, ho _ _ ho' cons_not_suffix, e, by show (vs.set i w).length = ((ls ts).set i t).length; rw [List.length_set, List.length_set, l], fun j x u hx hu => ?_⟩
  have hu : ((ls ts).set i t)[j]? = some u := hu
  by_cases q : i = j
  · subst q
    rw [List.getElem?_set_self (by omega)] at hx
    rw [List.getElem?_set_self (by omega)] at hu
    cases hx
    cases hu
    exact hw
  · rw [List.getElem?_set_ne q] at hx hu
    refine (k j x u hx hu).frame fun b r xs hb hs hx => ?_
    have hne : b ≠ a := fun z => by
      subst z
      rw [ho'] at hb
      cases hb
      exact cons_not_suffix hs
    have hni : ¬ (i :: p) <:+ r := fun z => q (cons_ne_suffix z hs)
    exact ⟨hf b r xs hb hne hni hx, ho b r hb hni⟩
theorem At.lst {o : Ow} {H : Hp} {n : Nat} {p : List Nat} {v : V} {ts : Tr (n + 1)} (h : At o H (n + 1) p v ts) : ∃ a vs, v = .ref a ∧ o a = some p ∧ H a = some (.lst vs) ∧ vs.length = (ls ts).length :=
  let ⟨a, vs, e, ho, h, l, _⟩ := h
  ⟨a, vs, e, ho, h, l⟩
theorem At.kid {o : Ow} {H : Hp} {n : Nat} {p : List Nat} {a : Addr} {ts : Tr (n + 1)} {vs : List V} {j : Nat} (h : At o H (n + 1) p (.ref a) ts) (hv : H a = some (.lst vs)) (hj : j < vs.length) : ∃ w t, vs[j]? = some w ∧ (ls ts)[j]? = some t ∧ At o H n (j :: p) w t := by
  obtain ⟨a', vs', ea, ho', h', l, k⟩ := h
  cases ea
  rw [hv] at h'
  cases h'
  have h1 : vs[j]? = some vs[j] := List.getElem?_eq_getElem hj
  have hj' : j < (ls ts).length := by omega
  have h2 : (ls ts)[j]? = some (ls ts)[j] := List.getElem?_eq_getElem hj'
  exact ⟨_, _, h1, h2, k j _ _ h1 h2⟩
theorem AtR.kid {H : Hp} {n : Nat} {a : Addr} {ts : Tr (n + 1)} {vs : List V} {j : Nat} (h : AtR H (n + 1) (.ref a) ts) (hv : H a = some (.lst vs)) (hj : j < vs.length) : ∃ w t, vs[j]? = some w ∧ (ls ts)[j]? = some t ∧ AtR H n w t := by
  obtain ⟨a', vs', ea, h', l, k⟩ := h
  cases ea
  rw [hv] at h'
  cases h'
  have h1 : vs[j]? = some vs[j] := List.getElem?_eq_getElem hj
  have hj' : j < (ls ts).length := by omega
  have h2 : (ls ts)[j]? = some (ls ts)[j] := List.getElem?_eq_getElem hj'
  exact ⟨_, _, h1, h2, k j _ _ h1 h2⟩
theorem AtR.lst {H : Hp} {n : Nat} {v : V} {ts : Tr (n + 1)} (h : AtR H (n + 1) v ts) : ∃ a vs, v = .ref a ∧ H a = some (.lst vs) ∧ vs.length = (ls ts).length :=
  let ⟨a, vs, e, h, l, _⟩ := h
  ⟨a, vs, e, h, l⟩
def New (H H' : Hp) (n : Nat) (w : V) (t : Tr n) : Prop := ∃ o, At o H' n [] w t ∧ ∀ a r, o a = some r → H a = none ∧ H' a ≠ none
def NewL (H H' : Hp) (l : Addr) (n : Nat) (ws : List V) (ts : List (Tr n)) : Prop :=
  ws.length = ts.length ∧ ∃ o : Ow, (∀ (j : Nat) w t, ws[j]? = some w → ts[j]? = some t → At o H' n [j] w t) ∧ ∀ a r, o a = some r → H a = none ∧ H' a ≠ none ∧ a ≠ l ∧ r ≠ []
theorem New.r {H H' : Hp} {n : Nat} {w : V} {t : Tr n} (h : New H H' n w t) : AtR H' n w t := let ⟨_, h, _⟩ := h; h.r
theorem NewL.nil {H H' : Hp} {l : Addr} {n : Nat} : NewL H H' l n [] [] := ⟨rfl, fun _ => none, fun j w t h => (by rw [List.getElem?_nil] at h; cases h), fun a r h => nomatch h⟩
theorem NewL.frame {H H' H'' : Hp} {l : Addr} {n : Nat} {ws : List V} {ts : List (Tr n)} (h : NewL H H' l n ws ts) (f : ∀ a xs, a ≠ l → H a = none → H' a = some (.lst xs) → H'' a = some (.lst xs)) (g : ∀ a, H' a ≠ none → H'' a ≠ none) : NewL H H'' l n ws ts := by
  obtain ⟨e, o, k, d⟩ := h
  exact ⟨e, o, fun j w t hw ht => (k j w t hw ht).frame fun a r xs ho _ hx => ⟨f a xs (d a r ho).2.2.1 (d a r ho).1 hx, ho⟩, fun a r ho => ⟨(d a r ho).1, g a (d a r ho).2.1, (d a r ho).2.2⟩⟩
theorem New.frame {H H' H'' : Hp} {n : Nat} {w : V} {t : Tr n} (h : New H H' n w t) (f : ∀ a xs, H a = none → H' a = some (.lst xs) → H'' a = some (.lst xs)) (g : ∀ a, H' a ≠ none → H'' a ≠ none) : New H H'' n w t := by
  obtain ⟨o, k, d⟩ := h
  exact ⟨o, k.frame fun a r xs ho _ hx => ⟨f a xs (d a r ho).1 hx, ho⟩, fun a r ho => ⟨(d a r ho).1, g a (d a r ho).2⟩⟩
theorem New.same {H H' H'' : Hp} {n : Nat} {w : V} {t : Tr n} (h : New H H' n w t) (s : Same H' H'') : New H H'' n w t := h.frame (fun a xs _ e => s a _ e) fun a e => by
  cases q : H' a with
  | none => exact absurd q e
  | some u => rw [s a u q]; intro z; cases z
theorem New.older {H0 H H' : Hp} {n : Nat} {w : V} {t : Tr n} (h : New H H' n w t) (s : Same H0 H) : New H0 H' n w t := by
  obtain ⟨o, k, d⟩ := h
  exact ⟨o, k, fun a r ho => ⟨s.free (d a r ho).1, (d a r ho).2⟩⟩
theorem New.int {H H' : Hp} {i : Int} : New H H' 0 (.int i) i := ⟨fun _ => none, rfl, fun a r h => nomatch h⟩
theorem NewL.snoc {H H' H'' : Hp} {l : Addr} {n : Nat} {ws : List V} {ts : List (Tr n)} {w : V} {t : Tr n} (h : NewL H H' l n ws ts) (hl : H' l ≠ none) (fr : ∀ a, H' a = none → H a = none) (f : ∀ a xs, a ≠ l → H a = none → H' a = some (.lst xs) → H'' a = some (.lst xs)) (g : ∀ a, H' a ≠ none → H'' a ≠ none)
    (hn : New H' H'' n w t) : NewL H H'' l n (ws ++ [w]) (ts ++ [t]) := by
  obtain ⟨e, o, k, d⟩ := h
  obtain ⟨o2, k2, d2⟩ := hn
  have old : ∀ a r, o a = some r → o2 a = none := fun a r ho => by
    cases q : o2 a with
    | none => rfl
    | some r2 => exact absurd (d2 a r2 q).1 (d a r ho).2.1
  refine ⟨by rw [List.length_append, List.length_append, e]; rfl, fun a => match o2 a with | some r => some (r ++ [ws.length]) | none => o a, fun j x u hx hu => ?_, fun a r hr => ?_⟩
  · rcases Nat.lt_trichotomy j ws.length with q | q | q
    · rw [List.getElem?_append_left q] at hx
      rw [List.getElem?_append_left (by omega)] at hu
      refine (k j x u hx hu).frame fun a r xs ho _ hx => ⟨f a xs (d a r ho).2.2.1 (d a r ho).1 hx, ?_⟩
      show (match o2 a with | some r => some (r ++ [ws.length]) | none => o a) = some r
      rw [old a r ho]
      exact ho
    · subst q
      rw [List.getElem?_append_right (Nat.le_refl _), Nat.sub_self] at hx
      rw [List.getElem?_append_right (by omega), show ws.length - ts.length = 0 by omega] at hu
      cases hx
      cases hu
      refine (k2.under [ws.length]).frame fun a r xs ho _ hx => ⟨hx, ?_⟩
      show (match o2 a with | some r => some (r ++ [ws.length]) | none => o a) = some r
      cases q : o2 a with
      | none => rw [q] at ho; cases ho
      | some r2 => rw [q] at ho; exact ho
    · rw [List.getElem?_append_right (by omega)] at hx
      have : [w].length ≤ j - ws.length := by rw [List.length_singleton]; omega
      rw [List.getElem?_eq_none this] at hx
      cases hx
  · have hr : (match o2 a with | some r => some (r ++ [ws.length]) | none => o a) = some r := hr
    cases q : o2 a with
    | none =>
      rw [q] at hr
      exact ⟨(d a r hr).1, g a (d a r hr).2.1, (d a r hr).2.2⟩
    | some r2 =>
      rw [q] at hr
      cases hr
      refine ⟨fr a (d2 a r2 q).1, (d2 a r2 q).2, fun z => ?_, fun z => ?_⟩
      · subst z
        exact hl (d2 a r2 q).1
      · have := congrArg List.length z
        rw [List.length_append] at this
        simp at this
theorem NewL.done {H H' : Hp} {l : Addr} {n : Nat} {ws : List V} {ts : List (Tr n)} (h : NewL H H' l n ws ts) (hl : H l = none) (e : H' l = some (.lst ws)) : New H H' (n + 1) (.ref l) ts := by
  obtain ⟨el, o, k, d⟩ := h
  have nl : o l = none := by
    cases q : o l with
    | none => rfl
    | some r => exact absurd rfl (d l r q).2.2.1
  refine ⟨fun a => if a = l then some [] else o a, ⟨l, ws, rfl, if_pos rfl, e, el, fun j w t hw ht => (k j w t hw ht).frame fun a r xs ho _ hx => ⟨hx, ?_⟩⟩, fun a r hr => ?_⟩
  · show (if a = l then some [] else o a) = some r
    rw [if_neg (d a r ho).2.2.1]
    exact ho
  · have hr : (if a = l then some [] else o a) = some r := hr
    by_cases q : a = l
    · subst q
      exact ⟨hl, by rw [e]; intro z; cases z⟩
    · rw [if_neg q] at hr
      exact ⟨(d a r hr).1, (d a r hr).2.1⟩
def flat : (n : Nat) → Tr n → List Int
  | 0, i => [i]
  | n + 1, ts => (ls ts).flatMap (flat n)
def full : (n : Nat) → Tr n → Prop
  | 0, _ => True
  | n + 1, ts => ls ts ≠ [] ∧ ∀ t ∈ ls ts, full n t
def asc : (n : Nat) → Tr n → Prop
  | 0, _ => True
  | 1, f => List.Pairwise (α := Int) (· < ·) f
  | n + 2, ts => ∀ t ∈ ls ts, asc (n + 1) t
theorem flat_ints (f : Tr 1) : flat 1 f = (f : List Int) := by
  show List.flatMap (fun i => [i]) (f : List Int) = f
  exact List.flatMap_singleton' f
theorem flat_app (n : Nat) (ts us : List (Tr n)) : flat (n + 1) (ts ++ us : List (Tr n)) = flat (n + 1) ts ++ flat (n + 1) us := List.flatMap_append
theorem flat_set (n : Nat) : ∀ (ts : List (Tr n)) (i : Nat) (t t' : Tr n) (s : Int), ts[i]? = some t → (flat n t').Perm (flat n t ++ [s]) → (flat (n + 1) (ts.set i t' : List (Tr n))).Perm (flat (n + 1) ts ++ [s])
  | x :: r, 0, t, t', s, h, p => by
    cases h
    show (flat n t' ++ r.flatMap (flat n)).Perm ((flat n x ++ r.flatMap (flat n)) ++ [s])
    refine (p.append_right _).trans ?_
    rw [List.append_assoc, List.append_assoc]
    exact List.Perm.append_left _ List.perm_append_comm
  | x :: r, i + 1, t, t', s, h, p => by
    have := flat_set n r i t t' s h p
    show (flat n x ++ (r.set i t').flatMap (flat n)).Perm ((flat n x ++ r.flatMap (flat n)) ++ [s])
    rw [List.append_assoc]
    exact List.Perm.append_left _ this
theorem full_set {n : Nat} {ts : List (Tr n)} {i : Nat} {t : Tr n} (h : full (n + 1) ts) (ht : full n t) : full (n + 1) (ts.set i t : List (Tr n)) := by
  refine ⟨fun z => h.1 (List.length_eq_zero_iff.mp (by have := congrArg List.length z; rw [List.length_set] at this; exact this)), fun x hx => ?_⟩
  rcases List.mem_or_eq_of_mem_set hx with q | q
  · exact h.2 x q
  · rw [q]; exact ht
theorem full_app {n : Nat} {ts : List (Tr n)} {t : Tr n} (h : full (n + 1) ts) (ht : full n t) : full (n + 1) (ts ++ [t] : List (Tr n)) := by
  refine ⟨List.append_ne_nil_of_right_ne_nil _ (List.cons_ne_nil _ _), fun x hx => ?_⟩
  rcases List.mem_append.mp hx with q | q
  · exact h.2 x q
  · rw [List.mem_singleton.mp q]; exact ht
theorem asc_set {n : Nat} {ts : List (Tr (n + 1))} {i : Nat} {t : Tr (n + 1)} (h : asc (n + 2) ts) (ht : asc (n + 1) t) : asc (n + 2) (ts.set i t : List (Tr (n + 1))) := fun x hx => by
  rcases List.mem_or_eq_of_mem_set hx with q | q
  · exact h x q
  · rw [q]; exact ht
theorem asc_app {n : Nat} {ts : List (Tr (n + 1))} {t : Tr (n + 1)} (h : asc (n + 2) ts) (ht : asc (n + 1) t) : asc (n + 2) (ts ++ [t] : List (Tr (n + 1))) := fun x hx => by
  rcases List.mem_append.mp hx with q | q
  · exact h x q
  · rw [List.mem_singleton.mp q]; exact ht
theorem rIsiA.ty {K : PySem.W.Frag} {H : Hp} {x : V} {n c : String} {b : Bool} {Q : VK} (t : TyOf K H x (.type n)) (k : PySem.W.kitOne K (.type n) (.type c) = some b) (q : Q (.bl b) H) : rIsiA K [x, .ty c] H Q := .inl ⟨x, .ty c, _, _, _, rfl, .ty c, t, k, q⟩
theorem AtR.ints {H : Hp} {a : Addr} {ns : List Int} (h : AtR H 1 (.ref a) ns) : H a = some (.lst (ns.map V.int)) := by
  obtain ⟨a', vs, e, hv, l, k⟩ := h
  cases e
  have l : vs.length = ns.length := l
  have k : ∀ (j : Nat) w (t : Int), vs[j]? = some w → ns[j]? = some t → w = .int t := k
  have ev : vs = ns.map V.int := by
    refine List.ext_getElem? fun j => ?_
    rcases Nat.lt_or_ge j vs.length with q | q
    · have hj : j < ns.length := by omega
      have h1 : vs[j]? = some vs[j] := List.getElem?_eq_getElem q
      have h2 : ns[j]? = some ns[j] := List.getElem?_eq_getElem hj
      rw [h1, List.getElem?_map, h2, k j _ _ h1 h2]
      rfl
    · rw [List.getElem?_eq_none q, List.getElem?_eq_none (by rw [List.length_map]; omega)]
  rw [hv, ev]
theorem New.ints {H H' : Hp} {l : Addr} {ns : List Int} (hl : H l = none) (h : H' l = some (.lst (ns.map V.int))) : New H H' 1 (.ref l) ns :=
  ⟨fun a => if a = l then some [] else none, ⟨l, _, rfl, if_pos rfl, h, List.length_map .., fun j w t hw ht => by
    have ht : ns[j]? = some t := ht
    rw [List.getElem?_map, ht] at hw
    cases hw
    rfl⟩, fun a r hr => by
    have hr : (if a = l then some [] else none) = some r := hr
    by_cases q : a = l
    · subst q
      exact ⟨hl, by rw [h]; intro z; cases z⟩
    · rw [if_neg q] at hr
      cases hr⟩
theorem flat_split {n : Nat} {ts : List (Tr n)} {i : Nat} {t : Tr n} (h : ts[i]? = some t) : flat (n + 1) ts = flat (n + 1) (ts.take i : List (Tr n)) ++ (flat n t ++ flat (n + 1) (ts.drop (i + 1) : List (Tr n))) := by
  have e : ts = ts.take i ++ t :: ts.drop (i + 1) := by
    obtain ⟨hi, rfl⟩ := List.getElem?_eq_some_iff.mp h
    rw [List.getElem_cons_drop hi, List.take_append_drop]
  have e2 := congrArg (fun z : List (Tr n) => flat (n + 1) z) e
  refine Eq.trans e2 ?_
  show flat (n + 1) (ts.take i ++ t :: ts.drop (i + 1) : List (Tr n)) = _
  rw [flat_app]
  rfl
theorem flat_take {n : Nat} {ts : List (Tr n)} {i : Nat} {t : Tr n} (h : ts[i]? = some t) : flat (n + 1) (ts.take (i + 1) : List (Tr n)) = flat (n + 1) (ts.take i : List (Tr n)) ++ flat n t := by
  have e : ts.take (i + 1) = ts.take i ++ [t] := by rw [List.take_succ, h]; rfl
  rw [e, flat_app]
  show _ ++ (flat n t ++ []) = _
  rw [List.append_nil]
theorem flat_mem {n : Nat} {ts : List (Tr n)} {t : Tr n} {s : Int} (h : t ∈ ts) (hs : s ∈ flat n t) : s ∈ flat (n + 1) ts := List.mem_flatMap.mpr ⟨t, h, hs⟩
theorem flat_nd {n : Nat} {ts : List (Tr n)} {i : Nat} {t : Tr n} (h : ts[i]? = some t) (nd : (flat (n + 1) ts).Nodup) : (flat n t).Nodup ∧ ∀ s ∈ flat n t, s ∉ flat (n + 1) (ts.take i : List (Tr n)) := by
  rw [flat_split h, List.nodup_append, List.nodup_append] at nd
  exact ⟨nd.2.1.1, fun s hs z => nd.2.2 s z s (List.mem_append_left _ hs) rfl⟩
theorem flat_len {n : Nat} {ts : List (Tr n)} {i : Nat} {t : Tr n} (h : ts[i]? = some t) : (flat (n + 1) (ts.take i : List (Tr n))).length + (flat n t).length ≤ (flat (n + 1) ts).length := by
  rw [flat_split h, List.length_append, List.length_append]
  omega
def Dom (o : Ow) (H : Hp) : Prop := ∀ b r, o b = some r → H b ≠ none
structure Ext (o o' : Ow) (H H1 : Hp) : Prop where
  old : ∀ b, H b ≠ none → o' b = o b
  new : ∀ b r, o' b = some r → H b = none → H1 b ≠ none
def ovr (H : Hp) (o oN : Ow) (q : List Nat) : Ow := fun b => match H b with | none => (oN b).map (· ++ q) | some _ => o b
theorem New.put {o : Ow} {H H1 : Hp} {n : Nat} {w : V} {t : Tr n} (nw : New H H1 n w t) (q : List Nat) : ∃ o', Ext o o' H H1 ∧ ∀ H2, (∀ b xs, H b = none → H1 b = some (.lst xs) → H2 b = some (.lst xs)) → At o' H2 n q w t := by
  obtain ⟨oN, k, d⟩ := nw
  refine ⟨ovr H o oN q, ⟨fun b hb => ?_, fun b r hr hb => ?_⟩, fun H2 f => ?_⟩
  · unfold ovr
    cases e : H b with
    | none => exact absurd e hb
    | some u => rfl
  · unfold ovr at hr
    rw [hb] at hr
    cases e : oN b with
    | none =>
      have hr : (oN b).map (· ++ q) = some r := hr
      rw [e] at hr
      cases hr
    | some r' => exact (d b r' e).2
  · refine (k.under q).frame fun b r xs hr _ hx => ?_
    have hr : (oN b).map (· ++ q) = some r := hr
    cases e : oN b with
    | none => rw [e] at hr; cases hr
    | some r' =>
      refine ⟨f b xs (d b r' e).1 hx, ?_⟩
      unfold ovr
      rw [(d b r' e).1]
      exact hr
theorem Ext.dom {o o' : Ow} {H H1 : Hp} (x : Ext o o' H H1) (d : Dom o H) : ∀ b r, o b = some r → o' b = some r := fun b r h => by rw [x.old b (d b r h)]; exact h
theorem some_ne {α : Type} {o : Option α} {x : α} (h : o = some x) : o ≠ none := by rw [h]; intro z; cases z
theorem At.appN {o : Ow} {H H1 : Hp} {n : Nat} {p : List Nat} {a : Addr} {ts : Tr (n + 1)} {vs : List V} {w : V} {t : Tr n} (h : At o H (n + 1) p (.ref a) ts) (dm : Dom o H) (hv : H a = some (.lst vs)) (s : Same H H1) (nw : New H H1 n w t) :
    ∃ o', Ext o o' H H1 ∧ At o' (upd H1 a (.lst (vs ++ [w]))) (n + 1) p (.ref a) (ls ts ++ [t] : List (Tr n)) := by
  obtain ⟨o', x, k⟩ := nw.put (o := o) ((ls ts).length :: p)
  refine ⟨o', x, h.app hv (fun b r xs hb nb hx => by rw [upd_ne nb]; exact s b _ hx) (x.dom dm) upd_same (k _ fun b xs hb hx => ?_)⟩
  rw [upd_ne (fun z => by rw [z, hv] at hb; cases hb)]
  exact hx
theorem At.setN {o : Ow} {H H1 : Hp} {n : Nat} {p : List Nat} {a : Addr} {ts : Tr (n + 1)} {vs : List V} {i : Nat} {w : V} {t : Tr n} (h : At o H (n + 1) p (.ref a) ts) (dm : Dom o H) (hv : H a = some (.lst vs)) (hi : i < vs.length) (s : Same H H1) (nw : New H H1 n w t) :
    ∃ o', Ext o o' H H1 ∧ At o' (upd H1 a (.lst (vs.set i w))) (n + 1) p (.ref a) ((ls ts).set i t : List (Tr n)) := by
  obtain ⟨o', x, k⟩ := nw.put (o := o) (i :: p)
  refine ⟨o', x, h.put hv hi (fun b r xs hb nb _ hx => by rw [upd_ne nb]; exact s b _ hx) (fun b r hb _ => x.dom dm b r hb) upd_same (k _ fun b xs hb hx => ?_)⟩
  rw [upd_ne (fun z => by rw [z, hv] at hb; cases hb)]
  exact hx
theorem At.up {o o' : Ow} {H H1 : Hp} {n : Nat} {p pc : List Nat} {a c : Addr} {ts : Tr (n + 1)} {vs ys : List V} {i : Nat} {w : V} {t : Tr n} (h : At o H (n + 1) p (.ref a) ts) (dm : Dom o H) (hv : H a = some (.lst vs)) (hw : vs[i]? = some w) (s : Same H H1) (x : Ext o o' H H1)
    (hc : o c = some pc) (hp : (i :: p) <:+ pc) (k : At o' (upd H1 c (.lst ys)) n (i :: p) w t) : At o' (upd H1 c (.lst ys)) (n + 1) p (.ref a) ((ls ts).set i t : List (Tr n)) := by
  have hi : i < vs.length := (List.getElem?_eq_some_iff.mp hw).1
  have oa : o a = some p := by
    obtain ⟨a', _, e, oa, _⟩ := h
    cases e
    exact oa
  have nac : a ≠ c := fun z => by
    rw [z, hc] at oa
    cases oa
    exact cons_not_suffix hp
  have es : vs.set i w = vs := by
    obtain ⟨hi, rfl⟩ := List.getElem?_eq_some_iff.mp hw
    exact List.set_getElem_self hi
  refine h.put hv hi (fun b r xs hb _ hs hx => ?_) (fun b r hb _ => x.dom dm b r hb) (by rw [upd_ne nac, es]; exact s a _ hv) k
  rw [upd_ne (fun z => by rw [z, hc] at hb; cases hb; exact hs hp)]
  exact s b _ hx
theorem Ext.after {o o' : Ow} {H H1 : Hp} {c : Addr} {u : HO} (x : Ext o o' H H1) (dm : Dom o H) (s : Same H H1) : Dom o' (upd H1 c u) := fun b r hr => by
  by_cases q : b = c
  · rw [q, upd_same]; intro z; cases z
  · rw [upd_ne q]
    cases e : H b with
    | none => exact x.new b r hr e
    | some v => rw [s b v e]; intro z; cases z
end L2
namespace L2
open PySem PySem.Spec PyProof.Rows
def rCatT1 (K : PySem.W.Frag) : R2 := fun x y H Q => ∃ a b xs ys, x = .ref a ∧ y = .ref b ∧ SqT K H a xs ∧ SqT K H b ys ∧ ys ≠ [] ∧ xs.length + ys.length ≤ sizeLine ∧
  (xs = [] → Q (.ref b) H) ∧ (xs ≠ [] → ∀ p, H p = none → Q (.ref p) (upd H p (.tup (xs ++ ys))))
theorem op_catT1 {X : Cx} : OpR X (binaryOp .Add) (rCatT1 X.K) := by
  unfold OpR at *
  exact by
    intro pins s σ H x y v u Q I rx ry h
    obtain ⟨a, b, xs, ys, rfl, rfl, ha, hb, hy, hz, q1, q2⟩ := h
    cases rx
    cases ry
    by_cases hx : xs = []
    · obtain ⟨its, r1, p1, _⟩ := I.tuple ha
      obtain ⟨its2, r2, p2, _⟩ := I.tuple hb
      have hv : its = [] := r1.nil_iff.mpr hx
      obtain ⟨⟨cls, dd, data, sl⟩, ho, hc, n, hd⟩ := id p1
      obtain ⟨⟨cls2, dd2, data2, sl2⟩, ho2, hc2, n2, hd2⟩ := id p2
      simp only at hc hd hc2 hd2
      subst hc hd hc2 hd2
      exact concat_meets ⟨_, ho, rfl⟩ ⟨_, ho2, rfl⟩ noFill_tuple_add seq_tuple_add PySem.F.slot_tuple_add PySem.F.entry_tuple_add (PySem.F.args_tuple_add_2 _ _)
        (tuple_addW0 a b its.toArray its2.toArray n n2 dd dd2 sl sl2 (by simp [hv])) ⟨ho, ho2, ⟨.ref b, H, I, rfl, q1 hx⟩⟩
    · have op := op_catT (X := X)
      unfold OpR at op
      exact op pins s σ H (.ref a) (.ref b) _ _ Q I rfl rfl ⟨a, b, xs, ys, rfl, rfl, ha, hb, hx, hz, fun e => absurd e hy, fun _ => q2 hx⟩
end L2
namespace L2
open PySem PySem.Spec PyProof.Rows
end L2
namespace L2
open PySem PySem.Spec PyProof.Rows
structure IAsk (K : PySem.W.Frag) (C : Addr) : Prop where
  ha : PySem.W.findIn K (.ref C) "__class__" = some (some (.builtin "object.__class__"))
  hn : PySem.W.specialIn K (.builtin "object.__class__") "__get__" = some (some (.builtin "getset_descriptor.__get__"))
  htk : PySem.W.takesIn K (.builtin "object.__class__") = some true
  hm : PySem.W.mroIn K C (.type "object") = some true
theorem rIsiA.ins {K : PySem.W.Frag} {H : Hp} {a C D dx : Addr} {fs : List (Str × V)} {b : Bool} {Q : VK} (h : H a = some (.ins C dx fs)) (cl : Cls K C) (q : IAsk K C) (k : PySem.W.kitOne K (.ref C) (.ref D) = some b) (hQ : Q (.bl b) H) : rIsiA K [.ref a, .ref D] H Q :=
  .inl ⟨.ref a, .ref D, _, _, _, rfl, .own D, .ins h cl q.ha q.hn q.htk q.hm, k, hQ⟩
end L2
namespace L2
open PySem PySem.Spec PyProof.Rows
section
variable {X : Cx}
end
theorem At.relabel {o o' : Ow} {H H' : Hp} {k j : Nat} (f : ∀ b p xs, o b = some (p ++ [k]) → H b = some (.lst xs) → o' b = some (p ++ [j]) ∧ H' b = some (.lst xs)) : ∀ {n : Nat} {q : List Nat} {v : V} {t : Tr n}, At o H n (q ++ [k]) v t → At o' H' n (q ++ [j]) v t
  | 0, _, _, _, h => h
  | n + 1, q, _, _, ⟨a, vs, e, ho, h, l, kd⟩ => ⟨a, vs, e, (f a q vs ho h).1, (f a q vs ho h).2, l, fun i w t hw ht => At.relabel f (q := i :: q) (kd i w t hw ht)⟩
structure Pk {n : Nat} (ws : List V) (ts : List (Tr n)) (i : Nat) (idx : List Nat) (acc : List V) (us : List (Tr n)) : Prop where
  la : acc.length = idx.length
  lu : us.length = idx.length
  lt : ∀ k ∈ idx, k < i
  nd : idx.Nodup
  at_ : ∀ j k : Nat, idx[j]? = some k → acc[j]? = ws[k]? ∧ us[j]? = ts[k]?
theorem Pk.nil {n : Nat} {ws : List V} {ts : List (Tr n)} : Pk ws ts 0 [] [] [] := ⟨rfl, rfl, fun _ h => (nomatch h), List.nodup_nil, fun _ _ h => (by rw [List.getElem?_nil] at h; cases h)⟩
theorem Pk.drop {n : Nat} {ws : List V} {ts : List (Tr n)} {i : Nat} {idx : List Nat} {acc : List V} {us : List (Tr n)} (h : Pk ws ts i idx acc us) : Pk ws ts (i + 1) idx acc us :=
  ⟨h.la, h.lu, fun k hk => Nat.lt_succ_of_lt (h.lt k hk), h.nd, h.at_⟩
theorem Pk.keep {n : Nat} {ws : List V} {ts : List (Tr n)} {i : Nat} {idx : List Nat} {acc : List V} {us : List (Tr n)} {w : V} {t : Tr n} (h : Pk ws ts i idx acc us) (hw : ws[i]? = some w) (ht : ts[i]? = some t) : Pk ws ts (i + 1) (idx ++ [i]) (acc ++ [w]) (us ++ [t]) := by
  refine ⟨by rw [List.length_append, List.length_append, h.la]; rfl, by rw [List.length_append, List.length_append, h.lu]; rfl, fun k hk => ?_, ?_, fun j k hk => ?_⟩
  · rcases List.mem_append.mp hk with q | q
    · exact Nat.lt_succ_of_lt (h.lt k q)
    · rw [List.mem_singleton.mp q]; exact Nat.lt_succ_self i
  · rw [List.nodup_append]
    exact ⟨h.nd, List.nodup_cons.mpr ⟨List.not_mem_nil, List.nodup_nil⟩, fun x hx y hy e => by rw [e, List.mem_singleton.mp hy] at hx; exact Nat.lt_irrefl _ (h.lt _ hx)⟩
  · by_cases q : j < idx.length
    · rw [List.getElem?_append_left q] at hk
      rw [List.getElem?_append_left (by rw [h.la]; exact q), List.getElem?_append_left (by rw [h.lu]; exact q)]
      exact h.at_ j k hk
    · rw [List.getElem?_append_right (by omega)] at hk
      obtain ⟨h1, e1⟩ := List.getElem?_eq_some_iff.mp hk
      have j0 : j - idx.length = 0 := by simpa using h1
      rw [j0] at hk
      cases (Option.some.inj hk : i = k)
      rw [List.getElem?_append_right (by rw [h.la]; omega), List.getElem?_append_right (by rw [h.lu]; omega), h.la, h.lu, j0]
      exact ⟨hw.symm, ht.symm⟩
theorem idx_at {idx : List Nat} : ∀ (nd : idx.Nodup) (j : Nat) (h : j < idx.length), idx.idxOf idx[j] = j := by
  induction idx with
  | nil => intro _ j h; cases h
  | cons x r ih =>
    intro nd j h
    rw [List.nodup_cons] at nd
    cases j with
    | zero => simp
    | succ j =>
      have hj : j < r.length := by simpa using h
      have e := ih nd.2 j hj
      rw [List.getElem_cons_succ, List.idxOf_cons]
      have ne : (x == r[j]) = false := by
        rw [beq_eq_false_iff_ne]
        intro q
        exact nd.1 (q ▸ List.getElem_mem hj)
      rw [ne, cond_false, e]
theorem NewL.pick {H G G' : Hp} {l r : Addr} {n : Nat} {ws acc : List V} {ts us : List (Tr n)} {idx : List Nat} {i : Nat} (h : NewL H G l n ws ts) (p : Pk ws ts i idx acc us) (hr : G r = none) (hH : H r = none) (s : Same G G') (e : G' r = some (.lst acc)) : New H G' (n + 1) (.ref r) us := by
  obtain ⟨el, o, k, d⟩ := h
  have nr : ∀ b q, o b = some q → b ≠ r := fun b q ho z => (d b q ho).2.1 (by rw [z]; exact hr)
  let o' : Ow := fun b => if b = r then some [] else match o b with | none => none | some q => match q.getLast? with | none => none | some m => if m ∈ idx then some (q.dropLast ++ [idx.idxOf m]) else none
  refine ⟨o', ⟨r, acc, rfl, if_pos rfl, e, by show acc.length = us.length; rw [p.la, p.lu], fun j w t hw ht => ?_⟩, fun b q hq => ?_⟩
  · have hj : j < idx.length := by rw [← p.la]; exact (List.getElem?_eq_some_iff.mp hw).1
    have hm : idx[j]? = some idx[j] := List.getElem?_eq_getElem hj
    obtain ⟨p1, p2⟩ := p.at_ j _ hm
    have ht : us[j]? = some t := ht
    rw [hw] at p1
    rw [ht] at p2
    have ka := k idx[j] w t p1.symm p2.symm
    refine At.relabel (q := []) (fun b q xs ho hx => ⟨?_, s b _ hx⟩) ka
    show (if b = r then some [] else match o b with | none => none | some q => match q.getLast? with | none => none | some m => if m ∈ idx then some (q.dropLast ++ [idx.idxOf m]) else none) = some (q ++ [j])
    rw [if_neg (nr b _ ho), ho]
    show (match (q ++ [idx[j]]).getLast? with | none => none | some m => if m ∈ idx then some ((q ++ [idx[j]]).dropLast ++ [idx.idxOf m]) else none) = some (q ++ [j])
    rw [List.getLast?_append]
    show (if idx[j] ∈ idx then some ((q ++ [idx[j]]).dropLast ++ [idx.idxOf idx[j]]) else none) = some (q ++ [j])
    rw [if_pos (List.getElem_mem hj), List.dropLast_concat, idx_at p.nd j hj]
  · have hq : (if b = r then some [] else match o b with | none => none | some q => match q.getLast? with | none => none | some m => if m ∈ idx then some (q.dropLast ++ [idx.idxOf m]) else none) = some q := hq
    by_cases z : b = r
    · subst z
      exact ⟨hH, by rw [e]; intro q; cases q⟩
    · rw [if_neg z] at hq
      cases e2 : o b with
      | none => rw [e2] at hq; cases hq
      | some q2 =>
        have dd := d b q2 e2
        refine ⟨dd.1, ?_⟩
        cases e3 : G b with
        | none => exact absurd e3 dd.2.1
        | some u => rw [s b u e3]; intro q; cases q
end L2
namespace L2
open PySem PySem.Spec PyProof.Rows
theorem loop_tup {K : PySem.W.Frag} {a l : Addr} {xs : List V} {g : TG} {tc : TT} {te : TE} {σ : St} {H : Hp} {Q : VK} (Pv : Nat → St → List V → Hp → Prop) (hsz : xs.length ≤ sizeLine) (h0 : Pv 0 σ [] H)
    (hl : ∀ i σ acc H, i ≤ xs.length → Pv i σ acc H → H l = some (.lst acc) ∧ SqT K H a xs ∧ acc.length ≤ i)
    (hs : ∀ i x σ acc H, xs[i]? = some x → Pv i σ acc H → g x σ H fun σ2 H2 => tc σ2 H2 fun b H3 => if b = true then
      te σ2 H3 fun v H4 => H4 l = some (.lst acc) ∧ Nx xs.length i (Pv (i + 1) σ2 (acc ++ [v]) (upd H4 l (.lst (acc ++ [v])))) else Nx xs.length i (Pv (i + 1) σ2 acc H3))
    (hd : ∀ σ acc H, Pv xs.length σ acc H → Q (.ref l) H) : tLoop (Itt K a) l g tc te σ H Q :=
  loop_by xs.length Pv hsz h0 (fun i σ acc H hi p => ⟨(hl i σ acc H hi p).1, (hl i σ acc H hi p).2.2⟩)
    (fun i σ acc H hi p => ⟨xs, xs[i], (hl i σ acc H (Nat.le_of_lt hi) p).2.1, List.getElem?_eq_getElem hi⟩)
    (fun i x σ acc H H' hi p y => by
      obtain ⟨e, y⟩ := y
      subst e
      exact hs i x σ acc _ (y xs (hl i σ acc _ (Nat.le_of_lt hi) p).2.1) p)
    (fun σ acc H p => ⟨⟨xs, (hl _ σ acc H (Nat.le_refl _) p).2.1, Nat.le_refl _⟩, hd σ acc H p⟩)
theorem cut_last {xs : List V} (h : xs ≠ []) : cutV xs none (some (-1)) = xs.dropLast := by
  have hp : 0 < xs.length := List.length_pos_iff.mpr h
  unfold cutV HT.sIx
  rw [List.dropLast_eq_take]
  simp
  omega
theorem cut_part {xs : List V} (h : xs ≠ []) : ¬ (HT.sIx xs.length 0 none = 0 ∧ HT.sIx xs.length xs.length (some (-1)) = xs.length) := by
  have hp : 0 < xs.length := List.length_pos_iff.mpr h
  unfold HT.sIx
  simp
  omega
end L2
namespace L2
open PySem PySem.Spec PyProof.Rows
section
variable {X : Cx} {pins : List (Addr × Obj)} {σ : St} {H : Hp} {s : Shared}
end
section
variable {X : Cx} {pins : List (Addr × Obj)} {σ : St} {H : Hp} {s : Shared} {d : Addr} {u0 u1 : HO}
end
end L2
namespace L2
open PySem PySem.Spec PyProof.Rows
def tMethS (C : Addr) (m : Str) (sp : Sp) (dvs : List V) (Ez : St → XK) (ta : TE) (t : TA) : TE := fun σ H Q => ta σ H fun x H1 => ∃ a dx fs, x = .ref a ∧ H1 a = some (.ins C dx fs) ∧ fs.lookup m = none ∧
  t σ H1 fun vs H2 => sp (x :: (vs ++ dvs)) H2 Q (Ez σ)
section
variable {X : Cx} {CX : CXT} {k : Nat} {f C : Addr} {fd : FuncData} {ps : List Str} {sp : Sp} {dvs : List V} {ds : List Value} {Ez : St → XK} {x m : Str} {p pos apos : Pos} {e o : Expr} {es : List Expr} {ta : TE} {t : TA}
theorem pe_methS {pl : Sem Bool} (he : PE X o ta) (c : Cls X.K C) (hm : Meth X.K C m f) (F : FnOk X.prog X.w X.K X.mg X.base CX k f fd ps sp) (hr : Room k X.A) (hb : Binds X.K fd ps ds) (hd : Vals dvs ds) (hx : PassesS CX X Ez) (ha : PA X (e :: es) t)
    (hst : starEach (e :: es) X.env = (false, eval e X.env) :: starEach es X.env := by rfl) (hpl : (backTo pos (starEach es X.env)).any (·.1) = false := by rfl)
    (ht : eval (.Call (.Attribute o m apos) (e :: es) [] pos) X.env = (do
      let ov ← eval o X.env
      standAt apos.atName
      let (f, first) ← holding [ov] (getMethod ov m pl)
      callWith pos f first (backTo pos (starEach (e :: es) X.env)) (backToKw pos (keywordEach [] X.env))) := by rfl) :
    PE X (.Call (.Attribute o m apos) (e :: es) [] pos) (tMethS C m sp dvs Ez ta t) := by
  unfold PE at *; unfold PA at *
  exact by
    intro pins s σ H Q I h
    refine PySem.W.methodCall_KW (pl := pl) (thn (he pins s σ H _ I h) fun u s1 ⟨x, H1, I1, rx, a, dx, fs, ex, ea, l, q⟩ => ?_) ht
    subst ex
    obtain rfl : u = Value.ref a := rx
    refine getmeth_ok I1 ea c hm l ?_
    refine PySem.W.callWith_K (first := [.ref a]) (h₀ := X.base) I.ok.mod.kin hm.kp (thn (ha pos pins s1 σ H1 _ I1 q) fun us s2 ⟨vs, H2, I2, r, q2⟩ => ⟨I2.kIn, ?_⟩) hst hpl
    exact run_fnS (us := .ref a :: us) (vs := .ref a :: vs) F hr hb hd hx I2 (.cons rfl r) q2
theorem pe_methS0 {pl : Sem Bool} (he : PE X o ta) (c : Cls X.K C) (hm : Meth X.K C m f) (F : FnOk X.prog X.w X.K X.mg X.base CX k f fd ps sp) (hr : Room k X.A) (hb : Binds X.K fd ps ds) (hd : Vals dvs ds) (hx : PassesS CX X Ez)
    (ht : eval (.Call (.Attribute o m apos) [] [] pos) X.env = (do
      let ov ← eval o X.env
      standAt apos.atName
      let (f, first) ← holding [ov] (getMethod ov m pl)
      callWith pos f first (backTo pos (starEach [] X.env)) (backToKw pos (keywordEach [] X.env))) := by rfl) :
    PE X (.Call (.Attribute o m apos) [] [] pos) (tMethS C m sp dvs Ez ta tNil) := by
  unfold PE at *
  exact by
    intro pins s σ H Q I h
    refine PySem.W.methodCall_KW (pl := pl) (thn (he pins s σ H _ I h) fun u s1 ⟨x, H1, I1, rx, a, dx, fs, ex, ea, l, q⟩ => ?_) ht
    subst ex
    obtain rfl : u = Value.ref a := rx
    refine getmeth_ok I1 ea c hm l ?_
    exact PySem.W.callWith_K0 (first := [.ref a]) I1.kIn hm.kp (run_fnS (us := [.ref a]) (vs := [.ref a]) F hr hb hd hx I1 (.cons rfl .nil) q)
end
end L2
namespace L2
open PySem PySem.Spec PyProof.Rows
end L2
namespace L2
open PySem PySem.Spec PyProof.Rows
section
variable {prog : Program} {w : World} {A : Around} {E : Value → Shared → Prop} {s : Shared} {T : String} {r d : Addr} {n : Nat} {P : Nat → Value → Prop} {OK : Heap → Prop}
end
section
variable {X : Cx}
end
section
variable {X : Cx}
end
end L2
namespace L2
open PySem PySem.Spec PyProof.Rows
theorem dict_anyW {P P' : Program} {w w' : World} {h : Heap} {a : Addr} {vs : List (Key × Value)} (d : h.DictOf (mixKind P w) a vs) (hi : ∀ p ∈ vs, ∃ n : Int, p.1 = Sum.inl n) : h.DictOf (mixKind P' w') a vs := by
  obtain ⟨o, es, ep, g, c, hd, hk, hp, hn⟩ := d
  have pp : ∀ {el : List DictEntry} {vl : List (Key × Value)}, Pairs (mixKind P w) el vl → (∀ p ∈ vl, ∃ n : Int, p.1 = Sum.inl n) → Pairs (mixKind P' w') el vl ∧ ∀ e ∈ el, ∃ n : Int, keyIs (Sum.inl n) e.key = true := by
    intro el vl h
    induction h with
    | nil => intro _; exact ⟨.nil, fun _ h => nomatch h⟩
    | @cons e kv es kvs h1 h2 _ ih =>
      intro hi
      obtain ⟨i1, i2⟩ := ih fun p hp => hi p (List.mem_cons_of_mem _ hp)
      refine ⟨.cons h1 h2 i1, fun x hx => ?_⟩
      rcases List.mem_cons.mp hx with q | q
      · obtain ⟨n, hn⟩ := hi kv (List.mem_cons_self ..)
        rw [q]
        exact ⟨n, by rw [← hn]; exact h1⟩
      · exact i2 x q
  obtain ⟨p1, p2⟩ := pp hp hi
  refine ⟨o, es, ep, g, c, hd, fun e he => ?_, p1, hn⟩
  obtain ⟨k, k1, k2⟩ := hk e he
  obtain ⟨n, hn'⟩ := p2 e (by simpa using he)
  have e1 : k = Sum.inl n := (mixKind P w).inj e.key k (Sum.inl n) k1 hn'
  subst e1
  exact ⟨_, k1, k2⟩
theorem kv_ints {ka : List (Key × V)} {va : List (Key × Value)} (r : KV ka va) (hi : ∀ p ∈ ka, ∃ n : Int, p.1 = Sum.inl n) : ∀ p ∈ va, ∃ n : Int, p.1 = Sum.inl n := by
  unfold KV at r
  induction r with
  | nil => exact fun _ h => nomatch h
  | @cons p q ps qs h t ih =>
    intro x hx
    rcases List.mem_cons.mp hx with e | e
    · obtain ⟨n, hn⟩ := hi p (List.mem_cons_self ..)
      rw [e, ← h.1]
      exact ⟨n, hn⟩
    · exact ih (fun p hp => hi p (List.mem_cons_of_mem _ hp)) x e
def DEq (K : PySem.W.Frag) (H : Hp) (n : Nat) (u v : V) : Prop := ∃ a b ka kb, u = .ref a ∧ v = .ref b ∧ Rd H a (.dK ka) ∧ Rd H b (.dK kb) ∧ ka.length = kb.length ∧ (∀ p ∈ ka, ∃ y, valV kb p.1 = some y ∧ EqD K H n p.2 y true) ∧ (∀ p ∈ ka, ∃ m : Int, p.1 = Sum.inl m) ∧ ∀ p ∈ kb, ∃ m : Int, p.1 = Sum.inl m
section
variable {X : Cx} {pins : List (Addr × Obj)} {σ : St} {H : Hp} {s : Shared}
theorem hits_at (I : Inv X pins σ H s) {A : Around} {n : Nat} {kb : List (Key × V)} {vb : List (Key × Value)} (rb : KV kb vb) (hu : A.units + n < cLine) : ∀ {ka : List (Key × V)} {va : List (Key × Value)}, KV ka va →
    (∀ p ∈ ka, ∃ y, valV kb p.1 = some y ∧ EqD X.K H n p.2 y true) → PySem.W.KeqHits A s vb va true := by
  intro ka va r
  unfold KV at r
  induction r with
  | nil => intro _; exact .nil
  | @cons p q ps qs h t ih =>
    intro hall
    obtain ⟨y, hy, he⟩ := hall p (List.mem_cons_self ..)
    obtain ⟨w, hw, rw'⟩ := RelO.some_of (v := y) (o := valueAt vb q.1) (by rw [← hy, h.1]; exact rb.val q.1)
    obtain ⟨q1, q2⟩ := q
    exact PySem.W.KeqHits.hit (e := true) (b := true) hw (EqD.at I n A p.2 y true q2 w hu he h.2 rw') (ih fun p' hp' => hall p' (List.mem_cons_of_mem _ hp'))
theorem DEq.at (I : Inv X pins σ H s) {A : Around} {n : Nat} {x y : V} {u v : Value} (hu : A.units + 1 + n < cLine) (h : DEq X.K H n x y) (rx : RelV x u) (ry : RelV y v) : SeqAt.EqAt A s u v true := by
  obtain ⟨a, b, ka, kb, rfl, rfl, ha, hb, hl, hall, ia, ib⟩ := h
  cases rx
  cases ry
  obtain ⟨za, da, va, ra, oa⟩ := dk_rd I.hok ha
  obtain ⟨zb, db, vb, rb, ob⟩ := dk_rd I.hok hb
  by_cases hab : a = b
  · subst hab
    exact SeqAt.EqAt.same _
  · refine SeqAt.EqAt.of_refs hab fun prog w E Q hq => ?_
    have oa' := dict_anyW (P' := prog) (w' := w) oa (kv_ints ra ia)
    have ob' := dict_anyW (P' := prog) (w' := w) ob (kv_ints rb ib)
    refine PySem.W.keq_eq da db oa' ob' (by omega) (fun _ => hits_at (A := A.in1) I rb (by show A.units + 1 + n < cLine; exact hu) ra hall) ?_
    rw [← ra.length, ← rb.length, hl, beq_self_eq_true, Bool.true_and]
    exact hq
end
end L2
namespace L2
open PySem PySem.Spec PyProof.Rows
end L2
namespace L2
open PySem PySem.Spec PyProof.Rows
structure RoomH (k : Nat) (A : Around) : Prop where
  dp : A.depth + 3 * k + 5 < recursionLimit
  un : A.units + 16 * k + 200 < cLine
theorem RoomH.mono {j k : Nat} {A : Around} (r : RoomH k A) (h : j ≤ k) : RoomH j A := ⟨by have := r.dp; omega, by have := r.un; omega⟩
theorem RoomH.deeper {k : Nat} {A : Around} (r : RoomH (k + 1) A) (env : Env) : RoomH k (A.deeper env) :=
  ⟨by have := r.dp; show A.depth + 1 + 3 * k + 5 < _; omega, by have := r.un; show A.units + 3 + 16 * k + 200 < _; omega⟩
theorem RoomH.depth {k : Nat} {A : Around} (r : RoomH k A) : A.depth < recursionLimit := by have := r.dp; omega
def cxOfH (CX : CXT) (P : Program) (w : World) (K : PySem.W.Frag) (mg : Str → Option Value) (base : Heap) (N : List Str) (qual : Str) (scope : Scope) (f : Addr) (cd : Value) (A : Around) (outer : List Env) (s : Shared) (H : Hp) (E : XK) : Cx where
  prog := P
  w := w
  K := K
  mg := mg
  base := base
  A := A.deeper (envOfC qual scope s.heap.objs.size f cd)
  N := N
  s₀ := s
  H₀ := H
  env := envOfC qual scope s.heap.objs.size f cd
  outer := outer
  stack := envOfC qual scope s.heap.objs.size f cd :: outer
  ex := []
  calm := false
  fn := fun _ => true
  pn := []
  xe := fun e s' => wpAny (model P w) (A.deeper (envOfC qual scope s.heap.objs.size f cd)) (leaving (envOfC qual scope s.heap.objs.size f cd) e) (fun _ s'' => CX outer H s E e s'') (fun e' s'' => CX outer H s E e' s'') s'
theorem inv_startH {CX : CXT} {P : Program} {w : World} {K : PySem.W.Frag} {mg : Str → Option Value} {base : Heap} {N ps : List Str} {qual : Str} {scope : Scope} {f : Addr} {cd : Value} {A : Around} {outer : List Env} {s s1 : Shared} {H : Hp} {E : XK} {us : List Value} {vs : List V}
    (S : FnScope N ps scope) (e0 : Env0 P w K mg base A outer s H) (hl : vs.length = ps.length) (r : Vals vs us)
    (x : InCallC s s.heap.objs.size (bindL (envOfC qual scope s.heap.objs.size f cd).kindOf (ps.zip us) fun _ => none) (cellsFrom (s.heap.objs.size + 1) scope.names []) (bindC (envOfC qual scope s.heap.objs.size f cd).kindOf (ps.zip us) fun _ => none) s1) :
    Inv (cxOfH CX P w K mg base N qual scope f cd A outer s H E) [] (start N vs) H s1 := by
  have hpl : ps.length ≤ N.length := by have := congrArg List.length S.pre; rw [List.length_take] at this; omega
  obtain ⟨h1, tk, rfl, hk⟩ := x.done
  have noA : ∀ b : Addr, b ∉ (cxOfH CX P w K mg base N qual scope f cd A outer s H E).ex := fun b z => absurd (show b ∈ ([] : List Addr) from z) (by simp)
  refine ⟨⟨e0.mod, S.kind, rfl, rfl, Nat.le_refl _, fun y z c h1 h2 => ?_, fun y hy => ?_, fun y c _ h => ?_, fun z => Bool.noConfusion z, Around.frames_deeper e0.frames, .inr ⟨rfl, rfl⟩, fun b z => absurd z (noA b), e0.bs, e0.bsz, fun b _ _ => noA b, fun b z => absurd z (noA b), e0.funs, e0.frf⟩,
    rfl, e0.bare, Un.kept hk, ⟨_, x.toInCall.ns, fun i y v h1 h2 h3 => ?_⟩, fun y c h => ⟨_, x.cell y c h⟩, e0.hok.fresh (Nat.le_refl _), fun y c h => ?_, fun p hp => absurd (show p ∈ ([] : List (Addr × Obj)) from hp) (by simp), e0.hok.kept hk, ?_⟩
  · exact name_of_addr x.apart (PySem.mem_of_lookup h1) (PySem.mem_of_lookup h2)
  · have hy : scope.names.lookup y = some .cell ∨ scope.names.lookup y = some .free := hy
    rcases hy with hy | hy
    · exact cell_has hy
    · exact absurd rfl (S.nofree _ (PySem.mem_of_lookup hy))
  · exact Nat.le_of_lt (x.above y c (PySem.mem_of_lookup h))
  · have hi : i < vs.length := by
      unfold start at h2
      by_cases hi : i < vs.length
      · exact hi
      · rw [List.getElem?_append_right (by simpa using hi)] at h2
        rw [List.getElem?_replicate] at h2
        split at h2 <;> cases h2
    have ha : vs[i]? = some v := by
      unfold start at h2
      rw [List.getElem?_append_left (by simpa using hi), List.getElem?_map] at h2
      cases e : vs[i]? with
      | none => rw [e] at h2; cases h2
      | some a => rw [e] at h2; cases h2; rfl
    obtain ⟨u, hu, rv⟩ := r.get ha
    have hp : ps[i]? = some y := by
      rw [← S.pre, List.getElem?_take_of_lt (by omega)]; exact h1
    have ndP : ps.Nodup := by rw [← S.pre]; exact S.nd.sublist (List.take_sublist _ _)
    refine ⟨u, rv, ?_⟩
    rcases S.par y (List.mem_of_getElem? hp) with k | k
    · exact .inl ⟨k, bindL_get ndP hp hu k⟩
    · obtain ⟨c, e⟩ := cell_has (n := s.heap.objs.size + 1) k
      refine .inr ⟨.inl k, c, e, ?_⟩
      have q := x.cell y c e
      rw [bindC_get ndP hp hu (by show scope.names.lookup y ≠ _; rw [k]; decide)] at q
      exact q
  · exact e0.hok.fresh (Nat.le_of_lt (x.above y c (PySem.mem_of_lookup h)))
  · unfold start
    show _ = N.length
    rw [List.length_append, List.length_map, List.length_replicate]
    omega
structure FnOkH (P : Program) (w : World) (K : PySem.W.Frag) (mg : Str → Option Value) (base : Heap) (CX : CXT) (k : Nat) (f : Addr) (fd : FuncData) (ps : List Str) (sp : Sp) : Prop where
  len : ∀ vs H Q E, sp vs H Q E → vs.length = ps.length
  run : ∀ (A : Around) (outer : List Env) (s : Shared) (H : Hp) (args : Args) (us : List Value) (vs : List V) (Q : VK) (E : XK), RoomH k A → Env0 P w K mg base A outer s H → BindsTo s fd args (ps.zip us) → Vals vs us → sp vs H Q E →
    codeAny (model P w) A (.call (.ref f) args) (CR CX outer P w H s Q E) s
theorem Room.h {k : Nat} {A : Around} {o : Option Value} (r : Room k A) : RoomH k (A.mark o) := ⟨r.dp, r.un⟩
section
variable {X : Cx} {CX : CXT} {k : Nat} {f C : Addr} {fd : FuncData} {ps : List Str} {sp : Sp} {dvs : List V} {ds : List Value} {E : XK} {x m : Str} {p pos apos : Pos} {e o : Expr} {es : List Expr} {ta : TE} {t : TA}
theorem run_fnH {pins : List (Addr × Obj)} {σ : St} {H : Hp} {s : Shared} {Q : VK} {us : List Value} {vs : List V} (F : FnOkH X.prog X.w X.K X.mg X.base CX k f fd ps sp) (hr : RoomH k X.A) (hb : Binds X.K fd ps ds) (hd : Vals dvs ds) (hx : Passes CX X E)
    (I : Inv X pins σ H s) (r : Vals vs us) (h : sp (vs ++ dvs) H Q E) : wpAny (model X.prog X.w) X.A (call (.ref f) us) (EP X pins σ Q) X.xe s := by
  have r2 : Vals (vs ++ dvs) (us ++ ds) := r.append hd
  have hl : (us ++ ds).length = ps.length := by rw [← r2.length]; exact F.len _ _ _ _ h
  refine wpAny_call (codeAny_mono (F.run X.A X.stack s H ⟨us, []⟩ (us ++ ds) (vs ++ dvs) Q E hr I.env0 (hb s us I.kIn hl) r2 h) fun r s' hq => ?_)
  cases r with
  | error e => exact hx pins σ H s e s' I hq
  | ok fl =>
    cases fl with
    | ret u => exact I.after hq
    | next => exact False.elim hq
    | brk => exact False.elim hq
    | cont => exact False.elim hq
theorem pe_callH (F : FnOkH X.prog X.w X.K X.mg X.base CX k f fd ps sp) (hr : RoomH k X.A) (hg : Gl X x) (hm : X.mg x = some (.ref f)) (hk : PySem.W.keepIn X.K (.ref f) = true) (hb : Binds X.K fd ps ds) (hd : Vals dvs ds) (hx : Passes CX X E)
    (ha : PA X (e :: es) t) (hdb : (x == ("__debug__" : Str)) = false := by decide) (he : starEach (e :: es) X.env = (false, eval e X.env) :: starEach es X.env := by rfl) (hpl : (backTo pos (starEach es X.env)).any (·.1) = false := by rfl) :
    PE X (.Call (.Name x p) (e :: es) [] pos) (tCall sp dvs E t) := by
  unfold PE at *; unfold PA at *
  exact by
    intro pins s σ H Q I h
    refine wpAny_Call_Name_kw (ld_glob I hg hm ?_ hdb)
    refine PySem.W.callWith_K (h₀ := X.base) I.ok.mod.kin hk (thn (ha pos pins s σ H _ I h) fun us s1 ⟨vs, H1, I1, r, q⟩ => ⟨I1.kIn, ?_⟩) he hpl
    exact run_fnH F hr hb hd hx I1 r q
end
theorem fn_ofH {CX : CXT} {P : Program} {w : World} {K : PySem.W.Frag} {mg : Str → Option Value} {base : Heap} {k : Nat} {f : Addr} {name qual : Str} {params : Arguments} {body : List Stmt} {scope : Scope} {dV kV doc pm cdv ct oc : Value} {an od : Option Addr}
    {osl : Array (Option Value)} {N ps : List Str} {sp : Sp} (lk : K.lookup f = some ⟨oc, od, .func (PySem.W.fnOf name qual params body scope dV kV doc pm an cdv ct), osl⟩) (hcd : PySem.W.codeIn K cdv qual = true) (S : FnScope N ps scope)
    (len : ∀ vs H Q E, sp vs H Q E → vs.length = ps.length)
    (hbody : ∀ (A : Around) (outer : List Env) (s : Shared) (H : Hp) (vs : List V) (Q : VK) (E : XK), RoomH k (A.deeper (envOfC qual scope s.heap.objs.size f cdv)) → sp vs H Q E →
      ∃ t, PSs (cxOfH CX P w K mg base N qual scope f cdv A outer s H E) body t ∧ t { nx := fun _ H' => Q .non H', rt := Q } (start N vs) H) :
    FnOkH P w K mg base CX (k + 1) f (PySem.W.fnOf name qual params body scope dV kV doc pm an cdv ct) ps sp := by
  unfold PSs at *
  exact by
    refine ⟨len, fun A outer s H args us vs Q E hr e0 hb r hsp => ?_⟩
    have hl := len _ _ _ _ hsp
    have KX : K.In s.heap := e0.mod.kin.keeps fun b o e => (e0.bs b o e).1
    have lim : s.heap.NoLimit := e0.mod.nolimit.keeps fun b o e => (e0.bs b o e).1
    have hkind : ∀ y ∈ ps.zip us, scope.names.lookup y.1 = some .local ∨ (scope.names.lookup y.1 = some .cell ∧ ((cellsFrom (s.heap.objs.size + 1) scope.names []).lookup y.1).isSome = true) := fun ⟨n, v⟩ hy => by
      rcases S.par n (List.of_mem_zip hy).1 with q | q
      · exact .inl q
      · exact .inr ⟨q, PySem.W.cellsFrom_some _ _ _ (.inl q)⟩
    refine codeAny_call_function hr.depth (KX _ _ lk) rfl S.co S.gen rfl (PySem.W.codeRec_of KX hcd) (hb _ _ _ _ ?_)
    refine wpAny_newFunctionEnv_cells S.kind hkind fun env he s1 x => ?_
    subst he
    refine ⟨lim.keeps x.toInCall.keep, codeAny_func ?_⟩
    obtain ⟨t, ht, hq⟩ := hbody A outer s H vs Q E (hr.deeper _) hsp
    have I : Inv (cxOfH CX P w K mg base N qual scope f cdv A outer s H E) [] (start N vs) H s1 := inv_startH S e0 hl r x
    refine wpAny_mono (ht [] s1 (start N vs) H _ I hq) (fun fl s' hs => ?_) fun e s' hs => hs
    have fin : ∀ {σ' : St} {H' : Hp} {v : V} {u : Value}, Inv (cxOfH CX P w K mg base N qual scope f cdv A outer s H E) [] σ' H' s' → RelV v u → Q v H' → CE outer P w H s Q u s' :=
      fun {σ' H' v u} J rv q => ⟨v, H', J.os, J.bare, J.base, J.hok, rv, q⟩
    cases fl with
    | ret u =>
      obtain ⟨v, σ', H', J, rv, q⟩ := hs
      exact fin J rv q
    | next =>
      obtain ⟨σ', H', J, q⟩ := hs
      exact fin (v := V.non) (u := Value.none) J rfl q
    | brk =>
      obtain ⟨_, _, _, q⟩ := hs
      exact False.elim q
    | cont =>
      obtain ⟨_, _, _, q⟩ := hs
      exact False.elim q
section
variable {P : Program} {w : World} {K : PySem.W.Frag} {mg : Str → Option Value} {base : Heap}
theorem Fun.okH {x qual : Str} {st : Stmt} {f : Addr} {fd : FuncData} {N ps : List Str} {k : Nat} {sp : Sp} (F : Fun K x qual st f fd) (S : FnScope N ps (defScope st)) (len : ∀ vs H Q E, sp vs H Q E → vs.length = ps.length)
    (hbody : ∀ (cdv : Value) (A : Around) (outer : List Env) (s : Shared) (H : Hp) (vs : List V) (Q : VK) (E : XK), RoomH k (A.deeper (envOfC qual (defScope st) s.heap.objs.size f cdv)) → sp vs H Q E →
      ∃ t, PSs (cxOfH CX0 P w K mg base N qual (defScope st) f cdv A outer s H E).nox (defBody st) t ∧ t { nx := fun _ H' => Q .non H', rt := Q } (start N vs) H) : FnOkH P w K mg base CX0 (k + 1) f fd ps sp := by
  obtain ⟨oc, od, kV, doc, pm, an, cdv, ct, osl, rfl, lk, hcd⟩ := F.ex
  refine fn_ofH lk hcd S len fun A outer s H vs Q E hr hsp => ?_
  obtain ⟨t, h, q⟩ := hbody cdv A outer s H vs Q E hr hsp
  exact ⟨t, h.nox, q⟩
end
end L2
namespace L2
open PySem PySem.Spec PyProof.Rows
section
variable {prog : Program} {w : World} {A : Around} {E : Value → Shared → Prop} {s : Shared}
end
section
variable {prog : Program} {w : World} {A : Around} {E : Value → Shared → Prop} {s : Shared}
end
section
variable {X : Cx}
def OptT (H : Hp) (v : V) (nm : Option (List Str)) : Prop := match nm with | none => v = .non | some z => ∃ t, v = .ref t ∧ H t = some (.tup (z.map V.str))
end
theorem eqL_txt : ∀ (a b : List Str), eqL (a.map V.str) (b.map V.str) = decide (a = b)
  | [], [] => rfl
  | [], _ :: _ => rfl
  | _ :: _, [] => rfl
  | x :: a, y :: b => by
    show (eqV (.str x) (.str y) && eqL (a.map V.str) (b.map V.str)) = _
    rw [eqL_txt a b]
    by_cases h : x = y
    · subst h
      rw [eqV_self rfl, Bool.true_and]
      by_cases q : a = b
      · rw [decide_eq_true q, decide_eq_true (by rw [q])]
      · rw [decide_eq_false q, decide_eq_false (fun z => q (List.cons.inj z).2)]
    · have e : eqV (.str x) (.str y) = false := by
        simp [eqV]
        exact h
      rw [e, decide_eq_false (fun z => h (List.cons.inj z).1)]
      rfl
theorem flat_txt (zs : List Str) : (zs.map V.str).all flatV = true := by
  rw [List.all_eq_true]
  intro x hx
  obtain ⟨z, _, rfl⟩ := List.mem_map.mp hx
  rfl
theorem tup_txt {K : PySem.W.Frag} {H : Hp} {n : Nat} {t u : Addr} {a b : List Str} (h1 : H t = some (.tup (a.map V.str))) (h2 : H u = some (.tup (b.map V.str))) : SeqEq K H (EqD K H n) (.ref t) (.ref u) (decide (a = b)) := by
  by_cases hl : a.length = b.length
  · have h := SeqEq.flatT (K := K) (H := H) (n := n) (SqT.of h1) (SqT.of h2) (by rw [List.length_map, List.length_map, hl]) (flat_txt a) (flat_txt b)
    rw [eqL_txt] at h
    exact h
  · have h := SeqEq.tup (K := K) (H := H) (R := EqD K H n) (e := fun i => eqV ((a.map V.str).getD i .non) ((b.map V.str).getD i .non)) (SqT.of h1) (SqT.of h2) fun i x y hx hy => ?_
    · have e1 : ((a.map V.str).length == (b.map V.str).length) = false := by
        rw [List.length_map, List.length_map]
        exact beq_eq_false_iff_ne.mpr hl
      rw [e1, Bool.and_false] at h
      rw [decide_eq_false (fun z => hl (by rw [z]))]
      exact h
    · have q : flatV x = true ∧ flatV y = true ∧ eqV ((a.map V.str).getD i .non) ((b.map V.str).getD i .non) = eqV x y := by
        refine ⟨List.all_eq_true.mp (flat_txt a) x (List.mem_of_getElem? hx), List.all_eq_true.mp (flat_txt b) y (List.mem_of_getElem? hy), ?_⟩
        rw [List.getD_eq_getElem?_getD, List.getD_eq_getElem?_getD, hx, hy]
        rfl
      cases n with
      | zero => exact .inl q
      | succ n => exact .inl (.inl q)
theorem OptT.eqd {K : PySem.W.Frag} {H : Hp} {x y : V} {a : Option (List Str)} (h1 : OptT H x a) (h2 : OptT H y a) (n : Nat) : EqD K H (n + 1) x y true := by
  cases a with
  | none =>
    obtain rfl : x = .non := h1
    obtain rfl : y = .non := h2
    exact .inl (.inl ⟨rfl, rfl, rfl⟩)
  | some z =>
    obtain ⟨t, rfl, ht⟩ := h1
    obtain ⟨u, rfl, hu⟩ := h2
    have h := tup_txt (K := K) (n := n) ht hu
    rw [decide_eq_true rfl] at h
    exact .inr h
end L2
namespace L2
open PySem PySem.Spec PyProof.Rows
theorem noFill_tuple_mulT : fillsNumberSlot (.type "tuple") "mul" = pure false :=
  PySem.fillsNumberSlot_seq (id := "tuple.__mul__") (r := some (.builtin "tuple.__rmul__")) F.slot_tuple_mul.lookup (by decide +kernel) F.slot_tuple_rmul.lookup (by decide +kernel)
theorem repeat_tupleT : seqRepeat? (.type "tuple") = pure (some (.builtin "tuple.__mul__")) := by
  unfold seqRepeat?
  rw [PySem.seqSlot_of (T := "tuple") (name := "__mul__") (id := "tuple.__mul__") F.slot_tuple_mul.lookup (by decide +kernel), PySem.seqSlot_of (T := "tuple") (name := "__rmul__") (id := "tuple.__rmul__") F.slot_tuple_rmul.lookup (by decide +kernel)]
  rfl
theorem rmul_tupleT (a : Int) (t : Tok) (l : Addr) (items : Array Value) (n : Nat) (dd : Option Addr) (sl : Array (Option Value)) :
    Meets (Builtin.«int.__rmul__» ⟨[.int a t, .ref l], []⟩) (fun _ R s => s.heap.get? l = some { cls := .type "tuple", dict := dd, data := .seq items n, slots := sl } ∧ R (.ok (.ret Value.notImplemented)) s) :=
  .of_wp fun prog w A R s h => by obtain ⟨hp, g, d, tk, os⟩ := s; obtain ⟨hl, h⟩ := h; wp_walk; exact ⟨_, rfl, h⟩
theorem tuple_mulT1 (l : Addr) (items : Array Value) (n : Nat) (u : Tok) (dd : Option Addr) (sl : Array (Option Value)) :
    Meets (Builtin.«tuple.__mul__» ⟨[.ref l, .int 1 u], []⟩) (fun _ R s => s.heap.get? l = some { cls := .type "tuple", dict := dd, data := .seq items n, slots := sl } ∧ R (.ok (.ret (Value.ref l))) s) :=
  .of_wp fun prog w A R s h => by
    obtain ⟨hp, g, d, tk, os⟩ := s; obtain ⟨hl, h⟩ := h
    have f1 := AutoSeq1.idx_int
    wp_walk using wpAny_loadPart' hl; exact ⟨_, rfl, h⟩
theorem tuple_mulT2 (l : Addr) (v : Value) (n : Nat) (u : Tok) (dd : Option Addr) (sl : Array (Option Value)) :
    Meets (Builtin.«tuple.__mul__» ⟨[.ref l, .int 2 u], []⟩) (fun _ R s => s.heap.get? l = some { cls := .type "tuple", dict := dd, data := .seq #[v] n, slots := sl } ∧ R (.ok (.ret (Value.ref s.heap.objs.size))) { s with heap := s.heap.push { cls := Value.type "tuple", data := Data.seq #[v, v] }, toks := s.toks }) :=
  .of_wp fun prog w A R s h => by
    obtain ⟨hp, g, d, tk, os⟩ := s; obtain ⟨hl, h⟩ := h
    have f1 := AutoSeq1.idx_int
    wp_walk using wpAny_loadPart' hl; exact ⟨_, rfl, h⟩
theorem tuple_mulT3 (l : Addr) (v : Value) (n : Nat) (u : Tok) (dd : Option Addr) (sl : Array (Option Value)) :
    Meets (Builtin.«tuple.__mul__» ⟨[.ref l, .int 3 u], []⟩) (fun _ R s => s.heap.get? l = some { cls := .type "tuple", dict := dd, data := .seq #[v] n, slots := sl } ∧ R (.ok (.ret (Value.ref s.heap.objs.size))) { s with heap := s.heap.push { cls := Value.type "tuple", data := Data.seq #[v, v, v] }, toks := s.toks }) :=
  .of_wp fun prog w A R s h => by
    obtain ⟨hp, g, d, tk, os⟩ := s; obtain ⟨hl, h⟩ := h
    have f1 := AutoSeq1.idx_int
    wp_walk using wpAny_loadPart' hl; exact ⟨_, rfl, h⟩
def rRepT (K : PySem.W.Frag) : R2 := fun x y H Q => ∃ a v k, x = .ref a ∧ y = .int k ∧ SqT K H a [v] ∧ ((k = 1 ∧ Q (.ref a) H) ∨ ((k = 2 ∨ k = 3) ∧ ∀ p, H p = none → Q (.ref p) (upd H p (.tup (List.replicate k.toNat v)))))
theorem op_repT {X : Cx} : OpR X (binaryOp .Mult) (rRepT X.K) := by
  unfold OpR at *
  exact by
    intro pins s σ H x y v u Q I rx ry h
    obtain ⟨a, v, k, rfl, rfl, ha, h⟩ := h
    cases rx
    obtain ⟨t, rfl⟩ := ry
    obtain ⟨its, r, p1, hz⟩ := I.tuple ha
    obtain ⟨v1, rfl, rv⟩ := vals1 r
    obtain ⟨⟨cls, dd, data, sl⟩, ho, hc, n, hd⟩ := id p1
    simp only at hc hd
    subst hc hd
    refine wpAny_binaryOp_repeat_ref (T := "tuple") (U := "int") (by decide) ⟨_, ho, rfl⟩ (fun s' => typeIs_int s' k t) noFill_tuple_mulT F.fills_int_mul F.slot_int_rmul repeat_tupleT F.slot_int_index.lookup
        (call_meets F.slot_int_rmul (typeIs_int s k t) F.entry_int_rmul (F.args_int_rmul_2 _ _) (rmul_tupleT k t a _ n dd sl) ⟨ho, rfl, ⟨_, ho, rfl⟩, ?_⟩)
    have fin : ∀ (ws : List Value) (xs : List V), Vals xs ws → xs.length ≤ sizeLine → (∀ p, H p = none → Q (.ref p) (upd H p (.tup xs))) → EP X pins σ Q (.ref s.heap.objs.size) { s with heap := s.heap.push { cls := Value.type "tuple", data := Data.seq ws.toArray }, toks := s.toks } := fun ws xs hv hl q =>
      ⟨.ref s.heap.objs.size, _, I.laid (t' := s.toks) (o := .tup xs) (fun b ob q => Heap.get?_push_of_some _ q) (Nat.le_refl _) ⟨hl, _, hv, IsTup.new _ _⟩, rfl, q _ (I.hok.fresh (Nat.le_refl _))⟩
    rcases h with ⟨rfl, q⟩ | ⟨rfl | rfl, q⟩
    · exact call_meets F.slot_tuple_mul ⟨_, ho, rfl⟩ F.entry_tuple_mul (F.args_tuple_mul_2 _ _) (tuple_mulT1 a _ n t dd sl) ⟨ho, ⟨.ref a, H, I, rfl, q⟩⟩
    · exact call_meets F.slot_tuple_mul ⟨_, ho, rfl⟩ F.entry_tuple_mul (F.args_tuple_mul_2 _ _) (tuple_mulT2 a v1 n t dd sl) ⟨ho, fin [v1, v1] [v, v] (.cons rv (.cons rv .nil)) (le_ble rfl) q⟩
    · exact call_meets F.slot_tuple_mul ⟨_, ho, rfl⟩ F.entry_tuple_mul (F.args_tuple_mul_2 _ _) (tuple_mulT3 a v1 n t dd sl) ⟨ho, fin [v1, v1, v1] [v, v, v] (.cons rv (.cons rv (.cons rv .nil))) (le_ble rfl) q⟩
theorem AtR.eqd {K : PySem.W.Frag} {H : Hp} : ∀ {n : Nat} {v w : V} {t : Tr n}, AtR H n v t → AtR H n w t → EqD K H n v w true
  | 0, v, w, t, h1, h2 => by
    have e1 : v = .int t := h1
    have e2 : w = .int t := h2
    subst e1 e2
    exact .inl ⟨rfl, rfl, (eqV_self (x := V.int t) rfl).symm⟩
  | n + 1, v, w, t, h1, h2 => by
    obtain ⟨a, vs, rfl, hA, la⟩ := h1.lst
    obtain ⟨b, ws, rfl, hB, lb⟩ := h2.lst
    have h := SeqEq.list (K := K) (R := EqD K H n) (e := fun _ => true) (SqL.of hA) (SqL.of hB) (by omega) fun i x y hx hy => by
      obtain ⟨x', t1, e1, e2, k1⟩ := h1.kid hA (List.getElem?_eq_some_iff.mp hx).1
      obtain ⟨y', t2, e3, e4, k2⟩ := h2.kid hB (List.getElem?_eq_some_iff.mp hy).1
      rw [hx] at e1; cases e1
      rw [hy] at e3; cases e3
      rw [e2] at e4; cases e4
      exact AtR.eqd k1 k2
    rw [all_range fun i _ => rfl] at h
    exact .inr h
theorem AtR.seq {K : PySem.W.Frag} {H : Hp} {n : Nat} {v w : V} {t : Tr (n + 1)} (h1 : AtR H (n + 1) v t) (h2 : AtR H (n + 1) w t) : SeqEq K H (EqD K H n) v w true := by
  rcases AtR.eqd (K := K) h1 h2 with (⟨e, _, _⟩ | ⟨a, e1, e2, _⟩) | h
  · obtain ⟨a, vs, rfl, _⟩ := h1.lst
    exact absurd e (by intro z; cases z)
  · subst e1 e2
    obtain ⟨_, vs, e, hA, la⟩ := h1.lst
    cases e
    have h := SeqEq.list (K := K) (R := EqD K H n) (e := fun _ => true) (SqL.of hA) (SqL.of hA) rfl fun i x y hx hy => by
      obtain ⟨x', t1, e1, e2, k1⟩ := h1.kid hA (List.getElem?_eq_some_iff.mp hx).1
      rw [hx] at hy; cases hy
      rw [hx] at e1; cases e1
      exact AtR.eqd k1 k1
    rw [all_range fun i _ => rfl] at h
    exact h
  · exact h
theorem NewL.grow {H H1 H2 : Hp} {l : Addr} {n : Nat} {ws : List V} {ts : List (Tr n)} {w : V} {t : Tr n} (h : NewL H H1 l n ws ts) (h1 : H1 l = some (.lst ws)) (hl : H l = none) (s : Same H H1) (s2 : Same H1 H2) (nw : New H1 H2 n w t) :
    Same H (upd H2 l (.lst (ws ++ [w]))) ∧ NewL H (upd H2 l (.lst (ws ++ [w]))) l n (ws ++ [w]) (ts ++ [t]) := by
  refine ⟨fun b u hb => ?_, ?_⟩
  · rw [upd_ne (ne_of_none hb hl)]
    exact s2 _ _ (s _ _ hb)
  refine (h.snoc (some_ne h1) (fun b hb => s.free hb) (fun b xs _ _ hb => s2 b _ hb) (fun b hb => ?_) nw).frame (fun b xs nb _ hb => by rw [upd_ne nb]; exact hb) (fun b hb => ?_)
  · cases q : H1 b with
    | none => exact absurd q hb
    | some u => rw [s2 b u q]; intro z; cases z
  · by_cases q : b = l
    · rw [q, upd_same]; intro z; cases z
    · rw [upd_ne q]; exact hb
theorem take_oneL {α : Type} {l : List α} {i : Nat} {x : α} (h : l[i]? = some x) : l.take (i + 1) = l.take i ++ [x] := by
  rw [List.take_succ, h]; rfl
theorem loop_new {K : PySem.W.Frag} {a l : Addr} {vs : List V} {n : Nat} {us : List (Tr n)} {g : TG} {te : TE} {σ : St} {H : Hp} {Q : VK} (hl : H l = none) (hA : SqL K H a vs) (lu : vs.length = us.length) (lz : vs.length ≤ 1000) (Ps : St → Prop) (h0 : Ps σ)
    (hs : ∀ (i : Nat) x u σ G (Kt : St → V → Hp → Prop), vs[i]? = some x → us[i]? = some u → Ps σ → Same H G → (∀ σ2 v G2, Ps σ2 → Same G G2 → New G G2 n v u → Kt σ2 v G2) → g x σ G fun σ2 H2 => te σ2 H2 (Kt σ2))
    (hd : ∀ G ws, Same H G → G l = some (.lst ws) → NewL H G l n ws us → Q (.ref l) G) : tLoop (Itl K a) l g tAll te σ (upd H l (.lst [])) Q := by
  have sz : 1000 ≤ sizeLine := le_ble rfl
  refine loop_lst (xs := vs) (fun i σ acc G => Ps σ ∧ Same H G ∧ G l = some (.lst acc) ∧ acc.length = i ∧ NewL H G l n acc (us.take i)) (by omega) ?_ ?_ ?_ ?_
  · exact ⟨h0, Same.new hl, upd_same, rfl, NewL.nil⟩
  · rintro i σ acc G hi ⟨_, sG, h1, h2, _⟩
    exact ⟨h1, sG.seq hA, by omega⟩
  · rintro i x σ acc G hx ⟨hp, sG, h1, h2, h3⟩
    have hi : i < vs.length := (List.getElem?_eq_some_iff.mp hx).1
    have hu : us[i]? = some us[i] := List.getElem?_eq_getElem (by omega)
    refine hs i x _ σ G _ hx hu hp sG fun σ2 v G2 p2 s2 nw => ?_
    obtain ⟨m1, m2⟩ := h3.grow h1 hl sG s2 nw
    refine ⟨s2 _ _ h1, Nx.mk hi ⟨p2, m1, upd_same, by rw [List.length_append, h2]; rfl, ?_⟩⟩
    rw [take_oneL hu]
    exact m2
  · rintro σ acc G ⟨_, sG, h1, h2, h3⟩
    rw [List.take_of_length_le (by omega)] at h3
    exact hd G acc sG h1 h3
theorem loop_ints {K : PySem.W.Frag} {a l : Addr} {ns : List Int} {f : Int → Bool} {g : TG} {tc : TT} {te : TE} {σ : St} {H : Hp} {Q : VK} (hl : H l = none) (hA : SqL K H a (ns.map V.int)) (lz : ns.length ≤ 1000) (Ps : St → Prop) (h0 : Ps σ)
    (hs : ∀ x σ G (Kt : St → V → Hp → Prop) (Nn : St → Hp → Prop), Ps σ → Same H G → (f x = true → ∀ σ2, Ps σ2 → Kt σ2 (.int x) G) → (f x = false → ∀ σ2, Ps σ2 → Nn σ2 G) → g (.int x) σ G fun σ2 H2 => tc σ2 H2 fun b H3 => if b = true then te σ2 H3 (Kt σ2) else Nn σ2 H3)
    (hd : ∀ G, Same H G → G l = some (.lst ((ns.filter f).map V.int)) → Q (.ref l) G) : tLoop (Itl K a) l g tc te σ (upd H l (.lst [])) Q := by
  have sz : 1000 ≤ sizeLine := le_ble rfl
  refine loop_lst (xs := ns.map V.int) (fun i σ acc G => Ps σ ∧ Same H G ∧ G l = some (.lst acc) ∧ acc = ((ns.take i).filter f).map V.int) (by rw [List.length_map]; omega) ?_ ?_ ?_ ?_
  · exact ⟨h0, Same.new hl, upd_same, rfl⟩
  · rintro i σ acc G hi ⟨_, sG, h1, h2⟩
    refine ⟨h1, sG.seq hA, ?_⟩
    rw [h2, List.length_map]
    exact Nat.le_trans (List.length_filter_le _ _) (by rw [List.length_take]; omega)
  · rintro i x σ acc G hx ⟨hp, sG, h1, h2⟩
    have hi : i < (ns.map V.int).length := (List.getElem?_eq_some_iff.mp hx).1
    obtain ⟨y, hy, rfl⟩ : ∃ y, ns[i]? = some y ∧ x = .int y := by
      rw [List.getElem?_map] at hx
      obtain ⟨y, e1, e2⟩ := Option.map_eq_some_iff.mp hx
      exact ⟨y, e1, e2.symm⟩
    refine hs y σ G _ _ hp sG (fun hf σ2 p2 => ⟨h1, Nx.mk hi ⟨p2, fun b u hb => ?_, upd_same, ?_⟩⟩) (fun hf σ2 p2 => Nx.mk hi ⟨p2, sG, h1, ?_⟩)
    · rw [upd_ne (ne_of_none hb hl)]
      exact sG _ _ hb
    · rw [take_oneL hy, List.filter_append, List.map_append, ← h2, List.filter_cons_of_pos hf]
      rfl
    · rw [take_oneL hy, List.filter_append, List.map_append, ← h2, List.filter_cons_of_neg (by rw [hf]; decide)]
      simp
  · rintro σ acc G ⟨_, sG, h1, h2⟩
    rw [List.length_map, List.take_of_length_le (Nat.le_refl _)] at h2
    subst h2
    exact hd G sG h1
theorem loop_picks {K : PySem.W.Frag} {a l : Addr} {ws : List V} {n : Nat} {us : List (Tr n)} {p : Tr n → Bool} {g : TG} {tc : TT} {te : TE} {σ : St} {H : Hp} {Q : VK} (hl : H l = none) (hA : SqL K H a ws) (lu : ws.length = us.length) (lz : ws.length ≤ 1000) (Ps : St → Prop) (h0 : Ps σ)
    (hs : ∀ (i : Nat) x u σ G (Kt : St → V → Hp → Prop) (Nn : St → Hp → Prop), ws[i]? = some x → us[i]? = some u → Ps σ → Same H G → (p u = true → ∀ σ2 G2, Ps σ2 → Same G G2 → Kt σ2 x G2) → (p u = false → ∀ σ2 G2, Ps σ2 → Same G G2 → Nn σ2 G2) → g x σ G fun σ2 H2 => tc σ2 H2 fun b H3 => if b = true then te σ2 H3 (Kt σ2) else Nn σ2 H3)
    (hd : ∀ G bcc idx, Same H G → G l = some (.lst bcc) → Pk ws us ws.length idx bcc (us.filter p) → Q (.ref l) G) : tLoop (Itl K a) l g tc te σ (upd H l (.lst [])) Q := by
  have sz : 1000 ≤ sizeLine := le_ble rfl
  refine loop_lst (xs := ws) (fun i σ acc G => Ps σ ∧ Same H G ∧ G l = some (.lst acc) ∧ acc.length ≤ i ∧ ∃ idx, Pk ws us i idx acc ((us.take i).filter p)) (by omega) ?_ ?_ ?_ ?_
  · exact ⟨h0, Same.new hl, upd_same, Nat.le_refl _, [], Pk.nil⟩
  · rintro i σ acc G hi ⟨_, sG, h1, h2, _⟩
    exact ⟨h1, sG.seq hA, h2⟩
  · rintro i x σ acc G hx ⟨hp, sG, h1, h2, idx, h3⟩
    have hi : i < ws.length := (List.getElem?_eq_some_iff.mp hx).1
    have hu : us[i]? = some us[i] := List.getElem?_eq_getElem (by omega)
    refine hs i x _ σ G _ _ hx hu hp sG (fun hf σ2 G2 p2 s2 => ⟨s2 _ _ h1, Nx.mk hi ⟨p2, fun b u hb => ?_, upd_same, by rw [List.length_append]; show acc.length + 1 ≤ i + 1; omega, idx ++ [i], ?_⟩⟩) (fun hf σ2 G2 p2 s2 => Nx.mk hi ⟨p2, sG.trans s2, s2 _ _ h1, by omega, idx, ?_⟩)
    · rw [upd_ne (ne_of_none hb hl)]
      exact s2 _ _ (sG _ _ hb)
    · rw [take_oneL hu, List.filter_append, List.filter_cons_of_pos hf, List.filter_nil]
      exact h3.keep hx hu
    · rw [take_oneL hu, List.filter_append, List.filter_cons_of_neg (by rw [hf]; decide), List.filter_nil, List.append_nil]
      exact h3.drop
  · rintro σ acc G ⟨_, sG, h1, h2, idx, h3⟩
    rw [List.take_of_length_le (by omega)] at h3
    exact hd G acc idx sG h1 h3
end L2
set_option maxHeartbeats 200000
namespace My
open PySem L2
local macro_rules | `(tactic| walk_at "rd") => `(tactic| repeat (first
  | refine ⟨_, rfl, ?_⟩
  | refine ⟨_, _, rfl, rfl, ?_⟩
  | refine ⟨_, _, rfl, ?_⟩
  | refine ⟨(by show (0 : Int) < _; decide), ?_⟩
  | refine ⟨(⟨by decide, by decide⟩ : CDiv _ _), ?_⟩
  | refine ⟨(⟨by decide, by decide⟩ : CDivB _ _), ?_⟩
  | refine ⟨(⟨by decide, by decide, by decide⟩ : CPow _ _), ?_⟩
  | refine ⟨(.inr ⟨by decide, by decide⟩ : CMul _ _), ?_⟩
  | refine ⟨(.inl ⟨by decide, by decide⟩ : CMul _ _), ?_⟩
  | refine ⟨Own.int, ?_⟩
  | refine ⟨Own.bl, ?_⟩
  | refine ⟨Own.str, ?_⟩
  | refine ⟨Own.non, ?_⟩
  | refine ⟨rfl, ?_⟩))
def isI : V → Bool
  | .int _ => true
  | _ => false
def inR (m : Int) : V → Bool
  | .int i => decide (1 ≤ i) && decide (i ≤ m)
  | _ => false
def spW (K : PySem.W.Frag) : Sp := fun vs H Q _ => ∃ x, vs = [x] ∧ Own K H x ∧ Q (.bl (isI x)) H
def spR (K : PySem.W.Frag) (m : Int) : Sp := fun vs H Q _ => ∃ x, vs = [x] ∧ Own K H x ∧ Q (.bl (inR m x)) H
def FrD (d : Addr) (H H' : Hp) : Prop := ∀ b u, b ≠ d → H b = some u → H' b = some u
def Seen (kvs kv' : List (Key × V)) (ns : List Int) : Prop := kv'.length = kvs.length + ns.length ∧ ∀ s : Int, valV kv' (Sum.inl s) = none ↔ valV kvs (Sum.inl s) = none ∧ s ∉ ns
structure Good (ns : List Int) : Prop where
  inn : ∀ s ∈ ns, inR 1000000000 (.int s) = true
  nd : ns.Nodup
def spSheetList : Sp := fun vs H Q _ => ∃ a d ns kvs, vs = [.ref a, .ref d] ∧ H a = some (.lst (ns.map V.int)) ∧ H d = some (.dK kvs) ∧ Good ns ∧ ns.Pairwise (· < ·) ∧ (∀ s ∈ ns, valV kvs (Sum.inl s) = none) ∧ kvs.length + ns.length ≤ 1000 ∧
  ∀ l kv' H', FrD d H H' → H l = none → H' l = some (.lst (ns.map V.int)) → H' d = some (.dK kv') → Seen kvs kv' ns → Q (.ref l) H'
theorem take_one {α : Type} {l : List α} {i : Nat} {x : α} (h : l[i]? = some x) : l.take (i + 1) = l.take i ++ [x] := by
  rw [List.take_succ, h]; rfl
theorem Seen.nil (kvs : List (Key × V)) : Seen kvs kvs [] := ⟨rfl, fun s => ⟨fun h => ⟨h, List.not_mem_nil⟩, fun h => h.1⟩⟩
theorem Seen.put {kvs kv' : List (Key × V)} {ns : List Int} {s : Int} {v : V} (h : Seen kvs kv' ns) (hs : valV kv' (Sum.inl s) = none) : Seen kvs (putK kv' (Sum.inl s) v) (ns ++ [s]) := by
  refine ⟨?_, fun x => ?_⟩
  · unfold putK
    rw [if_neg (by rw [valV_any, hs]; decide), List.length_append, List.length_append, h.1]
    rfl
  · rw [valV_put, List.mem_append, List.mem_singleton]
    by_cases e : x = s
    · subst e
      rw [if_pos rfl]
      exact ⟨fun z => (nomatch z), fun z => absurd (Or.inr rfl) z.2⟩
    · rw [if_neg (fun z => e (Sum.inl.inj z)), h.2 x]
      exact ⟨fun z => ⟨z.1, fun q => q.elim z.2 e⟩, fun z => ⟨z.1, fun q => z.2 (.inl q)⟩⟩
theorem Seen.more {k0 k1 k2 : List (Key × V)} {ns ms : List Int} (h : Seen k0 k1 ns) (h' : Seen k1 k2 ms) : Seen k0 k2 (ns ++ ms) := by
  refine ⟨by rw [h'.1, h.1, List.length_append, Nat.add_assoc], fun s => ?_⟩
  rw [h'.2 s, h.2 s, List.mem_append]
  exact ⟨fun z => ⟨z.1.1, fun q => q.elim z.1.2 z.2⟩, fun z => ⟨⟨z.1, fun q => z.2 (.inl q)⟩, fun q => z.2 (.inr q)⟩⟩
theorem FrD.refl (d : Addr) (H : Hp) : FrD d H H := fun b u _ h => h
theorem FrD.trans {d : Addr} {H H1 H2 : Hp} (a : FrD d H H1) (b : FrD d H1 H2) : FrD d H H2 := fun c u n h => b c u n (a c u n h)
theorem FrD.lst {d : Addr} {H H' : Hp} {kvs : List (Key × V)} (f : FrD d H H') (hd : H d = some (.dK kvs)) : ∀ a xs, H a = some (.lst xs) → H' a = some (.lst xs) := fun a xs h => f a _ (ne_of h hd (by intro z; cases z)) h
theorem FrD.some {d : Addr} {H H' : Hp} {kvs : List (Key × V)} (f : FrD d H H') (hd : H' d = some (.dK kvs)) : ∀ a, H a ≠ none → H' a ≠ none := fun a h => by
  by_cases e : a = d
  · subst e; rw [hd]; intro z; cases z
  · cases q : H a with
    | none => exact absurd q h
    | some u => rw [f a u e q]; intro z; cases z
structure Grp (n : Nat) (t : Tr n) : Prop where
  fu : full n t
  as : asc n t
  inn : ∀ s ∈ flat n t, inR 1000000000 (.int s) = true
  nd : (flat n t).Nodup
def spGroupList (n : Nat) : Sp := fun vs H Q _ => ∃ v d, ∃ t : Tr (n + 1), ∃ kvs, vs = [v, .int (3 - (n : Int)), .ref d] ∧ AtR H (n + 1) v t ∧ Grp (n + 1) t ∧ H d = some (.dK kvs) ∧ (∀ s ∈ flat (n + 1) t, valV kvs (Sum.inl s) = none) ∧ kvs.length + (flat (n + 1) t).length ≤ 1000 ∧
  ∀ w kv' H', FrD d H H' → New H H' (n + 1) w t → H' d = some (.dK kv') → Seen kvs kv' (flat (n + 1) t) → Q w H'
structure WF (S : Tr 4) : Prop where
  fu : ∀ g ∈ ls S, full 3 g
  as : asc 4 S
  inn : ∀ s ∈ flat 4 S, inR 1000000000 (.int s) = true
  nd : (flat 4 S).Nodup
theorem WF.grp {S : Tr 4} (h : WF S) {i : Nat} {g : Tr 3} (e : (ls S)[i]? = some g) : Grp 3 g :=
  have hm := List.mem_of_getElem? e
  ⟨h.fu g hm, h.as g hm, fun s hs => h.inn s (flat_mem hm hs), (flat_nd e h.nd).1⟩
theorem Grp.kid {n : Nat} {t : Tr (n + 2)} (h : Grp (n + 2) t) {i : Nat} {g : Tr (n + 1)} (e : (ls t)[i]? = some g) : Grp (n + 1) g :=
  have hm := List.mem_of_getElem? e
  ⟨h.fu.2 g hm, h.as g hm, fun s hs => h.inn s (flat_mem hm hs), (flat_nd e h.nd).1⟩
def spSorting (K : PySem.W.Frag) : Sp := fun vs H Q _ => ∃ v, ∃ S : Tr 4, vs = [v] ∧ AtR H 4 v S ∧ WF S ∧ (flat 4 S).length ≤ 1000 ∧ ∀ w H', Same H H' → New H H' 4 w S → Q w H'
theorem le_k {j k n : Nat} (h : j ≤ k) : j ≤ Nat.add k n := Nat.le_trans h (Nat.le_add_right k n)
theorem flat_pos : ∀ {n : Nat} {t : Tr n}, full n t → 1 ≤ (flat n t).length
  | 0, _, _ => Nat.le_refl 1
  | n + 1, t, h => by
    obtain ⟨x, r, e⟩ := List.exists_cons_of_ne_nil h.1
    have hx := flat_pos (h.2 x (by rw [e]; exact List.mem_cons_self ..))
    have e2 : flat (n + 1) t = flat n x ++ flat (n + 1) (r : List (Tr n)) := congrArg (fun z : List (Tr n) => flat (n + 1) z) e
    rw [e2, List.length_append]
    omega
theorem flat_full {n : Nat} : ∀ {ts : List (Tr n)}, (∀ t ∈ ts, full n t) → ts.length ≤ (flat (n + 1) ts).length
  | [], _ => Nat.zero_le _
  | x :: r, h => by
    have h1 := flat_pos (h x (List.mem_cons_self ..))
    have h2 := flat_full (ts := r) fun t ht => h t (List.mem_cons_of_mem _ ht)
    have e2 : flat (n + 1) (x :: r : List (Tr n)) = flat n x ++ flat (n + 1) (r : List (Tr n)) := rfl
    rw [e2, List.length_append, List.length_cons]
    omega
theorem seqNil {K : PySem.W.Frag} {H : Hp} {n : Nat} {a b : Addr} {xs : List V} (ha : SqL K H a xs) (hb : SqL K H b []) : SeqEq K H (EqD K H n) (.ref a) (.ref b) xs.isEmpty := by
  cases xs with
  | nil => exact .list (e := fun _ => true) ha hb rfl fun i x y h => (by rw [List.getElem?_nil] at h; cases h)
  | cons x r => exact .listN ha hb (by intro z; cases z)
theorem inR_int (m i : Int) : inR m (.int i) = (decide (1 ≤ i) && decide (i ≤ m)) := rfl
theorem inR_of {m i : Int} (h1 : 1 ≤ i) (h2 : i ≤ m) : inR m (.int i) = true := by rw [inR_int, decide_eq_true h1, decide_eq_true h2]; rfl
structure Put (S : Tr 4) (s : Int) (S' : Tr 4) : Prop where
  p : (flat 4 S').Perm (flat 4 S ++ [s])
  fu : (∀ g ∈ ls S, full 3 g) → ∀ g ∈ ls S', full 3 g
  as : asc 4 S → asc 4 S'
theorem Put.wf {S S' : Tr 4} {s : Int} (h : Put S s S') (w : WF S) (hs : s ∉ flat 4 S) (hr : inR 1000000000 (.int s) = true) : WF S' := by
  refine ⟨h.fu w.fu, h.as w.as, fun x hx => ?_, ?_⟩
  · rcases List.mem_append.mp (h.p.mem_iff.mp hx) with q | q
    · exact w.inn x q
    · rw [List.mem_singleton.mp q]; exact hr
  · rw [h.p.nodup_iff, List.nodup_append]
    exact ⟨w.nd, List.nodup_cons.mpr ⟨List.not_mem_nil, List.nodup_nil⟩, fun x hx y hy e => hs (by rw [← List.mem_singleton.mp hy, ← e]; exact hx)⟩
theorem full_all_set {n : Nat} {ts : List (Tr n)} {i : Nat} {t : Tr n} (h : ∀ g ∈ ts, full n g) (ht : full n t) : ∀ g ∈ ts.set i t, full n g := fun x hx => by
  rcases List.mem_or_eq_of_mem_set hx with q | q
  · exact h x q
  · rw [q]; exact ht
structure PutG (n : Nat) (t : Tr (n + 1)) (s : Int) (t' : Tr (n + 1)) : Prop where
  p : (flat (n + 1) t').Perm (flat (n + 1) t ++ [s])
  fu : full (n + 1) t → full (n + 1) t'
  as : asc (n + 1) t → asc (n + 1) t'
theorem PutG.up {n : Nat} {ts : Tr (n + 2)} {i : Nat} {t t' : Tr (n + 1)} {s : Int} (h : PutG n t s t') (e : (ls ts)[i]? = some t) : PutG (n + 1) ts s ((ls ts).set i t' : List (Tr (n + 1))) :=
  have hm := List.mem_of_getElem? e
  ⟨flat_set (n + 1) (ls ts) i t t' s e h.p, fun f => full_set f (h.fu (f.2 t hm)), fun a => asc_set a (h.as (a t hm))⟩
theorem PutG.top {S : Tr 4} {i : Nat} {t t' : Tr 3} {s : Int} (h : PutG 2 t s t') (e : (ls S)[i]? = some t) : Put S s ((ls S).set i t' : List (Tr 3)) :=
  have hm := List.mem_of_getElem? e
  ⟨flat_set 3 (ls S) i t t' s e h.p, fun f => full_all_set f (h.fu (f t hm)), fun a => asc_set a (h.as (a t hm))⟩
def solo : (n : Nat) → Int → Tr n
  | 0, s => s
  | n + 1, s => ([solo n s] : List (Tr n))
theorem solo_flat : ∀ (n : Nat) (s : Int), flat n (solo n s) = [s]
  | 0, s => rfl
  | n + 1, s => by
    show flat n (solo n s) ++ [] = [s]
    rw [solo_flat n s]
    rfl
theorem solo_full : ∀ (n : Nat) (s : Int), full n (solo n s)
  | 0, _ => trivial
  | n + 1, s => ⟨List.cons_ne_nil _ _, fun t ht => by rw [List.mem_singleton.mp ht]; exact solo_full n s⟩
theorem solo_asc : ∀ (n : Nat) (s : Int), asc n (solo n s)
  | 0, _ => trivial
  | 1, s => List.pairwise_singleton _ _
  | n + 2, s => fun t ht => by rw [List.mem_singleton.mp ht]; exact solo_asc (n + 1) s
theorem PutG.app {n : Nat} (ts : Tr (n + 2)) (s : Int) : PutG (n + 1) ts s (ls ts ++ [solo (n + 1) s] : List (Tr (n + 1))) := by
  refine ⟨?_, fun f => full_app f (solo_full _ s), fun a => asc_app a (solo_asc _ s)⟩
  rw [flat_app]
  have e : flat (n + 2) ([solo (n + 1) s] : List (Tr (n + 1))) = [s] := solo_flat (n + 2) s
  rw [e]
theorem Put.app (S : Tr 4) (s : Int) : Put S s (ls S ++ [solo 3 s] : List (Tr 3)) := by
  refine ⟨?_, fun f x hx => ?_, fun a => asc_app a (solo_asc _ s)⟩
  · rw [flat_app]
    have e : flat 4 ([solo 3 s] : List (Tr 3)) = [s] := solo_flat 4 s
    rw [e]
  · rcases List.mem_append.mp hx with q | q
    · exact f x q
    · rw [List.mem_singleton.mp q]; exact solo_full 3 s
theorem PutG.form {f f' : List Int} {s : Int} (p : f'.Perm (f ++ [s])) (hs : f'.Pairwise (· ≤ ·)) (hn : s ∉ f) : PutG 0 f s f' := by
  refine ⟨(List.Perm.of_eq (flat_ints f')).trans (p.trans (List.Perm.of_eq (congrArg (· ++ [s]) (flat_ints f).symm))), fun _ => ⟨fun z => ?_, fun t _ => trivial⟩, fun a => ?_⟩
  · have z : f' = [] := z
    rw [z] at p
    exact absurd (p.mem_iff.mpr (List.mem_append_right _ (List.mem_singleton.mpr rfl))) List.not_mem_nil
  · have a : f.Pairwise (· < ·) := a
    have nd : f.Nodup := a.imp fun h => Int.ne_of_lt h
    have nd' : f'.Nodup := by
      rw [p.nodup_iff, List.nodup_append]
      exact ⟨nd, List.nodup_cons.mpr ⟨List.not_mem_nil, List.nodup_nil⟩, fun x hx y hy e => hn (by rw [← List.mem_singleton.mp hy, ← e]; exact hx)⟩
    show f'.Pairwise (· < ·)
    exact (hs.and nd').imp fun h => by omega
theorem newSolo {H H1 : Hp} {n : Nat} {w : V} {s : Int} {q : Addr} (h : New H H1 n w (solo n s)) (hq : H1 q = none) (sm : Same H H1) : New H (upd H1 q (.lst [w])) (n + 1) (.ref q) (solo (n + 1) s) := by
  have nq : H q = none := sm.free hq
  have nl : NewL H1 H1 q n [] [] := NewL.nil
  obtain ⟨o, k, d⟩ := h
  refine ⟨fun b => if b = q then some [] else (o b).map (· ++ [0]), ⟨q, [w], rfl, if_pos rfl, upd_same, rfl, fun j x t hx ht => ?_⟩, fun b r hr => ?_⟩
  · match j, hx, ht with
    | 0, hx, ht =>
      cases hx
      have ht : some (solo n s) = some t := ht
      cases ht
      refine (k.under [0]).frame fun b r xs hb _ hx => ⟨?_, ?_⟩
      · rw [upd_ne (fun z => by rw [z, hq] at hx; cases hx)]
        exact hx
      · show (if b = q then some [] else (o b).map (· ++ [0])) = some r
        rw [if_neg (fun z => by rw [z, hq] at hx; cases hx)]
        exact hb
    | j + 1, hx, ht => cases hx
  · have hr : (if b = q then some [] else (o b).map (· ++ [0])) = some r := hr
    by_cases e : b = q
    · subst e
      exact ⟨nq, by rw [upd_same]; intro z; cases z⟩
    · rw [if_neg e] at hr
      cases e2 : o b with
      | none => rw [e2] at hr; cases hr
      | some r' => exact ⟨(d b r' e2).1, by rw [upd_ne e]; exact (d b r' e2).2⟩
theorem putEnd {o o' : Ow} {G G1 : Hp} {c : Addr} {u : HO} {pc : List Nat} (x : Ext o o' G G1) (s : Same G G1) (hc : o c = some pc) : (∀ b v, o b = none → G b = some v → upd G1 c u b = some v) ∧ ∀ b r, o' b = some r → o b = none → G b = none := by
  refine ⟨fun b v hb hv => ?_, fun b r hr hb => ?_⟩
  · rw [upd_ne (fun z => by rw [z, hc] at hb; cases hb)]
    exact s b v hv
  · cases e : G b with
    | none => rfl
    | some v => rw [x.old b (by rw [e]; intro z; cases z), hb] at hr; cases hr
def small : (n : Nat) → Tr n → Prop
  | 0, _ => True
  | n + 1, ts => (ls ts).length ≤ 1000 ∧ ∀ t ∈ ls ts, small n t
theorem small_of : ∀ {n : Nat} {t : Tr n}, full n t → (flat n t).length ≤ 1000 → small n t
  | 0, _, _, _ => trivial
  | n + 1, t, h, l => ⟨Nat.le_trans (flat_full (fun x hx => h.2 x hx) (ts := ls t)) l, fun x hx => by
    obtain ⟨i, e⟩ := List.getElem?_of_mem hx
    have := flat_len e
    exact small_of (h.2 x hx) (Nat.le_trans (Nat.le_trans (Nat.le_add_left _ _) this) l)⟩
theorem small_S {S : Tr 4} (h : ∀ g ∈ ls S, full 3 g) (l : (flat 4 S).length ≤ 1000) : small 4 S :=
  ⟨Nat.le_trans (flat_full (fun x hx => h x hx) (ts := ls S)) l, fun x hx => by
    obtain ⟨i, e⟩ := List.getElem?_of_mem hx
    have := flat_len e
    exact small_of (h x hx) (Nat.le_trans (Nat.le_trans (Nat.le_add_left _ _) this) l)⟩
theorem WF.nil : WF ([] : List (Tr 3)) := by
  refine ⟨fun g h => ?_, fun g h => ?_, fun s h => ?_, List.nodup_nil⟩
  · exact absurd (show g ∈ ([] : List (Tr 3)) from h) List.not_mem_nil
  · exact absurd (show g ∈ ([] : List (Tr 3)) from h) List.not_mem_nil
  · exact absurd (show s ∈ ([] : List Int) from h) List.not_mem_nil
def Kp (o : Ow) (H : Hp) (o1 : Ow) (G : Hp) : Prop := ∀ b u, o b = none → H b = some u → G b = some u ∧ o1 b = none
theorem Kp.step {o o1 o2 : Ow} {H G G1 : Hp} {c : Addr} {w : HO} {pc : List Nat} (k : Kp o H o1 G) (x : Ext o1 o2 G G1) (s : Same G G1) (hc : o1 c = some pc) : Kp o H o2 (upd G1 c w) := fun b u hb hu => by
  obtain ⟨h1, h2⟩ := k b u hb hu
  refine ⟨(putEnd x s hc).1 b u h2 h1, ?_⟩
  rw [x.old b (some_ne h1)]
  exact h2
theorem nd_take {ns : List Int} {i : Nat} {s : Int} (h : ns.Nodup) (hs : ns[i]? = some s) : s ∉ ns.take i := fun z => by
  have e : ns = ns.take i ++ s :: ns.drop (i + 1) := by
    obtain ⟨hi, rfl⟩ := List.getElem?_eq_some_iff.mp hs
    rw [List.getElem_cons_drop hi, List.take_append_drop]
  rw [e, List.nodup_append] at h
  exact h.2.2 s z s (List.mem_cons_self ..) rfl
theorem atI_last {α : Type} (xs : List α) (v : α) : atI (xs ++ [v]) (-1) = some v := by
  have e : ixN (xs ++ [v]).length (-1) = some xs.length := by
    unfold ixN
    rw [List.length_append, List.length_singleton]
    simp
    omega
  unfold atI
  rw [e]
  simp
theorem getI {ns : List Int} {i : Nat} {x : V} (h : (ns.map V.int)[i]? = some x) : ∃ s, ns[i]? = some s ∧ x = .int s := by
  rw [List.getElem?_map] at h
  cases e : ns[i]? with
  | none => rw [e] at h; cases h
  | some s => rw [e] at h; exact ⟨s, rfl, (Option.some.inj h).symm⟩
def srt (ns : List Int) : List Int := ns.mergeSort fun a b => decide (a ≤ b)
theorem srt_perm (ns : List Int) : (srt ns).Perm ns := List.mergeSort_perm ..
theorem srt_pw (ns : List Int) : (srt ns).Pairwise (· ≤ ·) :=
  (List.pairwise_mergeSort (le := fun a b => decide (a ≤ b)) (fun a b c h1 h2 => decide_eq_true (Int.le_trans (of_decide_eq_true h1) (of_decide_eq_true h2))) (fun a b => by
    rcases Int.le_total a b with h | h
    · rw [decide_eq_true h]; rfl
    · rw [decide_eq_true h, Bool.or_true]) ns).imp fun h => of_decide_eq_true h
theorem srt_is {ms ns : List Int} (p : ms.Perm ns) (h : ms.Pairwise (· ≤ ·)) : ms = srt ns :=
  (p.trans (srt_perm ns).symm).eq_of_pairwise (fun a b _ _ h1 h2 => Int.le_antisymm h1 h2) h (srt_pw ns)
abbrev Rw := List Int × List Int
def rows : (n : Nat) → List Int → List (Tr (n + 1)) → List Rw
  | 0, p, ts => ts.zipIdx.flatMap fun x => [(p ++ [(x.2 : Int)], x.1)]
  | n + 1, p, ts => ts.zipIdx.flatMap fun x => (p ++ [(x.2 : Int)], srt (flat (n + 2) x.1)) :: rows n (p ++ [(x.2 : Int)]) x.1
def one : (n : Nat) → List Int → Nat → Tr (n + 1) → List Rw
  | 0, p, i, t => [(p ++ [(i : Int)], t)]
  | n + 1, p, i, t => (p ++ [(i : Int)], srt (flat (n + 2) t)) :: rows n (p ++ [(i : Int)]) t
theorem rows_one : ∀ (n : Nat) (p : List Int) (ts : List (Tr (n + 1))), rows n p ts = ts.zipIdx.flatMap fun x => one n p x.2 x.1
  | 0, _, _ => rfl
  | _ + 1, _, _ => rfl
theorem rows_take {n : Nat} {p : List Int} {ts : List (Tr (n + 1))} {i : Nat} {t : Tr (n + 1)} (h : ts[i]? = some t) : rows n p (ts.take (i + 1)) = rows n p (ts.take i) ++ one n p i t := by
  have e : ts.take (i + 1) = ts.take i ++ [t] := by rw [List.take_succ, h]; rfl
  have hi : i < ts.length := (List.getElem?_eq_some_iff.mp h).1
  have el : (ts.take i).length = i := by rw [List.length_take]; omega
  rw [rows_one, rows_one, e, List.zipIdx_append, List.flatMap_append, el]
  show _ ++ (one n p (0 + i) t ++ []) = _
  rw [Nat.zero_add, List.append_nil]
def sheets3 (rs : List Rw) : List Int := rs.flatMap fun r => if r.1.length = 3 then r.2 else []
theorem sheets3_app (a b : List Rw) : sheets3 (a ++ b) = sheets3 a ++ sheets3 b := List.flatMap_append
theorem rows_flat : ∀ (n : Nat) (p : List Int) (ts : List (Tr (n + 1))), p.length + n = 2 → sheets3 (rows n p ts) = flat (n + 2) ts := by
  intro n
  induction n with
  | zero =>
    intro p ts hp
    have : ∀ (us : List (Tr 1)) (k : Nat), sheets3 ((us.zipIdx k).flatMap fun x => one 0 p x.2 x.1) = flat 2 us := by
      intro us
      induction us with
      | nil => intro k; rfl
      | cons t r ih =>
        intro k
        rw [List.zipIdx_cons, List.flatMap_cons, sheets3_app, ih (k + 1)]
        have e : sheets3 (one 0 p (t, k).snd (t, k).fst) = flat 1 t := by
          show List.append (if (p ++ [(k : Int)]).length = 3 then ls t else []) [] = flat 1 t
          rw [if_pos (by rw [List.length_append]; show p.length + 1 = 3; omega)]
          exact (List.append_nil (ls t)).trans (flat_ints t).symm
        rw [e]
        rfl
    rw [rows_one]
    exact this ts 0
  | succ n ih0 =>
    intro p ts hp
    have : ∀ (us : List (Tr (n + 2))) (k : Nat), sheets3 ((us.zipIdx k).flatMap fun x => one (n + 1) p x.2 x.1) = flat (n + 3) us := by
      intro us
      induction us with
      | nil => intro k; rfl
      | cons t r ih =>
        intro k
        rw [List.zipIdx_cons, List.flatMap_cons, sheets3_app, ih (k + 1)]
        have e : sheets3 (one (n + 1) p (t, k).snd (t, k).fst) = flat (n + 2) t := by
          have el : (p ++ [(k : Int)]).length = p.length + 1 := by rw [List.length_append]; rfl
          show List.append (if (p ++ [(k : Int)]).length = 3 then srt (flat (n + 2) t) else []) (sheets3 (rows n (p ++ [(k : Int)]) (ls t))) = _
          rw [if_neg (by omega)]
          exact ih0 _ (ls t) (by omega)
        rw [e]
        rfl
    rw [rows_one]
    exact this ts 0
theorem rows_len : ∀ (n : Nat) (p : List Int) (ts : List (Tr (n + 1))), (∀ t ∈ ts, full (n + 1) t) → (rows n p ts).length ≤ (n + 1) * (flat (n + 2) ts).length := by
  intro n
  induction n with
  | zero =>
    intro p ts hf
    have : ∀ (us : List (Tr 1)) (k : Nat), (∀ t ∈ us, full 1 t) → ((us.zipIdx k).flatMap fun x => one 0 p x.2 x.1).length ≤ (flat 2 us).length := by
      intro us
      induction us with
      | nil => intro k _; exact Nat.le_refl _
      | cons t r ih =>
        intro k hf
        rw [List.zipIdx_cons, List.flatMap_cons, List.length_append]
        have h1 := ih (k + 1) fun t ht => hf t (List.mem_cons_of_mem _ ht)
        have h2 := flat_pos (hf t (List.mem_cons_self ..))
        have e2 : flat 2 (t :: r : List (Tr 1)) = flat 1 t ++ flat 2 (r : List (Tr 1)) := rfl
        rw [e2, List.length_append]
        have e3 : (one 0 p (t, k).snd (t, k).fst).length = 1 := rfl
        omega
    rw [rows_one]
    have h := this ts 0 hf
    exact Nat.le_trans h (Nat.le_of_eq (Nat.one_mul _).symm)
  | succ n ih0 =>
    intro p ts hf
    have : ∀ (us : List (Tr (n + 2))) (k : Nat), (∀ t ∈ us, full (n + 2) t) → ((us.zipIdx k).flatMap fun x => one (n + 1) p x.2 x.1).length ≤ (n + 2) * (flat (n + 3) us).length := by
      intro us
      induction us with
      | nil => intro k _; exact Nat.zero_le _
      | cons t r ih =>
        intro k hf
        rw [List.zipIdx_cons, List.flatMap_cons, List.length_append]
        have h1 := ih (k + 1) fun t ht => hf t (List.mem_cons_of_mem _ ht)
        have h2 := flat_pos (hf t (List.mem_cons_self ..))
        have h3 : (rows n (p ++ [(k : Int)]) (ls t)).length ≤ (n + 1) * (flat (n + 2) t).length := ih0 (p ++ [(k : Int)]) (ls t) (hf t (List.mem_cons_self ..)).2
        have e2 : flat (n + 3) (t :: r : List (Tr (n + 2))) = flat (n + 2) t ++ flat (n + 3) (r : List (Tr (n + 2))) := rfl
        rw [e2, List.length_append, Nat.mul_add]
        have e3 : (one (n + 1) p (t, k).snd (t, k).fst).length = (rows n (p ++ [(k : Int)]) (ls t)).length + 1 := rfl
        have e4 : (n + 2) * (flat (n + 2) t).length = (n + 1) * (flat (n + 2) t).length + (flat (n + 2) t).length := by rw [Nat.succ_mul]
        omega
    rw [rows_one]
    exact this ts 0 hf
def RowT (H0 H : Hp) (v : V) (r : Rw) : Prop := ∃ t ip sl, v = .ref t ∧ H t = some (.tup [.ref ip, .ref sl]) ∧ H ip = some (.tup (r.1.map V.int)) ∧ H sl = some (.lst (r.2.map V.int)) ∧ H0 sl = none
def RowsAt (H0 H : Hp) (vs : List V) (rs : List Rw) : Prop := vs.length = rs.length ∧ ∀ (j : Nat) v r, vs[j]? = some v → rs[j]? = some r → RowT H0 H v r
theorem RowT.same {H0 H H' : Hp} {v : V} {r : Rw} (h : RowT H0 H v r) (s : Same H H') : RowT H0 H' v r := let ⟨t, ip, sl, e, a, b, c, d⟩ := h; ⟨t, ip, sl, e, s _ _ a, s _ _ b, s _ _ c, d⟩
theorem RowT.older {H0 H1 H : Hp} {v : V} {r : Rw} (h : RowT H1 H v r) (s : Same H0 H1) : RowT H0 H v r := let ⟨t, ip, sl, e, a, b, c, d⟩ := h; ⟨t, ip, sl, e, a, b, c, s.free d⟩
theorem RowsAt.same {H0 H H' : Hp} {vs : List V} {rs : List Rw} (h : RowsAt H0 H vs rs) (s : Same H H') : RowsAt H0 H' vs rs := ⟨h.1, fun j v r a b => (h.2 j v r a b).same s⟩
theorem RowsAt.older {H0 H1 H : Hp} {vs : List V} {rs : List Rw} (h : RowsAt H1 H vs rs) (s : Same H0 H1) : RowsAt H0 H vs rs := ⟨h.1, fun j v r a b => (h.2 j v r a b).older s⟩
theorem RowsAt.elder {H0 H1 H : Hp} {vs : List V} {rs : List Rw} (h : RowsAt H1 H vs rs) (f : ∀ b, H1 b = none → H0 b = none) : RowsAt H0 H vs rs := ⟨h.1, fun j v r a b => let ⟨t, ip, sl, e, a1, b1, c1, d1⟩ := h.2 j v r a b; ⟨t, ip, sl, e, a1, b1, c1, f _ d1⟩⟩
theorem RowsAt.nil {H0 H : Hp} : RowsAt H0 H [] [] := ⟨rfl, fun j v r h => by rw [List.getElem?_nil] at h; cases h⟩
theorem RowsAt.app {H0 H : Hp} {vs ws : List V} {rs qs : List Rw} (h : RowsAt H0 H vs rs) (h' : RowsAt H0 H ws qs) : RowsAt H0 H (vs ++ ws) (rs ++ qs) := by
  refine ⟨by rw [List.length_append, List.length_append, h.1, h'.1], fun j v r hv hr => ?_⟩
  rcases Nat.lt_or_ge j vs.length with q | q
  · rw [List.getElem?_append_left q] at hv
    rw [List.getElem?_append_left (by rw [← h.1]; exact q)] at hr
    exact h.2 j v r hv hr
  · rw [List.getElem?_append_right q] at hv
    rw [List.getElem?_append_right (by rw [← h.1]; exact q), ← h.1] at hr
    exact h'.2 _ v r hv hr
theorem RowsAt.one {H0 H : Hp} {v : V} {r : Rw} (h : RowT H0 H v r) : RowsAt H0 H [v] [r] := by
  refine ⟨rfl, fun j w q hw hq => ?_⟩
  match j, hw, hq with
  | 0, hw, hq => cases hw; cases hq; exact h
  | j + 1, hw, hq => cases hw
theorem RowT.upd {H0 H : Hp} {v : V} {r : Rw} {l : Addr} {xs ys : List V} (h : RowT H0 H v r) (hl : H l = some (.lst xs)) (hl0 : H0 l ≠ none) : RowT H0 (L2.upd H l (.lst ys)) v r := by
  obtain ⟨t, ip, sl, e, a, b, c, d⟩ := h
  have n1 : t ≠ l := fun z => by rw [z, hl] at a; cases a
  have n2 : ip ≠ l := fun z => by rw [z, hl] at b; cases b
  have n3 : sl ≠ l := fun z => hl0 (z ▸ d)
  exact ⟨t, ip, sl, e, by rw [upd_ne n1]; exact a, by rw [upd_ne n2]; exact b, by rw [upd_ne n3]; exact c, d⟩
theorem RowsAt.upd {H0 H : Hp} {vs : List V} {rs : List Rw} {l : Addr} {xs ys : List V} (h : RowsAt H0 H vs rs) (hl : H l = some (.lst xs)) (hl0 : H0 l ≠ none) : RowsAt H0 (L2.upd H l (.lst ys)) vs rs := ⟨h.1, fun j v r a b => (h.2 j v r a b).upd hl hl0⟩
def spSheetsOf : Sp := fun vs H Q _ => ∃ l ws H0 rs, vs = [.ref l] ∧ H l = some (.lst ws) ∧ RowsAt H0 H ws rs ∧ (sheets3 rs).length < 64 ∧ rs.length ≤ 1000 ∧ ∀ q H', Same H H' → H q = none → H' q = some (.lst ((srt (sheets3 rs)).map V.int)) → Q (.ref q) H'
def spGroupsIn (K : PySem.W.Frag) (n : Nat) : Sp := fun vs H Q _ => ∃ tp ps v, ∃ ts : Tr (n + 2), vs = [.ref tp, v] ∧ SqT K H tp (ps.map V.int) ∧ ps.length + n = 2 ∧ AtR H (n + 2) v ts ∧ (∀ t ∈ ls ts, full (n + 1) t) ∧ (flat (n + 2) ts).length < 64 ∧
  ∀ l ws H', Same H H' → H l = none → H' l = some (.lst ws) → RowsAt H H' ws (rows n ps (ls ts)) → Q (.ref l) H'
def spGroups (K : PySem.W.Frag) : Sp := fun vs H Q _ => ∃ v, ∃ S : Tr 4, vs = [v] ∧ AtR H 4 v S ∧ WF S ∧ (flat 4 S).length < 64 ∧ ∀ l ws H', Same H H' → H l = none → H' l = some (.lst ws) → RowsAt H H' ws (rows 2 [] (ls S)) → Q (.ref l) H'
def RowL (H : Hp) (v : V) (r : Rw) : Prop := ∃ a t l, v = .ref a ∧ H a = some (.lst [.ref t, .ref l]) ∧ H t = some (.tup (r.1.map V.int)) ∧ H l = some (.lst (r.2.map V.int))
def RowsL (H : Hp) (vs : List V) (rs : List Rw) : Prop := vs.length = rs.length ∧ ∀ (j : Nat) v r, vs[j]? = some v → rs[j]? = some r → RowL H v r
theorem RowL.keep {H H' : Hp} {v : V} {r : Rw} (h : RowL H v r) (s : ∀ b u, H b = some u → H' b = some u) : RowL H' v r := let ⟨a, t, l, e, h1, h2, h3⟩ := h; ⟨a, t, l, e, s _ _ h1, s _ _ h2, s _ _ h3⟩
theorem RowsL.same {H H' : Hp} {vs : List V} {rs : List Rw} (h : RowsL H vs rs) (s : Same H H') : RowsL H' vs rs := ⟨h.1, fun j v r a b => (h.2 j v r a b).keep s⟩
def RowX (X : Addr → Prop) (H : Hp) (v : V) (r : Rw) : Prop := ∃ a t l, v = .ref a ∧ H a = some (.lst [.ref t, .ref l]) ∧ H t = some (.tup (r.1.map V.int)) ∧ H l = some (.lst (r.2.map V.int)) ∧ ¬ X a ∧ ¬ X l
def RowsX (X : Addr → Prop) (H : Hp) (vs : List V) (rs : List Rw) : Prop := vs.length = rs.length ∧ ∀ (j : Nat) v r, vs[j]? = some v → rs[j]? = some r → RowX X H v r
theorem RowX.keep {X Y : Addr → Prop} {H H' : Hp} {v : V} {r : Rw} (h : RowX X H v r) (s : ∀ b u, H b = some u → ¬ X b → H' b = some u ∧ ¬ Y b) (ht : ∀ b ys, H b = some (.tup ys) → H' b = some (.tup ys)) : RowX Y H' v r := by
  obtain ⟨a, t, l, e, h1, h2, h3, n1, n2⟩ := h
  exact ⟨a, t, l, e, (s _ _ h1 n1).1, ht _ _ h2, (s _ _ h3 n2).1, (s _ _ h1 n1).2, (s _ _ h3 n2).2⟩
theorem RowsX.keep {X Y : Addr → Prop} {H H' : Hp} {vs : List V} {rs : List Rw} (h : RowsX X H vs rs) (s : ∀ b u, H b = some u → ¬ X b → H' b = some u ∧ ¬ Y b) (ht : ∀ b ys, H b = some (.tup ys) → H' b = some (.tup ys)) : RowsX Y H' vs rs := ⟨h.1, fun j v r a b => (h.2 j v r a b).keep s ht⟩
theorem RowsX.app {X : Addr → Prop} {H : Hp} {vs ws : List V} {rs qs : List Rw} (h : RowsX X H vs rs) (h' : RowsX X H ws qs) : RowsX X H (vs ++ ws) (rs ++ qs) := by
  refine ⟨by rw [List.length_append, List.length_append, h.1, h'.1], fun j v r hv hr => ?_⟩
  rcases Nat.lt_or_ge j vs.length with q | q
  · rw [List.getElem?_append_left q] at hv
    rw [List.getElem?_append_left (by rw [← h.1]; exact q)] at hr
    exact h.2 j v r hv hr
  · rw [List.getElem?_append_right q] at hv
    rw [List.getElem?_append_right (by rw [← h.1]; exact q), ← h.1] at hr
    exact h'.2 _ v r hv hr
theorem RowsL.app {H : Hp} {vs ws : List V} {rs qs : List Rw} (h : RowsL H vs rs) (h' : RowsL H ws qs) : RowsL H (vs ++ ws) (rs ++ qs) := by
  refine ⟨by rw [List.length_append, List.length_append, h.1, h'.1], fun j v r hv hr => ?_⟩
  rcases Nat.lt_or_ge j vs.length with q | q
  · rw [List.getElem?_append_left q] at hv
    rw [List.getElem?_append_left (by rw [← h.1]; exact q)] at hr
    exact h.2 j v r hv hr
  · rw [List.getElem?_append_right q] at hv
    rw [List.getElem?_append_right (by rw [← h.1]; exact q), ← h.1] at hr
    exact h'.2 _ v r hv hr
theorem RowsL.one {H : Hp} {v : V} {r : Rw} (h : RowL H v r) : RowsL H [v] [r] := by
  refine ⟨rfl, fun j w q hw hq => ?_⟩
  match j, hw, hq with
  | 0, hw, hq => cases hw; cases hq; exact h
  | j + 1, hw, hq => cases hw
theorem RowsX.one {X : Addr → Prop} {H : Hp} {v : V} {r : Rw} (h : RowX X H v r) : RowsX X H [v] [r] := by
  refine ⟨rfl, fun j w q hw hq => ?_⟩
  match j, hw, hq with
  | 0, hw, hq => cases hw; cases hq; exact h
  | j + 1, hw, hq => cases hw
theorem RowsX.nil {X : Addr → Prop} {H : Hp} : RowsX X H [] [] := ⟨rfl, fun j v r h => by rw [List.getElem?_nil] at h; cases h⟩
theorem RowsL.nil {H : Hp} : RowsL H [] [] := ⟨rfl, fun j v r h => by rw [List.getElem?_nil] at h; cases h⟩
def firstP : List Rw → Int → Option (List Int)
  | [], _ => none
  | r :: rs, s => if r.1.length = 3 ∧ s ∈ r.2 then some r.1 else firstP rs s
def PathV (H : Hp) (w : V) (o : Option (List Int)) : Prop := match o with | none => w = .non | some p => ∃ ip, w = .ref ip ∧ H ip = some (.tup (p.map V.int))
theorem inV_ints (s : Int) : ∀ ns : List Int, inV (.int s) (ns.map V.int) = decide (s ∈ ns)
  | [] => rfl
  | n :: ns => by
    show (eqV (.int n) (.int s) || inV (.int s) (ns.map V.int)) = _
    rw [inV_ints s ns]
    by_cases e : n = s
    · subst e
      simp [eqV]
    · have : eqV (.int n) (.int s) = false := by simp [eqV, e]
      rw [this, Bool.false_or]
      have e' : ¬ s = n := fun z => e z.symm
      simp [e']
theorem flatI (ns : List Int) : (ns.map V.int).all flatV = true := by
  rw [List.all_eq_true]
  intro x hx
  obtain ⟨i, _, rfl⟩ := List.mem_map.mp hx
  rfl
def spRefuse (K : PySem.W.Frag) (C : Addr) : Sp := fun vs H Q E => ∃ x, vs = [x] ∧ Own K H x ∧ (inR 1000000000 x = true → Q .non H) ∧ (inR 1000000000 x = false → E (.ref C) none H)
def spPathOf (K : PySem.W.Frag) (C : Addr) : Sp := fun vs H Q E => ∃ v x, ∃ S : Tr 4, vs = [v, x] ∧ AtR H 4 v S ∧ WF S ∧ (flat 4 S).length < 64 ∧ Own K H x ∧ (inR 1000000000 x = false → ∀ H', Same H H' → E (.ref C) none H') ∧
  (∀ s, x = .int s → inR 1000000000 x = true → ∀ w H', Same H H' → PathV H' w (firstP (rows 2 [] (ls S)) s) → Q w H')
theorem inR_int' {m : Int} {x : V} (h : inR m x = true) : ∃ i, x = .int i := by
  cases x <;> first | exact ⟨_, rfl⟩ | exact absurd (show false = true from h) Bool.false_ne_true
theorem mem_rows0 {p : List Int} {fs : List (Tr 1)} {r : Rw} : r ∈ rows 0 p fs ↔ ∃ (k : Nat) (f : Tr 1), fs[k]? = some f ∧ r = (p ++ [(k : Int)], ls f) := by
  rw [rows_one, List.mem_flatMap]
  constructor
  · rintro ⟨x, hx, hr⟩
    exact ⟨x.2, x.1, List.mem_zipIdx_iff_getElem?.mp hx, List.mem_singleton.mp hr⟩
  · rintro ⟨k, f, hf, rfl⟩
    exact ⟨(f, k), List.mem_zipIdx_iff_getElem?.mpr hf, List.mem_singleton.mpr rfl⟩
theorem mem_rows1 {n : Nat} {p : List Int} {ts : List (Tr (n + 2))} {r : Rw} : r ∈ rows (n + 1) p ts ↔ ∃ (i : Nat) (t : Tr (n + 2)), ts[i]? = some t ∧ (r = (p ++ [(i : Int)], srt (flat (n + 2) t)) ∨ r ∈ rows n (p ++ [(i : Int)]) (ls t)) := by
  rw [rows_one, List.mem_flatMap]
  constructor
  · rintro ⟨x, hx, hr⟩
    exact ⟨x.2, x.1, List.mem_zipIdx_iff_getElem?.mp hx, List.mem_cons.mp hr⟩
  · rintro ⟨i, t, ht, hr⟩
    exact ⟨(t, i), List.mem_zipIdx_iff_getElem?.mpr ht, List.mem_cons.mpr hr⟩
def Lies (S : Tr 4) (s : Int) (p : List Int) : Prop := ∃ (i j k : Nat) (g : Tr 3) (c : Tr 2) (f : Tr 1), (ls S)[i]? = some g ∧ (ls g)[j]? = some c ∧ (ls c)[k]? = some f ∧ s ∈ ls f ∧ p = [(i : Int), (j : Int), (k : Int)]
theorem mem_flat1 {f : Tr 1} {s : Int} : s ∈ flat 1 f ↔ s ∈ ls f := by
  have := flat_ints f
  constructor
  · intro h; rw [this] at h; exact h
  · intro h; rw [this]; exact h
theorem deep_row {S : Tr 4} {r : Rw} (h : r ∈ rows 2 [] (ls S)) (h3 : r.1.length = 3) : ∃ (i j k : Nat) (g : Tr 3) (c : Tr 2) (f : Tr 1), (ls S)[i]? = some g ∧ (ls g)[j]? = some c ∧ (ls c)[k]? = some f ∧ r = ([(i : Int), (j : Int), (k : Int)], ls f) := by
  obtain ⟨i, g, hg, h | h⟩ := mem_rows1.mp h
  · rw [h] at h3; exact absurd (show (1 : Nat) = 3 from h3) (by decide)
  obtain ⟨j, c, hc, h | h⟩ := mem_rows1.mp h
  · rw [h] at h3; exact absurd (show (2 : Nat) = 3 from h3) (by decide)
  obtain ⟨k, f, hf, h⟩ := mem_rows0.mp h
  exact ⟨i, j, k, g, c, f, hg, hc, hf, h⟩
theorem uniq_at {n : Nat} {ts : List (Tr n)} {i i' : Nat} {t t' : Tr n} {s : Int} (nd : (flat (n + 1) ts).Nodup) (h : ts[i]? = some t) (h' : ts[i']? = some t') (hs : s ∈ flat n t) (hs' : s ∈ flat n t') : i = i' := by
  have key : ∀ {a b : Nat} {x y : Tr n}, ts[a]? = some x → ts[b]? = some y → s ∈ flat n x → s ∈ flat n y → ¬ a < b := fun {a b x y} ha hb hx hy lt => by
    refine (flat_nd hb nd).2 s hy ?_
    refine flat_mem (t := x) ?_ hx
    exact List.mem_of_getElem? (i := a) (by rw [List.getElem?_take_of_lt lt]; exact ha)
  have h1 := key h h' hs hs'
  have h2 := key h' h hs' hs
  omega
theorem first_is {s : Int} {p : List Int} : ∀ {rs : List Rw}, (∀ r ∈ rs, r.1.length = 3 → s ∈ r.2 → r.1 = p) → (∃ r ∈ rs, r.1.length = 3 ∧ s ∈ r.2) → firstP rs s = some p
  | [], _, ⟨r, h, _⟩ => nomatch h
  | r :: rs, u, ⟨q, hq, h3, hs⟩ => by
    show (if r.1.length = 3 ∧ s ∈ r.2 then some r.1 else firstP rs s) = some p
    by_cases e : r.1.length = 3 ∧ s ∈ r.2
    · rw [if_pos e, u r (List.mem_cons_self ..) e.1 e.2]
    · rw [if_neg e]
      refine first_is (fun x hx => u x (List.mem_cons_of_mem _ hx)) ⟨q, ?_, h3, hs⟩
      rcases List.mem_cons.mp hq with rfl | hq
      · exact absurd ⟨h3, hs⟩ e
      · exact hq
theorem first_no {s : Int} : ∀ {rs : List Rw}, (∀ r ∈ rs, r.1.length = 3 → s ∉ r.2) → firstP rs s = none
  | [], _ => rfl
  | r :: rs, u => by
    show (if r.1.length = 3 ∧ s ∈ r.2 then some r.1 else firstP rs s) = none
    rw [if_neg (fun e => u r (List.mem_cons_self ..) e.1 e.2)]
    exact first_no fun x hx => u x (List.mem_cons_of_mem _ hx)
theorem Lies.first {S : Tr 4} {s : Int} {p : List Int} (wf : WF S) (h : Lies S s p) : firstP (rows 2 [] (ls S)) s = some p := by
  obtain ⟨i, j, k, g, c, f, hg, hc, hf, hs, rfl⟩ := h
  have hs := mem_flat1.mpr hs
  have hs2 := flat_mem (List.mem_of_getElem? hf) hs
  have hs3 := flat_mem (List.mem_of_getElem? hc) hs2
  refine first_is (fun r hr h3 hr2 => ?_) ⟨([(i : Int), (j : Int), (k : Int)], ls f), mem_rows1.mpr ⟨i, g, hg, .inr (mem_rows1.mpr ⟨j, c, hc, .inr (mem_rows0.mpr ⟨k, f, hf, rfl⟩)⟩)⟩, rfl, mem_flat1.mp hs⟩
  obtain ⟨i', j', k', g', c', f', hg', hc', hf', rfl⟩ := deep_row hr h3
  have gs := mem_flat1.mpr hr2
  have gs2 := flat_mem (List.mem_of_getElem? hf') gs
  have gs3 := flat_mem (List.mem_of_getElem? hc') gs2
  obtain rfl := uniq_at wf.nd hg hg' hs3 gs3
  rw [hg] at hg'
  cases hg'
  have ndg := (flat_nd hg wf.nd).1
  obtain rfl := uniq_at ndg hc hc' hs2 gs2
  rw [hc] at hc'
  cases hc'
  obtain rfl := uniq_at (flat_nd hc ndg).1 hf hf' hs gs
  rfl
theorem first_out {S : Tr 4} {s : Int} (h : s ∉ flat 4 S) : firstP (rows 2 [] (ls S)) s = none := first_no fun r hr h3 hr2 => by
  obtain ⟨i, j, k, g, c, f, hg, hc, hf, rfl⟩ := deep_row hr h3
  exact h (flat_mem (List.mem_of_getElem? hg) (flat_mem (List.mem_of_getElem? hc) (flat_mem (List.mem_of_getElem? hf) (mem_flat1.mpr hr2))))
structure Kn (S : Tr 4) (G : Hp) (kvs : List (Key × V)) (done : List Int) : Prop where
  has : ∀ s ∈ done, valV kvs (Sum.inl s) ≠ none
  val : ∀ s v, valV kvs (Sum.inl s) = some v → ∃ p a, Lies S s p ∧ v = .ref a ∧ G a = some (.lst (p.map V.int))
  keys : ∀ q ∈ kvs, ∃ s ∈ flat 4 S, q.1 = Sum.inl s
  len : kvs.length ≤ done.length
theorem Kn.nil {S : Tr 4} {G : Hp} : Kn S G [] [] := by
  refine ⟨fun s h => ?_, fun s v h => ?_, fun q h => ?_, Nat.le_refl _⟩
  · exact absurd h List.not_mem_nil
  · rw [valV_nil] at h; cases h
  · exact absurd h List.not_mem_nil
theorem Kn.keep {S : Tr 4} {G G' : Hp} {kvs : List (Key × V)} {done : List Int} (h : Kn S G kvs done) (s : ∀ a xs, G a = some (.lst xs) → G' a = some (.lst xs)) : Kn S G' kvs done :=
  ⟨h.has, fun x v e => let ⟨p, a, l, e', g⟩ := h.val x v e; ⟨p, a, l, e', s _ _ g⟩, h.keys, h.len⟩
theorem Kn.put {S : Tr 4} {G : Hp} {kvs : List (Key × V)} {done : List Int} {s : Int} {p : List Int} {a : Addr} (h : Kn S G kvs done) (l : Lies S s p) (g : G a = some (.lst (p.map V.int))) (hs : s ∈ flat 4 S) : Kn S G (putK kvs (Sum.inl s) (.ref a)) (done ++ [s]) := by
  refine ⟨fun x hx => ?_, fun x v e => ?_, fun q hq => ?_, ?_⟩
  · rw [valV_put]
    by_cases e : x = s
    · rw [if_pos (by rw [e])]; intro z; cases z
    · rw [if_neg (fun z => e (Sum.inl.inj z))]
      rcases List.mem_append.mp hx with q | q
      · exact h.has x q
      · exact absurd (List.mem_singleton.mp q) e
  · rw [valV_put] at e
    by_cases e' : x = s
    · rw [if_pos (by rw [e'])] at e
      cases e
      rw [e']
      exact ⟨p, a, l, rfl, g⟩
    · rw [if_neg (fun z => e' (Sum.inl.inj z))] at e
      exact h.val x v e
  · unfold putK at hq
    split at hq
    · obtain ⟨q', hq', rfl⟩ := List.mem_map.mp hq
      obtain ⟨x, hx, e⟩ := h.keys q' hq'
      refine ⟨x, hx, ?_⟩
      split
      · exact e
      · exact e
    · rcases List.mem_append.mp hq with q1 | q1
      · exact h.keys q q1
      · rw [List.mem_singleton.mp q1]; exact ⟨s, hs, rfl⟩
  · have := h.len
    unfold putK
    rw [List.length_append]
    show _ ≤ done.length + 1
    split
    · rw [List.length_map]; omega
    · rw [List.length_append]; show kvs.length + 1 ≤ _; omega
def wo : (n : Nat) → Int → Tr (n + 1) → Tr (n + 1)
  | 0, s, f => (List.filter (fun x => !decide (x = s)) (f : List Int) : List Int)
  | n + 1, s, ts => (List.filter (fun t : Tr (n + 1) => !(ls t).isEmpty) ((ls ts).map (wo n s)) : List (Tr (n + 1)))
def spWithout (n : Nat) : Sp := fun vs H Q _ => ∃ v s, ∃ t : Tr (n + 1), vs = [v, .int s, .int (3 - (n : Int))] ∧ AtR H (n + 1) v t ∧ small (n + 1) t ∧ ∀ w H', Same H H' → New H H' (n + 1) w (wo n s t) → Q w H'
abbrev Q4 := Int × Int × Int × Int
def pl1 (a b d : Int) (f : List Int) : List Q4 := f.map fun s => (s, a, b, d)
def pl2 (a b : Int) : Int → List (Tr 1) → List Q4
  | _, [] => []
  | d, f :: r => pl1 a b d (ls f) ++ pl2 a b (d + 1) r
def pl3 (a : Int) : Int → List (Tr 2) → List Q4
  | _, [] => []
  | b, c :: r => pl2 a b 0 (ls c) ++ pl3 a (b + 1) r
def pl4 : Int → List (Tr 3) → List Q4
  | _, [] => []
  | a, g :: r => pl3 a 0 (ls g) ++ pl4 (a + 1) r
def places (S : Tr 4) : List Q4 := pl4 0 (ls S)
abbrev T3 := Int × Int × Int
def ne {n : Nat} (xs : List (Tr (n + 1))) : List (Tr (n + 1)) := xs.filter fun t => !(ls t).isEmpty
theorem flat_ne {n : Nat} : ∀ xs : List (Tr (n + 1)), flat (n + 2) (ne xs : List (Tr (n + 1))) = flat (n + 2) xs
  | [] => rfl
  | x :: r => by
    obtain ⟨y, hy⟩ : ∃ y : List (Tr n), y = x := ⟨x, rfl⟩
    subst hy
    cases y with
    | nil => exact flat_ne r
    | cons a t =>
      show flat (n + 1) (a :: t : List (Tr n)) ++ flat (n + 2) (ne r : List (Tr (n + 1))) = flat (n + 1) (a :: t : List (Tr n)) ++ flat (n + 2) r
      rw [flat_ne r]
theorem flat_wo (s : Int) : ∀ (n : Nat) (t : Tr (n + 1)), flat (n + 1) (wo n s t) = (flat (n + 1) t).filter (fun x => !decide (x = s))
  | 0, f => (flat_ints (wo 0 s f)).trans (congrArg (List.filter (fun x => !decide (x = s))) (flat_ints f).symm)
  | n + 1, ts => by
    have key : ∀ xs : List (Tr (n + 1)), flat (n + 2) (xs.map (wo n s) : List (Tr (n + 1))) = (flat (n + 2) xs).filter (fun x => !decide (x = s)) := fun xs => by
      induction xs with
      | nil => rfl
      | cons x r ih =>
        show flat (n + 1) (wo n s x) ++ flat (n + 2) (r.map (wo n s) : List (Tr (n + 1))) = (flat (n + 1) x ++ flat (n + 2) (r : List (Tr (n + 1)))).filter _
        rw [List.filter_append, ih, flat_wo s n x]
    exact (flat_ne _).trans (key (ls ts))
theorem wo_in {n : Nat} {s : Int} {ts : Tr (n + 2)} {x : Tr (n + 1)} (h : x ∈ ls (wo (n + 1) s ts)) : ls x ≠ [] ∧ ∃ t ∈ ls ts, x = wo n s t := by
  have h : x ∈ List.filter (fun t : Tr (n + 1) => !(ls t).isEmpty) ((ls ts).map (wo n s)) := h
  obtain ⟨h1, h2⟩ := List.mem_filter.mp h
  obtain ⟨t, ht, e⟩ := List.mem_map.mp h1
  refine ⟨fun z => ?_, t, ht, e.symm⟩
  rw [z] at h2
  cases h2
theorem wo_full {s : Int} : ∀ {n : Nat} {ts : Tr (n + 2)} {x : Tr (n + 1)}, x ∈ ls (wo (n + 1) s ts) → full (n + 1) x
  | 0, _, _, h => ⟨(wo_in h).1, fun _ _ => trivial⟩
  | n + 1, _, x, h => by
    obtain ⟨h1, t, _, rfl⟩ := wo_in h
    exact ⟨h1, fun y hy => wo_full hy⟩
theorem wo_asc {s : Int} : ∀ {n : Nat} {t : Tr (n + 1)}, asc (n + 1) t → asc (n + 1) (wo n s t)
  | 0, f, h => by
    have h : List.Pairwise (α := Int) (· < ·) f := h
    exact List.Pairwise.filter (R := ((· < ·) : Int → Int → Prop)) (fun x => !decide (x = s)) h
  | n + 1, ts, h => fun x hx => by
    obtain ⟨_, t, ht, rfl⟩ := wo_in hx
    exact wo_asc (h t ht)
theorem WF.wo {S : Tr 4} (w : WF S) (s : Int) : WF (My.wo 3 s S) := by
  have e := flat_wo s 3 S
  refine ⟨fun g hg => wo_full hg, wo_asc w.as, fun x hx => w.inn x ?_, ?_⟩
  · have hx : x ∈ flat (3 + 1) (My.wo 3 s S) := hx
    rw [e] at hx
    exact (List.mem_filter.mp hx).1
  · show (flat (3 + 1) (My.wo 3 s S)).Nodup
    rw [e]
    exact w.nd.filter _
theorem wo_len (S : Tr 4) (s : Int) : (flat 4 (wo 3 s S)).length ≤ (flat 4 S).length := by
  have e : flat 4 (wo 3 s S) = (flat 4 S).filter (fun x => !decide (x = s)) := flat_wo s 3 S
  rw [e]
  exact List.length_filter_le _ _
theorem Lies.of {S : Tr 4} {s : Int} (h : s ∈ flat 4 S) : ∃ p, Lies S s p := by
  obtain ⟨g, hg, h3⟩ := List.mem_flatMap.mp (show s ∈ (ls S).flatMap (flat 3) from h)
  obtain ⟨c, hc, h2⟩ := List.mem_flatMap.mp (show s ∈ (ls g).flatMap (flat 2) from h3)
  obtain ⟨f, hf, h1⟩ := List.mem_flatMap.mp (show s ∈ (ls c).flatMap (flat 1) from h2)
  obtain ⟨i, ei⟩ := List.getElem?_of_mem hg
  obtain ⟨j, ej⟩ := List.getElem?_of_mem hc
  obtain ⟨k, ek⟩ := List.getElem?_of_mem hf
  exact ⟨_, i, j, k, g, c, f, ei, ej, ek, mem_flat1.mp h1, rfl⟩
def t3 (x : T3) : List V := [.int x.1, .int x.2.1, .int x.2.2]
def Vis (i j m : Nat) : List Nat → Prop
  | [m', j', i'] => i' < i ∨ (i' = i ∧ (j' < j ∨ (j' = j ∧ m' < m)))
  | _ => False
theorem vis3 {i j m a b c : Nat} : Vis i j m [c, b, a] ↔ (a < i ∨ (a = i ∧ (b < j ∨ (b = j ∧ c < m)))) := Iff.rfl
theorem vis_is {i j m : Nat} {p : List Nat} (h : Vis i j m p) : ∃ c b a, p = [c, b, a] := by
  match p, h with
  | [c, b, a], _ => exact ⟨c, b, a, rfl⟩
structure Jv (o : Ow) (G0 : Hp) (i j m : Nat) (G : Hp) : Prop where
  out : ∀ b u, o b = none → G0 b = some u → G b = some u
  own : ∀ b p u, o b = some p → ¬ Vis i j m p → G0 b = some u → G b = some u
theorem Jv.mono {o : Ow} {G0 G : Hp} {i j m i' j' m' : Nat} (h : Jv o G0 i j m G) (hv : ∀ c b a, Vis i j m [c, b, a] → Vis i' j' m' [c, b, a]) : Jv o G0 i' j' m' G :=
  ⟨h.out, fun b p u hp hn => h.own b p u hp fun z => hn (by
    obtain ⟨x, y, w, rfl⟩ := vis_is z
    exact hv _ _ _ z)⟩
theorem Jv.step {o : Ow} {G0 G : Hp} {i j m : Nat} {a : Addr} {w : HO} (h : Jv o G0 i j m G) (ha : o a = some [m, j, i]) : Jv o G0 i j (m + 1) (upd G a w) := by
  refine ⟨fun b u hb hu => ?_, fun b p u hp hn hu => ?_⟩
  · rw [upd_ne (fun z => by rw [z, ha] at hb; cases hb)]
    exact h.out b u hb hu
  · have nb : b ≠ a := fun z => by
      rw [z, ha] at hp
      cases hp
      exact hn (vis3.mpr (.inr ⟨rfl, .inr ⟨rfl, Nat.lt_succ_self m⟩⟩))
    rw [upd_ne nb]
    refine h.own b p u hp (fun z => hn ?_) hu
    obtain ⟨x, y, v, rfl⟩ := vis_is z
    rw [vis3] at z ⊢
    omega
def AtL (H : Hp) (n : Nat) (ws : List V) (ts : List (Tr n)) : Prop := ws.length = ts.length ∧ ∀ (j : Nat) w t, ws[j]? = some w → ts[j]? = some t → AtR H n w t
theorem AtL.nil {H : Hp} {n : Nat} : AtL H n [] [] := ⟨rfl, fun j w t h => (by rw [List.getElem?_nil] at h; cases h)⟩
theorem AtL.snoc {H : Hp} {n : Nat} {ws : List V} {ts : List (Tr n)} {w : V} {t : Tr n} (h : AtL H n ws ts) (hw : AtR H n w t) : AtL H n (ws ++ [w]) (ts ++ [t]) := by
  refine ⟨by rw [List.length_append, List.length_append, h.1]; rfl, fun j u x hu hx => ?_⟩
  by_cases hj : j < ws.length
  · rw [List.getElem?_append_left hj] at hu
    rw [List.getElem?_append_left (by rw [← h.1]; exact hj)] at hx
    exact h.2 j u x hu hx
  · rw [List.getElem?_append_right (by omega)] at hu
    rw [List.getElem?_append_right (by rw [← h.1]; omega)] at hx
    obtain ⟨h1, e1⟩ := List.getElem?_eq_some_iff.mp hu
    have j0 : j - ws.length = 0 := by simpa using h1
    rw [j0] at hu
    rw [← h.1, j0] at hx
    cases Option.some.inj hu
    cases Option.some.inj hx
    exact hw
theorem AtL.at {H H' : Hp} {n : Nat} {a : Addr} {ws : List V} {ts : List (Tr n)} (h : AtL H n ws ts) (s : Same H H') (e : H' a = some (.lst ws)) : AtR H' (n + 1) (.ref a) ts := ⟨a, ws, rfl, e, h.1, fun j w t hw ht => (h.2 j w t hw ht).same s⟩
theorem iteT' {b : Bool} {P Q : Prop} (h : b = true) (p : P) : if b = true then P else Q := by rw [if_pos h]; exact p
theorem iteF' {b : Bool} {P Q : Prop} (h : b = false) (p : Q) : if b = true then P else Q := by rw [if_neg (by rw [h]; decide)]; exact p
def okP : V → Bool
  | .int i => decide (0 ≤ i)
  | _ => false
def plainV : V → Bool
  | .int _ => true
  | .bl _ => true
  | .str _ => true
  | _ => false
theorem plainV.own {K : PySem.W.Frag} {H : Hp} {x : V} (h : plainV x = true) : Own K H x := by
  cases x <;> first | exact Own.int | exact Own.bl | exact Own.str | exact absurd (show false = true from h) Bool.false_ne_true
def nonN : List V → Option (List Int)
  | [] => some []
  | .int i :: r => if 0 ≤ i then (nonN r).map (i :: ·) else none
  | _ :: _ => none
theorem nonN_some : ∀ xs : List V, (nonN xs).isSome = xs.all okP
  | [] => rfl
  | x :: r => by
    cases x with
    | int i =>
      show (if 0 ≤ i then (nonN r).map (i :: ·) else none).isSome = (decide (0 ≤ i) && r.all okP)
      by_cases h : 0 ≤ i
      · rw [if_pos h, decide_eq_true h, Option.isSome_map, nonN_some r]; rfl
      · rw [if_neg h, decide_eq_false h]; rfl
    | _ => rfl
theorem nonN_is : ∀ {xs : List V} {q : List Int}, nonN xs = some q → xs = q.map V.int ∧ ∀ i ∈ q, 0 ≤ i
  | [], q, h => by
    cases (Option.some.inj h : [] = q)
    exact ⟨rfl, fun i hi => nomatch hi⟩
  | x :: r, q, h => by
    cases x with
    | int i =>
      have h : (if 0 ≤ i then (nonN r).map (i :: ·) else none) = some q := h
      by_cases h0 : 0 ≤ i
      · rw [if_pos h0] at h
        obtain ⟨q', e1, e2⟩ := Option.map_eq_some_iff.mp h
        subst e2
        obtain ⟨a, b⟩ := nonN_is e1
        refine ⟨by rw [a]; rfl, fun j hj => ?_⟩
        rcases List.mem_cons.mp hj with e | e
        · rw [e]; exact h0
        · exact b j e
      · rw [if_neg h0] at h; cases h
    | _ => exact absurd (show (none : Option (List Int)) = some q from h) (by intro z; cases z)
def pathQ (xs : List V) : Option (List Int) := if 1 ≤ xs.length ∧ xs.length ≤ 3 then nonN xs else none
theorem pathQ_is {xs : List V} {q : List Int} (h : pathQ xs = some q) : xs = q.map V.int ∧ (∀ i ∈ q, 0 ≤ i) ∧ 1 ≤ q.length ∧ q.length ≤ 3 := by
  unfold pathQ at h
  by_cases h0 : 1 ≤ xs.length ∧ xs.length ≤ 3
  · rw [if_pos h0] at h
    obtain ⟨a, b⟩ := nonN_is h
    rw [a, List.length_map] at h0
    exact ⟨a, b, h0⟩
  · rw [if_neg h0] at h; cases h
def IsP (K : PySem.W.Frag) (H : Hp) (p : V) (o : Option (List Int)) : Prop :=
  (∃ a xs, p = .ref a ∧ H a = some (.tup xs) ∧ (∀ x ∈ xs, plainV x = true) ∧ o = pathQ xs) ∨ (o = none ∧ (p = .non ∨ (∃ i, p = .int i) ∨ (∃ a xs, p = .ref a ∧ H a = some (.lst xs)) ∨ ∃ z, p = .str z))
theorem IsP.same {K : PySem.W.Frag} {H H' : Hp} {p : V} {o : Option (List Int)} (h : IsP K H p o) (s : Same H H') : IsP K H' p o := by
  rcases h with ⟨a, xs, e, h, r⟩ | ⟨e, h | h | ⟨a, xs, e2, h⟩ | h⟩
  · exact .inl ⟨a, xs, e, s _ _ h, r⟩
  · exact .inr ⟨e, .inl h⟩
  · exact .inr ⟨e, .inr (.inl h)⟩
  · exact .inr ⟨e, .inr (.inr (.inl ⟨a, xs, e2, s _ _ h⟩))⟩
  · exact .inr ⟨e, .inr (.inr (.inr h))⟩
theorem IsP.tup {K : PySem.W.Frag} {H : Hp} {a : Addr} {xs : List V} (h : H a = some (.tup xs)) (hp : xs.all plainV = true) : ∃ o, IsP K H (.ref a) o := ⟨_, .inl ⟨a, xs, rfl, h, List.all_eq_true.mp hp, rfl⟩⟩
def lay : (n : Nat) → Tr (n + 2) → Int → List Int → Option (Tr (n + 2))
  | 0, t, s, [i] => if i = ((ls t).length : Int) then some (ls t ++ [solo 1 s] : List (Tr 1)) else if i < ((ls t).length : Int) then (match (ls t)[i.toNat]? with | some f => some ((ls t).set i.toNat (srt (List.append (α := Int) f [s])) : List (Tr 1)) | none => none) else none
  | n + 1, t, s, [i] => if i = ((ls t).length : Int) then some (ls t ++ [solo (n + 2) s] : List (Tr (n + 2))) else none
  | n + 1, t, s, i :: j :: r => if i < ((ls t).length : Int) then (match (ls t)[i.toNat]? with | some g => (lay n g s (j :: r)).map fun g' => ((ls t).set i.toNat g' : List (Tr (n + 2))) | none => none) else none
  | _, _, _, _ => none
theorem lay_last {n : Nat} {t : Tr (n + 2)} {s i : Int} (h : i = ((ls t).length : Int)) : lay n t s [i] = some (ls t ++ [solo (n + 1) s] : List (Tr (n + 1))) := by
  cases n with
  | zero => unfold lay; rw [if_pos h]; rfl
  | succ n => unfold lay; rw [if_pos h]; rfl
theorem lay_form {t : Tr 2} {s i : Int} {f : Tr 1} (h : i < ((ls t).length : Int)) (hf : (ls t)[i.toNat]? = some f) : lay 0 t s [i] = some ((ls t).set i.toNat (srt (List.append (α := Int) f [s])) : List (Tr 1)) := by
  unfold lay
  rw [if_neg (by omega), if_pos h, hf]
  rfl
theorem lay_no0 {n : Nat} {t : Tr (n + 2)} {s i : Int} (h : i ≠ ((ls t).length : Int)) (h' : ¬ (i < ((ls t).length : Int) ∧ n = 0)) : lay n t s [i] = none := by
  cases n with
  | zero => unfold lay; rw [if_neg h, if_neg (fun z => h' ⟨z, rfl⟩)]
  | succ n => unfold lay; rw [if_neg h]
theorem lay_no {n : Nat} {t : Tr (n + 2)} {s i j : Int} {r : List Int} (h : ¬ i < ((ls t).length : Int)) : lay n t s (i :: j :: r) = none := by
  cases n with
  | zero => rfl
  | succ n => unfold lay; rw [if_neg h]
theorem lay_in {n : Nat} {t : Tr (n + 3)} {s i j : Int} {r : List Int} {g : Tr (n + 2)} (h : i < ((ls t).length : Int)) (hg : (ls t)[i.toNat]? = some g) : lay (n + 1) t s (i :: j :: r) = (lay n g s (j :: r)).map fun g' => ((ls t).set i.toNat g' : List (Tr (n + 2))) := by
  rw [lay, if_pos h, hg]
  rfl
structure Hole (o : Ow) (G : Hp) (v : V) (n : Nat) (p : List Nat) (a : Addr) (t : Tr (n + 1)) (C : Tr (n + 1) → Tr 4) : Prop where
  at_ : At o G (n + 1) p (.ref a) t
  up : ∀ (o' : Ow) (G1 : Hp) (c : Addr) (pc : List Nat) (ys : List V) (t' : Tr (n + 1)), Same G G1 → Ext o o' G G1 → o c = some pc → p <:+ pc → At o' (upd G1 c (.lst ys)) (n + 1) p (.ref a) t' → At o' (upd G1 c (.lst ys)) 4 [] v (C t')
theorem Hole.top {o : Ow} {G : Hp} {a : Addr} {U : Tr 4} (h : At o G 4 [] (.ref a) U) : Hole o G (.ref a) 3 [] a U id := ⟨h, fun _ _ _ _ _ _ _ _ _ _ k => k⟩
theorem Hole.kid {o : Ow} {G : Hp} {v : V} {n : Nat} {p : List Nat} {a b : Addr} {t : Tr (n + 2)} {g : Tr (n + 1)} {C : Tr (n + 2) → Tr 4} {vs : List V} {i : Nat} (h : Hole o G v (n + 1) p a t C) (dm : Dom o G) (hv : G a = some (.lst vs)) (hw : vs[i]? = some (.ref b)) (hg : (ls t)[i]? = some g) : Hole o G v n (i :: p) b g (fun g' => C ((ls t).set i g' : List (Tr (n + 1)))) := by
  refine ⟨?_, fun o' G1 c pc ys t' s x hc hp k => h.up o' G1 c pc ys _ s x hc ((List.suffix_cons i p).trans hp) (h.at_.up dm hv hw s x hc hp k)⟩
  obtain ⟨w, t2, e1, e2, k⟩ := h.at_.kid hv (List.getElem?_eq_some_iff.mp hw).1
  rw [hw] at e1
  cases e1
  rw [hg] at e2
  cases e2
  exact k
def spIsPath (K : PySem.W.Frag) : Sp := fun vs H Q _ => ∃ p o, vs = [p] ∧ IsP K H p o ∧ ∀ H', Same H H' → Q (.bl o.isSome) H'
def spNewGroup : Sp := fun vs H Q _ => ∃ (s : Int) (n : Nat), vs = [.int s, .int (3 - (n : Int))] ∧ n ≤ 2 ∧ ∀ w H', Same H H' → New H H' (n + 1) w (solo (n + 1) s) → Q w H'
structure Chg (o : Ow) (H : Hp) (o' : Ow) (H' : Hp) (v : V) (U' : Tr 4) : Prop where
  kp : ∀ b u, o b = none → H b = some u → H' b = some u
  at_ : At o' H' 4 [] v U'
  dm : Dom o' H'
  nw : ∀ b r, o' b = some r → o b = none → H b = none
def spPutSheet (C : Addr) : Sp := fun vs H Q E => ∃ v s a q, ∃ U : Tr 4, ∃ o : Ow, vs = [v, .int s, .ref a] ∧ At o H 4 [] v U ∧ Dom o H ∧ (∀ g ∈ ls U, full 3 g) ∧ (flat 4 U).length < 63 ∧ H a = some (.tup (q.map V.int)) ∧ (∀ i ∈ q, 0 ≤ i) ∧ 1 ≤ q.length ∧ q.length ≤ 3 ∧
  (lay 2 U s q = none → ∀ H', Same H H' → E (.ref C) none H') ∧ (∀ U', lay 2 U s q = some U' → ∀ o' H', Chg o H o' H' v U' → Q .non H')
theorem Chg.new {o o' : Ow} {H0 H H' : Hp} {v : V} {U' : Tr 4} (c : Chg o H o' H' v U') (hn : ∀ a r, o a = some r → H0 a = none) (s : Same H0 H) : New H0 H' 4 v U' ∧ Same H0 H' := by
  refine ⟨⟨o', c.at_, fun a r hr => ⟨?_, c.dm a r hr⟩⟩, fun b u hb => c.kp b u ?_ (s b u hb)⟩
  · cases e : o a with
    | none => exact s.free (c.nw a r hr e)
    | some r' => exact hn a r' e
  · cases e : o b with
    | none => rfl
    | some r' => rw [hn b r' e] at hb; cases hb
theorem ne_take {n : Nat} {xs : List (Tr (n + 1))} {i : Nat} {x : Tr (n + 1)} (h : xs[i]? = some x) : ne (xs.take (i + 1)) = if (ls x).isEmpty = true then ne (xs.take i) else ne (xs.take i) ++ [x] := by
  unfold ne
  rw [take_one h, List.filter_append]
  cases e : (ls x).isEmpty with
  | true => rw [List.filter_cons_of_neg (by rw [e]; decide), List.filter_nil, List.append_nil, if_pos rfl]
  | false => rw [List.filter_cons_of_pos (by rw [e]; rfl), List.filter_nil, if_neg (by decide)]
theorem ne_le {n : Nat} (xs : List (Tr (n + 1))) (i : Nat) : (ne (xs.take i)).length ≤ xs.length := Nat.le_trans (List.length_filter_le _ _) (by rw [List.length_take]; omega)
theorem empty_len {α β : Type} {xs : List α} {ys : List β} (h : xs.length = ys.length) : ys.isEmpty = xs.isEmpty := by
  rw [Bool.eq_iff_iff, List.isEmpty_iff_length_eq_zero, List.isEmpty_iff_length_eq_zero, h]
theorem _root_.L2.NewL.ne0 {n : Nat} {H G G2 : Hp} {l : Addr} {ws : List V} {us : List (Tr (n + 1))} {i : Nat} {t : Tr (n + 1)} (h : NewL H G l (n + 1) ws (ne (us.take i))) (s : Same G G2) (eu : us[i]? = some t) (he : (ls t).isEmpty = true) : NewL H G2 l (n + 1) ws (ne (us.take (i + 1))) := by
  rw [ne_take eu, if_pos he]
  refine h.frame (fun a xs _ _ e => s a _ e) fun a e => ?_
  cases q : G a with
  | none => exact absurd q e
  | some u => rw [s a u q]; intro z; cases z
theorem _root_.L2.NewL.ne1 {n : Nat} {H G G2 : Hp} {l : Addr} {ws : List V} {us : List (Tr (n + 1))} {i : Nat} {t : Tr (n + 1)} {w : V} (h : NewL H G l (n + 1) ws (ne (us.take i))) (hl : H l = none) (h1 : G l = some (.lst ws)) (sG : Same H G) (s : Same G G2) (nw : New G G2 (n + 1) w t) (eu : us[i]? = some t) (he : (ls t).isEmpty = false) :
    Same H (upd G2 l (.lst (ws ++ [w]))) ∧ NewL H (upd G2 l (.lst (ws ++ [w]))) l (n + 1) (ws ++ [w]) (ne (us.take (i + 1))) := by
  rw [ne_take eu, if_neg (by rw [he]; decide)]
  refine ⟨fun b u hb => ?_, ?_⟩
  · rw [upd_ne (ne_of_none hb hl)]
    exact s _ _ (sG _ _ hb)
  refine (h.snoc (some_ne h1) (fun b hb => sG.free hb) (fun b xs _ _ hb => s b _ hb) (fun b hb => ?_) nw).frame (fun b xs nb _ hb => by rw [upd_ne nb]; exact hb) (fun b hb => ?_)
  · cases q : G b with
    | none => exact absurd q hb
    | some u => rw [s b u q]; intro z; cases z
  · by_cases q : b = l
    · rw [q, upd_same]; intro z; cases z
    · rw [upd_ne q]; exact hb
def spLeft : Sp := fun vs H Q _ => ∃ v s, ∃ S : Tr 4, vs = [v, .int s] ∧ AtR H 4 v S ∧ small 4 S ∧ ∀ w H', Same H H' → New H H' 4 w (wo 3 s S) → Q w H'
theorem lay_put : ∀ {n : Nat} {t t' : Tr (n + 2)} {s : Int} {q : List Int}, lay n t s q = some t' → s ∉ flat (n + 2) t → (∀ i ∈ q, 0 ≤ i) → PutG (n + 1) t s t' := by
  intro n
  induction n with
  | zero =>
    intro t t' s q h hs h0
    match q, h with
    | [i], h =>
      by_cases e : i = ((ls t).length : Int)
      · rw [lay_last e] at h
        cases h
        exact PutG.app t s
      · by_cases e2 : i < ((ls t).length : Int)
        · have hi : i.toNat < (ls t).length := by have := h0 i (List.mem_singleton.mpr rfl); omega
          obtain ⟨f, hf⟩ : ∃ f, (ls t)[i.toNat]? = some f := ⟨_, List.getElem?_eq_getElem hi⟩
          rw [lay_form e2 hf] at h
          cases h
          obtain ⟨fl, hfl⟩ : ∃ fl : List Int, fl = f := ⟨f, rfl⟩
          subst hfl
          refine PutG.up (n := 0) (PutG.form (f := fl) (srt_perm _) (srt_pw _) fun z => hs ?_) hf
          exact flat_mem (List.mem_of_getElem? hf) ((List.Perm.of_eq (flat_ints fl)).mem_iff.mpr z)
        · rw [lay_no0 e (fun z => e2 z.1)] at h
          cases h
    | [], h => cases h
    | _ :: _ :: _, h => cases h
  | succ n ih =>
    intro t t' s q h hs h0
    match q, h with
    | [i], h =>
      by_cases e : i = ((ls t).length : Int)
      · rw [lay_last e] at h
        cases h
        exact PutG.app t s
      · rw [lay_no0 e (fun z => by have := z.2; omega)] at h
        cases h
    | i :: j :: r, h =>
      by_cases e2 : i < ((ls t).length : Int)
      · have hi : i.toNat < (ls t).length := by have := h0 i (List.mem_cons_self ..); omega
        obtain ⟨g, hg⟩ : ∃ g, (ls t)[i.toNat]? = some g := ⟨_, List.getElem?_eq_getElem hi⟩
        rw [lay_in e2 hg] at h
        obtain ⟨g', e3, e4⟩ := Option.map_eq_some_iff.mp h
        subst e4
        exact (ih e3 (fun z => hs (flat_mem (List.mem_of_getElem? hg) z)) fun k hk => h0 k (List.mem_cons_of_mem _ hk)).up hg
      · rw [lay_no e2] at h
        cases h
    | [], h => cases h
theorem lay_top {U U' : Tr 4} {s : Int} {q : List Int} (h : lay 2 U s q = some U') (hs : s ∉ flat 4 U) (h0 : ∀ i ∈ q, 0 ≤ i) : Put U s U' := by
  match q, h with
  | [i], h =>
    by_cases e : i = ((ls U).length : Int)
    · rw [lay_last e] at h
      cases h
      exact Put.app U s
    · rw [lay_no0 e (fun z => by have := z.2; omega)] at h
      cases h
  | i :: j :: r, h =>
    by_cases e2 : i < ((ls U).length : Int)
    · have hi : i.toNat < (ls U).length := by have := h0 i (List.mem_cons_self ..); omega
      obtain ⟨g, hg⟩ : ∃ g, (ls U)[i.toNat]? = some g := ⟨_, List.getElem?_eq_getElem hi⟩
      rw [lay_in e2 hg] at h
      obtain ⟨g', e3, e4⟩ := Option.map_eq_some_iff.mp h
      subst e4
      exact (lay_put e3 (fun z => hs (flat_mem (List.mem_of_getElem? hg) z)) fun k hk => h0 k (List.mem_cons_of_mem _ hk)).top hg
    · rw [lay_no e2] at h
      cases h
  | [], h => cases h
theorem wo_not {S : Tr 4} {s : Int} : s ∉ flat 4 (wo 3 s S) := fun z => by
  have e : flat 4 (wo 3 s S) = (flat 4 S).filter (fun x => !decide (x = s)) := flat_wo s 3 S
  rw [e] at z
  have := (List.mem_filter.mp z).2
  simp at this
theorem lay_wf {K : PySem.W.Frag} {H : Hp} {p : V} {op : Option (List Int)} {S U' : Tr 4} {s : Int} (ip : IsP K H p op) (w : WF S) (hs : inR 1000000000 (.int s) = true) (h : op.bind (lay 2 (wo 3 s S) s) = some U') : WF U' ∧ (flat 4 U').length ≤ (flat 4 S).length + 1 := by
  cases op with
  | none => cases h
  | some q =>
    have h : lay 2 (wo 3 s S) s q = some U' := h
    rcases ip with ⟨a, xs, _, _, _, e⟩ | ⟨e, _⟩
    · have pt := lay_top h wo_not (pathQ_is e.symm).2.1
      refine ⟨pt.wf (w.wo s) wo_not hs, ?_⟩
      have l1 := pt.p.length_eq
      have l2 := wo_len S s
      rw [List.length_append] at l1
      have l3 : [s].length = 1 := rfl
      omega
    · cases e
def ClP (H : Hp) (CK a : Addr) (S : Tr 4) : Prop := ∃ dx e r d p, H a = some (.ins CK dx [("entries", .ref e), ("results", r), ("deeds", .ref d), ("piles", p)]) ∧ H e = some (.lst []) ∧ H d = some (.lst []) ∧ AtR H 4 p S
theorem ClP.same {H H' : Hp} {CK a : Addr} {S : Tr 4} (h : ClP H CK a S) (s : Same H H') : ClP H' CK a S :=
  let ⟨dx, e, r, d, p, h1, h2, h3, h4⟩ := h
  ⟨dx, e, r, d, p, s _ _ h1, s _ _ h2, s _ _ h3, h4.same s⟩
theorem Same.frd {H H' : Hp} {a : Addr} (s : Same H H') : FrD a H H' := fun b u _ h => s b u h
theorem FrD.after {H H1 H2 : Hp} {a : Addr} (s : Same H H1) (f : FrD a H1 H2) : FrD a H H2 := fun b u n h => f b u n (s b u h)
theorem ClP.tree {H H' : Hp} {CK a : Addr} {S : Tr 4} (h : ClP H CK a S) (f : FrD a H H') {n : Nat} {v : V} {t : Tr n} (ht : AtR H n v t) : AtR H' n v t :=
  let ⟨_, _, _, _, _, h1, _⟩ := h
  ht.keep fun b _ e => f b _ (ne_of e h1 (by intro z; cases z)) e
def resTake (S : Tr 4) : V → Tr 4 ⊕ Bool
  | .int s => if s ∈ flat 4 S then .inl (wo 3 s S) else .inr true
  | _ => .inr true
def resLay (S : Tr 4) (op : Option (List Int)) : V → Tr 4 ⊕ Bool
  | .int s => if inR 1000000000 (.int s) = true then (match op.bind (lay 2 (wo 3 s S) s) with | some U => .inl U | none => .inr false) else .inr true
  | _ => .inr true
theorem resTake_in {S : Tr 4} {s : Int} (h : s ∈ flat 4 S) : resTake S (.int s) = .inl (wo 3 s S) := if_pos h
theorem resTake_not {S : Tr 4} {s : Int} (h : s ∉ flat 4 S) : resTake S (.int s) = .inr true := if_neg h
theorem resTake_out {S : Tr 4} {x : V} (wf : WF S) (h : inR 1000000000 x = false) : resTake S x = .inr true := by
  cases x with
  | int i => exact if_neg fun hs => by rw [wf.inn i hs] at h; cases h
  | _ => rfl
theorem resLay_in {S : Tr 4} {op : Option (List Int)} {s : Int} (h : inR 1000000000 (.int s) = true) : resLay S op (.int s) = match op.bind (lay 2 (wo 3 s S) s) with | some U => .inl U | none => .inr false := if_pos h
theorem resLay_out {S : Tr 4} {op : Option (List Int)} {x : V} (h : inR 1000000000 x = false) : resLay S op x = .inr true := by
  cases x with
  | int i => exact if_neg (by rw [h]; decide)
  | _ => rfl
def eK (NS NP : Addr) : Bool → Addr
  | true => NS
  | false => NP
def kindS : Bool → List V
  | true => [.bl false, .bl false, .bl false, .bl true, .bl false, .bl true]
  | false => [.bl false, .bl false, .bl false, .bl false, .bl true, .bl true]
theorem kindS_flat (b : Bool) : (kindS b).all flatV = true := by cases b <;> rfl
def spTakenX (K : PySem.W.Frag) (NS NP : Addr) : Sp := fun vs H Q E => ∃ v x, ∃ S : Tr 4, vs = [v, x] ∧ AtR H 4 v S ∧ WF S ∧ (flat 4 S).length < 64 ∧ Own K H x ∧ (∀ b, resTake S x = .inr b → ∀ H', Same H H' → E (.ref (eK NS NP b)) none H') ∧ ∀ U, resTake S x = .inl U → ∀ w H', Same H H' → New H H' 4 w U → Q w H'
def spLaidX (K : PySem.W.Frag) (NS NP : Addr) : Sp := fun vs H Q E => ∃ v x p op, ∃ S : Tr 4, vs = [v, x, p] ∧ AtR H 4 v S ∧ WF S ∧ (flat 4 S).length < 63 ∧ Own K H x ∧ IsP K H p op ∧ (∀ b, resLay S op x = .inr b → ∀ H', Same H H' → E (.ref (eK NS NP b)) none H') ∧ ∀ U, resLay S op x = .inl U → ∀ w H', Same H H' → New H H' 4 w U → Q w H'
def spResInit0 (CR : Addr) : Sp := fun vs H Q _ => ∃ a dx, vs = [.ref a] ∧ H a = some (.ins CR dx []) ∧ ∀ H', FrD a H H' → Q .non H'
def spClInitP (CK : Addr) : Sp := fun vs H Q _ => ∃ a dx, vs = [.ref a] ∧ H a = some (.ins CK dx []) ∧ ∀ H', FrD a H H' → ClP H' CK a ([] : List (Tr 3)) → Q .non H'
def spTakeC (K : PySem.W.Frag) (CK NS NP : Addr) : Sp := fun vs H Q E => ∃ a x, ∃ S : Tr 4, vs = [.ref a, x] ∧ ClP H CK a S ∧ WF S ∧ (flat 4 S).length < 63 ∧ Own K H x ∧ (∀ b, resTake S x = .inr b → ∀ H', Same H H' → E (.ref (eK NS NP b)) none H') ∧ ∀ U, resTake S x = .inl U → ∀ H', FrD a H H' → ClP H' CK a U → Q .non H'
def spLayC (K : PySem.W.Frag) (CK NS NP : Addr) : Sp := fun vs H Q E => ∃ a x p op, ∃ S : Tr 4, vs = [.ref a, x, p] ∧ ClP H CK a S ∧ WF S ∧ (flat 4 S).length < 63 ∧ Own K H x ∧ IsP K H p op ∧ (∀ b, resLay S op x = .inr b → ∀ H', Same H H' → E (.ref (eK NS NP b)) none H') ∧ ∀ U, resLay S op x = .inl U → ∀ H', FrD a H H' → ClP H' CK a U → Q .non H'
def spNilP (CK : Addr) : Sp := fun vs H Q _ => ∃ a, ∃ S : Tr 4, vs = [.ref a] ∧ ClP H CK a S ∧ ∀ q H', Same H H' → H' q = some (.lst []) → Q (.ref q) H'
def spSortC (CK : Addr) : Sp := fun vs H Q _ => ∃ a, ∃ S : Tr 4, vs = [.ref a] ∧ ClP H CK a S ∧ WF S ∧ (flat 4 S).length ≤ 1000 ∧ ∀ w H', Same H H' → New H H' 4 w S → Q w H'
def spMixC : Sp := fun vs H Q _ => ∃ n k, vs = [.int n, .int k] ∧ 0 ≤ k ∧ k < 100 ∧ ∀ r, 0 ≤ r → r < 2147483629 → Q (.int r) H
def spSheetsL : Sp := fun vs H Q _ => ∃ v, ∃ S : Tr 4, vs = [v] ∧ AtR H 4 v S ∧ (∀ g ∈ ls S, full 3 g) ∧ (flat 4 S).length ≤ 1000 ∧ ∀ q H', Same H H' → H' q = some (.lst ((flat 4 S).map V.int)) → Q (.ref q) H'
def spKindS (NS NP : Addr) : Sp := fun vs H Q _ => ∃ x b, vs = [.ref x] ∧ H x = some (exO (.ref (eK NS NP b)) none x) ∧ ∀ q H', Same H H' → H' q = some (.lst (kindS b)) → Q (.ref q) H'
def spAsked (K : PySem.W.Frag) (CK : Addr) : Sp := fun vs H Q _ => ∃ a wd x p op, ∃ S : Tr 4, ∃ r : Tr 4 ⊕ Bool, vs = [.ref a, .str wd, x, p] ∧ ClP H CK a S ∧ WF S ∧ (flat 4 S).length < 63 ∧ Own K H x ∧ IsP K H p op ∧
  ((wd = Str.ofString "take" ∧ r = resTake S x) ∨ (wd = Str.ofString "lay" ∧ r = resLay S op x)) ∧
  (∀ U, r = .inl U → ∀ q H', FrD a H H' → ClP H' CK a U → H' q = some (.lst []) → Q (.ref q) H') ∧ (∀ b, r = .inr b → ∀ q H', Same H H' → H' q = some (.lst (kindS b)) → Q (.ref q) H')
inductive GP (U : Tr 4) : List Int → Prop where
  | a : GP U [((ls U).length : Int)]
  | b {i : Nat} {g : Tr 3} (hg : (ls U)[i]? = some g) : GP U [(i : Int), ((ls g).length : Int)]
  | c {i j : Nat} {g : Tr 3} {d : Tr 2} (hg : (ls U)[i]? = some g) (hd : (ls g)[j]? = some d) : GP U [(i : Int), (j : Int), ((ls d).length : Int)]
  | d {i j m : Nat} {g : Tr 3} {d : Tr 2} {f : Tr 1} (hg : (ls U)[i]? = some g) (hd : (ls g)[j]? = some d) (hf : (ls d)[m]? = some f) : GP U [(i : Int), (j : Int), (m : Int)]
theorem lt_of_at {α : Type} {xs : List α} {i : Nat} {x : α} (h : xs[i]? = some x) : (i : Int) < (xs.length : Int) := by
  have := (List.getElem?_eq_some_iff.mp h).1
  omega
theorem lay_b {U : Tr 4} {s : Int} {i : Nat} {g : Tr 3} {j : Int} {r : List Int} (hg : (ls U)[i]? = some g) : lay 2 U s ((i : Int) :: j :: r) = (lay 1 g s (j :: r)).map fun g' => ((ls U).set i g' : List (Tr 3)) := lay_in (n := 1) (lt_of_at hg) hg
theorem lay_c {U : Tr 4} {s : Int} {i j : Nat} {g : Tr 3} {d : Tr 2} {m : Int} (hg : (ls U)[i]? = some g) (hd : (ls g)[j]? = some d) : lay 2 U s [(i : Int), (j : Int), m] = (lay 0 d s [m]).map fun d' => ((ls U).set i ((ls g).set j d' : List (Tr 2)) : List (Tr 3)) := by
  rw [lay_b hg, lay_in (n := 0) (lt_of_at hd) hd]
  cases lay 0 d s [m] <;> rfl
theorem GP.lay {U : Tr 4} {q : List Int} (h : GP U q) (s : Int) : ∃ U', My.lay 2 U s q = some U' := by
  cases h with
  | a => exact ⟨_, lay_last rfl⟩
  | b hg => rw [lay_b hg, lay_last rfl]; exact ⟨_, rfl⟩
  | c hg hd => rw [lay_c hg hd, lay_last rfl]; exact ⟨_, rfl⟩
  | d hg hd hf => rw [lay_c hg hd, lay_form (lt_of_at hf) hf]; exact ⟨_, rfl⟩
theorem nonN_of : ∀ {q : List Int}, (∀ i ∈ q, 0 ≤ i) → nonN (q.map V.int) = some q
  | [], _ => rfl
  | i :: r, h => by
    show (if 0 ≤ i then (nonN (r.map V.int)).map (i :: ·) else none) = some (i :: r)
    rw [if_pos (h i (List.mem_cons_self ..)), nonN_of fun j hj => h j (List.mem_cons_of_mem _ hj)]
    rfl
theorem GP.pathQ {U : Tr 4} {q : List Int} (h : GP U q) : My.pathQ (q.map V.int) = some q := by
  have h0 : ∀ i ∈ q, 0 ≤ i := by
    cases h <;> intro x hx <;> simp only [List.mem_cons, List.not_mem_nil, or_false] at hx <;> omega
  have hl : 1 ≤ (q.map V.int).length ∧ (q.map V.int).length ≤ 3 := by cases h <;> exact ⟨le_ble rfl, le_ble rfl⟩
  unfold My.pathQ
  rw [if_pos hl, nonN_of h0]
theorem map_int_inj : ∀ {a b : List Int}, a.map V.int = b.map V.int → a = b
  | [], [], _ => rfl
  | [], _ :: _, h => by cases h
  | _ :: _, [], h => by cases h
  | x :: a, y :: b, h => by
    injection h with h1 h2
    rw [V.int.inj h1, map_int_inj h2]
def Bad (U : Tr 4) (xs : List V) : Prop := ∀ s, (My.pathQ xs).bind (My.lay 2 U s) = none
theorem Bad.of {U : Tr 4} {q : List Int} (h : ∀ s, My.lay 2 U s q = none) : Bad U (q.map V.int) := fun s => by
  cases e : My.pathQ (q.map V.int) with
  | none => rfl
  | some q' =>
    have := map_int_inj (pathQ_is e).1
    subst this
    exact h s
theorem Bad.no {U : Tr 4} {xs : List V} (h : nonN xs = none) : Bad U xs := fun s => by
  unfold My.pathQ
  split
  · rw [h]; rfl
  · rfl
theorem Bad.long {U : Tr 4} {xs : List V} (h : ¬ xs.length ≤ 3) : Bad U xs := fun s => by
  unfold My.pathQ
  rw [if_neg (fun z => h z.2)]
  rfl
theorem nonN_neg {i : Int} (h : i < 0) : ∀ xs : List V, nonN (xs ++ [.int i]) = none
  | [] => by
    show (if 0 ≤ i then _ else none) = none
    rw [if_neg (by omega)]
  | x :: r => by
    cases x with
    | int j =>
      show (if 0 ≤ j then (nonN (r ++ [.int i])).map (j :: ·) else none) = none
      rw [nonN_neg h r]
      split <;> rfl
    | _ => rfl
def Wk : (n : Nat) → Tr (n + 2) → List Int → Prop
  | _, _, [] => True
  | 0, _, _ :: _ => False
  | n + 1, t, i :: r => ∃ (m : Nat) (g : Tr (n + 2)), i = (m : Int) ∧ (ls t)[m]? = some g ∧ Wk n g r
theorem GP.wk {U : Tr 4} {q : List Int} (h : GP U q) : Wk 2 U q.dropLast := by
  cases h with
  | a => exact trivial
  | b hg => exact ⟨_, _, rfl, hg, trivial⟩
  | c hg hd => exact ⟨_, _, rfl, hg, _, _, rfl, hd, trivial⟩
  | d hg hd hf => exact ⟨_, _, rfl, hg, _, _, rfl, hd, trivial⟩
def spPathC : Sp := fun vs H Q _ => ∃ v m, ∃ U : Tr 4, vs = [v, .int m] ∧ AtR H 4 v U ∧ (∀ g ∈ ls U, full 3 g) ∧ ∀ t q H', Same H H' → H' t = some (.tup (q.map V.int)) → GP U q → Q (.ref t) H'
def spLaidL : Sp := fun vs H Q _ => ∃ v s t q, ∃ U : Tr 4, vs = [v, .int s, .ref t] ∧ AtR H 4 v U ∧ (∀ g ∈ ls U, full 3 g) ∧ (flat 4 U).length < 63 ∧ H t = some (.tup (q.map V.int)) ∧ GP U q ∧ ∀ U', My.lay 2 U s q = some U' → ∀ w H', Same H H' → AtR H' 4 w U' → Q w H'
def spBadPath (K : PySem.W.Frag) : Sp := fun vs H Q _ => ∃ v t q m, ∃ U : Tr 4, vs = [v, .ref t, .int m] ∧ AtR H 4 v U ∧ (∀ g ∈ ls U, full 3 g) ∧ (flat 4 U).length < 63 ∧ H t = some (.tup (q.map V.int)) ∧ GP U q ∧ ∀ p op H', Same H H' → IsP K H' p op → (∀ s, op.bind (My.lay 2 U s) = none) → Q p H'
theorem cut_tail {xs : List V} (h : xs ≠ []) : cutV xs (some 1) none = xs.tail := by
  have hp : 0 < xs.length := List.length_pos_iff.mpr h
  have e : HT.sIx xs.length 0 (some 1) = 1 := by
    unfold HT.sIx
    simp
    omega
  unfold cutV
  rw [e, HT.sIx_none, List.drop_one, List.take_of_length_le (by rw [List.length_tail]; omega)]
theorem cut_partT {xs : List V} (h : xs ≠ []) : ¬ (HT.sIx xs.length 0 (some 1) = 0 ∧ HT.sIx xs.length xs.length none = xs.length) := by
  have hp : 0 < xs.length := List.length_pos_iff.mpr h
  unfold HT.sIx
  simp
  omega
theorem eqL_self' : ∀ {xs : List V}, xs.all flatV = true → eqL xs xs = true
  | [], _ => rfl
  | x :: r, h => by
    rw [List.all_cons, Bool.and_eq_true] at h
    show (eqV x x && eqL r r) = true
    rw [eqV_self h.1, eqL_self' h.2]
    rfl
theorem sameK {K : PySem.W.Frag} {H : Hp} {q1 q2 : Addr} {xs : List V} (h1 : H q1 = some (.lst xs)) (h2 : H q2 = some (.lst xs)) (fx : xs.all flatV = true) : SeqEq K H (EqD K H 0) (.ref q1) (.ref q2) true := by
  have h := SeqEq.flatL (K := K) (n := 0) (SqL.of h1) (SqL.of h2) fx fx
  rw [eqL_self' fx] at h
  exact h
def spStep (K : PySem.W.Frag) (CK : Addr) : Sp := fun vs H Q _ => ∃ a v ce kk, ∃ S : Tr 4, vs = [.ref a, v, .int ce, .int kk] ∧ 0 ≤ kk ∧ kk < 100 ∧ ClP H CK a S ∧ AtR H 4 v S ∧ WF S ∧ (flat 4 S).length < 62 ∧
  ∀ v' S' H', FrD a H H' → ClP H' CK a S' → AtR H' 4 v' S' → WF S' → (flat 4 S').length ≤ (flat 4 S).length + 1 → Q v' H'
structure Jg (o : Ow) (G0 : Hp) (i : Nat) (G : Hp) : Prop where
  out : ∀ b u, o b = none → G0 b = some u → G b = some u
  own : ∀ b p u, o b = some p → (∀ r j, p = r ++ [j] → i ≤ j) → G0 b = some u → G b = some u
theorem Jg.step {o : Ow} {G0 G G' : Hp} {i : Nat} (h : Jg o G0 i G) (hs : ∀ b u, (∀ r, o b ≠ some (r ++ [i])) → G0 b = some u → G b = some u → G' b = some u) : Jg o G0 (i + 1) G' := by
  refine ⟨fun b u hb hu => hs b u (fun r z => by rw [hb] at z; cases z) hu (h.out b u hb hu), fun b p u hb hp hu => hs b u (fun r z => ?_) hu (h.own b p u hb (fun r j e => Nat.le_of_succ_le (hp r j e)) hu)⟩
  rw [hb] at z
  cases z
  have := hp r i rfl
  omega
def spLaw (K : PySem.W.Frag) : Sp := fun vs H Q _ => ∃ (a : Addr) (ns : List Int), vs = [.ref a] ∧ SqL K H a (ns.map V.int) ∧ ns.length ≤ 63 ∧ ∀ H', Q (.bl true) H'
def top (i : Nat) : Stmt := PySem.Challenge.pw_rightname_k73_sheets_laid.main.body.getD i (.Pass ⟨0, 0, 0, 0⟩)
abbrev s_is_whole : Stmt := top 11
abbrev s_is_number : Stmt := top 12
abbrev s_sorting_list : Stmt := top 17
abbrev s_group_list : Stmt := top 18
abbrev s_sheet_list : Stmt := top 19
abbrev s_groups : Stmt := top 20
abbrev s_groups_in : Stmt := top 21
abbrev s_sheets_of : Stmt := top 22
abbrev s_refuse_sheet : Stmt := top 23
abbrev s_path_of : Stmt := top 24
abbrev s_without : Stmt := top 25
abbrev s_taken : Stmt := top 26
abbrev s_laid : Stmt := top 27
abbrev s_is_path : Stmt := top 28
abbrev s_put_sheet : Stmt := top 29
abbrev s_new_group : Stmt := top 30
abbrev s_Lmixed : Stmt := top 36
abbrev s_Lwithout : Stmt := top 37
abbrev s_Lpath : Stmt := top 38
abbrev s_Llaid : Stmt := top 39
abbrev s_Lsheets : Stmt := top 40
abbrev s_Lkind : Stmt := top 41
abbrev s_Lbad_path : Stmt := top 42
abbrev s_Lasked : Stmt := top 43
abbrev s_Lstep : Stmt := top 44
abbrev s_law : Stmt := top 45
abbrev s_Results_init : Stmt := inClass (top 14) 0
abbrev s_Clerk_init : Stmt := inClass (top 32) 0
abbrev s_Clerk_lay : Stmt := inClass (top 32) 3
abbrev s_Clerk_take : Stmt := inClass (top 32) 4
abbrev s_Clerk_book : Stmt := inClass (top 32) 6
abbrev s_Clerk_acts : Stmt := inClass (top 32) 7
abbrev s_Clerk_sorting : Stmt := inClass (top 32) 8
structure Fn (K : PySem.W.Frag) (mg : Str → Option Value) (x : Str) (st : Stmt) (ps : List Str) (f : Addr) (fd : FuncData) : Prop where
  fn : Fun K x x st f fd
  mgf : mg x = some (.ref f)
  bi : Binds K fd ps []
theorem Fn.kp {K : PySem.W.Frag} {mg : Str → Option Value} {x : Str} {st : Stmt} {ps : List Str} {f : Addr} {fd : FuncData} (F : Fn K mg x st ps f fd) : PySem.W.keepIn K (.ref f) = true := F.fn.kp
set_option genInjectivity false in
set_option genSizeOfSpec false in
set_option genSizeOf false in
structure Ad where
  a_is_whole : Addr
  d_is_whole : FuncData
  a_is_number : Addr
  d_is_number : FuncData
  a_sorting_list : Addr
  d_sorting_list : FuncData
  a_group_list : Addr
  d_group_list : FuncData
  a_sheet_list : Addr
  d_sheet_list : FuncData
  a_groups : Addr
  d_groups : FuncData
  a_groups_in : Addr
  d_groups_in : FuncData
  a_sheets_of : Addr
  d_sheets_of : FuncData
  a_refuse_sheet : Addr
  d_refuse_sheet : FuncData
  a_path_of : Addr
  d_path_of : FuncData
  a_without : Addr
  d_without : FuncData
  a_taken : Addr
  d_taken : FuncData
  a_laid : Addr
  d_laid : FuncData
  a_is_path : Addr
  d_is_path : FuncData
  a_put_sheet : Addr
  d_put_sheet : FuncData
  a_new_group : Addr
  d_new_group : FuncData
  a_Lmixed : Addr
  d_Lmixed : FuncData
  a_Lwithout : Addr
  d_Lwithout : FuncData
  a_Lpath : Addr
  d_Lpath : FuncData
  a_Llaid : Addr
  d_Llaid : FuncData
  a_Lsheets : Addr
  d_Lsheets : FuncData
  a_Lkind : Addr
  d_Lkind : FuncData
  a_Lbad_path : Addr
  d_Lbad_path : FuncData
  a_Lasked : Addr
  d_Lasked : FuncData
  a_Lstep : Addr
  d_Lstep : FuncData
  a_law : Addr
  d_law : FuncData
  c_Results : Addr
  a_Results_init : Addr
  d_Results_init : FuncData
  c_Clerk : Addr
  a_Clerk_init : Addr
  d_Clerk_init : FuncData
  a_Clerk_lay : Addr
  d_Clerk_lay : FuncData
  a_Clerk_take : Addr
  d_Clerk_take : FuncData
  a_Clerk_book : Addr
  d_Clerk_book : FuncData
  a_Clerk_acts : Addr
  d_Clerk_acts : FuncData
  a_Clerk_sorting : Addr
  d_Clerk_sorting : FuncData
  u_LAST_NUMBER : Value
  u_FORM_DEPTH : Value
  c_NoSorting : Addr
  c_NoSheet : Addr
  c_NoPath : Addr
  c_RightError : Addr
  c_NoEntry : Addr
  c_Late : Addr
  c_NoAct : Addr
structure Txt (w : World) (K : PySem.W.Frag) (mg : Str → Option Value) (c : Ad) : Prop where
  is_whole : Fn K mg "is_whole" s_is_whole ["thing"] c.a_is_whole c.d_is_whole
  is_number : Fn K mg "is_number" s_is_number ["thing"] c.a_is_number c.d_is_number
  sorting_list : Fn K mg "sorting_list" s_sorting_list ["sorting"] c.a_sorting_list c.d_sorting_list
  group_list : Fn K mg "group_list" s_group_list ["group", "depth", "seen"] c.a_group_list c.d_group_list
  sheet_list : Fn K mg "sheet_list" s_sheet_list ["sheets", "seen"] c.a_sheet_list c.d_sheet_list
  groups : Fn K mg "groups" s_groups ["sorting"] c.a_groups c.d_groups
  groups_in : Fn K mg "groups_in" s_groups_in ["path", "parts"] c.a_groups_in c.d_groups_in
  sheets_of : Fn K mg "sheets_of" s_sheets_of ["told"] c.a_sheets_of c.d_sheets_of
  refuse_sheet : Fn K mg "refuse_sheet" s_refuse_sheet ["sheet"] c.a_refuse_sheet c.d_refuse_sheet
  path_of : Fn K mg "path_of" s_path_of ["sorting", "sheet"] c.a_path_of c.d_path_of
  without : Fn K mg "without" s_without ["parts", "sheet", "depth"] c.a_without c.d_without
  taken : Fn K mg "taken" s_taken ["sorting", "sheet"] c.a_taken c.d_taken
  laid : Fn K mg "laid" s_laid ["sorting", "sheet", "path"] c.a_laid c.d_laid
  is_path : Fn K mg "is_path" s_is_path ["thing"] c.a_is_path c.d_is_path
  put_sheet : Fn K mg "put_sheet" s_put_sheet ["parts", "sheet", "path"] c.a_put_sheet c.d_put_sheet
  new_group : Fn K mg "new_group" s_new_group ["sheet", "depth"] c.a_new_group c.d_new_group
  Lmixed : Fn K mg "_law_mixed" s_Lmixed ["_law_cell", "_law_k"] c.a_Lmixed c.d_Lmixed
  Lwithout : Fn K mg "_law_without" s_Lwithout ["_law_sorting", "_law_sheet"] c.a_Lwithout c.d_Lwithout
  Lpath : Fn K mg "_law_path" s_Lpath ["_law_sorting", "_law_mixed_here"] c.a_Lpath c.d_Lpath
  Llaid : Fn K mg "_law_laid" s_Llaid ["_law_sorting", "_law_sheet", "_law_path_here"] c.a_Llaid c.d_Llaid
  Lsheets : Fn K mg "_law_sheets" s_Lsheets ["_law_sorting"] c.a_Lsheets c.d_Lsheets
  Lkind : Fn K mg "_law_kind" s_Lkind ["_law_error"] c.a_Lkind c.d_Lkind
  Lbad_path : Fn K mg "_law_bad_path" s_Lbad_path ["_law_sorting", "_law_path_here", "_law_mixed_here"] c.a_Lbad_path c.d_Lbad_path
  Lasked : Fn K mg "_law_asked" s_Lasked ["_law_clerk", "_law_word", "_law_sheet", "_law_path_here"] c.a_Lasked c.d_Lasked
  Lstep : Fn K mg "_law_step" s_Lstep ["_law_clerk", "_law_sorting", "_law_cell", "_law_k"] c.a_Lstep c.d_Lstep
  law : Fn K mg "law" s_law ["_law_script"] c.a_law c.d_law
  mg_Results : mg "Results" = some (.ref c.c_Results)
  cl_Results : Cls K c.c_Results
  Results_init : Fun K "__init__" "Results.__init__" s_Results_init c.a_Results_init c.d_Results_init
  bi_Results_init : Binds K c.d_Results_init ["self"] []
  mk_Results : Mk K c.c_Results c.a_Results_init
  na_Results_outs : NoAttr K c.c_Results "outs"
  na_Results_names : NoAttr K c.c_Results "names"
  na_Results_rights : NoAttr K c.c_Results "rights"
  na_Results_holders : NoAttr K c.c_Results "holders"
  mg_Clerk : mg "Clerk" = some (.ref c.c_Clerk)
  cl_Clerk : Cls K c.c_Clerk
  Clerk_init : Fun K "__init__" "Clerk.__init__" s_Clerk_init c.a_Clerk_init c.d_Clerk_init
  bi_Clerk_init : Binds K c.d_Clerk_init ["self"] []
  mk_Clerk : Mk K c.c_Clerk c.a_Clerk_init
  na_Clerk_entries : NoAttr K c.c_Clerk "entries"
  na_Clerk_results : NoAttr K c.c_Clerk "results"
  na_Clerk_deeds : NoAttr K c.c_Clerk "deeds"
  na_Clerk_piles : NoAttr K c.c_Clerk "piles"
  Clerk_lay : Fun K "lay" "Clerk.lay" s_Clerk_lay c.a_Clerk_lay c.d_Clerk_lay
  bi_Clerk_lay : Binds K c.d_Clerk_lay ["self", "sheet", "path"] []
  m_Clerk_lay : Meth K c.c_Clerk "lay" c.a_Clerk_lay
  Clerk_take : Fun K "take" "Clerk.take" s_Clerk_take c.a_Clerk_take c.d_Clerk_take
  bi_Clerk_take : Binds K c.d_Clerk_take ["self", "sheet"] []
  m_Clerk_take : Meth K c.c_Clerk "take" c.a_Clerk_take
  Clerk_book : Fun K "book" "Clerk.book" s_Clerk_book c.a_Clerk_book c.d_Clerk_book
  bi_Clerk_book : Binds K c.d_Clerk_book ["self"] []
  m_Clerk_book : Meth K c.c_Clerk "book" c.a_Clerk_book
  Clerk_acts : Fun K "acts" "Clerk.acts" s_Clerk_acts c.a_Clerk_acts c.d_Clerk_acts
  bi_Clerk_acts : Binds K c.d_Clerk_acts ["self"] []
  m_Clerk_acts : Meth K c.c_Clerk "acts" c.a_Clerk_acts
  Clerk_sorting : Fun K "sorting" "Clerk.sorting" s_Clerk_sorting c.a_Clerk_sorting c.d_Clerk_sorting
  bi_Clerk_sorting : Binds K c.d_Clerk_sorting ["self"] []
  m_Clerk_sorting : Meth K c.c_Clerk "sorting" c.a_Clerk_sorting
  mg_LAST_NUMBER : mg "LAST_NUMBER" = some c.u_LAST_NUMBER
  rl_LAST_NUMBER : RelV (.int 1000000000) c.u_LAST_NUMBER
  mg_FORM_DEPTH : mg "FORM_DEPTH" = some c.u_FORM_DEPTH
  rl_FORM_DEPTH : RelV (.int 3) c.u_FORM_DEPTH
  mg_NoSorting : mg "NoSorting" = some (.ref c.c_NoSorting)
  mg_NoSheet : mg "NoSheet" = some (.ref c.c_NoSheet)
  mg_NoPath : mg "NoPath" = some (.ref c.c_NoPath)
  mg_RightError : mg "RightError" = some (.ref c.c_RightError)
  mg_NoEntry : mg "NoEntry" = some (.ref c.c_NoEntry)
  mg_Late : mg "Late" = some (.ref c.c_Late)
  mg_NoAct : mg "NoAct" = some (.ref c.c_NoAct)
  x_NoSorting : XCls K c.c_NoSorting
  q_NoSorting : XAsk K c.c_NoSorting
  i_NoSorting_NoEntry : PySem.W.kitOne K (.ref c.c_NoSorting) (.ref c.c_NoEntry) = some false
  i_NoSorting_Late : PySem.W.kitOne K (.ref c.c_NoSorting) (.ref c.c_Late) = some false
  i_NoSorting_NoAct : PySem.W.kitOne K (.ref c.c_NoSorting) (.ref c.c_NoAct) = some false
  i_NoSorting_NoSheet : PySem.W.kitOne K (.ref c.c_NoSorting) (.ref c.c_NoSheet) = some false
  i_NoSorting_NoPath : PySem.W.kitOne K (.ref c.c_NoSorting) (.ref c.c_NoPath) = some false
  i_NoSorting_ValueError : PySem.W.kitOne K (.ref c.c_NoSorting) (.type "ValueError") = some true
  e_NoSorting_RightError : PySem.W.exmOne K (.ref c.c_NoSorting) (.ref c.c_RightError) = some true
  x_NoSheet : XCls K c.c_NoSheet
  q_NoSheet : XAsk K c.c_NoSheet
  i_NoSheet_NoEntry : PySem.W.kitOne K (.ref c.c_NoSheet) (.ref c.c_NoEntry) = some false
  i_NoSheet_Late : PySem.W.kitOne K (.ref c.c_NoSheet) (.ref c.c_Late) = some false
  i_NoSheet_NoAct : PySem.W.kitOne K (.ref c.c_NoSheet) (.ref c.c_NoAct) = some false
  i_NoSheet_NoSheet : PySem.W.kitOne K (.ref c.c_NoSheet) (.ref c.c_NoSheet) = some true
  i_NoSheet_NoPath : PySem.W.kitOne K (.ref c.c_NoSheet) (.ref c.c_NoPath) = some false
  i_NoSheet_ValueError : PySem.W.kitOne K (.ref c.c_NoSheet) (.type "ValueError") = some true
  e_NoSheet_RightError : PySem.W.exmOne K (.ref c.c_NoSheet) (.ref c.c_RightError) = some true
  x_NoPath : XCls K c.c_NoPath
  q_NoPath : XAsk K c.c_NoPath
  i_NoPath_NoEntry : PySem.W.kitOne K (.ref c.c_NoPath) (.ref c.c_NoEntry) = some false
  i_NoPath_Late : PySem.W.kitOne K (.ref c.c_NoPath) (.ref c.c_Late) = some false
  i_NoPath_NoAct : PySem.W.kitOne K (.ref c.c_NoPath) (.ref c.c_NoAct) = some false
  i_NoPath_NoSheet : PySem.W.kitOne K (.ref c.c_NoPath) (.ref c.c_NoSheet) = some false
  i_NoPath_NoPath : PySem.W.kitOne K (.ref c.c_NoPath) (.ref c.c_NoPath) = some true
  i_NoPath_ValueError : PySem.W.kitOne K (.ref c.c_NoPath) (.type "ValueError") = some true
  e_NoPath_RightError : PySem.W.exmOne K (.ref c.c_NoPath) (.ref c.c_RightError) = some true
  no_len : mg "len" = none
  no_isinstance : mg "isinstance" = none
  no_int : mg "int" = none
  no_bool : mg "bool" = none
  no_list : mg "list" = none
  no_tuple : mg "tuple" = none
  no_sorted : mg "sorted" = none
  no_range : mg "range" = none
  no_min : mg "min" = none
  no_enumerate : mg "enumerate" = none
  no_all : mg "all" = none
  no_ValueError : mg "ValueError" = none
theorem sc_is_whole : FnScope ["thing"] ["thing"] (defScope s_is_whole) := ⟨rfl, rfl, rfl, by decide +kernel, rfl, by decide +kernel, by decide +kernel⟩
theorem sc_is_number : FnScope ["thing"] ["thing"] (defScope s_is_number) := ⟨rfl, rfl, rfl, by decide +kernel, rfl, by decide +kernel, by decide +kernel⟩
theorem sc_sorting_list : FnScope ["sorting", "seen"] ["sorting"] (defScope s_sorting_list) := ⟨rfl, rfl, rfl, by decide +kernel, rfl, by decide +kernel, by decide +kernel⟩
theorem sc_group_list : FnScope ["group", "depth", "seen"] ["group", "depth", "seen"] (defScope s_group_list) := ⟨rfl, rfl, rfl, by decide +kernel, rfl, by decide +kernel, by decide +kernel⟩
theorem sc_sheet_list : FnScope ["sheets", "seen", "found", "sheet"] ["sheets", "seen"] (defScope s_sheet_list) := ⟨rfl, rfl, rfl, by decide +kernel, rfl, by decide +kernel, by decide +kernel⟩
theorem sc_groups : FnScope ["sorting"] ["sorting"] (defScope s_groups) := ⟨rfl, rfl, rfl, by decide +kernel, rfl, by decide +kernel, by decide +kernel⟩
theorem sc_groups_in : FnScope ["path", "parts", "found", "place", "part", "inner", "inside"] ["path", "parts"] (defScope s_groups_in) := ⟨rfl, rfl, rfl, by decide +kernel, rfl, by decide +kernel, by decide +kernel⟩
theorem sc_sheets_of : FnScope ["told", "found", "path", "sheets"] ["told"] (defScope s_sheets_of) := ⟨rfl, rfl, rfl, by decide +kernel, rfl, by decide +kernel, by decide +kernel⟩
theorem sc_refuse_sheet : FnScope ["sheet"] ["sheet"] (defScope s_refuse_sheet) := ⟨rfl, rfl, rfl, by decide +kernel, rfl, by decide +kernel, by decide +kernel⟩
theorem sc_path_of : FnScope ["sorting", "sheet", "told", "path", "sheets"] ["sorting", "sheet"] (defScope s_path_of) := ⟨rfl, rfl, rfl, by decide +kernel, rfl, by decide +kernel, by decide +kernel⟩
theorem sc_without : FnScope ["parts", "sheet", "depth", "left"] ["parts", "sheet", "depth"] (defScope s_without) := ⟨rfl, rfl, rfl, by decide +kernel, rfl, by decide +kernel, by decide +kernel⟩
theorem sc_taken : FnScope ["sorting", "sheet"] ["sorting", "sheet"] (defScope s_taken) := ⟨rfl, rfl, rfl, by decide +kernel, rfl, by decide +kernel, by decide +kernel⟩
theorem sc_laid : FnScope ["sorting", "sheet", "path", "parts", "left"] ["sorting", "sheet", "path"] (defScope s_laid) := ⟨rfl, rfl, rfl, by decide +kernel, rfl, by decide +kernel, by decide +kernel⟩
theorem sc_is_path : FnScope ["thing"] ["thing"] (defScope s_is_path) := ⟨rfl, rfl, rfl, by decide +kernel, rfl, by decide +kernel, by decide +kernel⟩
theorem sc_put_sheet : FnScope ["parts", "sheet", "path", "above", "place", "last"] ["parts", "sheet", "path"] (defScope s_put_sheet) := ⟨rfl, rfl, rfl, by decide +kernel, rfl, by decide +kernel, by decide +kernel⟩
theorem sc_new_group : FnScope ["sheet", "depth", "group", "above"] ["sheet", "depth"] (defScope s_new_group) := ⟨rfl, rfl, rfl, by decide +kernel, rfl, by decide +kernel, by decide +kernel⟩
theorem sc_Lmixed : FnScope ["_law_cell", "_law_k"] ["_law_cell", "_law_k"] (defScope s_Lmixed) := ⟨rfl, rfl, rfl, by decide +kernel, rfl, by decide +kernel, by decide +kernel⟩
theorem sc_Lwithout : FnScope ["_law_sorting", "_law_sheet", "_law_found", "_law_genus", "_law_kept", "_law_middle", "_law_some"] ["_law_sorting", "_law_sheet"] (defScope s_Lwithout) := ⟨rfl, rfl, rfl, by decide +kernel, rfl, by decide +kernel, by decide +kernel⟩
theorem sc_Lpath : FnScope ["_law_sorting", "_law_mixed_here", "_law_way", "_law_first", "_law_second", "_law_many"] ["_law_sorting", "_law_mixed_here"] (defScope s_Lpath) := ⟨rfl, rfl, rfl, by decide +kernel, rfl, by decide +kernel, by decide +kernel⟩
theorem sc_Llaid : FnScope ["_law_sorting", "_law_sheet", "_law_path_here", "_law_found", "_law_some"] ["_law_sorting", "_law_sheet", "_law_path_here"] (defScope s_Llaid) := ⟨rfl, rfl, rfl, by decide +kernel, rfl, by decide +kernel, by decide +kernel⟩
theorem sc_Lsheets : FnScope ["_law_sorting", "_law_found", "_law_genus", "_law_middle", "_law_form"] ["_law_sorting"] (defScope s_Lsheets) := ⟨rfl, rfl, rfl, by decide +kernel, rfl, by decide +kernel, by decide +kernel⟩
theorem sc_Lkind : FnScope ["_law_error", "_law_told"] ["_law_error"] (defScope s_Lkind) := ⟨rfl, rfl, rfl, by decide +kernel, rfl, by decide +kernel, by decide +kernel⟩
theorem sc_Lbad_path : FnScope ["_law_sorting", "_law_path_here", "_law_mixed_here", "_law_way", "_law_there", "_law_place"] ["_law_sorting", "_law_path_here", "_law_mixed_here"] (defScope s_Lbad_path) := ⟨rfl, rfl, rfl, by decide +kernel, rfl, by decide +kernel, by decide +kernel⟩
theorem sc_Lasked : FnScope ["_law_clerk", "_law_word", "_law_sheet", "_law_path_here", "_law_kind_here", "_law_told", "e"] ["_law_clerk", "_law_word", "_law_sheet", "_law_path_here"] (defScope s_Lasked) := ⟨rfl, rfl, rfl, by decide +kernel, rfl, by decide +kernel, by decide +kernel⟩
theorem sc_Lstep : FnScope ["_law_clerk", "_law_sorting", "_law_cell", "_law_k", "_law_mixed_here", "_law_sheet", "_law_there", "_law_none", "_law_no_sheet", "_law_left", "_law_path_here", "_law_way", "_law_odd", "_law_bad"] ["_law_clerk", "_law_sorting", "_law_cell", "_law_k"] (defScope s_Lstep) := ⟨rfl, rfl, rfl, by decide +kernel, rfl, by decide +kernel, by decide +kernel⟩
theorem sc_law : FnScope ["_law_script", "_law_clerk", "_law_sorting", "_law_k", "_law_found", "_law_genus"] ["_law_script"] (defScope s_law) := ⟨rfl, rfl, rfl, by decide +kernel, rfl, by decide +kernel, by decide +kernel⟩
theorem sc_Results_init : FnScope ["self"] ["self"] (defScope s_Results_init) := ⟨rfl, rfl, rfl, by decide +kernel, rfl, by decide +kernel, by decide +kernel⟩
theorem sc_Clerk_init : FnScope ["self"] ["self"] (defScope s_Clerk_init) := ⟨rfl, rfl, rfl, by decide +kernel, rfl, by decide +kernel, by decide +kernel⟩
theorem sc_Clerk_lay : FnScope ["self", "sheet", "path"] ["self", "sheet", "path"] (defScope s_Clerk_lay) := ⟨rfl, rfl, rfl, by decide +kernel, rfl, by decide +kernel, by decide +kernel⟩
theorem sc_Clerk_take : FnScope ["self", "sheet"] ["self", "sheet"] (defScope s_Clerk_take) := ⟨rfl, rfl, rfl, by decide +kernel, rfl, by decide +kernel, by decide +kernel⟩
theorem sc_Clerk_book : FnScope ["self"] ["self"] (defScope s_Clerk_book) := ⟨rfl, rfl, rfl, by decide +kernel, rfl, by decide +kernel, by decide +kernel⟩
theorem sc_Clerk_acts : FnScope ["self"] ["self"] (defScope s_Clerk_acts) := ⟨rfl, rfl, rfl, by decide +kernel, rfl, by decide +kernel, by decide +kernel⟩
theorem sc_Clerk_sorting : FnScope ["self"] ["self"] (defScope s_Clerk_sorting) := ⟨rfl, rfl, rfl, by decide +kernel, rfl, by decide +kernel, by decide +kernel⟩
section
variable {P : Program} {w : World} {K : PySem.W.Frag} {mg : Str → Option Value} {base : Heap} {c : Ad}
set_option maxHeartbeats 4000000 in
theorem ok_is_whole (T : Txt w K mg c) : FnOk P w K mg base CX0 1 c.a_is_whole c.d_is_whole ["thing"] (spW K) := by
  refine T.is_whole.fn.ok sc_is_whole (fun vs H Q E h => ?_) (fun cdv A outer s H vs Q E hr h => ?_)
  · obtain ⟨x, rfl, _⟩ := h
    rfl
  · obtain ⟨x, rfl, ow, k⟩ := h
    refine ⟨_, (pss_one (ps_ret (pe_and (pe_callB call_isiA rfl T.no_isinstance bt_isinstance (pa_cons (pv 0) (pa_cons (pe_bltn (v := .ty "int") rfl T.no_int bt_int rfl) pa_nil))) (pe_one (pe_not (pe_callB call_isiA rfl T.no_isinstance bt_isinstance (pa_cons (pv 0) (pa_cons (pe_bltn (v := .ty "bool") rfl T.no_bool bt_bool rfl) pa_nil)))))))), ?_⟩
    refine ⟨x, rfl, rIsiA.int ow ⟨_, rfl, ?_⟩⟩
    cases x with
    | int i => exact iteT ⟨_, rfl, rIsiA.bool ow ⟨_, rfl, k⟩⟩
    | bl b => exact iteT ⟨_, rfl, rIsiA.bool ow ⟨_, rfl, k⟩⟩
    | _ => exact iteF k
set_option maxHeartbeats 4000000 in
theorem ok_is_number (T : Txt w K mg c) : FnOk P w K mg base CX0 2 c.a_is_number c.d_is_number ["thing"] (spR K 1000000000) := by
  refine T.is_number.fn.ok sc_is_number (fun vs H Q E h => ?_) (fun cdv A outer s H vs Q E hr h => ?_)
  · obtain ⟨x, rfl, _⟩ := h
    rfl
  · obtain ⟨x, rfl, ow, k⟩ := h
    refine ⟨_, (pss_one (ps_ret (pe_and (pe_call (ok_is_whole T) (hr.mono (by decide)) rfl T.is_whole.mgf T.is_whole.kp T.is_whole.bi .nil pass0 (pa_cons (pv 0) pa_nil)) (pe_one (pe_chain op_le op_le pe_int (pv 0) (pe_glob rfl T.mg_LAST_NUMBER T.rl_LAST_NUMBER)))))), ?_⟩
    refine ⟨x, rfl, x, rfl, ow, _, rfl, ?_⟩
    cases x with
    | int i =>
      refine iteT ⟨_, rfl, _, _, rfl, rfl, _, rfl, ?_⟩
      by_cases h1 : 1 ≤ i
      · rw [if_pos (decide_eq_true h1)]
        refine ⟨_, _, rfl, rfl, ?_⟩
        simpa [inR, h1] using k
      · rw [if_neg (by simp [h1])]
        simpa [inR, h1] using k
    | _ => exact iteF k
set_option maxHeartbeats 4000000 in
theorem ok_sheet_list (T : Txt w K mg c) : FnOk P w K mg base (CXx P w) 3 c.a_sheet_list c.d_sheet_list ["sheets", "seen"] (spSheetList) := by
  refine T.sheet_list.fn.okx sc_sheet_list (fun vs H Q E h => ?_) (fun cdv A outer s H vs Q E hr h => ?_)
  · obtain ⟨a, d, ns, kvs, rfl, _⟩ := h
    rfl
  · obtain ⟨a, d, ns, kvs, rfl, hA, hD, hg, hp, hv, hz, k⟩ := h
    refine ⟨_, (pss_cons (ps_set (i := 2) sc_sheet_list.nd rfl (Or.inl rfl) (pe_lst pa_nil))
      (pss_cons (ps_for own_def rfl (pi_list (pv 0)) (pg_name (i := 3) sc_sheet_list.nd rfl (Or.inl rfl))
        (pss_cons (ps_if (pt_not (pt_val (pe_call (ok_is_number T) (hr.mono (by decide)) rfl T.is_number.mgf T.is_number.kp T.is_number.bi .nil pass0 (pa_cons (pv 3) pa_nil))))
        (pss_one (ps_raise T.x_NoSorting rfl rfl T.mg_NoSorting rz_def (pa_cons pe_str pa_nil)))
        pss_nil)
      (pss_cut (ps_if (PW.pt (pw_and (pt_truth (pv 2) (fun _ => rfl)) (pw_and1 (pt_cmpR op_le (pv 3) (pe_ix ix_list (pv 2) (pe_un un_neg pe_int) (fun _ _ => rfl)) (nomark _)))))
        (pss_one (ps_raise T.x_NoSorting rfl rfl T.mg_NoSorting rz_def (pa_cons pe_str pa_nil)))
        pss_nil)
      (pss_cons (ps_if (pt_cmp (pc_din (hu_of hr) (pv 3) (pv 1)))
        (pss_one (ps_raise T.x_NoSorting rfl rfl T.mg_NoSorting rz_def (pa_cons pe_str pa_nil)))
        pss_nil)
      (pss_cons (ps_dput (hu_of hr) (pv 1) (pv 3) pe_bl rfl)
      (pss_one (ps_expr (pe_bm PySem.F.plainAttrs_list PySem.F.slot_list_append PySem.F.type_list_append (MtM.r mt_append) (pv 2) (pa_cons (pv 3) pa_nil)))))))))
      (pss_one (ps_ret (pv 2))))), ?_⟩
    refine ⟨le_ble rfl, fun l hl => ?_⟩
    have nla : a ≠ l := ne_of_none hA hl
    have nld : d ≠ l := ne_of_none hD hl
    refine ⟨_, rfl, a, rfl, ⟨_, SqL.of (by rw [upd_ne nla]; exact hA)⟩, ?_⟩
    refine for_list (xs := ns.map V.int) (fun i σ G => ∃ z kv', σ = [some (.ref a), some (.ref d), some (.ref l), z] ∧ G l = some (.lst ((ns.take i).map V.int)) ∧ G a = some (.lst (ns.map V.int)) ∧ G d = some (.dK kv') ∧ Seen kvs kv' (ns.take i) ∧ FrD d H G) ?_ ?_ ?_ ?_
    · exact ⟨_, kvs, rfl, upd_same, by rw [upd_ne nla]; exact hA, by rw [upd_ne nld]; exact hD, Seen.nil kvs, fun b u _ hb => by rw [upd_ne (ne_of_none hb hl)]; exact hb⟩
    · rintro i σ G _ ⟨z, kv', _, _, h, _⟩
      exact SqL.of h
    · rintro i x σ G hx ⟨z, kv', rfl, h1, h2, h3, h4, h5⟩
      obtain ⟨s, hs, rfl⟩ := getI hx
      have hm := List.mem_of_getElem? hs
      have q : valV kv' (Sum.inl s) = none := (h4.2 s).mpr ⟨hv s hm, nd_take hg.nd hs⟩
      have n1 : l ≠ d := ne_of h1 h3 (by intro z; cases z)
      have n2 : a ≠ d := ne_of h2 h3 (by intro z; cases z)
      have n3 : a ≠ l := nla
      have hi : i < ns.length := (List.getElem?_eq_some_iff.mp hs).1
      have sz : 1000 < sizeLine := le_ble rfl
      have lt : (ns.take i).length = i := by rw [List.length_take]; omega
      have e4 := h4.1
      rw [lt] at e4
      refine ⟨_, rfl, _, rfl, Own.int, _, rfl, ?_⟩
      rw [hg.inn s hm]
      refine iteF ?_
      refine ⟨fun σ' G' => σ' = [some (V.ref a), some (V.ref d), some (V.ref l), some (V.int s)] ∧ G' = G, ?_, ?_⟩
      · refine ⟨_, rfl, _, .inl ⟨_, SqL.of h1, rfl⟩, ?_⟩
        match i, hs, h1 with
        | 0, _, _ => exact iteF ⟨rfl, rfl⟩
        | m + 1, hs, h1 =>
          obtain ⟨p, ep⟩ : ∃ p, ns[m]? = some p := ⟨ns[m], List.getElem?_eq_getElem (by omega)⟩
          rw [take_one ep, List.map_append] at h1
          have lt2 : p < s := by
            obtain ⟨h2', e2⟩ := List.getElem?_eq_some_iff.mp ep
            obtain ⟨h3', e3⟩ := List.getElem?_eq_some_iff.mp hs
            rw [← e2, ← e3]
            exact List.pairwise_iff_getElem.mp hp m (m + 1) h2' h3' (by omega)
          rw [take_one ep, List.map_append]
          have ee : (!(List.map V.int (ns.take m) ++ List.map V.int [p]).isEmpty) = true := by cases List.map V.int (ns.take m) <;> rfl
          rw [ee]
          refine iteT ⟨_, rfl, _, rfl, _, rfl, l, _, _, _, rfl, rfl, SqL.of h1, atI_last _ _, _, _, rfl, rfl, _, rfl, ?_⟩
          rw [decide_eq_false (by omega)]
          exact iteF ⟨rfl, rfl⟩
      rintro σ' G' ⟨rfl, rfl⟩
      refine ⟨_, rfl, _, rfl, d, _, rfl, DGet.k (k := Sum.inl s) h3, ?_⟩
      rw [q]
      refine ⟨_, rfl, iteF ?_⟩
      refine ⟨_, rfl, _, rfl, d, _, rfl, DPut.k (k := Sum.inl s) h3 (by omega), ?_⟩
      refine ⟨_, rfl, .inl ⟨rfl, _, SqL.of (by rw [upd_ne n1]; exact h1)⟩, _, rfl, l, _, _, rfl, rfl, by rw [upd_ne n1]; exact h1, by rw [List.length_map]; omega, ?_⟩
      refine ⟨_, putK kv' (Sum.inl s) (.bl true), rfl, ?_, ?_, ?_, ?_, ?_⟩
      · rw [upd_same, take_one hs, List.map_append]; rfl
      · rw [upd_ne n3, upd_ne n2]; exact h2
      · rw [upd_ne n1.symm, upd_same]
      · rw [take_one hs]; exact h4.put q
      · intro b u nb hb
        rw [upd_ne (fun z => by rw [z, hl] at hb; cases hb), upd_ne nb]
        exact h5 b u nb hb
    · rintro σ G ⟨z, kv', rfl, h1, h2, h3, h4, h5⟩
      rw [List.length_map, List.take_of_length_le (Nat.le_refl _)] at h1 h4
      exact ⟨_, rfl, k l kv' G h5 hl h1 h3 h4⟩
set_option maxHeartbeats 4000000 in
theorem ok_group_list (T : Txt w K mg c) : ∀ n : Nat, FnOk P w K mg base (CXx P w) (4 + n) c.a_group_list c.d_group_list ["group", "depth", "seen"] (spGroupList n)
  | 0 => by
    refine T.group_list.fn.okx sc_group_list (fun vs H Q E h => ?_) (fun cdv A outer s H vs Q E hr h => ?_)
    · obtain ⟨v, d, t, kvs, rfl, _⟩ := h
      rfl
    · obtain ⟨v, d, t, kvs, rfl, hat, hg, hD, hv, hz, k⟩ := h
      refine ⟨_, (pss_cons (ps_if (PW.pt (pw_or (pt_not (pt_val (pe_callB call_isiA rfl T.no_isinstance bt_isinstance (pa_cons (pv 0) (pa_cons (pe_bltn (v := .ty "list") rfl T.no_list bt_list rfl) pa_nil))))) (pw_or1 (pt_cmpR op_eq (pe_callB call_len_seq rfl T.no_len bt_len (pa_cons (pv 0) pa_nil)) pe_int (nomark _)))))
        (pss_one (ps_raise T.x_NoSorting rfl rfl T.mg_NoSorting rz_def (pa_cons pe_str pa_nil)))
        pss_nil)
      (pss_cons (ps_if (pt_cmpR op_eq (pv 1) (pe_glob rfl T.mg_FORM_DEPTH T.rl_FORM_DEPTH) (nomark _))
        (pss_one (ps_ret (pe_callS (ok_sheet_list T) (hr.mono (by decide)) rfl T.sheet_list.mgf T.sheet_list.kp T.sheet_list.bi .nil pass_def (pa_cons (pv 0) (pa_cons (pv 2) pa_nil)))))
        pss_nil)
      (pss_one ps_never))), ?_⟩
      obtain ⟨a, vs, rfl, _, _⟩ := hat.lst
      have hA := AtR.ints (ns := t) hat
      have hne : ls t ≠ [] := hg.fu.1
      refine ⟨_, rfl, rIsiA.ty (.lst hA) rfl ⟨_, rfl, iteF ?_⟩⟩
      refine ⟨_, rfl, a, _, rfl, .inl (SqL.of hA), rfl, _, rfl, ?_⟩
      refine ite2 (fun z => ?_) (fun _ => ?_)
      · exfalso
        have z := V.int.inj (of_decide_eq_true z)
        exact hne (List.length_eq_zero_iff.mp (by exact (List.length_map (f := V.int) (as := t)).symm.trans (Int.ofNat_eq_zero.mp z)))
      have e1 := flat_ints t
      refine ⟨_, rfl, rfl, _, rfl, iteT ?_⟩
      refine ⟨_, rfl, _, rfl, a, d, t, kvs, rfl, hA, hD, ⟨e1 ▸ hg.inn, e1 ▸ hg.nd⟩, hg.as, e1 ▸ hv, by rw [← e1]; exact hz, fun l kv' H' f hl h1 h2 h3 => ?_⟩
      exact k _ kv' H' f (New.ints hl h1) h2 (by rw [e1]; exact h3)
  | n + 1 => by
    have ih := ok_group_list T n
    refine T.group_list.fn.okx sc_group_list (fun vs H Q E h => ?_) (fun cdv A outer s H vs Q E hr h => ?_)
    · obtain ⟨v, d, t, kvs, rfl, _⟩ := h
      rfl
    · obtain ⟨v, d, t, kvs, rfl, hat, hg, hD, hv, hz, k⟩ := h
      refine ⟨_, (pss_cons (ps_if (PW.pt (pw_or (pt_not (pt_val (pe_callB call_isiA rfl T.no_isinstance bt_isinstance (pa_cons (pv 0) (pa_cons (pe_bltn (v := .ty "list") rfl T.no_list bt_list rfl) pa_nil))))) (pw_or1 (pt_cmpR op_eq (pe_callB call_len_seq rfl T.no_len bt_len (pa_cons (pv 0) pa_nil)) pe_int (nomark _)))))
        (pss_one (ps_raise T.x_NoSorting rfl rfl T.mg_NoSorting rz_def (pa_cons pe_str pa_nil)))
        pss_nil)
      (pss_cons (ps_if (pt_cmpR op_eq (pv 1) (pe_glob rfl T.mg_FORM_DEPTH T.rl_FORM_DEPTH) (nomark _))
        (pss_one (ps_ret (pe_callS (ok_sheet_list T) (hr.mono (le_k (by decide))) rfl T.sheet_list.mgf T.sheet_list.kp T.sheet_list.bi .nil pass_def (pa_cons (pv 0) (pa_cons (pv 2) pa_nil)))))
        pss_nil)
      (pss_one (ps_ret (pe_comp (N' := ["part", "seen", "depth"]) (js := [none, some 2, some 1]) rfl rfl (by decide +kernel) (by decide +kernel) (free_of ["seen", "depth"] (by decide +kernel) (fm_cons (.inl rfl) (fm_cons (.inl rfl) fm_nil))) (cap_of rfl (fm_cons (fun j e => nomatch e) (fm_cons (fun j e => by cases e; exact ⟨rfl, rfl, .inl rfl⟩) (fm_cons (fun j e => by cases e; exact ⟨rfl, rfl, .inl rfl⟩) fm_nil)))) (pi_list (pv 0)) (fun B => ⟨(pg_name (i := 0) (show List.Nodup (["part", "seen", "depth"] : List Str) by decide +kernel) rfl (Or.inl rfl)), pifs_nil, (pe_callS ih (hr.mono (Nat.le_refl _)) rfl T.group_list.mgf T.group_list.kp T.group_list.bi .nil passE0 (pa_cons (pv 0) (pa_cons (pe_op op_add (pv 2) pe_int) (pa_cons (pv 1) pa_nil))))⟩)))))), ?_⟩
      obtain ⟨a, vs, rfl, hA, hlen⟩ := hat.lst
      have hne : ls t ≠ [] := hg.fu.1
      refine ⟨_, rfl, rIsiA.ty (.lst hA) rfl ⟨_, rfl, iteF ?_⟩⟩
      refine ⟨_, rfl, a, _, rfl, .inl (SqL.of hA), rfl, _, rfl, ?_⟩
      refine ite2 (fun z => ?_) (fun _ => ?_)
      · exfalso
        have z := V.int.inj (of_decide_eq_true z)
        exact hne (List.length_eq_zero_iff.mp (by omega))
      refine ⟨_, rfl, rfl, _, rfl, ?_⟩
      refine ite2 (fun z => ?_) (fun _ => ?_)
      · exfalso
        have z := V.int.inj (of_decide_eq_true z)
        omega
      have sz : 1000 < sizeLine := le_ble rfl
      have lz : vs.length ≤ 1000 := by
        have := flat_full (fun g hg' => hg.fu.2 g hg') (ts := ls t)
        have e : (flat (n + 1 + 1) t).length = (flat (n + 1 + 1) (ls t : List (Tr (n + 1)))).length := rfl
        omega
      refine ⟨_, rfl, a, rfl, ⟨_, SqL.of hA⟩, fun l B hl => ?_⟩
      have nla : a ≠ l := ne_of_none hA hl
      have nld : d ≠ l := ne_of_none hD hl
      refine loop_lst (xs := vs) (fun i σ acc G => (∃ o, σ = [o, some (.ref d), some (.int (3 - ((n + 1 : Nat) : Int)))]) ∧ ∃ kv', G l = some (.lst acc) ∧ acc.length = i ∧ G d = some (.dK kv') ∧ Seen kvs kv' (flat (n + 2) ((ls t).take i : List (Tr (n + 1)))) ∧ FrD d H G ∧ NewL H G l (n + 1) acc ((ls t).take i)) (by omega) ?_ ?_ ?_ ?_
      · exact ⟨⟨_, rfl⟩, kvs, upd_same, rfl, by rw [upd_ne nld]; exact hD, Seen.nil kvs, fun b u _ hb => (by rw [upd_ne (ne_of_none hb hl)]; exact hb), NewL.nil⟩
      · rintro i σ acc G hi ⟨_, kv', h1, h2, h3, h4, h5, h6⟩
        exact ⟨h1, SqL.of (h5.lst hD _ _ hA), by omega⟩
      · rintro i x σ acc G hx ⟨⟨o, rfl⟩, kv', h1, h2, h3, h4, h5, h6⟩
        have hi : i < vs.length := (List.getElem?_eq_some_iff.mp hx).1
        obtain ⟨x', t', e1, e2, hk⟩ := hat.kid hA hi
        rw [hx] at e1
        cases e1
        have fn := flat_nd e2 hg.nd
        have fl := flat_len e2
        have e4 := h4.1
        have n1 : l ≠ d := ne_of h1 h3 (by intro z; cases z)
        refine ⟨_, rfl, _, rfl, _, _, rfl, rfl, _, rfl, x, d, t', kv', by show [x, V.int (3 - ((n + 1 : Nat) : Int) + 1), V.ref d] = _; rw [show (3 : Int) - ((n + 1 : Nat) : Int) + 1 = 3 - (n : Int) by omega], hk.keep (h5.lst hD), hg.kid e2, h3, fun s hs => (h4.2 s).mpr ⟨hv s (flat_mem (List.mem_of_getElem? e2) hs), fn.2 s hs⟩, ?_, fun w kv'' G' f nw hd2 sn => ?_⟩
        · have e5 : (flat (n + 1 + 1) t).length = (flat (n + 1 + 1) (ls t : List (Tr (n + 1)))).length := rfl
          have e6 : (flat (n + 2) ((ls t).take i : List (Tr (n + 1)))).length = (flat (n + 1 + 1) ((ls t).take i : List (Tr (n + 1)))).length := rfl
          omega
        have hl2 : G' l = some (.lst acc) := f l _ n1 h1
        refine ⟨hl2, Nx.mk hi ⟨⟨_, rfl⟩, kv'', upd_same, by rw [List.length_append, h2]; rfl, by rw [upd_ne n1.symm]; exact hd2, ?_, ?_, ?_⟩⟩
        · rw [flat_take e2]
          exact h4.more sn
        · exact fun b u nb hb => by
            rw [upd_ne (ne_of_none hb hl)]
            exact f b u nb (h5 b u nb hb)
        · rw [take_one e2]
          have hln : G l ≠ none := by rw [h1]; intro z; cases z
          refine (h6.snoc hln (fun b hb => ?_) (fun b xs _ _ hb => f.lst h3 b xs hb) (f.some hd2) nw).frame (fun b xs nb _ hb => by rw [upd_ne nb]; exact hb) (fun b hb => ?_)
          · cases q : H b with
            | none => rfl
            | some u => exact absurd hb (h5.some h3 b (by rw [q]; intro z; cases z))
          · by_cases q : b = l
            · rw [q, upd_same]; intro z; cases z
            · rw [upd_ne q]; exact hb
      · rintro σ acc G ⟨_, kv', h1, h2, h3, h4, h5, h6⟩
        have et : (ls t).take vs.length = ls t := List.take_of_length_le (by omega)
        rw [et] at h4 h6
        exact k _ kv' G h5 (h6.done hl h1) h3 h4
set_option maxHeartbeats 4000000 in
theorem ok_sorting_list (T : Txt w K mg c) : FnOk P w K mg base (CXx P w) 7 c.a_sorting_list c.d_sorting_list ["sorting"] (spSorting K) := by
  refine T.sorting_list.fn.okx sc_sorting_list (fun vs H Q E h => ?_) (fun cdv A outer s H vs Q E hr h => ?_)
  · obtain ⟨v, S, rfl, _⟩ := h
    rfl
  · obtain ⟨v, S, rfl, hat, wf, hz, k⟩ := h
    refine ⟨_, (pss_cons (ps_if (pt_not (pt_val (pe_callB call_isiA rfl T.no_isinstance bt_isinstance (pa_cons (pv 0) (pa_cons (pe_bltn (v := .ty "list") rfl T.no_list bt_list rfl) pa_nil)))))
        (pss_one (ps_raise T.x_NoSorting rfl rfl T.mg_NoSorting rz_def (pa_cons pe_str pa_nil)))
        pss_nil)
      (pss_cons (ps_set (i := 1) sc_sorting_list.nd rfl (Or.inr rfl) pe_dnewK)
      (pss_one (ps_ret (pe_comp (N' := ["group", "seen"]) (js := [none, some 1]) rfl rfl (by decide +kernel) (by decide +kernel) (free_of ["seen"] (by decide +kernel) (fm_cons (.inl rfl) fm_nil)) (cap_of rfl (fm_cons (fun j e => nomatch e) (fm_cons (fun j e => by cases e; exact ⟨rfl, rfl, .inl rfl⟩) fm_nil))) (pi_list (pv 0)) (fun B => ⟨(pg_name (i := 0) (show List.Nodup (["group", "seen"] : List Str) by decide +kernel) rfl (Or.inl rfl)), pifs_nil, (pe_callS (ok_group_list T 2) (hr.mono (by decide)) rfl T.group_list.mgf T.group_list.kp T.group_list.bi .nil passE0 (pa_cons (pv 0) (pa_cons pe_int (pa_cons (pv 1) pa_nil))))⟩)))))), ?_⟩
    obtain ⟨a, vs, rfl, hA, hlen⟩ := hat.lst
    refine ⟨_, rfl, rIsiA.ty (.lst hA) rfl ⟨_, rfl, iteF ?_⟩⟩
    refine fun d hd => ?_
    have nad : a ≠ d := ne_of_none hA hd
    have hD : upd H d (.dK []) d = some (.dK []) := upd_same
    have sH : Same H (upd H d (.dK [])) := Same.new hd
    have hA1 := sH a _ hA
    have hat1 := hat.same sH
    generalize upd H d (.dK []) = H1 at hD sH hA1 hat1
    have sz : 1000 < sizeLine := le_ble rfl
    have lz : vs.length ≤ 1000 := by
      have := flat_full (fun g hg' => wf.fu g hg') (ts := ls S)
      have e : (flat 4 S).length = (flat 4 (ls S : List (Tr 3))).length := rfl
      have e' : (flat (3 + 1) (ls S)).length = (flat 4 (ls S : List (Tr 3))).length := rfl
      omega
    refine ⟨_, rfl, a, rfl, ⟨_, SqL.of hA1⟩, fun l B hl => ?_⟩
    have nld : d ≠ l := ne_of_none hD hl
    refine loop_lst (xs := vs) (fun i σ acc G => (∃ o, σ = [o, some (.ref d)]) ∧ ∃ kv', G l = some (.lst acc) ∧ acc.length = i ∧ G d = some (.dK kv') ∧ Seen [] kv' (flat 4 ((ls S).take i : List (Tr 3))) ∧ FrD d H1 G ∧ NewL H1 G l 3 acc ((ls S).take i)) (by omega) ?_ ?_ ?_ ?_
    · exact ⟨⟨_, rfl⟩, [], upd_same, rfl, by rw [upd_ne nld]; exact hD, Seen.nil [], fun b u _ hb => (by rw [upd_ne (ne_of_none hb hl)]; exact hb), NewL.nil⟩
    · rintro i σ acc G hi ⟨_, kv', h1, h2, h3, h4, h5, h6⟩
      exact ⟨h1, SqL.of (h5.lst hD _ _ hA1), by omega⟩
    · rintro i x σ acc G hx ⟨⟨o, rfl⟩, kv', h1, h2, h3, h4, h5, h6⟩
      have hi : i < vs.length := (List.getElem?_eq_some_iff.mp hx).1
      obtain ⟨x', t', e1, e2, hk⟩ := hat1.kid hA1 hi
      rw [hx] at e1
      cases e1
      have fn := flat_nd e2 wf.nd
      have fl := flat_len e2
      have e4 := h4.1
      have n1 : l ≠ d := ne_of h1 h3 (by intro z; cases z)
      refine ⟨_, rfl, _, rfl, x, d, t', kv', by show [x, V.int 1, V.ref d] = _; rfl, hk.keep (h5.lst hD), wf.grp e2, h3, fun s hs => (h4.2 s).mpr ⟨rfl, fn.2 s hs⟩, ?_, fun w kv'' G' f nw hd2 sn => ?_⟩
      · have e5 : (flat 4 S).length = (flat (3 + 1) (ls S : List (Tr 3))).length := rfl
        have e6 : (flat 4 ((ls S).take i : List (Tr 3))).length = (flat (3 + 1) ((ls S).take i : List (Tr 3))).length := rfl
        have e7 : (flat (2 + 1) t').length = (flat 3 t').length := rfl
        have e8 : ([] : List (Key × V)).length = 0 := rfl
        omega
      have hl2 : G' l = some (.lst acc) := f l _ n1 h1
      refine ⟨hl2, Nx.mk hi ⟨⟨_, rfl⟩, kv'', upd_same, by rw [List.length_append, h2]; rfl, by rw [upd_ne n1.symm]; exact hd2, ?_, ?_, ?_⟩⟩
      · rw [flat_take e2]
        exact h4.more sn
      · exact fun b u nb hb => by
          rw [upd_ne (ne_of_none hb hl)]
          exact f b u nb (h5 b u nb hb)
      · rw [take_one e2]
        have hln : G l ≠ none := by rw [h1]; intro z; cases z
        refine (h6.snoc hln (fun b hb => ?_) (fun b xs _ _ hb => f.lst h3 b xs hb) (f.some hd2) nw).frame (fun b xs nb _ hb => by rw [upd_ne nb]; exact hb) (fun b hb => ?_)
        · cases q : H1 b with
          | none => rfl
          | some u => exact absurd hb (h5.some h3 b (by rw [q]; intro z; cases z))
        · by_cases q : b = l
          · rw [q, upd_same]; intro z; cases z
          · rw [upd_ne q]; exact hb
    · rintro σ acc G ⟨_, kv', h1, h2, h3, h4, h5, h6⟩
      have et : (ls S).take vs.length = ls S := List.take_of_length_le (by omega)
      rw [et] at h6
      refine k _ G (fun b u hb => h5 b u (fun z => ?_) (sH b u hb)) ((h6.done hl h1).older sH)
      rw [z, hd] at hb
      cases hb
set_option maxHeartbeats 4000000 in
theorem ok_sheets_of (T : Txt w K mg c) : FnOk P w K mg base CX0 1 c.a_sheets_of c.d_sheets_of ["told"] (spSheetsOf) := by
  refine T.sheets_of.fn.ok sc_sheets_of (fun vs H Q E h => ?_) (fun cdv A outer s H vs Q E hr h => ?_)
  · obtain ⟨l, ws, H0, rs, rfl, _⟩ := h
    rfl
  · obtain ⟨l, ws, H0, rs, rfl, hL, hR, hz, hn, k⟩ := h
    refine ⟨_, (pss_cons (ps_set (i := 1) sc_sheets_of.nd rfl (Or.inl rfl) (pe_lst pa_nil))
      (pss_cons (ps_for PassesOwn.never rfl (pi_list (pv 0)) (pg_tup rfl (pgs_cons (pg_name (i := 2) sc_sheets_of.nd rfl (Or.inl rfl)) (pgs_cons (pg_name (i := 3) sc_sheets_of.nd rfl (Or.inl rfl)) pgs_nil)))
        (pss_one (ps_if (pt_cmpR op_eq (pe_callB call_len_seq rfl T.no_len bt_len (pa_cons (pv 2) pa_nil)) (pe_glob rfl T.mg_FORM_DEPTH T.rl_FORM_DEPTH) (nomark _))
        (pss_one (ps_expr (pe_bm PySem.F.plainAttrs_list PySem.F.slot_list_extend PySem.F.type_list_extend (MtM.r mt_extend) (pv 1) (pa_cons (pv 3) pa_nil))))
        pss_nil)))
      (pss_one (ps_ret (pe_callB (call_sorted rfl) rfl T.no_sorted bt_sorted (pa_cons (pv 1) pa_nil)))))), ?_⟩
    have sz : 2000 < sizeLine := le_ble rfl
    refine ⟨le_ble rfl, fun f hf => ?_⟩
    have s0 : Same H (upd H f (.lst [])) := Same.new hf
    refine ⟨_, rfl, l, rfl, ⟨_, SqL.of (s0 _ _ hL)⟩, ?_⟩
    refine for_list (xs := ws) (fun i σ G => (∃ z2 z3, σ = [some (.ref l), some (.ref f), z2, z3]) ∧ Same H G ∧ G f = some (.lst ((sheets3 (rs.take i)).map V.int))) ?_ ?_ ?_ ?_
    · exact ⟨⟨_, _, rfl⟩, s0, upd_same⟩
    · rintro i σ G _ ⟨_, sG, _⟩
      exact SqL.of (sG _ _ hL)
    · rintro i x σ G hx ⟨⟨z2, z3, rfl⟩, sG, h1⟩
      have hi : i < ws.length := (List.getElem?_eq_some_iff.mp hx).1
      have hir : i < rs.length := by rw [← hR.1]; exact hi
      have er : rs[i]? = some rs[i] := List.getElem?_eq_getElem hir
      obtain ⟨t, ip, sl, rfl, a1, a2, a3, a4⟩ := hR.2 i x _ hx er
      have e1 : sheets3 (rs.take (i + 1)) = sheets3 (rs.take i) ++ (if rs[i].1.length = 3 then rs[i].2 else []) := by
        rw [take_one er, sheets3_app]
        show _ ++ (_ ++ []) = _
        rw [List.append_nil]
      have hb : (sheets3 (rs.take i)).length + (if rs[i].1.length = 3 then rs[i].2 else []).length ≤ (sheets3 rs).length := by
        have h : sheets3 rs = sheets3 (rs.take (i + 1)) ++ sheets3 (rs.drop (i + 1)) := by rw [← sheets3_app, List.take_append_drop]
        rw [h, e1, List.length_append, List.length_append]
        omega
      refine ⟨t, _, rfl, SqT.of (sG _ _ a1), rfl, _, _, rfl, _, _, rfl, rfl, ?_⟩
      refine ⟨_, rfl, ip, _, rfl, .inr (SqT.of (sG _ _ a2)), rfl, _, rfl, ?_⟩
      refine ite2 (fun z => ?_) (fun z => ?_)
      · have z : rs[i].1.length = 3 := by
          have z := V.int.inj (of_decide_eq_true z)
          rw [List.length_map] at z
          omega
        rw [if_pos z] at e1 hb
        have nfs : sl ≠ f := fun q => by rw [q, hf] at a3; cases a3
        refine ⟨_, rfl, .inl ⟨rfl, _, SqL.of h1⟩, _, rfl, f, sl, _, _, rfl, rfl, h1, sG _ _ a3, ?_, ?_⟩
        · rw [List.length_map, List.length_map]
          omega
        · refine ⟨⟨_, _, rfl⟩, fun b u hb => ?_, ?_⟩
          · rw [upd_ne (ne_of_none hb hf)]
            exact sG _ _ hb
          · rw [upd_same, e1, List.map_append]
      · have z : rs[i].1.length ≠ 3 := fun q => z (by rw [List.length_map, q]; rfl)
        rw [if_neg z, List.append_nil] at e1
        exact ⟨⟨_, _, rfl⟩, sG, by rw [e1]; exact h1⟩
    · rintro σ G ⟨⟨z2, z3, rfl⟩, sG, h1⟩
      rw [hR.1, List.take_of_length_le (Nat.le_refl _)] at h1
      refine ⟨_, rfl, f, _, rfl, SqL.of h1, hz, fun q ms hq pm ps => ?_⟩
      refine k q _ (sG.trans (Same.new hq)) (sG.free hq) ?_
      rw [upd_same, srt_is pm ps]
set_option maxHeartbeats 4000000 in
theorem ok_groups_in (T : Txt w K mg c) : ∀ n : Nat, FnOk P w K mg base CX0 (2 + n) c.a_groups_in c.d_groups_in ["path", "parts"] (spGroupsIn K n)
  | 0 => by
    refine T.groups_in.fn.ok sc_groups_in (fun vs H Q E h => ?_) (fun cdv A outer s H vs Q E hr h => ?_)
    · obtain ⟨tp, ps, v, ts, rfl, _⟩ := h
      rfl
    · obtain ⟨tp, ps, v, ts, rfl, hp, hpl, hat, fu, hz, k⟩ := h
      refine ⟨_, (pss_cons (ps_set (i := 2) sc_groups_in.nd rfl (Or.inl rfl) (pe_lst pa_nil))
      (pss_cons (ps_for PassesOwn.never rfl (pi_enum rfl T.no_enumerate (pa_cons (pv 1) pa_nil)) (pg_tup rfl (pgs_cons (pg_name (i := 3) sc_groups_in.nd rfl (Or.inl rfl)) (pgs_cons (pg_name (i := 4) sc_groups_in.nd rfl (Or.inl rfl)) pgs_nil)))
        (pss_cons (ps_set (i := 5) sc_groups_in.nd rfl (Or.inl rfl) (pe_op op_catT1 (pv 0) (pe_tup (pa_cons (pv 3) pa_nil))))
      (pss_one (ps_if (pt_cmpR op_eq (pe_callB call_len_seq rfl T.no_len bt_len (pa_cons (pv 5) pa_nil)) (pe_glob rfl T.mg_FORM_DEPTH T.rl_FORM_DEPTH) (nomark _))
        (pss_one (ps_expr (pe_bm PySem.F.plainAttrs_list PySem.F.slot_list_append PySem.F.type_list_append (MtM.r mt_append) (pv 2) (pa_cons (pe_tup (pa_cons (pv 5) (pa_cons (pe_callTy call_list_of rfl T.no_list bt_list (pa_cons (pv 4) pa_nil)) pa_nil))) pa_nil))))
        (pss_cons ps_never
      (pss_cons (ps_expr (pe_bm PySem.F.plainAttrs_list PySem.F.slot_list_append PySem.F.type_list_append (MtM.r mt_append) (pv 2) (pa_cons (pe_tup (pa_cons (pv 5) (pa_cons (pe_call (ok_sheets_of T) (hr.mono (by decide)) rfl T.sheets_of.mgf T.sheets_of.kp T.sheets_of.bi .nil pass0 (pa_cons (pv 6) pa_nil)) pa_nil))) pa_nil)))
      (pss_one (ps_expr (pe_bm PySem.F.plainAttrs_list PySem.F.slot_list_extend PySem.F.type_list_extend (MtM.r mt_extend) (pv 2) (pa_cons (pv 6) pa_nil))))))))))
      (pss_one (ps_ret (pv 2))))), ?_⟩
      obtain ⟨a, vs, rfl, hA, hlen⟩ := hat.lst
      have sz : 2000 < sizeLine := le_ble rfl
      refine ⟨le_ble rfl, fun l hl => ?_⟩
      have s0 : Same H (upd H l (.lst [])) := Same.new hl
      refine ⟨_, rfl, a, rfl, ⟨_, SqL.of (s0 _ _ hA)⟩, ?_⟩
      refine for_enum (xs := vs) (fun i σ G => (∃ z3 z4 z5 z6, σ = [some (.ref tp), some (.ref a), some (.ref l), z3, z4, z5, z6]) ∧ Same H G ∧ ∃ ws, G l = some (.lst ws) ∧ RowsAt (upd H l (.lst [])) G ws (rows 0 ps ((ls ts).take i))) ?_ ?_ ?_ ?_
      · exact ⟨⟨_, _, _, _, rfl⟩, s0, [], upd_same, RowsAt.nil⟩
      · rintro i σ G _ ⟨_, sG, _⟩
        exact SqL.of (sG _ _ hA)
      · rintro i x σ G T' hx ⟨⟨z3, z4, z5, z6, rfl⟩, sG, ws, h1, h2⟩ hT
        have hi : i < vs.length := (List.getElem?_eq_some_iff.mp hx).1
        obtain ⟨x', t', e1, e2, hk⟩ := hat.kid hA hi
        rw [hx] at e1
        cases e1
        obtain ⟨fl, hfl⟩ : ∃ fl : List Int, fl = t' := ⟨t', rfl⟩
        subst hfl
        obtain ⟨fa, fs, rfl, _, _⟩ := hk.lst
        have hF := AtR.ints (ns := fl) hk
        have s1 : Same G (upd G T' (.tup [.int i, .ref fa])) := Same.new hT
        refine ⟨T', _, rfl, SqT.of upd_same, rfl, _, _, rfl, _, _, rfl, rfl, ?_⟩
        refine ⟨_, rfl, _, rfl, le_ble rfl, fun u hu => ?_⟩
        have s2 := s1.trans (Same.new (o := HO.tup [.int i]) hu)
        have hu2 := upd_same (H := upd G T' (.tup [.int i, .ref fa])) (a := u) (o := .tup [.int i])
        generalize upd (upd G T' (.tup [.int i, .ref fa])) u (.tup [.int i]) = G2 at s2 hu2
        refine ⟨tp, u, _, _, rfl, rfl, (sG.trans s2).seqT hp, SqT.of hu2, List.cons_ne_nil _ _, ?_, fun z => ?_, fun z p hp2 => ?_⟩
        · rw [List.length_map]
          show ps.length + 1 ≤ _
          omega
        · exfalso
          rw [List.map_eq_nil_iff] at z
          rw [z] at hpl
          exact absurd hpl (by decide)
        have hin : upd G2 p (.tup (ps.map V.int ++ [.int i])) p = some (.tup ((ps ++ [(i : Int)]).map V.int)) := by rw [upd_same, List.map_append]; rfl
        have s3 := s2.trans (Same.new (o := HO.tup (ps.map V.int ++ [.int i])) hp2)
        generalize upd G2 p (.tup (ps.map V.int ++ [.int i])) = G3 at s3 hin
        have li : ((ps ++ [(i : Int)]).map V.int).length = 3 := by
          rw [List.length_map, List.length_append]
          show ps.length + 1 = 3
          omega
        refine ⟨_, rfl, p, _, rfl, .inr (SqT.of hin), rfl, _, rfl, ?_⟩
        rw [li]
        refine iteT ?_
        have lw := h2.1
        have lr := rows_len 0 ps ((ls ts).take i) fun t ht => fu t (List.mem_of_mem_take ht)
        have lf : (flat (0 + 2) ((ls ts).take i : List (Tr 1))).length ≤ (flat (0 + 2) ts).length := by
          have := flat_len e2
          have e : (flat (0 + 2) ts).length = (flat (1 + 1) (ls ts : List (Tr 1))).length := rfl
          have e' : (flat (0 + 2) ((ls ts).take i : List (Tr 1))).length = (flat (1 + 1) ((ls ts).take i : List (Tr 1))).length := rfl
          omega
        refine ⟨_, rfl, .inl ⟨rfl, _, SqL.of (s3 _ _ h1)⟩, _, rfl, _, rfl, fa, _, rfl, .inl (SqL.of (s3 _ _ (sG _ _ hF))), fun q hq => ?_⟩
        have s4 := s3.trans (Same.new (o := HO.lst (fl.map V.int)) hq)
        have hq4 := upd_same (H := G3) (a := q) (o := .lst (fl.map V.int))
        have hi4 := Same.new (o := HO.lst (fl.map V.int)) hq _ _ hin
        have nq : upd H l (.lst []) q = none := by
          rw [upd_ne (fun z => by rw [z, s3 _ _ h1] at hq; cases hq)]
          exact (sG.trans s3).free hq
        have nql : q ≠ l := fun z => by rw [z, s3 _ _ h1] at hq; cases hq
        generalize upd G3 q (.lst (fl.map V.int)) = G4 at s4 hq4 hi4
        refine ⟨le_ble rfl, fun r hr' => ?_⟩
        have s5 := s4.trans (Same.new (o := HO.tup [.ref p, .ref q]) hr')
        have r5 : RowT (upd H l (.lst [])) (upd G4 r (.tup [.ref p, .ref q])) (.ref r) (ps ++ [(i : Int)], fl) := ⟨r, p, q, rfl, upd_same, Same.new hr' _ _ hi4, Same.new hr' _ _ hq4, nq⟩
        generalize upd G4 r (.tup [.ref p, .ref q]) = G5 at s5 r5
        refine ⟨l, _, _, rfl, rfl, s5 _ _ h1, by omega, ?_⟩
        refine ⟨⟨_, _, _, _, rfl⟩, fun b u hb => ?_, _, upd_same, ?_⟩
        · rw [upd_ne (ne_of_none hb hl)]
          exact s5 _ _ (sG _ _ hb)
        · rw [rows_take e2]
          exact (((h2.same s5).app (RowsAt.one r5)).upd (s5 _ _ h1) (by rw [upd_same]; intro z; cases z))
      · rintro σ G ⟨⟨z3, z4, z5, z6, rfl⟩, sG, ws, h1, h2⟩
        have et : (ls ts).take vs.length = ls ts := List.take_of_length_le (by omega)
        rw [et] at h2
        exact ⟨_, rfl, k l ws G sG hl h1 (h2.older s0)⟩
  | n + 1 => by
    have ih := ok_groups_in T n
    refine T.groups_in.fn.ok sc_groups_in (fun vs H Q E h => ?_) (fun cdv A outer s H vs Q E hr h => ?_)
    · obtain ⟨tp, ps, v, ts, rfl, _⟩ := h
      rfl
    · obtain ⟨tp, ps, v, ts, rfl, hp, hpl, hat, fu, hz, k⟩ := h
      refine ⟨_, (pss_cons (ps_set (i := 2) sc_groups_in.nd rfl (Or.inl rfl) (pe_lst pa_nil))
      (pss_cons (ps_for PassesOwn.never rfl (pi_enum rfl T.no_enumerate (pa_cons (pv 1) pa_nil)) (pg_tup rfl (pgs_cons (pg_name (i := 3) sc_groups_in.nd rfl (Or.inl rfl)) (pgs_cons (pg_name (i := 4) sc_groups_in.nd rfl (Or.inl rfl)) pgs_nil)))
        (pss_cut (ps_set (i := 5) sc_groups_in.nd rfl (Or.inl rfl) (pe_op op_catT1 (pv 0) (pe_tup (pa_cons (pv 3) pa_nil))))
      (pss_one (ps_if (pt_cmpR op_eq (pe_callB call_len_seq rfl T.no_len bt_len (pa_cons (pv 5) pa_nil)) (pe_glob rfl T.mg_FORM_DEPTH T.rl_FORM_DEPTH) (nomark _))
        (pss_one (ps_expr (pe_bm PySem.F.plainAttrs_list PySem.F.slot_list_append PySem.F.type_list_append (MtM.r mt_append) (pv 2) (pa_cons (pe_tup (pa_cons (pv 5) (pa_cons (pe_callTy call_list_of rfl T.no_list bt_list (pa_cons (pv 4) pa_nil)) pa_nil))) pa_nil))))
        (pss_cons (ps_set (i := 6) sc_groups_in.nd rfl (Or.inl rfl) (pe_call ih (hr.mono (Nat.le_refl _)) rfl T.groups_in.mgf T.groups_in.kp T.groups_in.bi .nil pass0 (pa_cons (pv 5) (pa_cons (pv 4) pa_nil))))
      (pss_cons (ps_expr (pe_bm PySem.F.plainAttrs_list PySem.F.slot_list_append PySem.F.type_list_append (MtM.r mt_append) (pv 2) (pa_cons (pe_tup (pa_cons (pv 5) (pa_cons (pe_call (ok_sheets_of T) (hr.mono (le_k (by decide))) rfl T.sheets_of.mgf T.sheets_of.kp T.sheets_of.bi .nil pass0 (pa_cons (pv 6) pa_nil)) pa_nil))) pa_nil)))
      (pss_one (ps_expr (pe_bm PySem.F.plainAttrs_list PySem.F.slot_list_extend PySem.F.type_list_extend (MtM.r mt_extend) (pv 2) (pa_cons (pv 6) pa_nil))))))))))
      (pss_one (ps_ret (pv 2))))), ?_⟩
      obtain ⟨a, vs, rfl, hA, hlen⟩ := hat.lst
      have sz : 2000 < sizeLine := le_ble rfl
      refine ⟨le_ble rfl, fun l hl => ?_⟩
      have s0 : Same H (upd H l (.lst [])) := Same.new hl
      refine ⟨_, rfl, a, rfl, ⟨_, SqL.of (s0 _ _ hA)⟩, ?_⟩
      refine for_enum (xs := vs) (fun i σ G => (∃ z3 z4 z5 z6, σ = [some (.ref tp), some (.ref a), some (.ref l), z3, z4, z5, z6]) ∧ Same H G ∧ ∃ ws, G l = some (.lst ws) ∧ RowsAt (upd H l (.lst [])) G ws (rows (n + 1) ps ((ls ts).take i))) ?_ ?_ ?_ ?_
      · exact ⟨⟨_, _, _, _, rfl⟩, s0, [], upd_same, RowsAt.nil⟩
      · rintro i σ G _ ⟨_, sG, _⟩
        exact SqL.of (sG _ _ hA)
      · rintro i x σ G T' hx ⟨⟨z3, z4, z5, z6, rfl⟩, sG, ws, h1, h2⟩ hT
        have hi : i < vs.length := (List.getElem?_eq_some_iff.mp hx).1
        obtain ⟨x', t', e1, e2, hk⟩ := hat.kid hA hi
        rw [hx] at e1
        cases e1
        have s1 : Same G (upd G T' (.tup [.int i, x])) := Same.new hT
        refine ⟨T', _, rfl, SqT.of upd_same, rfl, _, _, rfl, _, _, rfl, rfl, ?_⟩
        refine ⟨fun σ' G3 => ∃ p, σ' = [some (.ref tp), some (.ref a), some (.ref l), some (.int i), some x, some (.ref p), z6] ∧ Same G G3 ∧ G3 p = some (.tup ((ps ++ [(i : Int)]).map V.int)), ?_, ?_⟩
        · refine ⟨_, rfl, _, rfl, le_ble rfl, fun u hu => ?_⟩
          have s2 := s1.trans (Same.new (o := HO.tup [.int i]) hu)
          have hu2 := upd_same (H := upd G T' (.tup [.int i, x])) (a := u) (o := .tup [.int i])
          generalize upd (upd G T' (.tup [.int i, x])) u (.tup [.int i]) = G2 at s2 hu2
          refine ⟨tp, u, _, _, rfl, rfl, (sG.trans s2).seqT hp, SqT.of hu2, List.cons_ne_nil _ _, ?_, fun z => ?_, fun z p hp2 => ?_⟩
          · rw [List.length_map]
            show ps.length + 1 ≤ _
            omega
          · rw [List.map_eq_nil_iff] at z
            subst z
            exact ⟨u, rfl, s2, hu2⟩
          · exact ⟨p, rfl, s2.trans (Same.new hp2), by rw [upd_same, List.map_append]; rfl⟩
        rintro σ' G3 ⟨p, rfl, s3, hin⟩
        have li : ((ps ++ [(i : Int)]).map V.int).length = ps.length + 1 := by
          rw [List.length_map, List.length_append]
          rfl
        refine ⟨_, rfl, p, _, rfl, .inr (SqT.of hin), rfl, _, rfl, ?_⟩
        rw [li]
        refine ite2 (fun z => ?_) (fun _ => ?_)
        · exfalso
          have z := V.int.inj (of_decide_eq_true z)
          omega
        have lw := h2.1
        have lr := rows_len (n + 1) ps ((ls ts).take i) fun t ht => fu t (List.mem_of_mem_take ht)
        have ft := fu t' (List.mem_of_getElem? e2)
        have fl := flat_len e2
        have e5 : (flat (n + 1 + 2) ts).length = (flat (n + 2 + 1) (ls ts : List (Tr (n + 2)))).length := rfl
        have e6 : (flat (n + 1 + 2) ((ls ts).take i : List (Tr (n + 2)))).length = (flat (n + 2 + 1) ((ls ts).take i : List (Tr (n + 2)))).length := rfl
        have lr2 : (n + 1 + 1) * (flat (n + 1 + 2) ((ls ts).take i : List (Tr (n + 2)))).length ≤ 3 * 64 := Nat.mul_le_mul (by omega) (by omega)
        have pl : (ps ++ [(i : Int)]).length + n = 2 := by
          rw [List.length_append]
          show ps.length + 1 + n = 2
          omega
        refine ⟨_, rfl, _, rfl, p, ps ++ [(i : Int)], x, t', rfl, SqT.of hin, pl, hk.same (sG.trans s3), ft.2, ?_, fun m wm G4 s4 hm hm2 hm3 => ?_⟩
        · omega
        have s34 := s3.trans s4
        have l3 := rows_len n (ps ++ [(i : Int)]) (ls t') ft.2
        have l4 : (n + 1) * (flat (n + 2) (ls t' : List (Tr (n + 1)))).length ≤ 3 * 64 := Nat.mul_le_mul (by omega) (by
          have e : (flat (n + 2) (ls t' : List (Tr (n + 1)))).length = (flat (n + 2) t').length := rfl
          omega)
        have rf := rows_flat n (ps ++ [(i : Int)]) (ls t') pl
        refine ⟨_, rfl, .inl ⟨rfl, _, SqL.of (s34 _ _ h1)⟩, _, rfl, _, rfl, m, wm, G3, rows n (ps ++ [(i : Int)]) (ls t'), rfl, hm2, hm3, ?_, by omega, fun q G5 s5 hq hq2 => ?_⟩
        · rw [rf]
          have e : (flat (n + 2) (ls t' : List (Tr (n + 1)))).length = (flat (n + 2) t').length := rfl
          omega
        rw [rf] at hq2
        have fr : ∀ b, G3 b = none → upd H l (.lst []) b = none := fun b hb => by
          rw [upd_ne (fun z => by rw [z, s3 _ _ h1] at hb; cases hb)]
          exact (sG.trans s3).free hb
        refine ⟨le_ble rfl, fun r hr' => ?_⟩
        have s6 := s5.trans (Same.new (o := HO.tup [.ref p, .ref q]) hr')
        have r6 : RowT (upd H l (.lst [])) (upd G5 r (.tup [.ref p, .ref q])) (.ref r) (ps ++ [(i : Int)], srt (flat (n + 2) t')) := ⟨r, p, q, rfl, upd_same, s6 _ _ (s4 _ _ hin), Same.new hr' _ _ hq2, fr _ (s4.free hq)⟩
        generalize upd G5 r (.tup [.ref p, .ref q]) = G6 at s6 r6
        have hl6 := s6 _ _ (s34 _ _ h1)
        refine ⟨l, _, _, rfl, rfl, hl6, by omega, ?_⟩
        have nm : m ≠ l := fun z => by rw [z, s3 _ _ h1] at hm; cases hm
        have hm6 : upd G6 l (.lst (ws ++ [.ref r])) m = some (.lst wm) := by rw [upd_ne nm]; exact s6 _ _ hm2
        refine ⟨_, rfl, .inl ⟨rfl, _, SqL.of upd_same⟩, _, rfl, l, m, _, _, rfl, rfl, upd_same, hm6, ?_, ?_⟩
        · rw [List.length_append, hm3.1]
          show ws.length + 1 + _ ≤ _
          omega
        rw [upd_upd]
        refine ⟨⟨_, _, _, _, rfl⟩, fun b u hb => ?_, _, upd_same, ?_⟩
        · rw [upd_ne (ne_of_none hb hl)]
          exact s6 _ _ (s34 _ _ (sG _ _ hb))
        · rw [rows_take e2, List.append_assoc]
          exact ((h2.same (s34.trans s6)).app ((RowsAt.one r6).app ((hm3.elder fr).same s6))).upd hl6 (by rw [upd_same]; intro z; cases z)
      · rintro σ G ⟨⟨z3, z4, z5, z6, rfl⟩, sG, ws, h1, h2⟩
        have et : (ls ts).take vs.length = ls ts := List.take_of_length_le (by omega)
        rw [et] at h2
        exact ⟨_, rfl, k l ws G sG hl h1 (h2.older s0)⟩
set_option maxHeartbeats 4000000 in
theorem ok_groups (T : Txt w K mg c) : FnOk P w K mg base (CXx P w) 8 c.a_groups c.d_groups ["sorting"] (spGroups K) := by
  refine T.groups.fn.okx sc_groups (fun vs H Q E h => ?_) (fun cdv A outer s H vs Q E hr h => ?_)
  · obtain ⟨v, S, rfl, _⟩ := h
    rfl
  · obtain ⟨v, S, rfl, hat, wf, hz, k⟩ := h
    refine ⟨_, (pss_one (ps_ret (pe_call (ok_groups_in T 2) (hr.mono (by decide)) rfl T.groups_in.mgf T.groups_in.kp T.groups_in.bi .nil pass0 (pa_cons (pe_tup pa_nil) (pa_cons (pe_callS (ok_sorting_list T) (hr.mono (by decide)) rfl T.sorting_list.mgf T.sorting_list.kp T.sorting_list.bi .nil pass_def (pa_cons (pv 0) pa_nil)) pa_nil))))), ?_⟩
    refine ⟨le_ble rfl, fun e he => ?_⟩
    have s0 : Same H (upd H e (.tup [])) := Same.new he
    refine ⟨_, rfl, v, S, rfl, hat.same s0, wf, by omega, fun w G s1 n1 => ?_⟩
    refine ⟨e, [], w, S, rfl, SqT.of (s1 _ _ upd_same), rfl, n1.r, wf.fu, hz, fun l ws G2 s2 hl h1 h2 => ?_⟩
    exact k l ws G2 (s0.trans (s1.trans s2)) ((s0.trans s1).free hl) h1 (h2.older (s0.trans s1))
set_option maxHeartbeats 4000000 in
theorem ok_refuse_sheet (T : Txt w K mg c) : FnOk P w K mg base (CXx P w) 3 c.a_refuse_sheet c.d_refuse_sheet ["sheet"] (spRefuse K c.c_NoSheet) := by
  refine T.refuse_sheet.fn.okx sc_refuse_sheet (fun vs H Q E h => ?_) (fun cdv A outer s H vs Q E hr h => ?_)
  · obtain ⟨x, rfl, _⟩ := h
    rfl
  · obtain ⟨x, rfl, ow, k1, k2⟩ := h
    refine ⟨_, (pss_one (ps_if (pt_not (pt_val (pe_call (ok_is_number T) (hr.mono (by decide)) rfl T.is_number.mgf T.is_number.kp T.is_number.bi .nil pass0 (pa_cons (pv 0) pa_nil))))
        (pss_one (ps_raise T.x_NoSheet rfl rfl T.mg_NoSheet rz_def (pa_cons pe_str pa_nil)))
        pss_nil)), ?_⟩
    refine ⟨_, rfl, x, rfl, ow, _, rfl, ?_⟩
    cases hx : inR 1000000000 x with
    | false => exact iteT ⟨le_ble rfl, k2 hx⟩
    | true => exact iteF (k1 hx)
set_option maxHeartbeats 4000000 in
theorem ok_path_of (T : Txt w K mg c) : FnOk P w K mg base (CXx P w) 9 c.a_path_of c.d_path_of ["sorting", "sheet"] (spPathOf K c.c_NoSheet) := by
  refine T.path_of.fn.okx sc_path_of (fun vs H Q E h => ?_) (fun cdv A outer s H vs Q E hr h => ?_)
  · obtain ⟨v, x, S, rfl, _⟩ := h
    rfl
  · obtain ⟨v, x, S, rfl, hat, wf, hz, ow, k1, k2⟩ := h
    refine ⟨_, (pss_cons (ps_set (i := 2) sc_path_of.nd rfl (Or.inl rfl) (pe_callS (ok_groups T) (hr.mono (by decide)) rfl T.groups.mgf T.groups.kp T.groups.bi .nil pass_def (pa_cons (pv 0) pa_nil)))
      (pss_cons (ps_expr (pe_callS (ok_refuse_sheet T) (hr.mono (by decide)) rfl T.refuse_sheet.mgf T.refuse_sheet.kp T.refuse_sheet.bi .nil pass_def (pa_cons (pv 1) pa_nil)))
      (pss_cons (ps_for own_def rfl (pi_list (pv 2)) (pg_tup rfl (pgs_cons (pg_name (i := 3) sc_path_of.nd rfl (Or.inl rfl)) (pgs_cons (pg_name (i := 4) sc_path_of.nd rfl (Or.inl rfl)) pgs_nil)))
        (pss_one (ps_if (PW.pt (pw_and (pt_cmpR op_eq (pe_callB call_len_seq rfl T.no_len bt_len (pa_cons (pv 3) pa_nil)) (pe_glob rfl T.mg_FORM_DEPTH T.rl_FORM_DEPTH) (nomark _)) (pw_and1 (pt_cmpR op_in_seq (pv 1) (pv 4) (by with_unfolding_all rfl)))))
        (pss_one (ps_ret (pv 3)))
        pss_nil)))
      (pss_one (ps_ret pe_non))))), ?_⟩
    refine ⟨_, rfl, v, S, rfl, hat, wf, hz, fun l ws G s1 hl h1 h2 => ?_⟩
    refine ⟨_, rfl, x, rfl, ow.same s1, fun hx => ?_, fun hx => k1 hx G s1⟩
    obtain ⟨s', rfl⟩ := inR_int' hx
    refine ⟨_, rfl, l, rfl, ⟨_, SqL.of h1⟩, ?_⟩
    refine for_list (xs := ws) (fun i σ G' => (∃ z3 z4, σ = [some v, some (.int s'), some (.ref l), z3, z4]) ∧ G' = G ∧ firstP (rows 2 [] (ls S)) s' = firstP ((rows 2 [] (ls S)).drop i) s') ?_ ?_ ?_ ?_
    · exact ⟨⟨_, _, rfl⟩, rfl, rfl⟩
    · rintro i σ G' _ ⟨_, rfl, _⟩
      exact SqL.of h1
    · rintro i y σ G' hy ⟨⟨z3, z4, rfl⟩, rfl, hf⟩
      have hi : i < ws.length := (List.getElem?_eq_some_iff.mp hy).1
      have hir : i < (rows 2 [] (ls S)).length := by rw [← h2.1]; exact hi
      obtain ⟨t, ip, sl, rfl, a1, a2, a3, a4⟩ := h2.2 i y _ hy (List.getElem?_eq_getElem hir)
      have ed : (rows 2 [] (ls S)).drop i = (rows 2 [] (ls S))[i] :: (rows 2 [] (ls S)).drop (i + 1) := (List.getElem_cons_drop hir).symm
      rw [ed] at hf
      generalize (rows 2 [] (ls S))[i] = r at a2 a3 hf
      have hf : firstP (rows 2 [] (ls S)) s' = if r.1.length = 3 ∧ s' ∈ r.2 then some r.1 else firstP ((rows 2 [] (ls S)).drop (i + 1)) s' := hf
      refine ⟨t, _, rfl, SqT.of a1, rfl, _, _, rfl, _, _, rfl, rfl, ?_⟩
      refine ⟨_, rfl, ip, _, rfl, .inr (SqT.of a2), rfl, _, rfl, ?_⟩
      refine ite2 (fun z => ?_) (fun z => ?_)
      · have z : r.1.length = 3 := by
          have z := V.int.inj (of_decide_eq_true z)
          rw [List.length_map] at z
          omega
        refine ⟨_, rfl, _, rfl, sl, _, rfl, .inl (SqL.of a3), rfl, flatI _, _, rfl, ?_⟩
        rw [inV_ints]
        refine ite2 (fun zz => ?_) (fun zz => ?_)
        · rw [if_pos ⟨z, of_decide_eq_true zz⟩] at hf
          refine ⟨_, rfl, k2 s' rfl hx _ _ s1 ?_⟩
          rw [hf]
          exact ⟨ip, rfl, a2⟩
        · rw [if_neg (fun q => zz (decide_eq_true q.2))] at hf
          exact ⟨⟨_, _, rfl⟩, rfl, hf⟩
      · have z : r.1.length ≠ 3 := fun q => z (by rw [List.length_map, q]; rfl)
        rw [if_neg (fun q => z q.1)] at hf
        exact ⟨⟨_, _, rfl⟩, rfl, hf⟩
    · rintro σ G' ⟨⟨z3, z4, rfl⟩, rfl, hf⟩
      rw [h2.1, List.drop_length] at hf
      refine k2 s' rfl hx _ _ s1 ?_
      rw [hf]
      rfl
set_option maxHeartbeats 4000000 in
theorem ok_without (T : Txt w K mg c) : ∀ n : Nat, FnOk P w K mg base CX0 (1 + n) c.a_without c.d_without ["parts", "sheet", "depth"] (spWithout n)
  | 0 => by
    refine T.without.fn.ok sc_without (fun vs H Q E h => ?_) (fun cdv A outer s H vs Q E hr h => ?_)
    · obtain ⟨v, s', t, rfl, _⟩ := h
      rfl
    · obtain ⟨v, s', t, rfl, hat, sm, k⟩ := h
      refine ⟨_, (pss_cons (ps_if (pt_cmpR op_eq (pv 2) (pe_glob rfl T.mg_FORM_DEPTH T.rl_FORM_DEPTH) (nomark _))
        (pss_one (ps_ret (pe_comp (N' := ["other", "sheet"]) (js := [none, some 1]) rfl rfl (by decide +kernel) (by decide +kernel) (free_of ["sheet"] (by decide +kernel) (fm_cons (.inl rfl) fm_nil)) (cap_of rfl (fm_cons (fun j e => nomatch e) (fm_cons (fun j e => by cases e; exact ⟨rfl, rfl, .inl rfl⟩) fm_nil))) (pi_list (pv 0)) (fun B => ⟨(pg_name (i := 0) (show List.Nodup (["other", "sheet"] : List Str) by decide +kernel) rfl (Or.inl rfl)), (pifs_one (pt_cmpR op_ne (pv 0) (pv 1) (nomark _))), (pv 0)⟩))))
        pss_nil)
      (pss_cons ps_never
      (pss_one ps_never))), ?_⟩
      obtain ⟨a, vs, rfl, _, _⟩ := hat.lst
      obtain ⟨f, hf⟩ : ∃ f : List Int, f = t := ⟨t, rfl⟩
      subst hf
      have hA := AtR.ints (ns := f) hat
      have sz : 1000 < sizeLine := le_ble rfl
      have lz : f.length ≤ 1000 := sm.1
      refine ⟨_, rfl, rfl, _, rfl, iteT ?_⟩
      refine ⟨_, rfl, a, rfl, ⟨_, SqL.of hA⟩, fun l B hl => ?_⟩
      refine loop_lst (xs := f.map V.int) (fun i σ acc G => (∃ o, σ = [o, some (.int s')]) ∧ Same H G ∧ G l = some (.lst acc) ∧ acc = ((f.take i).filter (fun x => !decide (x = s'))).map V.int) (by rw [List.length_map]; omega) ?_ ?_ ?_ ?_
      · exact ⟨⟨_, rfl⟩, Same.new hl, upd_same, rfl⟩
      · rintro i σ acc G hi ⟨_, sG, h1, h2⟩
        refine ⟨h1, SqL.of (sG _ _ hA), ?_⟩
        rw [h2, List.length_map]
        exact Nat.le_trans (List.length_filter_le _ _) (by rw [List.length_take]; omega)
      · rintro i x σ acc G hx ⟨⟨o, rfl⟩, sG, h1, h2⟩
        obtain ⟨y, hy, rfl⟩ := getI hx
        have hi : i < (f.map V.int).length := (List.getElem?_eq_some_iff.mp hx).1
        refine ⟨_, rfl, _, rfl, rfl, _, rfl, ?_⟩
        refine ite2 (fun z => ?_) (fun z => ?_)
        · have z : y ≠ s' := fun q => by rw [q, decide_eq_true rfl] at z; exact absurd z (by decide)
          refine ⟨_, rfl, h1, Nx.mk hi ⟨⟨_, rfl⟩, fun b u hb => ?_, upd_same, ?_⟩⟩
          · rw [upd_ne (ne_of_none hb hl)]
            exact sG _ _ hb
          · rw [take_one hy, List.filter_append, List.map_append, ← h2]
            simp [z]
        · have z : y = s' := V.int.inj (Decidable.of_not_not (p := V.int y = V.int s') (fun q => z (by rw [decide_eq_false q]; rfl)))
          refine Nx.mk hi ⟨⟨_, rfl⟩, sG, h1, ?_⟩
          rw [take_one hy, List.filter_append, List.map_append, ← h2]
          simp [z]
      · rintro σ acc G ⟨_, sG, h1, h2⟩
        rw [List.length_map, List.take_of_length_le (Nat.le_refl _)] at h2
        subst h2
        exact k _ G sG (New.ints hl h1)
  | n + 1 => by
    have ih := ok_without T n
    refine T.without.fn.ok sc_without (fun vs H Q E h => ?_) (fun cdv A outer s H vs Q E hr h => ?_)
    · obtain ⟨v, s', t, rfl, _⟩ := h
      rfl
    · obtain ⟨v, s', t, rfl, hat, sm, k⟩ := h
      refine ⟨_, (pss_cons (ps_if (pt_cmpR op_eq (pv 2) (pe_glob rfl T.mg_FORM_DEPTH T.rl_FORM_DEPTH) (nomark _))
        (pss_one (ps_ret (pe_comp (N' := ["other", "sheet"]) (js := [none, some 1]) rfl rfl (by decide +kernel) (by decide +kernel) (free_of ["sheet"] (by decide +kernel) (fm_cons (.inl rfl) fm_nil)) (cap_of rfl (fm_cons (fun j e => nomatch e) (fm_cons (fun j e => by cases e; exact ⟨rfl, rfl, .inl rfl⟩) fm_nil))) (pi_list (pv 0)) (fun B => ⟨(pg_name (i := 0) (show List.Nodup (["other", "sheet"] : List Str) by decide +kernel) rfl (Or.inl rfl)), (pifs_one (pt_cmpR op_ne (pv 0) (pv 1) (nomark _))), (pv 0)⟩))))
        pss_nil)
      (pss_cons (ps_setComp (i := 3) sc_without.nd rfl rfl (N' := ["part", "sheet", "depth"]) (js := [none, some 1, some 2]) rfl rfl (by decide +kernel) (by decide +kernel) (free_of ["sheet", "depth"] (by decide +kernel) (fm_cons (.inl rfl) (fm_cons (.inl rfl) fm_nil))) (cap_of rfl (fm_cons (fun j e => nomatch e) (fm_cons (fun j e => by cases e; exact ⟨rfl, rfl, .inl rfl⟩) (fm_cons (fun j e => by cases e; exact ⟨rfl, rfl, .inl rfl⟩) fm_nil)))) (pi_list (pv 0)) (fun B => ⟨(pg_name (i := 0) (show List.Nodup (["part", "sheet", "depth"] : List Str) by decide +kernel) rfl (Or.inl rfl)), pifs_nil, (pe_call ih (hr.mono (Nat.le_refl _)) rfl T.without.mgf T.without.kp T.without.bi .nil pass0 (pa_cons (pv 0) (pa_cons (pv 1) (pa_cons (pe_op op_add (pv 2) pe_int) pa_nil))))⟩))
      (pss_one (ps_ret (pe_comp (N' := ["part"]) (js := [none]) rfl rfl (by decide +kernel) (by decide +kernel) (free_nil (by decide +kernel)) (cap_nil rfl rfl) (pi_list (pv 3)) (fun B => ⟨(pg_name (i := 0) (show List.Nodup (["part"] : List Str) by decide +kernel) rfl (Or.inl rfl)), (pifs_one (pt_truth (pv 0) (fun _ => rfl))), (pv 0)⟩)))))), ?_⟩
      obtain ⟨a, vs, rfl, hA, hlen⟩ := hat.lst
      have sz : 1000 < sizeLine := le_ble rfl
      have lz : vs.length ≤ 1000 := by rw [hlen]; exact sm.1
      refine ⟨_, rfl, rfl, _, rfl, ?_⟩
      refine ite2 (fun z => ?_) (fun _ => ?_)
      · exfalso
        have z := V.int.inj (of_decide_eq_true z)
        omega
      refine ⟨_, rfl, a, rfl, ⟨_, SqL.of hA⟩, fun l B hl => ?_⟩
      obtain ⟨us, hus⟩ : ∃ us : List (Tr (n + 1)), us = (ls t).map (wo n s') := ⟨_, rfl⟩
      have lu : us.length = vs.length := by rw [hus, List.length_map, hlen]
      refine loop_lst (xs := vs) (fun i σ acc G => (∃ o, σ = [o, some (.int s'), some (.int (3 - ((n + 1 : Nat) : Int)))]) ∧ Same H G ∧ G l = some (.lst acc) ∧ acc.length = i ∧ NewL H G l (n + 1) acc (us.take i)) (by omega) ?_ ?_ ?_ ?_
      · exact ⟨⟨_, rfl⟩, Same.new hl, upd_same, rfl, NewL.nil⟩
      · rintro i σ acc G hi ⟨_, sG, h1, h2, _⟩
        exact ⟨h1, SqL.of (sG _ _ hA), by omega⟩
      · rintro i x σ acc G hx ⟨⟨o, rfl⟩, sG, h1, h2, h3⟩
        have hi : i < vs.length := (List.getElem?_eq_some_iff.mp hx).1
        obtain ⟨x', t', e1, e2, hk⟩ := hat.kid hA hi
        rw [hx] at e1
        cases e1
        have eu : us[i]? = some (wo n s' t') := by rw [hus, List.getElem?_map, e2]; rfl
        refine ⟨_, rfl, _, rfl, _, rfl, _, _, rfl, rfl, x, s', t', by show [x, V.int s', V.int (3 - ((n + 1 : Nat) : Int) + 1)] = _; rw [show (3 : Int) - ((n + 1 : Nat) : Int) + 1 = 3 - (n : Int) by omega], hk.same sG, sm.2 t' (List.mem_of_getElem? e2), fun w G' sw nw => ?_⟩
        refine ⟨sw _ _ h1, Nx.mk hi ⟨⟨_, rfl⟩, fun b u hb => ?_, upd_same, by rw [List.length_append, h2]; rfl, ?_⟩⟩
        · rw [upd_ne (ne_of_none hb hl)]
          exact sw _ _ (sG _ _ hb)
        · rw [take_one eu]
          have hln : G l ≠ none := by rw [h1]; intro z; cases z
          refine (h3.snoc hln (fun b hb => sG.free hb) (fun b xs _ _ hb => sw b _ hb) (fun b hb => ?_) nw).frame (fun b xs nb _ hb => by rw [upd_ne nb]; exact hb) (fun b hb => ?_)
          · cases q : G b with
            | none => exact absurd q hb
            | some u => rw [sw b u q]; intro z; cases z
          · by_cases q : b = l
            · rw [q, upd_same]; intro z; cases z
            · rw [upd_ne q]; exact hb
      · rintro σ acc G ⟨_, sG, h1, h2, h3⟩
        have et : us.take vs.length = us := List.take_of_length_le (by omega)
        rw [et] at h3
        have hk : ∀ (j : Nat) x u, acc[j]? = some x → us[j]? = some u → ∃ b xs, x = .ref b ∧ G b = some (.lst xs) ∧ xs.length = (ls u).length := fun j x u hx hu => by
          obtain ⟨_, o, ko, _⟩ := h3
          obtain ⟨b, xs, e, h, l, _⟩ := (ko j x u hx hu).r
          exact ⟨b, xs, e, h, l⟩
        refine ⟨_, rfl, l, rfl, ⟨_, SqL.of h1⟩, fun r B2 hr => ?_⟩
        refine loop_lst (xs := acc) (fun i σ bcc G' => (∃ o, σ = [o]) ∧ Same G G' ∧ G' r = some (.lst bcc) ∧ bcc.length ≤ i ∧ ∃ idx, Pk acc us i idx bcc ((us.take i).filter (fun t : Tr (n + 1) => !(ls t).isEmpty))) (by omega) ?_ ?_ ?_ ?_
        · exact ⟨⟨_, rfl⟩, Same.new hr, upd_same, Nat.le_refl _, [], Pk.nil⟩
        · rintro i σ bcc G' hi ⟨_, sG', g1, g2, _⟩
          exact ⟨g1, SqL.of (sG' _ _ h1), g2⟩
        · rintro i x σ bcc G' hx ⟨⟨o, rfl⟩, sG', g1, g2, idx, g3⟩
          have hi : i < acc.length := (List.getElem?_eq_some_iff.mp hx).1
          have hiu : i < us.length := by omega
          have eu : us[i]? = some us[i] := List.getElem?_eq_getElem hiu
          obtain ⟨b, xs, rfl, hb, lb⟩ := hk i x _ hx eu
          refine ⟨_, rfl, _, .inl ⟨_, SqL.of (sG' _ _ hb), rfl⟩, ?_⟩
          have ee : (ls us[i]).isEmpty = xs.isEmpty := by
            rw [Bool.eq_iff_iff, List.isEmpty_iff_length_eq_zero, List.isEmpty_iff_length_eq_zero, lb]
          cases hxs : xs.isEmpty with
          | true =>
            refine iteF (Nx.mk hi ⟨⟨_, rfl⟩, sG', g1, by omega, idx, ?_⟩)
            rw [take_one eu, List.filter_append, List.filter_cons_of_neg (by rw [ee, hxs]; decide), List.filter_nil, List.append_nil]
            exact g3.drop
          | false =>
            refine iteT ⟨_, rfl, g1, Nx.mk hi ⟨⟨_, rfl⟩, fun c u hc => ?_, upd_same, by rw [List.length_append]; show bcc.length + 1 ≤ i + 1; omega, idx ++ [i], ?_⟩⟩
            · rw [upd_ne (ne_of_none hc hr)]
              exact sG' _ _ hc
            · rw [take_one eu, List.filter_append, List.filter_cons_of_pos (by rw [ee, hxs]; rfl), List.filter_nil]
              exact g3.keep hx eu
        · rintro σ bcc G' ⟨_, sG', g1, g2, idx, g3⟩
          rw [show us.take acc.length = us from List.take_of_length_le (by omega)] at g3
          refine k _ G' (sG.trans sG') ?_
          show New H G' (n + 1 + 1) (.ref r) (List.filter (fun t : Tr (n + 1) => !(ls t).isEmpty) ((ls t).map (wo n s')) : List (Tr (n + 1)))
          rw [← hus]
          exact h3.pick g3 hr (sG.free hr) sG' g1
set_option maxHeartbeats 4000000 in
theorem ok_taken (T : Txt w K mg c) : FnOk P w K mg base (CXx P w) 10 c.a_taken c.d_taken ["sorting", "sheet"] (spTakenX K c.c_NoSheet c.c_NoPath) := by
  refine T.taken.fn.okx sc_taken (fun vs H Q E h => ?_) (fun cdv A outer s H vs Q E hr h => ?_)
  · obtain ⟨v, x, S, rfl, _⟩ := h
    rfl
  · obtain ⟨v, x, S, rfl, hat, wf, hz, ow, k1, k2⟩ := h
    refine ⟨_, (pss_cons (ps_if (pt_cmp (pc_isN (pe_callS (ok_path_of T) (hr.mono (by decide)) rfl T.path_of.mgf T.path_of.kp T.path_of.bi .nil pass_def (pa_cons (pv 0) (pa_cons (pv 1) pa_nil)))))
        (pss_one (ps_raise T.x_NoSheet rfl rfl T.mg_NoSheet rz_def (pa_cons pe_str pa_nil)))
        pss_nil)
      (pss_one (ps_ret (pe_call (ok_without T 3) (hr.mono (by decide)) rfl T.without.mgf T.without.kp T.without.bi .nil pass0 (pa_cons (pe_callS (ok_sorting_list T) (hr.mono (by decide)) rfl T.sorting_list.mgf T.sorting_list.kp T.sorting_list.bi .nil pass_def (pa_cons (pv 0) pa_nil)) (pa_cons (pv 1) (pa_cons pe_int pa_nil))))))), ?_⟩
    refine ⟨_, rfl, _, rfl, v, x, S, rfl, hat, wf, hz, ow, fun hx G sG => k1 true (resTake_out wf hx) G sG, fun s' e hx w G sG pv => ?_⟩
    subst e
    by_cases hs : s' ∈ flat 4 S
    · obtain ⟨p, hp⟩ := Lies.of hs
      rw [hp.first wf] at pv
      obtain ⟨ip, rfl, hip⟩ := pv
      refine ⟨_, rfl, iteF ?_⟩
      refine ⟨_, rfl, v, S, rfl, hat.same sG, wf, by omega, fun w2 G2 s2 n2 => ?_⟩
      refine ⟨_, rfl, w2, s', S, rfl, n2.r, small_S wf.fu (by omega), fun w3 G3 s3 n3 => ?_⟩
      exact k2 _ (resTake_in hs) w3 G3 (sG.trans (s2.trans s3)) (n3.older (sG.trans s2))
    · rw [first_out hs] at pv
      have pv : w = .non := pv
      subst pv
      exact ⟨_, rfl, iteT ⟨le_ble rfl, k1 true (resTake_not hs) G sG⟩⟩
set_option maxHeartbeats 4000000 in
theorem ok_is_path (T : Txt w K mg c) : FnOk P w K mg base CX0 2 c.a_is_path c.d_is_path ["thing"] (spIsPath K) := by
  refine T.is_path.fn.ok sc_is_path (fun vs H Q E h => ?_) (fun cdv A outer s H vs Q E hr h => ?_)
  · obtain ⟨p, op, rfl, _⟩ := h
    rfl
  · obtain ⟨p, op, rfl, ip, k⟩ := h
    refine ⟨_, (pss_cons (ps_if (PW.pt (pw_or (pt_not (pt_val (pe_callB call_isiA rfl T.no_isinstance bt_isinstance (pa_cons (pv 0) (pa_cons (pe_bltn (v := .ty "tuple") rfl T.no_tuple bt_tuple rfl) pa_nil))))) (pw_or1 (pt_not (pt_chain op_le op_le pe_int (pe_callB call_len_seq rfl T.no_len bt_len (pa_cons (pv 0) pa_nil)) (pe_glob rfl T.mg_FORM_DEPTH T.rl_FORM_DEPTH))))))
        (pss_one (ps_ret pe_bl))
        pss_nil)
      (pss_one (ps_ret (pe_callB (call_all rfl) rfl T.no_all bt_all (pa_cons (pe_comp (N' := ["place"]) (js := [none]) rfl rfl (by decide +kernel) (by decide +kernel) (free_nil (by decide +kernel)) (cap_nil rfl rfl) (pi_tup (pv 0)) (fun B => ⟨(pg_name (i := 0) (show List.Nodup (["place"] : List Str) by decide +kernel) rfl (Or.inl rfl)), pifs_nil, (pe_and (pe_call (ok_is_whole T) (hr.mono (by decide)) rfl T.is_whole.mgf T.is_whole.kp T.is_whole.bi .nil pass0 (pa_cons (pv 0) pa_nil)) (pe_one (pe_cmpR op_ge (pv 0) pe_int (nomark _))))⟩)) pa_nil))))), ?_⟩
    rcases ip with ⟨a, xs, rfl, hx, hp, rfl⟩ | ⟨rfl, ip⟩
    · refine ⟨_, rfl, rIsiA.ty (.tup hx) rfl ⟨_, rfl, iteF ?_⟩⟩
      walk_at "rd"
      refine ⟨a, _, rfl, .inr (SqT.of hx), ?_⟩
      walk_at "rd"
      by_cases h1 : 1 ≤ xs.length
      · refine iteT' (decide_eq_true (by omega)) ?_
        walk_at "rd"
        by_cases h2 : xs.length ≤ 3
        · rw [decide_eq_true (show ((xs.length : Int) ≤ 3) by omega)]
          refine iteF ⟨_, rfl, a, rfl, ⟨_, SqT.of hx⟩, fun l B hl => ?_⟩
          have e0 : pathQ xs = nonN xs := if_pos ⟨h1, h2⟩
          refine loop_tup (xs := xs) (fun i σ acc G => (∃ o, σ = [o]) ∧ Same H G ∧ G l = some (.lst acc) ∧ acc = ((xs.take i).map okP).map V.bl) (by have : 3 ≤ sizeLine := le_ble rfl; omega) ?_ ?_ ?_ ?_
          · exact ⟨⟨_, rfl⟩, Same.new hl, upd_same, rfl⟩
          · rintro i σ acc G hi ⟨_, sG, g1, g2⟩
            refine ⟨g1, SqT.of (sG _ _ hx), ?_⟩
            rw [g2, List.length_map, List.length_map, List.length_take]
            omega
          · rintro i x σ acc G hxi ⟨⟨o, rfl⟩, sG, g1, g2⟩
            have hi : i < xs.length := (List.getElem?_eq_some_iff.mp hxi).1
            have hpx := hp x (List.mem_of_getElem? hxi)
            have fin : ∀ b, b = okP x → G l = some (.lst acc) ∧ Nx xs.length i ((∃ o, ([o].set 0 (some x) : St) = [o]) ∧ Same H (upd G l (.lst (acc ++ [V.bl b]))) ∧ upd G l (.lst (acc ++ [V.bl b])) l = some (.lst (acc ++ [V.bl b])) ∧ acc ++ [V.bl b] = ((xs.take (i + 1)).map okP).map V.bl) := by
              intro b eb
              refine ⟨g1, Nx.mk hi ⟨⟨_, rfl⟩, fun b' u hb => ?_, upd_same, ?_⟩⟩
              · rw [upd_ne (ne_of_none hb hl)]
                exact sG _ _ hb
              · rw [take_one hxi, List.map_append, List.map_append, ← g2, eb]
                rfl
            refine ⟨_, rfl, _, rfl, hpx |> plainV.own, _, rfl, ?_⟩
            cases x with
            | int j =>
              refine iteT ⟨_, rfl, _, _, rfl, rfl, ?_⟩
              exact fin _ rfl
            | _ => exact iteF (fin _ rfl)
          · rintro σ acc G ⟨_, sG, g1, g2⟩
            rw [List.take_of_length_le (Nat.le_refl _)] at g2
            subst g2
            refine ⟨l, xs.map okP, rfl, SqL.of g1, ?_⟩
            have q := k G sG
            rw [e0, nonN_some] at q
            rw [List.all_map]
            exact q
        · rw [decide_eq_false (show ¬ ((xs.length : Int) ≤ 3) by omega)]
          refine iteT ?_
          have e0 : pathQ xs = none := if_neg (fun z => h2 z.2)
          have q := k H (Same.refl H)
          rw [e0] at q
          exact q
      · refine iteF' (decide_eq_false (by omega)) ?_
        have e0 : pathQ xs = none := if_neg (fun z => h1 z.1)
        have q := k H (Same.refl H)
        rw [e0] at q
        exact ⟨_, rfl, iteT q⟩
    · have q := k H (Same.refl H)
      rcases ip with rfl | ⟨i, rfl⟩ | ⟨a, xs, rfl, hx⟩ | ⟨z, rfl⟩
      · exact ⟨_, rfl, rIsiA.ty .non rfl ⟨_, rfl, iteT q⟩⟩
      · exact ⟨_, rfl, rIsiA.ty (.int i) rfl ⟨_, rfl, iteT q⟩⟩
      · exact ⟨_, rfl, rIsiA.ty (.lst hx) rfl ⟨_, rfl, iteT q⟩⟩
      · exact ⟨_, rfl, rIsiA.ty (.str z) rfl ⟨_, rfl, iteT q⟩⟩
set_option maxHeartbeats 4000000 in
theorem ok_new_group (T : Txt w K mg c) : FnOk P w K mg base CX0 1 c.a_new_group c.d_new_group ["sheet", "depth"] (spNewGroup) := by
  refine T.new_group.fn.ok sc_new_group (fun vs H Q E h => ?_) (fun cdv A outer s H vs Q E hr h => ?_)
  · obtain ⟨s', n, rfl, _⟩ := h
    rfl
  · obtain ⟨s', n, rfl, hn, k⟩ := h
    refine ⟨_, (pss_cons (ps_set (i := 2) sc_new_group.nd rfl (Or.inl rfl) (pe_lst (pa_cons (pv 0) pa_nil)))
      (pss_cons (ps_for PassesOwn.never rfl (pi_range2 rfl T.no_range (pa_cons (pv 1) (pa_cons (pe_glob rfl T.mg_FORM_DEPTH T.rl_FORM_DEPTH) pa_nil))) (pg_name (i := 3) sc_new_group.nd rfl (Or.inl rfl))
        (pss_one (ps_set (i := 2) sc_new_group.nd rfl (Or.inl rfl) (pe_lst (pa_cons (pv 2) pa_nil)))))
      (pss_one (ps_ret (pv 2))))), ?_⟩
    refine ⟨_, rfl, le_ble rfl, fun q1 h1 => ?_⟩
    have n1 : New H (upd H q1 (.lst [.int s'])) 1 (.ref q1) (solo 1 s') := newSolo (New.int (i := s')) h1 (Same.refl H)
    have s1 : Same H (upd H q1 (.lst [.int s'])) := Same.new h1
    generalize upd H q1 (.lst [.int s']) = G1 at n1 s1 ⊢
    walk_at "rd"
    refine ⟨⟨by omega, by omega, by omega, by omega⟩, ?_⟩
    refine for_range (lo := 3 - (n : Int)) (fun j σ G => Same H G ∧ ∃ w z, σ = [some (.int s'), some (.int (3 - (n : Int))), some w, z] ∧ New H G (j + 1) w (solo (j + 1) s')) ⟨s1, _, _, rfl, n1⟩ ?_ ?_
    · rintro j σ G hj ⟨sG, w, z, rfl, nw⟩
      exact ⟨_, rfl, le_ble rfl, fun q hq => ⟨sG.trans (Same.new hq), _, _, rfl, newSolo nw hq sG⟩⟩
    · rintro σ G ⟨sG, w, z, rfl, nw⟩
      rw [show ((3 : Int) - (3 - (n : Int))).toNat = n by omega] at nw
      exact ⟨_, rfl, k w G sG nw⟩
set_option maxHeartbeats 4000000 in
theorem ok_put_sheet (T : Txt w K mg c) : FnOk P w K mg base (CXx P w) 2 c.a_put_sheet c.d_put_sheet ["parts", "sheet", "path"] (spPutSheet c.c_NoPath) := by
  refine T.put_sheet.fn.okx sc_put_sheet (fun vs H Q E h => ?_) (fun cdv A outer s H vs Q E hr h => ?_)
  · obtain ⟨v, s', pa, q, U, o, rfl, _⟩ := h
    rfl
  · obtain ⟨v, s', pa, q, U, o, rfl, hat, dm, fu, hz, hP, h0, l1, l3, k1, k2⟩ := h
    refine ⟨_, (pss_cons (ps_set (i := 3) sc_put_sheet.nd rfl (Or.inl rfl) (pv 0))
      (pss_cons (ps_for own_def rfl (pi_tup (pe_slice sl_tup (pv 2) po_none (po_some (pe_un un_neg pe_int)))) (pg_name (i := 4) sc_put_sheet.nd rfl (Or.inl rfl))
        (pss_cons (ps_if (pt_cmpR op_ge (pv 4) (pe_callB call_len_seq rfl T.no_len bt_len (pa_cons (pv 3) pa_nil)) (nomark _))
        (pss_one (ps_raise T.x_NoPath rfl rfl T.mg_NoPath rz_def (pa_cons pe_str pa_nil)))
        pss_nil)
      (pss_one (ps_set (i := 3) sc_put_sheet.nd rfl (Or.inl rfl) (pe_ix ix_list (pv 3) (pv 4) (fun _ _ => rfl))))))
      (pss_cons (ps_set (i := 5) sc_put_sheet.nd rfl (Or.inl rfl) (pe_ix ix_tup (pv 2) (pe_un un_neg pe_int) (fun _ _ => rfl)))
      (pss_one (ps_if (pt_cmpR op_eq (pv 5) (pe_callB call_len_seq rfl T.no_len bt_len (pa_cons (pv 3) pa_nil)) (nomark _))
        (pss_one (ps_expr (pe_bm PySem.F.plainAttrs_list PySem.F.slot_list_append PySem.F.type_list_append (MtM.r mt_append) (pv 3) (pa_cons (pe_call (ok_new_group T) (hr.mono (by decide)) rfl T.new_group.mgf T.new_group.kp T.new_group.bi .nil pass0 (pa_cons (pv 1) (pa_cons (pe_callB call_len_seq rfl T.no_len bt_len (pa_cons (pv 2) pa_nil)) pa_nil))) pa_nil))))
        (pss_one (ps_if (PW.pt (pw_and (pt_cmpR op_lt (pv 5) (pe_callB call_len_seq rfl T.no_len bt_len (pa_cons (pv 3) pa_nil)) (nomark _)) (pw_and1 (pt_cmpR op_eq (pe_callB call_len_seq rfl T.no_len bt_len (pa_cons (pv 2) pa_nil)) (pe_glob rfl T.mg_FORM_DEPTH T.rl_FORM_DEPTH) (nomark _)))))
        (pss_one (ps_asg (pe_callB (call_sorted rfl) rfl T.no_sorted bt_sorted (pa_cons (pe_op op_cat (pe_ix ix_list (pv 3) (pv 5) (fun _ _ => rfl)) (pe_lst (pa_cons (pv 1) pa_nil))) pa_nil)) (pg_sub (pv 3) (pv 5) set_list)))
        (pss_one (ps_raise T.x_NoPath rfl rfl T.mg_NoPath rz_def (pa_cons pe_str pa_nil)))))))))), ?_⟩
    obtain ⟨r, rvs, rfl, _, _, _⟩ := hat.lst
    have sz : 2000 < sizeLine := le_ble rfl
    have hne : q.map V.int ≠ [] := fun z => by
      have := congrArg List.length z
      rw [List.length_map] at this
      have : q.length = 0 := this
      omega
    refine ⟨_, rfl, ?_⟩
    walk_at "rd"
    refine ⟨pa, _, rfl, SqT.of hP, cut_part hne, fun sp hsp => ?_⟩
    rw [cut_last hne]
    have s0 : Same H (upd H sp (.tup (q.map V.int).dropLast)) := Same.new hsp
    have hsp1 := upd_same (H := H) (a := sp) (o := .tup (q.map V.int).dropLast)
    generalize upd H sp (.tup (q.map V.int).dropLast) = G0 at s0 hsp1 ⊢
    have at0 : At o G0 4 [] (.ref r) U := hat.frame fun b q xs hb _ hx => ⟨s0 b _ hx, hb⟩
    have dm0 : Dom o G0 := fun b q hb => by
      cases e : H b with
      | none => exact absurd e (dm b q hb)
      | some u => rw [s0 b u e]; intro z; cases z
    have hP0 := s0 _ _ hP
    refine ⟨sp, rfl, ⟨_, SqT.of hsp1⟩, ?_⟩
    refine for_tup (xs := (q.map V.int).dropLast) (fun i σ G => G = G0 ∧ ∃ a z4, σ = [some (.ref r), some (.int s'), some (.ref pa), some (.ref a), z4, none] ∧ ∃ (n : Nat) (p : List Nat) (t : Tr (n + 2)) (C : Tr (n + 2) → Tr 4), i + n = 2 ∧ Hole o G0 (.ref r) (n + 1) p a t C ∧ (∀ x ∈ ls t, full (n + 1) x) ∧ (flat (n + 2) t).length < 63 ∧ lay 2 U s' q = (lay n t s' (q.drop i)).map C) ?_ ?_ ?_ ?_
    · exact ⟨rfl, r, _, rfl, 2, [], U, id, rfl, Hole.top at0, fu, hz, by rw [List.drop_zero, Option.map_id]; rfl⟩
    · rintro i σ G _ ⟨rfl, _⟩
      exact SqT.of hsp1
    · rintro i x σ G hx ⟨rfl, a, z4, rfl, n, p, t, C, hn, ho, ft, hf, el⟩
      have hi := (List.getElem?_eq_some_iff.mp hx).1
      rw [List.length_dropLast, List.length_map] at hi
      have hx : (q.map V.int)[i]? = some x := by
        rw [List.dropLast_eq_take, List.getElem?_take_of_lt (by rw [List.length_map]; exact hi)] at hx
        exact hx
      obtain ⟨j, hj, rfl⟩ := getI hx
      have j0 := h0 j (List.mem_of_getElem? hj)
      have ed : ∃ j' r', q.drop i = j :: j' :: r' ∧ q.drop (i + 1) = j' :: r' := by
        have hi1 : i < q.length := by omega
        have hi2 : i + 1 < q.length := by omega
        have e1 : q.drop i = q[i] :: q.drop (i + 1) := (List.getElem_cons_drop hi1).symm
        have e2 : q.drop (i + 1) = q[i + 1] :: q.drop (i + 1 + 1) := (List.getElem_cons_drop hi2).symm
        have e3 : q[i] = j := (List.getElem?_eq_some_iff.mp hj).2
        exact ⟨q[i + 1], q.drop (i + 1 + 1), by rw [e1, e2, e3], e2⟩
      obtain ⟨j', r', ed, ed'⟩ := ed
      obtain ⟨_, vs, e, oa, hA, la⟩ := ho.at_.lst
      cases e
      refine ⟨_, rfl, _, rfl, a, _, rfl, .inl (SqL.of hA), _, _, rfl, rfl, _, rfl, ?_⟩
      refine ite2 (fun z => ?_) (fun z => ?_)
      · have z := of_decide_eq_true z
        have el0 : lay 2 U s' q = none := by rw [el, ed, lay_no (by omega)]; rfl
        exact ⟨le_ble rfl, k1 el0 _ s0⟩
      · have z : ¬ ((vs.length : Int) ≤ j) := fun y => z (decide_eq_true y)
        obtain ⟨n', rfl⟩ : ∃ n', n = n' + 1 := ⟨n - 1, by omega⟩
        obtain ⟨w, g, ew, eg, kg⟩ := ho.at_.kid hA (j := j.toNat) (by omega)
        obtain ⟨b, _, rfl, _, _, _⟩ := kg.lst
        have fl := flat_len eg
        refine ⟨_, rfl, _, rfl, a, _, _, _, rfl, rfl, SqL.of hA, atI_toNat j0 ew, ?_⟩
        refine ⟨rfl, b, _, rfl, n', j.toNat :: p, g, _, by omega, ho.kid dm0 hA ew eg, fun x hx => (ft g (List.mem_of_getElem? eg)).2 x hx, ?_, ?_⟩
        · have e5 : (flat (n' + 1 + 2) t).length = (flat (n' + 2 + 1) (ls t : List (Tr (n' + 2)))).length := rfl
          omega
        · rw [el, ed, ed', lay_in (by omega) eg]
          cases lay n' g s' (j' :: r') <;> rfl
    rintro σ G ⟨rfl, a, z4, rfl, n, p, t, C, hn, ho, ft, hf, el⟩
    rw [List.length_dropLast, List.length_map] at hn el
    have hq1 : q.length - 1 < q.length := by omega
    obtain ⟨j, ej⟩ : ∃ j, j = q[q.length - 1] := ⟨_, rfl⟩
    have ed : q.drop (q.length - 1) = [j] := by
      rw [← List.getElem_cons_drop hq1, ← ej, List.drop_of_length_le (by omega)]
    have hl : atI (q.map V.int) (-1) = some (V.int j) := by
      have e : q = q.take (q.length - 1) ++ [j] := by rw [← ed, List.take_append_drop]
      rw [e, List.map_append]
      exact atI_last _ _
    have j0 : 0 ≤ j := h0 j (by rw [ej]; exact List.getElem_mem hq1)
    rw [ed] at el
    obtain ⟨_, vs, e, oa, hA, la⟩ := ho.at_.lst
    cases e
    have lv : vs.length < 63 := by
      have h1 := flat_full (fun x hx => ft x hx) (ts := ls t)
      have e5 : (flat (n + 2) t).length = (flat (n + 1 + 1) (ls t : List (Tr (n + 1)))).length := rfl
      omega
    refine ⟨_, rfl, _, rfl, pa, _, _, _, rfl, rfl, SqT.of hP0, hl, ?_⟩
    refine ⟨_, rfl, _, rfl, a, _, rfl, .inl (SqL.of hA), rfl, _, rfl, ?_⟩
    refine ite2 (fun z => ?_) (fun z => ?_)
    · have z : j = (vs.length : Int) := V.int.inj (of_decide_eq_true z)
      refine ⟨_, rfl, .inl ⟨rfl, _, SqL.of hA⟩, _, rfl, _, rfl, pa, _, rfl, .inr (SqT.of hP0), s', n, ?_, by omega, fun w G1 s1 n1 => ?_⟩
      · rw [List.length_map, show ((q.length : Nat) : Int) = 3 - (n : Int) by omega]
        rfl
      obtain ⟨o', x, a1⟩ := ho.at_.appN dm0 hA s1 n1
      have a2 := ho.up o' G1 a p _ _ s1 x oa (List.suffix_refl _) a1
      obtain ⟨e1, e2⟩ := putEnd (u := .lst (vs ++ [w])) x s1 oa
      exact ⟨a, _, _, rfl, rfl, s1 _ _ hA, by omega, k2 _ (by rw [el, lay_last (by omega)]; rfl) o' _ ⟨fun b u hb hu => e1 b u hb (s0 b u hu), a2, x.after dm0 s1, fun b q hq hb => s0.free (e2 b q hq hb)⟩⟩
    have z : j ≠ (vs.length : Int) := fun y => z (decide_eq_true (congrArg V.int y))
    refine ⟨_, rfl, _, rfl, a, _, rfl, .inl (SqL.of hA), _, _, rfl, rfl, _, rfl, ?_⟩
    refine ite2 (fun y => ?_) (fun y => ?_)
    · have y := of_decide_eq_true y
      refine ⟨_, rfl, pa, _, rfl, .inr (SqT.of hP0), rfl, _, rfl, ?_⟩
      refine ite2 (fun x => ?_) (fun x => ?_)
      · have x := V.int.inj (of_decide_eq_true x)
        rw [List.length_map] at x
        obtain rfl : n = 0 := by omega
        obtain ⟨w, f, ew, ef, kf⟩ := ho.at_.kid hA (j := j.toNat) (by omega)
        obtain ⟨fl, hfl⟩ : ∃ fl : List Int, fl = f := ⟨f, rfl⟩
        subst hfl
        obtain ⟨fa, _, rfl, _, _, _⟩ := kf.lst
        have hF := AtR.ints (ns := fl) kf.r
        have hfl : fl.length < 63 := by
          have h1 := flat_len ef
          have h2 := congrArg List.length (flat_ints fl)
          have e5 : (flat (0 + 2) t).length = (flat (1 + 1) (ls t : List (Tr 1))).length := rfl
          omega
        refine ⟨_, rfl, _, rfl, a, _, _, _, rfl, rfl, SqL.of hA, atI_toNat j0 ew, _, rfl, le_ble rfl, fun q1 h1 => ?_⟩
        have s1 : Same G (upd G q1 (.lst [.int s'])) := Same.new h1
        have e60 : (List.map V.int fl).length = fl.length := List.length_map ..
        refine ⟨fa, q1, _, _, rfl, rfl, s1 _ _ hF, upd_same, ?_, fun q2 h2 => ?_⟩
        · have : [V.int s'].length = 1 := rfl
          omega
        have s2 : Same (upd G q1 (.lst [.int s'])) (upd (upd G q1 (.lst [.int s'])) q2 (.lst (List.map V.int fl ++ [.int s']))) := Same.new h2
        refine ⟨q2, List.append fl [s'], rfl, SqL.of (by rw [upd_same]; exact congrArg (fun z => some (HO.lst z)) (List.map_append (f := V.int) (l₁ := fl) (l₂ := [s'])).symm), ?_, fun q3 ms h3 pm ps => ?_⟩
        · show (fl ++ [s']).length < 64
          rw [List.length_append]
          have : [s'].length = 1 := rfl
          omega
        have s3 := (s1.trans s2).trans (Same.new (o := HO.lst (ms.map V.int)) h3)
        have n3 : New G (upd (upd (upd G q1 (.lst [.int s'])) q2 (.lst (List.map V.int fl ++ [.int s']))) q3 (.lst (ms.map V.int))) 1 (.ref q3) ms := New.ints ((s1.trans s2).free h3) upd_same
        obtain ⟨o', x, a1⟩ := ho.at_.setN dm0 hA (i := j.toNat) (by omega) s3 n3
        have a2 := ho.up o' _ a p _ _ s3 x oa (List.suffix_refl _) a1
        obtain ⟨e1, e2⟩ := putEnd (u := .lst (vs.set j.toNat (.ref q3))) x s3 oa
        have hix : ixN vs.length j = some j.toNat := by
          unfold ixN
          rw [if_pos j0, if_pos (by omega)]
        refine ⟨_, rfl, _, rfl, a, _, _, j.toNat, rfl, rfl, s3 _ _ hA, hix, ?_⟩
        exact k2 _ (by rw [el, lay_form (by omega) ef, ← srt_is pm ps]; rfl) o' _ ⟨fun b u hb hu => e1 b u hb (s0 b u hu), a2, x.after dm0 s3, fun b q hq hb => s0.free (e2 b q hq hb)⟩
      · have x : ¬ (q.length = 3) := fun y => x (by rw [List.length_map, y]; rfl)
        exact ⟨le_ble rfl, k1 (by rw [el, lay_no0 (by omega) (fun y => x (by omega))]; rfl) _ s0⟩
    · have y : ¬ (j < (vs.length : Int)) := fun x => y (decide_eq_true x)
      exact ⟨le_ble rfl, k1 (by rw [el, lay_no0 (by omega) (fun x => y (by omega))]; rfl) _ s0⟩
set_option maxHeartbeats 4000000 in
theorem ok_laid (T : Txt w K mg c) : FnOk P w K mg base (CXx P w) 8 c.a_laid c.d_laid ["sorting", "sheet", "path"] (spLaidX K c.c_NoSheet c.c_NoPath) := by
  refine T.laid.fn.okx sc_laid (fun vs H Q E h => ?_) (fun cdv A outer s H vs Q E hr h => ?_)
  · obtain ⟨v, x, p, op, S, rfl, _⟩ := h
    rfl
  · obtain ⟨v, x, p, op, S, rfl, hat, wf, hz, ow, ip, k1, k2⟩ := h
    refine ⟨_, (pss_cons (ps_set (i := 3) sc_laid.nd rfl (Or.inl rfl) (pe_callS (ok_sorting_list T) (hr.mono (by decide)) rfl T.sorting_list.mgf T.sorting_list.kp T.sorting_list.bi .nil pass_def (pa_cons (pv 0) pa_nil)))
      (pss_cons (ps_expr (pe_callS (ok_refuse_sheet T) (hr.mono (by decide)) rfl T.refuse_sheet.mgf T.refuse_sheet.kp T.refuse_sheet.bi .nil pass_def (pa_cons (pv 1) pa_nil)))
      (pss_cons (ps_set (i := 4) sc_laid.nd rfl (Or.inl rfl) (pe_call (ok_without T 3) (hr.mono (by decide)) rfl T.without.mgf T.without.kp T.without.bi .nil pass0 (pa_cons (pv 3) (pa_cons (pv 1) (pa_cons pe_int pa_nil)))))
      (pss_cons (ps_if (pt_not (pt_val (pe_call (ok_is_path T) (hr.mono (by decide)) rfl T.is_path.mgf T.is_path.kp T.is_path.bi .nil pass0 (pa_cons (pv 2) pa_nil))))
        (pss_one (ps_raise T.x_NoPath rfl rfl T.mg_NoPath rz_def (pa_cons pe_str pa_nil)))
        pss_nil)
      (pss_cons (ps_expr (pe_callS (ok_put_sheet T) (hr.mono (by decide)) rfl T.put_sheet.mgf T.put_sheet.kp T.put_sheet.bi .nil pass_def (pa_cons (pv 4) (pa_cons (pv 1) (pa_cons (pv 2) pa_nil)))))
      (pss_one (ps_ret (pv 4)))))))), ?_⟩
    refine ⟨_, rfl, v, S, rfl, hat, wf, by omega, fun w1 G1 s1 n1 => ?_⟩
    refine ⟨_, rfl, x, rfl, ow.same s1, fun hin => ?_, fun h => k1 true (resLay_out h) G1 s1⟩
    obtain ⟨s', rfl⟩ := inR_int' hin
    have ww := wf.wo s'
    have wl := wo_len S s'
    have ki := fun op => resLay_in (S := S) (op := op) hin
    refine ⟨_, rfl, _, rfl, w1, s', S, rfl, n1.r, small_S wf.fu (by omega), fun w2 G2 s2 n2 => ?_⟩
    have n2 := n2.older s1
    refine ⟨_, rfl, p, op, rfl, ip.same (s1.trans s2), fun G3 s3 => ⟨_, rfl, ?_⟩⟩
    have s03 := (s1.trans s2).trans s3
    cases op with
    | none => exact iteT ⟨le_ble rfl, k1 false (ki none) G3 s03⟩
    | some q =>
      refine iteF ?_
      have kq : resLay S (some q) (.int s') = match lay 2 (wo 3 s' S) s' q with | some U => .inl U | none => .inr false := ki (some q)
      rcases ip with ⟨a, xs, rfl, hx, _, e⟩ | ⟨e, _⟩
      · obtain ⟨rfl, h0, l1, l3⟩ := pathQ_is e.symm
        obtain ⟨o, at2, d2⟩ := n2.same s3
        refine ⟨_, rfl, _, rfl, _, rfl, w2, s', a, q, _, o, rfl, at2, fun b r hb => (d2 b r hb).2, ww.fu, by omega, s03 _ _ hx, h0, l1, l3, fun e2 G4 s4 => k1 false (by rw [kq, e2]) G4 (s03.trans s4), fun U' e2 o' G4 ch => ?_⟩
        obtain ⟨nw, sm⟩ := ch.new (fun b r hb => (d2 b r hb).1) s03
        exact ⟨_, rfl, k2 U' (by rw [kq, e2]) w2 G4 sm nw⟩
      · cases e
set_option maxHeartbeats 4000000 in
theorem ok_Results_init (T : Txt w K mg c) : FnOk P w K mg base CX0 1 c.a_Results_init c.d_Results_init ["self"] (spResInit0 c.c_Results) := by
  refine T.Results_init.ok sc_Results_init (fun vs H Q E h => ?_) (fun cdv A outer s H vs Q E hr h => ?_)
  · obtain ⟨a, dx, rfl, _⟩ := h
    rfl
  · obtain ⟨a, dx, rfl, ha, k⟩ := h
    refine ⟨_, (pss_cons (ps_fld (pv 0) pe_dnewK rfl)
      (pss_cons (ps_fld (pv 0) pe_dnewK rfl)
      (pss_cons (ps_fld (pv 0) pe_dnewK rfl)
      (pss_one (ps_fld (pv 0) pe_dnewK rfl))))), ?_⟩
    refine fun d1 h1 => ⟨_, rfl, a, _, dx, _, rfl, Same.new h1 _ _ ha, T.cl_Results, T.na_Results_outs, le_ble rfl, ?_⟩
    refine fun d2 h2 => ⟨_, rfl, a, _, dx, _, rfl, Same.new h2 _ _ upd_same, T.cl_Results, T.na_Results_names, le_ble rfl, ?_⟩
    refine fun d3 h3 => ⟨_, rfl, a, _, dx, _, rfl, Same.new h3 _ _ upd_same, T.cl_Results, T.na_Results_rights, le_ble rfl, ?_⟩
    refine fun d4 h4 => ⟨_, rfl, a, _, dx, _, rfl, Same.new h4 _ _ upd_same, T.cl_Results, T.na_Results_holders, le_ble rfl, ?_⟩
    refine k _ fun b u nb hb => ?_
    rw [upd_ne nb]
    refine Same.new h4 _ _ ?_
    rw [upd_ne nb]
    refine Same.new h3 _ _ ?_
    rw [upd_ne nb]
    refine Same.new h2 _ _ ?_
    rw [upd_ne nb]
    exact Same.new h1 _ _ hb
set_option maxHeartbeats 4000000 in
theorem ok_Clerk_init (T : Txt w K mg c) : FnOk P w K mg base CX0 3 c.a_Clerk_init c.d_Clerk_init ["self"] (spClInitP c.c_Clerk) := by
  refine T.Clerk_init.ok sc_Clerk_init (fun vs H Q E h => ?_) (fun cdv A outer s H vs Q E hr h => ?_)
  · obtain ⟨a, dx, rfl, _⟩ := h
    rfl
  · obtain ⟨a, dx, rfl, ha, k⟩ := h
    refine ⟨_, (pss_cut (ps_fld (pv 0) (pe_lst pa_nil) rfl)
      (pss_cut (ps_fld (pv 0) (pe_make0 T.mk_Results (ok_Results_init T) (hr.mono (by decide)) rfl T.mg_Results T.bi_Results_init .nil pass0) rfl)
      (pss_cut (ps_fld (pv 0) (pe_lst pa_nil) rfl)
      (pss_one (ps_fld (pv 0) (pe_lst pa_nil) rfl))))), ?_⟩
    have na : ∀ d, H d = none → d ≠ a := fun d hd z => by rw [z, ha] at hd; cases hd
    refine ⟨fun σ G => σ = [some (.ref a)] ∧ ∃ e, FrD a H G ∧ G a = some (.ins c.c_Clerk dx [("entries", .ref e)]) ∧ G e = some (.lst []) ∧ e ≠ a, ?_, ?_⟩
    · refine ⟨le_ble rfl, fun e he => ?_⟩
      refine ⟨_, rfl, a, _, dx, _, rfl, Same.new he _ _ ha, T.cl_Clerk, T.na_Clerk_entries, le_ble rfl, rfl, e, fun b u nb hb => ?_, upd_same, ?_, na _ he⟩
      · rw [upd_ne nb, upd_ne (ne_of_none hb he)]; exact hb
      · rw [upd_ne (na _ he), upd_same]
    rintro σ G ⟨rfl, e, fr, ka, ke, ne⟩
    refine ⟨fun σ G => σ = [some (.ref a)] ∧ ∃ r, FrD a H G ∧ G a = some (.ins c.c_Clerk dx [("entries", .ref e), ("results", .ref r)]) ∧ G e = some (.lst []), ?_, ?_⟩
    · refine fun x xd hx hxd ndx => ⟨x, xd, rfl, upd_same, fun G1 f1 => ⟨rfl, ?_⟩⟩
      have s1 : Same G G1 := fun b u hb => f1 b u (ne_of_none hb hx) (by rw [upd_ne (ne_of_none hb hx), upd_ne (ne_of_none hb hxd)]; exact hb)
      refine ⟨_, rfl, a, _, dx, _, rfl, s1 _ _ ka, T.cl_Clerk, T.na_Clerk_results, le_ble rfl, rfl, x, fun b u nb hb => ?_, upd_same, ?_⟩
      · rw [upd_ne nb]; exact s1 _ _ (fr b u nb hb)
      · rw [upd_ne ne]; exact s1 _ _ ke
    rintro σ G ⟨rfl, r, fr, ka, ke⟩
    refine ⟨fun σ G => σ = [some (.ref a)] ∧ ∃ d, FrD a H G ∧ G a = some (.ins c.c_Clerk dx [("entries", .ref e), ("results", .ref r), ("deeds", .ref d)]) ∧ G e = some (.lst []) ∧ G d = some (.lst []) ∧ d ≠ a, ?_, ?_⟩
    · refine ⟨le_ble rfl, fun d hd => ?_⟩
      have nd : d ≠ a := fun z => by rw [z, ka] at hd; cases hd
      have sd := Same.new (o := HO.lst []) hd
      refine ⟨_, rfl, a, _, dx, _, rfl, sd _ _ ka, T.cl_Clerk, T.na_Clerk_deeds, le_ble rfl, rfl, d, fun b u nb hb => ?_, upd_same, ?_, ?_, nd⟩
      · rw [upd_ne nb]; exact sd _ _ (fr b u nb hb)
      · rw [upd_ne ne]; exact sd _ _ ke
      · rw [upd_ne nd, upd_same]
    rintro σ G ⟨rfl, d, fr, ka, ke, kd, nd⟩
    refine ⟨le_ble rfl, fun p hp => ?_⟩
    have np : p ≠ a := fun z => by rw [z, ka] at hp; cases hp
    have sd := Same.new (o := HO.lst []) hp
    refine ⟨_, rfl, a, _, dx, _, rfl, sd _ _ ka, T.cl_Clerk, T.na_Clerk_piles, le_ble rfl, ?_⟩
    refine k _ (fun b u nb hb => ?_) ⟨dx, e, .ref r, d, .ref p, upd_same, ?_, ?_, p, [], rfl, ?_, rfl, fun j w t h => ?_⟩
    · rw [upd_ne nb]; exact sd _ _ (fr b u nb hb)
    · rw [upd_ne ne]; exact sd _ _ ke
    · rw [upd_ne nd]; exact sd _ _ kd
    · rw [upd_ne np, upd_same]
    · rw [List.getElem?_nil] at h; cases h
set_option maxHeartbeats 4000000 in
theorem ok_Clerk_lay (T : Txt w K mg c) : FnOk P w K mg base (CXx P w) 9 c.a_Clerk_lay c.d_Clerk_lay ["self", "sheet", "path"] (spLayC K c.c_Clerk c.c_NoSheet c.c_NoPath) := by
  refine T.Clerk_lay.okx sc_Clerk_lay (fun vs H Q E h => ?_) (fun cdv A outer s H vs Q E hr h => ?_)
  · obtain ⟨a, x, p, op, S, rfl, _⟩ := h
    rfl
  · obtain ⟨a, x, p, op, S, rfl, cl, wf, hz, ow, ip, k1, k2⟩ := h
    refine ⟨_, (pss_one (ps_fld (pv 0) (pe_callS (ok_laid T) (hr.mono (by decide)) rfl T.laid.mgf T.laid.kp T.laid.bi .nil pass_def (pa_cons (pe_fld (pv 0) rfl) (pa_cons (pv 1) (pa_cons (pv 2) pa_nil)))) rfl)), ?_⟩
    obtain ⟨dx, e, r, d, pl, ha, he, hd, hP⟩ := cl
    refine ⟨_, rfl, a, _, dx, _, _, rfl, ha, T.cl_Clerk, T.na_Clerk_piles, rfl, _, rfl, _, rfl, pl, x, p, op, S, rfl, hP, wf, hz, ow, ip, k1, fun U e2 w G sG nw => ?_⟩
    refine ⟨_, rfl, a, _, dx, _, rfl, sG _ _ ha, T.cl_Clerk, T.na_Clerk_piles, le_ble rfl, ?_⟩
    refine k2 U e2 _ (fun b u nb hb => ?_) ⟨dx, e, r, d, w, upd_same, ?_, ?_, ?_⟩
    · rw [upd_ne nb]; exact sG _ _ hb
    · rw [upd_ne (ne_of he ha (by intro z; cases z))]; exact sG _ _ he
    · rw [upd_ne (ne_of hd ha (by intro z; cases z))]; exact sG _ _ hd
    · exact nw.r.keep fun b xs hb => by rw [upd_ne (ne_of hb (sG _ _ ha) (by intro z; cases z))]; exact hb
set_option maxHeartbeats 4000000 in
theorem ok_Clerk_take (T : Txt w K mg c) : FnOk P w K mg base (CXx P w) 11 c.a_Clerk_take c.d_Clerk_take ["self", "sheet"] (spTakeC K c.c_Clerk c.c_NoSheet c.c_NoPath) := by
  refine T.Clerk_take.okx sc_Clerk_take (fun vs H Q E h => ?_) (fun cdv A outer s H vs Q E hr h => ?_)
  · obtain ⟨a, x, S, rfl, _⟩ := h
    rfl
  · obtain ⟨a, x, S, rfl, cl, wf, hz, ow, k1, k2⟩ := h
    refine ⟨_, (pss_one (ps_fld (pv 0) (pe_callS (ok_taken T) (hr.mono (by decide)) rfl T.taken.mgf T.taken.kp T.taken.bi .nil pass_def (pa_cons (pe_fld (pv 0) rfl) (pa_cons (pv 1) pa_nil))) rfl)), ?_⟩
    obtain ⟨dx, e, r, d, pl, ha, he, hd, hP⟩ := cl
    refine ⟨_, rfl, a, _, dx, _, _, rfl, ha, T.cl_Clerk, T.na_Clerk_piles, rfl, _, rfl, pl, x, S, rfl, hP, wf, by omega, ow, k1, fun U e2 w G sG nw => ?_⟩
    refine ⟨_, rfl, a, _, dx, _, rfl, sG _ _ ha, T.cl_Clerk, T.na_Clerk_piles, le_ble rfl, ?_⟩
    refine k2 U e2 _ (fun b u nb hb => ?_) ⟨dx, e, r, d, w, upd_same, ?_, ?_, ?_⟩
    · rw [upd_ne nb]; exact sG _ _ hb
    · rw [upd_ne (ne_of he ha (by intro z; cases z))]; exact sG _ _ he
    · rw [upd_ne (ne_of hd ha (by intro z; cases z))]; exact sG _ _ hd
    · exact nw.r.keep fun b xs hb => by rw [upd_ne (ne_of hb (sG _ _ ha) (by intro z; cases z))]; exact hb
set_option maxHeartbeats 4000000 in
theorem ok_Clerk_book (T : Txt w K mg c) : FnOk P w K mg base CX0 1 c.a_Clerk_book c.d_Clerk_book ["self"] (spNilP c.c_Clerk) := by
  refine T.Clerk_book.ok sc_Clerk_book (fun vs H Q E h => ?_) (fun cdv A outer s H vs Q E hr h => ?_)
  · obtain ⟨a, S, rfl, _⟩ := h
    rfl
  · obtain ⟨a, S, rfl, cl, k⟩ := h
    refine ⟨_, (pss_one (ps_ret (pe_callTy call_list_of rfl T.no_list bt_list (pa_cons (pe_fld (pv 0) rfl) pa_nil)))), ?_⟩
    obtain ⟨dx, e, r, d, pl, ha, he, hd, hP⟩ := cl
    exact ⟨_, rfl, a, _, dx, _, _, rfl, ha, T.cl_Clerk, T.na_Clerk_entries, rfl, e, _, rfl, .inl (SqL.of he), fun q hq => k q _ (Same.new hq) upd_same⟩
set_option maxHeartbeats 4000000 in
theorem ok_Clerk_acts (T : Txt w K mg c) : FnOk P w K mg base CX0 1 c.a_Clerk_acts c.d_Clerk_acts ["self"] (spNilP c.c_Clerk) := by
  refine T.Clerk_acts.ok sc_Clerk_acts (fun vs H Q E h => ?_) (fun cdv A outer s H vs Q E hr h => ?_)
  · obtain ⟨a, S, rfl, _⟩ := h
    rfl
  · obtain ⟨a, S, rfl, cl, k⟩ := h
    refine ⟨_, (pss_one (ps_ret (pe_callTy call_list_of rfl T.no_list bt_list (pa_cons (pe_fld (pv 0) rfl) pa_nil)))), ?_⟩
    obtain ⟨dx, e, r, d, pl, ha, he, hd, hP⟩ := cl
    exact ⟨_, rfl, a, _, dx, _, _, rfl, ha, T.cl_Clerk, T.na_Clerk_deeds, rfl, d, _, rfl, .inl (SqL.of hd), fun q hq => k q _ (Same.new hq) upd_same⟩
set_option maxHeartbeats 4000000 in
theorem ok_Clerk_sorting (T : Txt w K mg c) : FnOk P w K mg base (CXx P w) 8 c.a_Clerk_sorting c.d_Clerk_sorting ["self"] (spSortC c.c_Clerk) := by
  refine T.Clerk_sorting.okx sc_Clerk_sorting (fun vs H Q E h => ?_) (fun cdv A outer s H vs Q E hr h => ?_)
  · obtain ⟨a, S, rfl, _⟩ := h
    rfl
  · obtain ⟨a, S, rfl, cl, wf, hz, k⟩ := h
    refine ⟨_, (pss_one (ps_ret (pe_callS (ok_sorting_list T) (hr.mono (by decide)) rfl T.sorting_list.mgf T.sorting_list.kp T.sorting_list.bi .nil pass_def (pa_cons (pe_fld (pv 0) rfl) pa_nil)))), ?_⟩
    obtain ⟨dx, e, r, d, pl, ha, he, hd, hP⟩ := cl
    exact ⟨_, rfl, a, _, dx, _, _, rfl, ha, T.cl_Clerk, T.na_Clerk_piles, rfl, pl, S, rfl, hP, wf, hz, k⟩
set_option maxHeartbeats 4000000 in
theorem ok_Lmixed (T : Txt w K mg c) : FnOk P w K mg base CX0 1 c.a_Lmixed c.d_Lmixed ["_law_cell", "_law_k"] (spMixC) := by
  refine T.Lmixed.fn.ok sc_Lmixed (fun vs H Q E h => ?_) (fun cdv A outer s H vs Q E hr h => ?_)
  · obtain ⟨n, i, rfl, _⟩ := h
    rfl
  · obtain ⟨n, i, rfl, h0, h1, k⟩ := h
    refine ⟨_, (pss_one (ps_ret (pe_op op_mod (pe_op op_mul (pe_op op_add (pe_op op_mod (pe_op op_fdiv (pv 0) pe_int) (pe_op op_pow pe_int pe_int)) pe_int) (pe_op op_add pe_int (pe_op op_mul (pe_op op_mul pe_int (pv 1)) (pv 1)))) pe_int))), ?_⟩
    have sq : i * i ≤ 100 * 100 := Int.mul_le_mul (by omega) (by omega) (by omega) (by omega)
    have sq0 : 0 ≤ i * i := Int.mul_nonneg h0 h0
    have e3 : 7919 * i * i = 7919 * (i * i) := Int.mul_assoc _ _ _
    walk_at "rd"
    refine ⟨.inl ⟨by omega, by omega⟩, ?_⟩
    walk_at "rd"
    refine ⟨.inr ⟨by rw [e3]; omega, by rw [e3]; omega⟩, ?_⟩
    walk_at "rd"
    exact k _ (Int.emod_nonneg _ (by decide)) (Int.emod_lt_of_pos _ (by decide))
set_option maxHeartbeats 4000000 in
theorem ok_Lwithout (T : Txt w K mg c) : FnOk P w K mg base CX0 1 c.a_Lwithout c.d_Lwithout ["_law_sorting", "_law_sheet"] (spLeft) := by
  refine T.Lwithout.fn.ok sc_Lwithout (fun vs H Q E h => ?_) (fun cdv A outer s H vs Q E hr h => ?_)
  · obtain ⟨v, s', S, rfl, _⟩ := h
    rfl
  · obtain ⟨v, s', S, rfl, hat, sm, k⟩ := h
    refine ⟨_, (pss_cons (ps_set (i := 2) sc_Lwithout.nd rfl (Or.inl rfl) (pe_lst pa_nil))
      (pss_cons (ps_for PassesOwn.never rfl (pi_list (pv 0)) (pg_name (i := 3) sc_Lwithout.nd rfl (Or.inl rfl))
        (pss_cons (ps_set (i := 4) sc_Lwithout.nd rfl (Or.inl rfl) (pe_lst pa_nil))
      (pss_cons (ps_for PassesOwn.never rfl (pi_list (pv 3)) (pg_name (i := 5) sc_Lwithout.nd rfl (Or.inl rfl))
        (pss_cons (ps_setComp (i := 6) sc_Lwithout.nd rfl rfl (N' := ["_law_form", "_law_sheet"]) (js := [none, some 1]) rfl rfl (by decide +kernel) (by decide +kernel) (free_of ["_law_sheet"] (by decide +kernel) (fm_cons (.inl rfl) fm_nil)) (cap_of rfl (fm_cons (fun j e => nomatch e) (fm_cons (fun j e => by cases e; exact ⟨rfl, rfl, .inl rfl⟩) fm_nil))) (pi_list (pv 5)) (fun B => ⟨(pg_name (i := 0) (show List.Nodup (["_law_form", "_law_sheet"] : List Str) by decide +kernel) rfl (Or.inl rfl)), pifs_nil, (pe_comp (N' := ["_law_one", "_law_sheet"]) (js := [none, some 1]) rfl rfl (by decide +kernel) (by decide +kernel) (free_of ["_law_sheet"] (by decide +kernel) (fm_cons (.inl rfl) fm_nil)) (cap_of rfl (fm_cons (fun j e => nomatch e) (fm_cons (fun j e => by cases e; exact ⟨rfl, rfl, .inl rfl⟩) fm_nil))) (pi_list (pv 0)) (fun B => ⟨(pg_name (i := 0) (show List.Nodup (["_law_one", "_law_sheet"] : List Str) by decide +kernel) rfl (Or.inl rfl)), (pifs_one (pt_cmpR op_ne (pv 0) (pv 1) (nomark _))), (pv 0)⟩))⟩))
      (pss_cons (ps_setComp (i := 6) sc_Lwithout.nd rfl rfl (N' := ["_law_form"]) (js := [none]) rfl rfl (by decide +kernel) (by decide +kernel) (free_nil (by decide +kernel)) (cap_nil rfl rfl) (pi_list (pv 6)) (fun B => ⟨(pg_name (i := 0) (show List.Nodup (["_law_form"] : List Str) by decide +kernel) rfl (Or.inl rfl)), (pifs_one (pt_cmpR (op_neD (hu62 hr)) (pv 0) (pe_lst pa_nil) (nomark _))), (pv 0)⟩))
      (pss_one (ps_if (pt_cmpR (op_neD (hu62 hr)) (pv 6) (pe_lst pa_nil) (nomark _))
        (pss_one (ps_expr (pe_bm PySem.F.plainAttrs_list PySem.F.slot_list_append PySem.F.type_list_append (MtM.r mt_append) (pv 4) (pa_cons (pv 6) pa_nil))))
        pss_nil)))))
      (pss_one (ps_if (pt_cmpR (op_neD (hu62 hr)) (pv 4) (pe_lst pa_nil) (nomark _))
        (pss_one (ps_expr (pe_bm PySem.F.plainAttrs_list PySem.F.slot_list_append PySem.F.type_list_append (MtM.r mt_append) (pv 2) (pa_cons (pv 4) pa_nil))))
        pss_nil)))))
      (pss_one (ps_ret (pv 2))))), ?_⟩
    obtain ⟨a, vs, rfl, hA, hlen⟩ := hat.lst
    have sz : 2000 < sizeLine := le_ble rfl
    have lz : vs.length ≤ 1000 := by rw [hlen]; exact sm.1
    refine ⟨le_ble rfl, fun l hl => ?_⟩
    have s0 : Same H (upd H l (.lst [])) := Same.new hl
    refine ⟨_, rfl, a, rfl, ⟨_, SqL.of (s0 _ _ hA)⟩, ?_⟩
    refine for_list (xs := vs) (fun i σ G => Same H G ∧ (∃ z3 z4 z5 z6, σ = [some (.ref a), some (.int s'), some (.ref l), z3, z4, z5, z6]) ∧ ∃ ws, G l = some (.lst ws) ∧ NewL H G l 3 ws (ne (((ls S).map (wo 2 s')).take i))) ?_ ?_ ?_ ?_
    · exact ⟨s0, ⟨_, _, _, _, rfl⟩, [], upd_same, NewL.nil⟩
    · rintro i σ G _ ⟨sG, _⟩
      exact SqL.of (sG _ _ hA)
    · rintro i x σ G hx ⟨sG, ⟨z3, z4, z5, z6, rfl⟩, ws, h1, h2⟩
      have hi : i < vs.length := (List.getElem?_eq_some_iff.mp hx).1
      obtain ⟨x', g, e1, eg, kg⟩ := hat.kid hA hi
      rw [hx] at e1
      cases e1
      obtain ⟨ga, gs, rfl, hG, glen⟩ := kg.lst
      have smg := sm.2 g (List.mem_of_getElem? eg)
      have gz : gs.length ≤ 1000 := by rw [glen]; exact smg.1
      have eug : ((ls S).map (wo 2 s'))[i]? = some (wo 2 s' g) := by rw [List.getElem?_map, eg]; rfl
      refine ⟨le_ble rfl, fun kl hkl => ?_⟩
      have t0 : Same G (upd G kl (.lst [])) := Same.new hkl
      refine ⟨_, rfl, ga, rfl, ⟨_, SqL.of (t0 _ _ (sG _ _ hG))⟩, ?_⟩
      refine for_list (xs := gs) (fun j σ G' => Same G G' ∧ (∃ z5 z6, σ = [some (.ref a), some (.int s'), some (.ref l), some (.ref ga), some (.ref kl), z5, z6]) ∧ ∃ us, G' kl = some (.lst us) ∧ NewL G G' kl 2 us (ne (((ls g).map (wo 1 s')).take j))) ?_ ?_ ?_ ?_
      · exact ⟨t0, ⟨_, _, rfl⟩, [], upd_same, NewL.nil⟩
      · rintro j σ G' _ ⟨sG', _⟩
        exact SqL.of (sG' _ _ (sG _ _ hG))
      · rintro j y σ G1 hy ⟨sG1, ⟨z5, z6, rfl⟩, us, i1, i2⟩
        have hj : j < gs.length := (List.getElem?_eq_some_iff.mp hy).1
        obtain ⟨y', c', e2, ec, kc⟩ := kg.kid hG hj
        rw [hy] at e2
        cases e2
        obtain ⟨ca, cs, rfl, hC, clen⟩ := kc.lst
        have smc := smg.2 c' (List.mem_of_getElem? ec)
        have cz : cs.length ≤ 1000 := by rw [clen]; exact smc.1
        have hC1 := sG1 _ _ (sG _ _ hC)
        have euc : ((ls g).map (wo 1 s'))[j]? = some (wo 1 s' c') := by rw [List.getElem?_map, ec]; rfl
        refine ⟨_, rfl, ca, rfl, ⟨_, SqL.of hC1⟩, fun sl B hsl => ?_⟩
        have lu : cs.length = ((ls c').map (wo 0 s')).length := by rw [List.length_map]; omega
        refine loop_new (us := (ls c').map (wo 0 s')) hsl (SqL.of hC1) lu cz (fun σ => ∃ o, σ = [o, some (.int s')]) ⟨_, rfl⟩ ?_ ?_
        · rintro m z u σ G2 Kt hz hu ⟨o, rfl⟩ sG2 kt
          obtain ⟨z', f, e3, ef, kf⟩ := kc.kid hC (List.getElem?_eq_some_iff.mp hz).1
          rw [hz] at e3
          cases e3
          rw [List.getElem?_map, ef] at hu
          cases (Option.some.inj hu : wo 0 s' f = u)
          obtain ⟨fl, hfl⟩ : ∃ fl : List Int, fl = f := ⟨f, rfl⟩
          subst hfl
          obtain ⟨fa, _, rfl, _, _⟩ := kf.lst
          have hF := sG2 _ _ (sG1 _ _ (sG _ _ (AtR.ints (ns := fl) kf)))
          have fz : fl.length ≤ 1000 := (smc.2 fl (List.mem_of_getElem? ef)).1
          refine ⟨_, rfl, fa, rfl, ⟨_, SqL.of hF⟩, fun cl B2 hcl => ?_⟩
          refine loop_ints (ns := fl) (f := fun x => !decide (x = s')) hcl (SqL.of hF) fz (fun σ => ∃ o, σ = [o, some (.int s')]) ⟨_, rfl⟩ ?_ ?_
          · rintro y σ G3 Kt Nn ⟨o, rfl⟩ _ kt nn
            refine ⟨_, rfl, _, rfl, rfl, _, rfl, ?_⟩
            refine ite2 (fun z => ?_) (fun z => ?_)
            · have z : y ≠ s' := fun q => by rw [q, decide_eq_true rfl] at z; exact absurd z (by decide)
              exact ⟨_, rfl, kt (by rw [decide_eq_false z]; rfl) _ ⟨_, rfl⟩⟩
            · have z : y = s' := V.int.inj (Decidable.of_not_not (p := V.int y = V.int s') (fun q => z (by rw [decide_eq_false q]; rfl)))
              exact nn (by rw [decide_eq_true z]; rfl) _ ⟨_, rfl⟩
          · intro G3 s3 g3
            exact kt _ _ G3 ⟨_, rfl⟩ s3 (New.ints (ns := fl.filter (fun x => !decide (x = s'))) hcl g3)
        · intro G2 zs sG2 j1 j2
          have lzs : zs.length = cs.length := by rw [j2.1, lu]
          have hk : ∀ (j : Nat) x u, zs[j]? = some x → ((ls c').map (wo 0 s'))[j]? = some u → ∃ b xs, x = .ref b ∧ G2 b = some (.lst xs) ∧ xs.length = (ls u).length := fun j x u hx hu => by
            obtain ⟨_, o, ko, _⟩ := j2
            obtain ⟨b, xs, e, h, l, _⟩ := (ko j x u hx hu).r
            exact ⟨b, xs, e, h, l⟩
          refine ⟨_, rfl, sl, rfl, ⟨_, SqL.of j1⟩, fun rl' B3 hrl => ?_⟩
          refine loop_picks (us := (ls c').map (wo 0 s')) (p := fun t : Tr 1 => !(ls t).isEmpty) hrl (SqL.of j1) j2.1 (by omega) (fun σ => ∃ o, σ = [o]) ⟨_, rfl⟩ ?_ ?_
          · rintro m z u σ G3 Kt Nn hz hu ⟨o, rfl⟩ sG3 kt nn
            obtain ⟨b, xs, rfl, hb, lb⟩ := hk m z u hz hu
            refine ⟨_, rfl, le_ble rfl, fun e0 he0 => ?_⟩
            have t9 := Same.new (o := HO.lst []) he0
            refine ⟨0, _, by decide, seqNil (SqL.of (t9 _ _ (sG3 _ _ hb))) (SqL.of upd_same), _, rfl, ?_⟩
            have ee := empty_len lb
            cases hxs : xs.isEmpty with
            | true => exact iteF (nn (by rw [ee, hxs]; rfl) _ _ ⟨_, rfl⟩ t9)
            | false => exact iteT ⟨_, rfl, kt (by rw [ee, hxs]; rfl) _ _ ⟨_, rfl⟩ t9⟩
          · intro G3 bcc idx sG3 g1 g3
            have nw : New G1 G3 2 (.ref rl') (wo 1 s' c') := j2.pick g3 hrl (sG2.free hrl) sG3 g1
            have sG3 := sG2.trans sG3
            have lx : bcc.length = (ls (wo 1 s' c')).length := by
              obtain ⟨_, _, e, h, l⟩ := nw.r.lst
              cases e
              rw [g1] at h
              cases h
              exact l
            refine ⟨_, rfl, le_ble rfl, fun e0 he0 => ?_⟩
            have t9 : Same G3 (upd G3 e0 (.lst [])) := Same.new he0
            have k9 := upd_same (H := G3) (a := e0) (o := .lst [])
            refine ⟨0, _, by decide, seqNil (SqL.of (t9 _ _ g1)) (SqL.of k9), _, rfl, ?_⟩
            have s9 := sG3.trans t9
            have n9 := nw.same t9
            have c9 := t9 _ _ g1
            have m9 := s9 _ _ i1
            generalize upd G3 e0 (.lst []) = G9 at t9 k9 s9 n9 c9 m9 ⊢
            have lw9 : us.length ≤ 1000 := by
              rw [i2.1]
              exact Nat.le_trans (ne_le _ _) (by rw [List.length_map]; omega)
            cases e9 : bcc.isEmpty with
            | true =>
              have p9 := i2.ne0 s9 euc ((empty_len lx).trans e9)
              exact iteF ⟨sG1.trans s9, ⟨_, _, rfl⟩, us, m9, p9⟩
            | false =>
              obtain ⟨q9, p9⟩ := i2.ne1 hkl i1 sG1 s9 n9 euc ((empty_len lx).trans e9)
              exact iteT ⟨_, rfl, .inl ⟨rfl, _, SqL.of m9⟩, _, rfl, kl, _, _, rfl, rfl, m9, by omega, ⟨q9, ⟨_, _, rfl⟩, _, upd_same, p9⟩⟩
      · rintro σ G1 ⟨sG1, ⟨z5, z6, rfl⟩, us, i1, i2⟩
        have et : ((ls g).map (wo 1 s')).take gs.length = (ls g).map (wo 1 s') := List.take_of_length_le (by rw [List.length_map]; omega)
        rw [et] at i2
        have lx : us.length = (ls (wo 2 s' g)).length := i2.1
        have nw : New G G1 3 (.ref kl) (wo 2 s' g) := i2.done hkl i1
        refine ⟨_, rfl, le_ble rfl, fun e0 he0 => ?_⟩
        have t9 : Same G1 (upd G1 e0 (.lst [])) := Same.new he0
        have k9 := upd_same (H := G1) (a := e0) (o := .lst [])
        refine ⟨0, _, by decide, seqNil (SqL.of (t9 _ _ i1)) (SqL.of k9), _, rfl, ?_⟩
        have s9 := sG1.trans t9
        have n9 := nw.same t9
        have c9 := t9 _ _ i1
        have m9 := s9 _ _ h1
        generalize upd G1 e0 (.lst []) = G9 at t9 k9 s9 n9 c9 m9 ⊢
        have lw9 : ws.length ≤ 1000 := by
          rw [h2.1]
          exact Nat.le_trans (ne_le _ _) (by rw [List.length_map]; omega)
        cases e9 : us.isEmpty with
        | true =>
          have p9 := h2.ne0 s9 eug ((empty_len lx).trans e9)
          exact iteF ⟨sG.trans s9, ⟨_, _, _, _, rfl⟩, ws, m9, p9⟩
        | false =>
          obtain ⟨q9, p9⟩ := h2.ne1 hl h1 sG s9 n9 eug ((empty_len lx).trans e9)
          exact iteT ⟨_, rfl, .inl ⟨rfl, _, SqL.of m9⟩, _, rfl, l, _, _, rfl, rfl, m9, by omega, ⟨q9, ⟨_, _, _, _, rfl⟩, _, upd_same, p9⟩⟩
    · rintro σ G ⟨sG, ⟨z3, z4, z5, z6, rfl⟩, ws, h1, h2⟩
      have et : ((ls S).map (wo 2 s')).take vs.length = (ls S).map (wo 2 s') := List.take_of_length_le (by rw [List.length_map]; omega)
      rw [et] at h2
      exact ⟨_, rfl, k _ G sG (h2.done hl h1)⟩
set_option maxHeartbeats 4000000 in
theorem ok_Lsheets (T : Txt w K mg c) : FnOk P w K mg base CX0 1 c.a_Lsheets c.d_Lsheets ["_law_sorting"] (spSheetsL) := by
  refine T.Lsheets.fn.ok sc_Lsheets (fun vs H Q E h => ?_) (fun cdv A outer s H vs Q E hr h => ?_)
  · obtain ⟨v, S, rfl, _⟩ := h
    rfl
  · obtain ⟨v, S, rfl, hat, fu, hz, k⟩ := h
    refine ⟨_, (pss_cons (ps_set (i := 1) sc_Lsheets.nd rfl (Or.inl rfl) (pe_lst pa_nil))
      (pss_cons (ps_for PassesOwn.never rfl (pi_list (pv 0)) (pg_name (i := 2) sc_Lsheets.nd rfl (Or.inl rfl))
        (pss_one (ps_for PassesOwn.never rfl (pi_list (pv 2)) (pg_name (i := 3) sc_Lsheets.nd rfl (Or.inl rfl))
        (pss_one (ps_for PassesOwn.never rfl (pi_list (pv 3)) (pg_name (i := 4) sc_Lsheets.nd rfl (Or.inl rfl))
        (pss_one (ps_set (i := 1) sc_Lsheets.nd rfl (Or.inl rfl) (pe_op op_cat (pv 1) (pv 4)))))))))
      (pss_one (ps_ret (pv 1))))), ?_⟩
    have sz : 2000 < sizeLine := le_ble rfl
    have smS := small_S fu hz
    obtain ⟨sa, svs, rfl, hA, slen⟩ := hat.lst
    have sl : svs.length ≤ 1000 := by rw [slen]; exact smS.1
    refine ⟨le_ble rfl, fun sh hsh => ?_⟩
    have s1 := Same.new (o := HO.lst []) hsh
    have k1 := upd_same (H := H) (a := sh) (o := .lst [])
    generalize upd H sh (.lst []) = G1 at s1 k1 ⊢
    refine ⟨_, rfl, sa, rfl, ⟨_, SqL.of (s1 _ _ hA)⟩, ?_⟩
    refine for_list (xs := svs) (fun i σ G => Same H G ∧ ∃ sh z2 z3 z4, σ = [some (.ref sa), some (.ref sh), z2, z3, z4] ∧ G sh = some (.lst ((flat 4 ((ls S).take i : List (Tr 3))).map V.int))) ⟨s1, sh, _, _, _, rfl, k1⟩ ?_ ?_ ?_
    · rintro i σ G _ ⟨sG, _⟩
      exact SqL.of (sG _ _ hA)
    · rintro i x σ G hx ⟨sG, sh, z2, z3, z4, rfl, h1⟩
      have hi : i < svs.length := (List.getElem?_eq_some_iff.mp hx).1
      obtain ⟨x', g, e1, eg, kg⟩ := hat.kid hA hi
      rw [hx] at e1
      cases e1
      obtain ⟨ga, gs, rfl, hG, glen⟩ := kg.lst
      refine ⟨_, rfl, ga, rfl, ⟨_, SqL.of (sG _ _ hG)⟩, ?_⟩
      refine for_list (xs := gs) (fun j σ G => Same H G ∧ ∃ sh z3 z4, σ = [some (.ref sa), some (.ref sh), some (.ref ga), z3, z4] ∧ G sh = some (.lst ((flat 4 ((ls S).take i : List (Tr 3)) ++ flat 3 ((ls g).take j : List (Tr 2))).map V.int))) ⟨sG, sh, _, _, rfl, by show _ = some (HO.lst ((_ ++ []).map V.int)); rw [List.append_nil]; exact h1⟩ ?_ ?_ ?_
      · rintro j σ G _ ⟨sG, _⟩
        exact SqL.of (sG _ _ hG)
      · rintro j y σ G hy ⟨sG, sh, z3, z4, rfl, h1⟩
        have hj : j < gs.length := (List.getElem?_eq_some_iff.mp hy).1
        obtain ⟨y', c', e2, ec, kc⟩ := kg.kid hG hj
        rw [hy] at e2
        cases e2
        obtain ⟨ca, cs, rfl, hC, clen⟩ := kc.lst
        refine ⟨_, rfl, ca, rfl, ⟨_, SqL.of (sG _ _ hC)⟩, ?_⟩
        refine for_list (xs := cs) (fun m σ G => Same H G ∧ ∃ sh z4, σ = [some (.ref sa), some (.ref sh), some (.ref ga), some (.ref ca), z4] ∧ G sh = some (.lst ((flat 4 ((ls S).take i : List (Tr 3)) ++ flat 3 ((ls g).take j : List (Tr 2)) ++ flat 2 ((ls c').take m : List (Tr 1))).map V.int))) ⟨sG, sh, _, rfl, by show _ = some (HO.lst ((_ ++ []).map V.int)); rw [List.append_nil]; exact h1⟩ ?_ ?_ ?_
        · rintro m σ G _ ⟨sG, _⟩
          exact SqL.of (sG _ _ hC)
        · rintro m z σ G hz' ⟨sG, sh, z4, rfl, h1⟩
          have hm : m < cs.length := (List.getElem?_eq_some_iff.mp hz').1
          obtain ⟨z', f, e3, ef, kf⟩ := kc.kid hC hm
          rw [hz'] at e3
          cases e3
          obtain ⟨fl, hfl⟩ : ∃ fl : List Int, fl = f := ⟨f, rfl⟩
          subst hfl
          obtain ⟨fa, _, rfl, _, _⟩ := kf.lst
          have hF := sG _ _ (AtR.ints (ns := fl) kf)
          have n1 := flat_len eg
          have n2 := flat_len ec
          have n3 := flat_len ef
          have n4 := congrArg List.length (flat_ints fl)
          have e1 : (flat 4 S).length = (flat (3 + 1) (ls S : List (Tr 3))).length := rfl
          have e2 : (flat 4 ((ls S).take i : List (Tr 3))).length = (flat (3 + 1) ((ls S).take i : List (Tr 3))).length := rfl
          have e3 : (flat 3 g).length = (flat (2 + 1) (ls g : List (Tr 2))).length := rfl
          have e4 : (flat 3 ((ls g).take j : List (Tr 2))).length = (flat (2 + 1) ((ls g).take j : List (Tr 2))).length := rfl
          have e5 : (flat 2 c').length = (flat (1 + 1) (ls c' : List (Tr 1))).length := rfl
          have e6 : (flat 2 ((ls c').take m : List (Tr 1))).length = (flat (1 + 1) ((ls c').take m : List (Tr 1))).length := rfl
          refine ⟨_, rfl, _, rfl, sh, fa, _, _, rfl, rfl, h1, hF, ?_, fun p hp => ?_⟩
          · rw [List.length_map, List.length_map, List.length_append, List.length_append]
            omega
          refine ⟨sG.trans (Same.new hp), p, _, rfl, ?_⟩
          rw [upd_same, ← List.map_append, flat_take ef, flat_ints fl, List.append_assoc (_ ++ _)]
        · rintro σ G ⟨sG, sh, z4, rfl, h1⟩
          have et : (ls c').take cs.length = ls c' := List.take_of_length_le (by omega)
          rw [et] at h1
          refine ⟨sG, sh, _, _, rfl, ?_⟩
          rw [flat_take ec, ← List.append_assoc]
          exact h1
      · rintro σ G ⟨sG, sh, z3, z4, rfl, h1⟩
        have et : (ls g).take gs.length = ls g := List.take_of_length_le (by omega)
        rw [et] at h1
        refine ⟨sG, sh, _, _, _, rfl, ?_⟩
        rw [flat_take eg]
        exact h1
    · rintro σ G ⟨sG, sh, z2, z3, z4, rfl, h1⟩
      have et : (ls S).take svs.length = ls S := List.take_of_length_le (by omega)
      rw [et] at h1
      exact ⟨_, rfl, k sh G sG h1⟩
set_option maxHeartbeats 4000000 in
theorem ok_Lkind (T : Txt w K mg c) : FnOkH P w K mg base CX0 1 c.a_Lkind c.d_Lkind ["_law_error"] (spKindS c.c_NoSheet c.c_NoPath) := by
  refine T.Lkind.fn.okH sc_Lkind (fun vs H Q E h => ?_) (fun cdv A outer s H vs Q E hr h => ?_)
  · obtain ⟨x, b, rfl, _⟩ := h
    rfl
  · obtain ⟨x, b, rfl, he, k⟩ := h
    refine ⟨_, (pss_cons (ps_set (i := 1) sc_Lkind.nd rfl (Or.inl rfl) (pe_lst (pa_cons (pe_callB call_isiA rfl T.no_isinstance bt_isinstance (pa_cons (pv 0) (pa_cons (pe_glob (v := .ref c.c_NoEntry) rfl T.mg_NoEntry rfl) pa_nil))) (pa_cons (pe_callB call_isiA rfl T.no_isinstance bt_isinstance (pa_cons (pv 0) (pa_cons (pe_glob (v := .ref c.c_Late) rfl T.mg_Late rfl) pa_nil))) (pa_cons (pe_callB call_isiA rfl T.no_isinstance bt_isinstance (pa_cons (pv 0) (pa_cons (pe_glob (v := .ref c.c_NoAct) rfl T.mg_NoAct rfl) pa_nil))) pa_nil)))))
      (pss_one (ps_ret (pe_op op_cat (pv 1) (pe_lst (pa_cons (pe_callB call_isiA rfl T.no_isinstance bt_isinstance (pa_cons (pv 0) (pa_cons (pe_glob (v := .ref c.c_NoSheet) rfl T.mg_NoSheet rfl) pa_nil))) (pa_cons (pe_callB call_isiA rfl T.no_isinstance bt_isinstance (pa_cons (pv 0) (pa_cons (pe_glob (v := .ref c.c_NoPath) rfl T.mg_NoPath rfl) pa_nil))) (pa_cons (pe_callB call_isiA rfl T.no_isinstance bt_isinstance (pa_cons (pv 0) (pa_cons (pe_bltn (v := .ty "ValueError") rfl T.no_ValueError bt_ValueError rfl) pa_nil))) pa_nil)))))))), ?_⟩
    cases b with
    | true =>
      have he : H x = some (exO (.ref c.c_NoSheet) none x) := he
      refine ⟨_, rfl, rIsiA.exc he T.q_NoSheet T.i_NoSheet_NoEntry ?_⟩
      refine ⟨_, rfl, rIsiA.exc he T.q_NoSheet T.i_NoSheet_Late ?_⟩
      refine ⟨_, rfl, rIsiA.exc he T.q_NoSheet T.i_NoSheet_NoAct ?_⟩
      refine ⟨le_ble rfl, fun p1 hp1 => ?_⟩
      have s1 := Same.new (o := HO.lst [V.bl false, V.bl false, V.bl false]) hp1
      have k1 := upd_same (H := H) (a := p1) (o := .lst [V.bl false, V.bl false, V.bl false])
      generalize upd H p1 (.lst [V.bl false, V.bl false, V.bl false]) = G1 at s1 k1 ⊢
      have he := s1 _ _ he
      refine ⟨_, rfl, ?_⟩
      refine ⟨_, rfl, rIsiA.exc he T.q_NoSheet T.i_NoSheet_NoSheet ?_⟩
      refine ⟨_, rfl, rIsiA.exc he T.q_NoSheet T.i_NoSheet_NoPath ?_⟩
      refine ⟨_, rfl, rIsiA.excT he T.q_NoSheet T.i_NoSheet_ValueError ?_⟩
      refine ⟨le_ble rfl, fun p2 hp2 => ?_⟩
      have s2 := Same.new (o := HO.lst [V.bl true, V.bl false, V.bl true]) hp2
      have k2 := upd_same (H := G1) (a := p2) (o := .lst [V.bl true, V.bl false, V.bl true])
      have k1 := s2 _ _ k1
      generalize upd G1 p2 (.lst [V.bl true, V.bl false, V.bl true]) = G2 at s2 k1 k2 ⊢
      exact ⟨p1, p2, _, _, rfl, rfl, k1, k2, le_ble rfl, fun q hq => k q _ (s1.trans (s2.trans (Same.new hq))) upd_same⟩
    | false =>
      have he : H x = some (exO (.ref c.c_NoPath) none x) := he
      refine ⟨_, rfl, rIsiA.exc he T.q_NoPath T.i_NoPath_NoEntry ?_⟩
      refine ⟨_, rfl, rIsiA.exc he T.q_NoPath T.i_NoPath_Late ?_⟩
      refine ⟨_, rfl, rIsiA.exc he T.q_NoPath T.i_NoPath_NoAct ?_⟩
      refine ⟨le_ble rfl, fun p1 hp1 => ?_⟩
      have s1 := Same.new (o := HO.lst [V.bl false, V.bl false, V.bl false]) hp1
      have k1 := upd_same (H := H) (a := p1) (o := .lst [V.bl false, V.bl false, V.bl false])
      generalize upd H p1 (.lst [V.bl false, V.bl false, V.bl false]) = G1 at s1 k1 ⊢
      have he := s1 _ _ he
      refine ⟨_, rfl, ?_⟩
      refine ⟨_, rfl, rIsiA.exc he T.q_NoPath T.i_NoPath_NoSheet ?_⟩
      refine ⟨_, rfl, rIsiA.exc he T.q_NoPath T.i_NoPath_NoPath ?_⟩
      refine ⟨_, rfl, rIsiA.excT he T.q_NoPath T.i_NoPath_ValueError ?_⟩
      refine ⟨le_ble rfl, fun p2 hp2 => ?_⟩
      have s2 := Same.new (o := HO.lst [V.bl false, V.bl true, V.bl true]) hp2
      have k2 := upd_same (H := G1) (a := p2) (o := .lst [V.bl false, V.bl true, V.bl true])
      have k1 := s2 _ _ k1
      generalize upd G1 p2 (.lst [V.bl false, V.bl true, V.bl true]) = G2 at s2 k1 k2 ⊢
      exact ⟨p1, p2, _, _, rfl, rfl, k1, k2, le_ble rfl, fun q hq => k q _ (s1.trans (s2.trans (Same.new hq))) upd_same⟩
set_option maxHeartbeats 4000000 in
theorem ok_Lasked (T : Txt w K mg c) : FnOk P w K mg base CX0 12 c.a_Lasked c.d_Lasked ["_law_clerk", "_law_word", "_law_sheet", "_law_path_here"] (spAsked K c.c_Clerk) := by
  refine T.Lasked.fn.ok sc_Lasked (fun vs H Q E h => ?_) (fun cdv A outer s H vs Q E hr h => ?_)
  · obtain ⟨a, wd, x, p, op, S, r, rfl, _⟩ := h
    rfl
  · obtain ⟨a, wd, x, p, op, S, r, rfl, cl, wf, hz, ow, ip, hw, k1, k2⟩ := h
    refine ⟨_, (pss_cons (ps_set (i := 4) sc_Lasked.nd rfl (Or.inl rfl) (pe_lst pa_nil))
      (pss_cons (ps_set (i := 5) sc_Lasked.nd rfl (Or.inl rfl) pe_non)
      (pss_cut (ps_try rfl rfl rfl sc_Lasked.nd (i := 6) rfl rfl rfl T.mg_RightError (fun Ez pins W hp =>
        (pss_one (ps_if (pt_cmpR op_eq (pv 1) pe_str (nomark _))
        (pss_one (ps_set (i := 5) sc_Lasked.nd rfl (Or.inl rfl) (pe_methS (pv 0) T.cl_Clerk T.m_Clerk_take (ok_Clerk_take T) (hr.mono (by decide)) T.bi_Clerk_take .nil hp (pa_cons (pv 2) pa_nil))))
        (pss_one (ps_set (i := 5) sc_Lasked.nd rfl (Or.inl rfl) (pe_methS (pv 0) T.cl_Clerk T.m_Clerk_lay (ok_Clerk_lay T) (hr.mono (by decide)) T.bi_Clerk_lay .nil hp (pa_cons (pv 2) (pa_cons (pv 3) pa_nil))))))))
        (fun e => (pss_one (ps_set (i := 4) sc_Lasked.nd rfl (Or.inl rfl) (pe_callH (ok_Lkind T) (hr.mono (show 1 ≤ 11 by decide)).h rfl T.Lkind.mgf T.Lkind.kp T.Lkind.bi .nil pass0 (pa_cons (pv 6) pa_nil))))))
      (pss_cons (ps_if (pt_cmp (pc_notN (pv 5)))
        (pss_one (ps_ret (pe_lst (pa_cons (pv 5) pa_nil))))
        pss_nil)
      (pss_one (ps_ret (pv 4))))))), ?_⟩
    refine ⟨le_ble rfl, fun k0 hk0 => ?_⟩
    have s0 := Same.new (o := HO.lst []) hk0
    have kk := upd_same (H := H) (a := k0) (o := .lst [])
    generalize upd H k0 (.lst []) = G0 at s0 kk ⊢
    have cl0 := cl.same s0
    obtain ⟨dx, e0, rr, d0, pl, ha, _⟩ := id cl0
    have nk0 : k0 ≠ a := ne_of kk ha (by intro z; cases z)
    refine ⟨fun σ G => ∃ q, σ = [some (.ref a), some (.str wd), some x, some p, some (.ref q), some .non, none] ∧ ((∃ U, r = .inl U ∧ FrD a H G ∧ ClP G c.c_Clerk a U ∧ G q = some (.lst [])) ∨ ∃ b, r = .inr b ∧ Same H G ∧ G q = some (.lst (kindS b))), ?_, ?_⟩
    · refine ⟨fun σ1 X dd H1 => σ1 = [some (.ref a), some (.str wd), some x, some p, some (.ref k0), some .non, none] ∧ dd = none ∧ Same H H1 ∧ ∃ b, r = .inr b ∧ X = .ref (eK c.c_NoSheet c.c_NoPath b), fun pins W => ?_, ?_⟩
      · refine ⟨_, rfl, rfl, _, rfl, ?_⟩
        rcases hw with ⟨rfl, hr'⟩ | ⟨rfl, hr'⟩
        · refine ite2 (fun _ => ?_) (fun z => absurd (decide_eq_true rfl) z)
          refine ⟨_, rfl, a, dx, _, rfl, ha, rfl, _, rfl, a, x, S, rfl, cl0, wf, hz, ow.same s0, fun b e G sG => ⟨rfl, rfl, s0.trans sG, b, hr'.trans e, rfl⟩, fun U e G fG cG => ?_⟩
          exact ⟨k0, rfl, .inl ⟨U, hr'.trans e, FrD.after s0 fG, cG, fG _ _ nk0 kk⟩⟩
        · refine ite2 (fun z => absurd (V.str.inj (of_decide_eq_true z)) (by decide +kernel)) (fun _ => ?_)
          refine ⟨_, rfl, a, dx, _, rfl, ha, rfl, _, rfl, _, rfl, a, x, p, op, S, rfl, cl0, wf, hz, ow.same s0, ip.same s0, fun b e G sG => ⟨rfl, rfl, s0.trans sG, b, hr'.trans e, rfl⟩, fun U e G fG cG => ?_⟩
          exact ⟨k0, rfl, .inl ⟨U, hr'.trans e, FrD.after s0 fG, cG, fG _ _ nk0 kk⟩⟩
      · rintro σ1 X dd H1 ⟨rfl, rfl, sH, b, hb, rfl⟩
        refine ⟨by cases b; exact T.e_NoPath_RightError; exact T.e_NoSheet_RightError, fun e he => ⟨_, rfl, e, b, rfl, upd_same, fun q G sG hq => ?_⟩⟩
        exact ⟨q, rfl, .inr ⟨b, hb, sH.trans ((Same.new he).trans sG), hq⟩⟩
    rintro σ G ⟨q, rfl, h⟩
    refine ⟨_, rfl, _, rfl, iteF ?_⟩
    rcases h with ⟨U, e, fG, cG, hq⟩ | ⟨b, e, sG, hq⟩
    · exact ⟨_, rfl, k1 U e q G fG cG hq⟩
    · exact ⟨_, rfl, k2 b e q G sG hq⟩
set_option maxHeartbeats 4000000 in
theorem ok_Lpath (T : Txt w K mg c) : FnOk P w K mg base CX0 1 c.a_Lpath c.d_Lpath ["_law_sorting", "_law_mixed_here"] (spPathC) := by
  refine T.Lpath.fn.ok sc_Lpath (fun vs H Q E h => ?_) (fun cdv A outer s H vs Q E hr h => ?_)
  · obtain ⟨v, m, U, rfl, _⟩ := h
    rfl
  · obtain ⟨v, m, U, rfl, hat, fu, k⟩ := h
    refine ⟨_, (pss_cons (ps_set (i := 2) sc_Lpath.nd rfl (Or.inl rfl) (pe_op op_mod (pv 1) pe_int))
      (pss_cut (ps_if (PW.pt (pw_or (pt_cmpR (op_eqD (hu62 hr)) (pv 0) (pe_lst pa_nil) (nomark _)) (pw_or1 (pt_cmpR op_eq (pv 2) pe_int (nomark _)))))
        (pss_one (ps_ret (pe_tup (pa_cons (pe_callB call_len_seq rfl T.no_len bt_len (pa_cons (pv 0) pa_nil)) pa_nil))))
        pss_nil)
      (pss_cut (ps_set (i := 3) sc_Lpath.nd rfl (Or.inl rfl) (pe_op op_mod (pe_op op_fdiv (pv 1) pe_int) (pe_callB call_len_seq rfl T.no_len bt_len (pa_cons (pv 0) pa_nil))))
      (pss_cons (ps_if (pt_cmpR op_eq (pv 2) pe_int (nomark _))
        (pss_one (ps_ret (pe_tup (pa_cons (pv 3) (pa_cons (pe_callB call_len_seq rfl T.no_len bt_len (pa_cons (pe_ix ix_list (pv 0) (pv 3) (fun _ _ => rfl)) pa_nil)) pa_nil)))))
        pss_nil)
      (pss_cut (ps_set (i := 4) sc_Lpath.nd rfl (Or.inl rfl) (pe_op op_mod (pe_op op_fdiv (pv 1) pe_int) (pe_callB call_len_seq rfl T.no_len bt_len (pa_cons (pe_ix ix_list (pv 0) (pv 3) (fun _ _ => rfl)) pa_nil))))
      (pss_cons (ps_set (i := 5) sc_Lpath.nd rfl (Or.inl rfl) (pe_callB call_len_seq rfl T.no_len bt_len (pa_cons (pe_ix ix_list (pe_ix ix_list (pv 0) (pv 3) (fun _ _ => rfl)) (pv 4) (fun _ _ => rfl)) pa_nil)))
      (pss_cons (ps_if (pt_cmpR op_eq (pv 2) pe_int (nomark _))
        (pss_one (ps_ret (pe_tup (pa_cons (pv 3) (pa_cons (pv 4) (pa_cons (pv 5) pa_nil))))))
        pss_nil)
      (pss_one (ps_ret (pe_tup (pa_cons (pv 3) (pa_cons (pv 4) (pa_cons (pe_op op_mod (pe_op op_fdiv (pv 1) pe_int) (pv 5)) pa_nil))))))))))))), ?_⟩
    obtain ⟨r, vs, rfl, hA, hlen⟩ := hat.lst
    have sz : 2000 < sizeLine := le_ble rfl
    have ktup : ∀ (G : Hp) (q : List Int), Same H G → GP U q → ∀ t, G t = none → Q (.ref t) (upd G t (.tup (q.map V.int))) := fun G q sG hp t ht => k t q _ (sG.trans (Same.new ht)) upd_same hp
    have gpa : GP U [(vs.length : Int)] := by rw [hlen]; exact GP.a
    walk_at "rd"
    refine ⟨fun σ G => σ = [some (.ref r), some (.int m), some (.int (m % 5)), none, none, none] ∧ Same H G ∧ vs ≠ [], ?_, ?_⟩
    · refine ⟨_, rfl, le_ble rfl, fun e0 he0 => ?_⟩
      have s0 : Same H (upd H e0 (.lst [])) := Same.new he0
      have hr0 := s0 r _ hA
      refine ⟨0, _, by decide, seqNil (SqL.of hr0) (SqL.of upd_same), _, rfl, ?_⟩
      generalize upd H e0 (.lst []) = G at s0 hr0
      refine iteB (fun _ => ?_) (fun he => ?_)
      · exact iteT ⟨_, rfl, r, _, rfl, .inl (SqL.of hr0), le_ble rfl, ktup G [(vs.length : Int)] s0 gpa⟩
      · walk_at "rd"
        refine ite2 (fun _ => ?_) (fun _ => ?_)
        · exact ⟨_, rfl, r, _, rfl, .inl (SqL.of hr0), le_ble rfl, ktup G [(vs.length : Int)] s0 gpa⟩
        · exact ⟨rfl, s0, fun z => (by rw [z] at he; cases he)⟩
    rintro σ G ⟨rfl, s0, hne⟩
    have hr0 := s0 r _ hA
    have lp : 0 < vs.length := List.length_pos_iff.mpr hne
    refine ⟨fun σ' G' => G' = G ∧ ∃ (i : Nat) (ga : Addr) (g : Tr 3), σ' = [some (.ref r), some (.int m), some (.int (m % 5)), some (.int (i : Int)), none, none] ∧ atI vs (i : Int) = some (.ref ga) ∧ (ls U)[i]? = some g ∧ AtR H 3 (.ref ga) g, ?_, ?_⟩
    · walk_at "rd"
      refine ⟨r, _, rfl, .inl (SqL.of hr0), _, _, rfl, rfl, by omega, ?_⟩
      have m0 := Int.emod_nonneg (m / 5) (b := (vs.length : Int)) (by omega)
      have m1 := Int.emod_lt_of_pos (m / 5) (b := (vs.length : Int)) (by omega)
      obtain ⟨i, hi⟩ : ∃ i : Nat, m / 5 % (vs.length : Int) = (i : Int) := ⟨(m / 5 % (vs.length : Int)).toNat, by omega⟩
      obtain ⟨x', g, e1, eg, kg⟩ := hat.kid hA (j := i) (by omega)
      obtain ⟨ga, gs, rfl, _, _⟩ := kg.lst
      exact ⟨rfl, i, ga, g, by rw [← hi]; rfl, atI_nat e1, eg, kg⟩
    rintro σ' G' ⟨rfl, i, ga, g, rfl, ha, eg, kg⟩
    obtain ⟨_, gs, eq, hG, glen⟩ := kg.lst
    cases eq
    have fg := fu g (List.mem_of_getElem? eg)
    have hG0 := s0 _ _ hG
    have gp : 0 < gs.length := by
      rw [glen]
      exact List.length_pos_iff.mpr fg.1
    walk_at "rd"
    refine ite2 (fun _ => ?_) (fun _ => ?_)
    · exact ⟨_, rfl, _, rfl, _, rfl, r, _, _, _, rfl, rfl, SqL.of hr0, ha, ga, _, rfl, .inl (SqL.of hG0), le_ble rfl, ktup _ [(i : Int), (gs.length : Int)] s0 (by rw [glen]; exact GP.b eg)⟩
    refine ⟨fun σ' G'' => G'' = G' ∧ ∃ (j : Nat) (ca : Addr) (d : Tr 2), σ' = [some (.ref r), some (.int m), some (.int (m % 5)), some (.int (i : Int)), some (.int (j : Int)), none] ∧ atI gs (j : Int) = some (.ref ca) ∧ (ls g)[j]? = some d ∧ AtR H 2 (.ref ca) d, ?_, ?_⟩
    · walk_at "rd"
      refine ⟨r, _, _, _, rfl, rfl, SqL.of hr0, ha, ga, _, rfl, .inl (SqL.of hG0), _, _, rfl, rfl, by omega, ?_⟩
      have m0 := Int.emod_nonneg (m / 50) (b := (gs.length : Int)) (by omega)
      have m1 := Int.emod_lt_of_pos (m / 50) (b := (gs.length : Int)) (by omega)
      obtain ⟨j, hi⟩ : ∃ i : Nat, m / 50 % (gs.length : Int) = (i : Int) := ⟨(m / 50 % (gs.length : Int)).toNat, by omega⟩
      obtain ⟨y', d, e2, ed, kd⟩ := kg.kid hG (j := j) (by omega)
      obtain ⟨ca, cs, rfl, _, _⟩ := kd.lst
      exact ⟨rfl, j, ca, d, by rw [← hi]; rfl, atI_nat e2, ed, kd⟩
    rintro σ' G'' ⟨rfl, j, ca, d, rfl, hb, ed, kd⟩
    obtain ⟨_, cs, eq, hC, clen⟩ := kd.lst
    cases eq
    have fc := fg.2 d (List.mem_of_getElem? ed)
    have hC0 := s0 _ _ hC
    have cp : 0 < cs.length := by
      rw [clen]
      exact List.length_pos_iff.mpr fc.1
    refine ⟨_, rfl, _, rfl, r, _, _, _, rfl, rfl, SqL.of hr0, ha, _, rfl, ga, _, _, _, rfl, rfl, SqL.of hG0, hb, ca, _, rfl, .inl (SqL.of hC0), ?_⟩
    walk_at "rd"
    refine ite2 (fun _ => ?_) (fun _ => ?_)
    · exact ⟨_, rfl, _, rfl, _, rfl, le_ble rfl, ktup _ [(i : Int), (j : Int), (cs.length : Int)] s0 (by rw [clen]; exact GP.c eg ed)⟩
    walk_at "rd"
    refine ⟨by omega, ?_⟩
    have m0 := Int.emod_nonneg (m / 500) (b := (cs.length : Int)) (by omega)
    have m1 := Int.emod_lt_of_pos (m / 500) (b := (cs.length : Int)) (by omega)
    obtain ⟨n, hi⟩ : ∃ i : Nat, m / 500 % (cs.length : Int) = (i : Int) := ⟨(m / 500 % (cs.length : Int)).toNat, by omega⟩
    obtain ⟨z', f, e3, ef, kf⟩ := kd.kid hC (j := n) (by omega)
    have gpd := GP.d eg ed ef
    rw [← hi] at gpd
    exact ⟨le_ble rfl, ktup _ [(i : Int), (j : Int), m / 500 % (cs.length : Int)] s0 gpd⟩
set_option maxHeartbeats 4000000 in
theorem ok_Llaid (T : Txt w K mg c) : FnOk P w K mg base CX0 1 c.a_Llaid c.d_Llaid ["_law_sorting", "_law_sheet", "_law_path_here"] (spLaidL) := by
  refine T.Llaid.fn.ok sc_Llaid (fun vs H Q E h => ?_) (fun cdv A outer s H vs Q E hr h => ?_)
  · obtain ⟨v, s', t, q, U, rfl, _⟩ := h
    rfl
  · obtain ⟨v, s', t, q, U, rfl, hat, fu, hz, hP, gp, k⟩ := h
    refine ⟨_, (pss_cons (ps_setComp (i := 3) sc_Llaid.nd rfl rfl (N' := ["_law_genus"]) (js := [none]) rfl rfl (by decide +kernel) (by decide +kernel) (free_nil (by decide +kernel)) (cap_nil rfl rfl) (pi_list (pv 0)) (fun B => ⟨(pg_name (i := 0) (show List.Nodup (["_law_genus"] : List Str) by decide +kernel) rfl (Or.inl rfl)), pifs_nil, (pe_comp (N' := ["_law_middle"]) (js := [none]) rfl rfl (by decide +kernel) (by decide +kernel) (free_nil (by decide +kernel)) (cap_nil rfl rfl) (pi_list (pv 0)) (fun B => ⟨(pg_name (i := 0) (show List.Nodup (["_law_middle"] : List Str) by decide +kernel) rfl (Or.inl rfl)), pifs_nil, (pe_comp (N' := ["_law_form"]) (js := [none]) rfl rfl (by decide +kernel) (by decide +kernel) (free_nil (by decide +kernel)) (cap_nil rfl rfl) (pi_list (pv 0)) (fun B => ⟨(pg_name (i := 0) (show List.Nodup (["_law_form"] : List Str) by decide +kernel) rfl (Or.inl rfl)), pifs_nil, (pe_callTy call_list_of rfl T.no_list bt_list (pa_cons (pv 0) pa_nil))⟩))⟩))⟩))
      (pss_cons (ps_if (pt_cmpR op_eq (pe_callB call_len_seq rfl T.no_len bt_len (pa_cons (pv 2) pa_nil)) pe_int (nomark _))
        (pss_one (ps_ret (pe_op op_cat (pv 3) (pe_lst (pa_cons (pe_lst (pa_cons (pe_lst (pa_cons (pe_lst (pa_cons (pv 1) pa_nil)) pa_nil)) pa_nil)) pa_nil)))))
        pss_nil)
      (pss_cons (ps_if (pt_cmpR op_eq (pe_callB call_len_seq rfl T.no_len bt_len (pa_cons (pv 2) pa_nil)) pe_int (nomark _))
        (pss_cons (ps_expr (pe_bm PySem.F.plainAttrs_list PySem.F.slot_list_append PySem.F.type_list_append (MtM.r mt_append) (pe_ix ix_list (pv 3) (pe_ix ix_tup (pv 2) pe_int (fun _ _ => rfl)) (fun _ _ => rfl)) (pa_cons (pe_lst (pa_cons (pe_lst (pa_cons (pv 1) pa_nil)) pa_nil)) pa_nil)))
      (pss_one (ps_ret (pv 3))))
        pss_nil)
      (pss_cons (ps_set (i := 4) sc_Llaid.nd rfl (Or.inl rfl) (pe_ix ix_list (pe_ix ix_list (pv 3) (pe_ix ix_tup (pv 2) pe_int (fun _ _ => rfl)) (fun _ _ => rfl)) (pe_ix ix_tup (pv 2) pe_int (fun _ _ => rfl)) (fun _ _ => rfl)))
      (pss_cons (ps_if (pt_cmpR op_eq (pe_ix ix_tup (pv 2) pe_int (fun _ _ => rfl)) (pe_callB call_len_seq rfl T.no_len bt_len (pa_cons (pv 4) pa_nil)) (nomark _))
        (pss_one (ps_expr (pe_bm PySem.F.plainAttrs_list PySem.F.slot_list_append PySem.F.type_list_append (MtM.r mt_append) (pv 4) (pa_cons (pe_lst (pa_cons (pv 1) pa_nil)) pa_nil))))
        (pss_one (ps_asg (pe_callB (call_sorted rfl) rfl T.no_sorted bt_sorted (pa_cons (pe_op op_cat (pe_ix ix_list (pv 4) (pe_ix ix_tup (pv 2) pe_int (fun _ _ => rfl)) (fun _ _ => rfl)) (pe_lst (pa_cons (pv 1) pa_nil))) pa_nil)) (pg_sub (pv 4) (pe_ix ix_tup (pv 2) pe_int (fun _ _ => rfl)) set_list))))
      (pss_one (ps_ret (pv 3)))))))), ?_⟩
    obtain ⟨a, vs, rfl, hA, hlen⟩ := hat.lst
    have sz : 2000 < sizeLine := le_ble rfl
    have sm := small_S fu (by omega : (flat 4 U).length ≤ 1000)
    refine ⟨_, rfl, a, rfl, ⟨_, SqL.of hA⟩, fun l B hl => ?_⟩
    refine loop_new (us := ls U) hl (SqL.of hA) hlen (by rw [hlen]; exact sm.1) (fun σ => ∃ o, σ = [o]) ⟨_, rfl⟩ ?_ ?_
    · rintro i x g σ G Kt hx hg ⟨o, rfl⟩ sG kt
      obtain ⟨x', g', e1, eg, kg⟩ := hat.kid hA (List.getElem?_eq_some_iff.mp hx).1
      rw [hx] at e1
      cases e1
      have e := eg.symm.trans hg
      cases e
      obtain ⟨ga, gs, rfl, hG, glen⟩ := kg.lst
      have smg := sm.2 g (List.mem_of_getElem? hg)
      refine ⟨_, rfl, ga, rfl, ⟨_, SqL.of (sG _ _ hG)⟩, fun l2 B2 hl2 => ?_⟩
      refine loop_new (us := ls g) hl2 (SqL.of (sG _ _ hG)) glen (by rw [glen]; exact smg.1) (fun σ => ∃ o, σ = [o]) ⟨_, rfl⟩ ?_ ?_
      · rintro j y d σ G2 Kt2 hy hd ⟨o2, rfl⟩ sG2 kt2
        obtain ⟨y', d', e2, ed, kd⟩ := kg.kid hG (List.getElem?_eq_some_iff.mp hy).1
        rw [hy] at e2
        cases e2
        have e := ed.symm.trans hd
        cases e
        obtain ⟨ca, cs, rfl, hC, clen⟩ := kd.lst
        have smc := smg.2 d (List.mem_of_getElem? hd)
        have hC2 := sG2 _ _ (sG _ _ hC)
        refine ⟨_, rfl, ca, rfl, ⟨_, SqL.of hC2⟩, fun l3 B3 hl3 => ?_⟩
        refine loop_new (us := ls d) hl3 (SqL.of hC2) clen (by rw [clen]; exact smc.1) (fun σ => ∃ o, σ = [o]) ⟨_, rfl⟩ ?_ ?_
        · rintro m z f σ G3 Kt3 hz hf ⟨o3, rfl⟩ sG3 kt3
          obtain ⟨z', f', e3, ef, kf⟩ := kd.kid hC (List.getElem?_eq_some_iff.mp hz).1
          rw [hz] at e3
          cases e3
          have e := ef.symm.trans hf
          cases e
          obtain ⟨fl, hfl⟩ : ∃ fl : List Int, fl = f := ⟨f, rfl⟩
          subst hfl
          obtain ⟨fa, _, rfl, _, _⟩ := kf.lst
          have hF := sG3 _ _ (sG2 _ _ (sG _ _ (AtR.ints (ns := fl) kf)))
          exact ⟨_, rfl, fa, _, rfl, .inl (SqL.of hF), fun p hp => kt3 _ _ _ ⟨_, rfl⟩ (Same.new hp) (New.ints hp upd_same)⟩
        · intro G4 ws4 s4 h4 n4
          exact kt2 _ _ G4 ⟨_, rfl⟩ s4 (n4.done hl3 h4)
      · intro G4 ws4 s4 h4 n4
        exact kt _ _ G4 ⟨_, rfl⟩ s4 (n4.done hl2 h4)
    intro G1 ws s1 hW nL
    have nU : New H G1 4 (.ref l) U := nL.done hl hW
    have hP1 := s1 _ _ hP
    have lws : ws.length = (ls U).length := nL.1
    have lw : ws.length ≤ 1000 := by rw [lws]; exact sm.1
    obtain ⟨o, at1, dm1⟩ := nU
    have dm : Dom o G1 := fun b r hb => (dm1 b r hb).2
    have old : ∀ b r, o b = some r → H b = none := fun b r hb => (dm1 b r hb).1
    refine ⟨_, rfl, t, _, rfl, .inr (SqT.of hP1), rfl, _, rfl, ?_⟩
    cases gp with
    | a =>
      refine ite2 (fun _ => ?_) (fun z => absurd (decide_eq_true rfl) z)
      refine ⟨_, rfl, _, rfl, le_ble rfl, fun q1 h1 => ⟨le_ble rfl, fun q2 h2 => ⟨le_ble rfl, fun q3 h3 => ⟨le_ble rfl, fun q4 h4 => ?_⟩⟩⟩⟩
      have a1 : New G1 (upd G1 q1 (.lst [.int s'])) 1 (.ref q1) (solo 1 s') := newSolo (New.int (i := s')) h1 (Same.refl G1)
      have a2 := newSolo a1 h2 (Same.new h1)
      have a3 := newSolo a2 h3 ((Same.new h1).trans (Same.new h2))
      have sA := ((Same.new (o := HO.lst [.int s']) h1).trans (Same.new (o := HO.lst [.ref q1]) h2)).trans (Same.new (o := HO.lst [.ref q2]) h3)
      generalize upd (upd (upd G1 q1 (.lst [.int s'])) q2 (.lst [.ref q1])) q3 (.lst [.ref q2]) = G2 at a3 sA h4 ⊢
      have s4 := Same.new (o := HO.lst [.ref q3]) h4
      refine ⟨l, q4, _, _, rfl, rfl, s4 _ _ (sA _ _ hW), upd_same, ?_, fun p hp => ?_⟩
      · show ws.length + 1 ≤ _
        omega
      have s5 := Same.new (o := HO.lst (ws ++ [.ref q3])) hp
      have kL : AtL G2 3 (ws ++ [.ref q3]) (ls U ++ [solo 3 s']) := AtL.snoc ⟨lws, fun j w t' hw ht => by
        obtain ⟨_, o2, ko, _⟩ := nL
        exact ((ko j w t' hw ht).r).same sA⟩ a3.r
      exact k _ (lay_last rfl) _ _ (s1.trans (sA.trans (s4.trans s5))) (kL.at (s4.trans s5) upd_same)
    | @b i g hg =>
      refine ite2 (fun z => absurd (V.int.inj (of_decide_eq_true z) : (2 : Int) = 1) (by decide)) (fun _ => ?_)
      refine ⟨_, rfl, t, _, rfl, .inr (SqT.of hP1), rfl, _, rfl, ?_⟩
      refine ite2 (fun _ => ?_) (fun z => absurd (decide_eq_true rfl) z)
      obtain ⟨w0, g0, ew, eg, kg⟩ := at1.kid hW (j := i) (by rw [lws]; exact (List.getElem?_eq_some_iff.mp hg).1)
      have e := eg.symm.trans hg
      cases e
      obtain ⟨ga, gs, rfl, oa, hG, glen⟩ := kg.lst
      have lg : gs.length ≤ 1000 := by rw [glen]; exact (sm.2 g (List.mem_of_getElem? hg)).1
      have ho := (Hole.top at1).kid dm hW ew hg
      refine ⟨_, rfl, _, rfl, t, _, _, _, rfl, rfl, SqT.of hP1, atI_nat (j := 0) rfl, l, _, _, _, rfl, rfl, SqL.of hW, atI_nat ew, .inl ⟨rfl, _, SqL.of hG⟩, _, rfl, le_ble rfl, fun q1 h1 => ⟨le_ble rfl, fun q2 h2 => ?_⟩⟩
      have a1 : New G1 (upd G1 q1 (.lst [.int s'])) 1 (.ref q1) (solo 1 s') := newSolo (New.int (i := s')) h1 (Same.refl G1)
      have n1 := newSolo a1 h2 (Same.new h1)
      have sA := (Same.new (o := HO.lst [.int s']) h1).trans (Same.new (o := HO.lst [.ref q1]) h2)
      generalize upd (upd G1 q1 (.lst [.int s'])) q2 (.lst [.ref q1]) = G2 at n1 sA ⊢
      refine ⟨ga, _, _, rfl, rfl, sA _ _ hG, by omega, ?_⟩
      obtain ⟨o', x, b1⟩ := ho.at_.appN dm hG sA n1
      have b2 := ho.up o' G2 ga [i] _ _ sA x oa (List.suffix_refl _) b1
      obtain ⟨e1, e2⟩ := putEnd (u := .lst (gs ++ [.ref q2])) x sA oa
      have ch : Chg o G1 o' _ (.ref l) _ := ⟨e1, b2, x.after dm sA, e2⟩
      obtain ⟨nw, sN⟩ := ch.new old s1
      exact ⟨_, rfl, k _ (by rw [lay_b hg, lay_last rfl]; rfl) _ _ sN nw.r⟩
    | @c i j g d hg hd =>
      refine ite2 (fun z => absurd (V.int.inj (of_decide_eq_true z) : (3 : Int) = 1) (by decide)) (fun _ => ?_)
      refine ⟨_, rfl, t, _, rfl, .inr (SqT.of hP1), rfl, _, rfl, ?_⟩
      refine ite2 (fun z => absurd (V.int.inj (of_decide_eq_true z) : (3 : Int) = 2) (by decide)) (fun _ => ?_)
      obtain ⟨w0, g0, ew0, eg, kg⟩ := at1.kid hW (j := i) (by rw [lws]; exact (List.getElem?_eq_some_iff.mp hg).1)
      have e := eg.symm.trans hg
      cases e
      obtain ⟨ga, gs, rfl, og, hG, glen⟩ := kg.lst
      obtain ⟨w1, d0, ew1, ed, kd⟩ := kg.kid hG (j := j) (by rw [glen]; exact (List.getElem?_eq_some_iff.mp hd).1)
      have e := ed.symm.trans hd
      cases e
      clear vs hA hlen hat
      obtain ⟨a, vs, rfl, oa, hC, clen⟩ := kd.lst
      have smd := (sm.2 g (List.mem_of_getElem? hg)).2 d (List.mem_of_getElem? hd)
      have lc : vs.length ≤ 1000 := by rw [clen]; exact smd.1
      have ho := ((Hole.top at1).kid dm hW ew0 hg).kid dm hG ew1 hd
      refine ⟨_, rfl, _, rfl, t, _, _, _, rfl, rfl, SqT.of hP1, atI_nat (j := 0) rfl, l, _, _, _, rfl, rfl, SqL.of hW, atI_nat ew0, _, rfl, t, _, _, _, rfl, rfl, SqT.of hP1, atI_nat (j := 1) rfl, ga, _, _, _, rfl, rfl, SqL.of hG, atI_nat ew1, ?_⟩
      refine ⟨_, rfl, t, _, _, _, rfl, rfl, SqT.of hP1, atI_nat (j := 2) rfl, _, rfl, a, _, rfl, .inl (SqL.of hC), rfl, _, rfl, ?_⟩
      refine ite2 (fun _ => ?_) (fun z => absurd (decide_eq_true (by rw [clen])) z)
      refine ⟨_, rfl, .inl ⟨rfl, _, SqL.of hC⟩, _, rfl, le_ble rfl, fun q1 h1 => ?_⟩
      have n1 : New G1 (upd G1 q1 (.lst [.int s'])) 1 (.ref q1) (solo 1 s') := newSolo (New.int (i := s')) h1 (Same.refl G1)
      have sA := Same.new (o := HO.lst [.int s']) h1
      generalize upd G1 q1 (.lst [.int s']) = G2 at n1 sA ⊢
      refine ⟨a, _, _, rfl, rfl, sA _ _ hC, by omega, ?_⟩
      obtain ⟨o', x, b1⟩ := ho.at_.appN dm hC sA n1
      have b2 := ho.up o' G2 a [j, i] _ _ sA x oa (List.suffix_refl _) b1
      obtain ⟨e1, e2⟩ := putEnd (u := .lst (vs ++ [.ref q1])) x sA oa
      have ch : Chg o G1 o' _ (.ref l) _ := ⟨e1, b2, x.after dm sA, e2⟩
      obtain ⟨nw, sN⟩ := ch.new old s1
      exact ⟨_, rfl, k _ (by rw [lay_c hg hd, lay_last rfl]; rfl) _ _ sN nw.r⟩
    | @d i j m g d f hg hd hf =>
      refine ite2 (fun z => absurd (V.int.inj (of_decide_eq_true z) : (3 : Int) = 1) (by decide)) (fun _ => ?_)
      refine ⟨_, rfl, t, _, rfl, .inr (SqT.of hP1), rfl, _, rfl, ?_⟩
      refine ite2 (fun z => absurd (V.int.inj (of_decide_eq_true z) : (3 : Int) = 2) (by decide)) (fun _ => ?_)
      obtain ⟨w0, g0, ew0, eg, kg⟩ := at1.kid hW (j := i) (by rw [lws]; exact (List.getElem?_eq_some_iff.mp hg).1)
      have e := eg.symm.trans hg
      cases e
      obtain ⟨ga, gs, rfl, og, hG, glen⟩ := kg.lst
      obtain ⟨w1, d0, ew1, ed, kd⟩ := kg.kid hG (j := j) (by rw [glen]; exact (List.getElem?_eq_some_iff.mp hd).1)
      have e := ed.symm.trans hd
      cases e
      clear vs hA hlen hat
      obtain ⟨a, vs, rfl, oa, hC, clen⟩ := kd.lst
      have smd := (sm.2 g (List.mem_of_getElem? hg)).2 d (List.mem_of_getElem? hd)
      have lc : vs.length ≤ 1000 := by rw [clen]; exact smd.1
      have ho := ((Hole.top at1).kid dm hW ew0 hg).kid dm hG ew1 hd
      refine ⟨_, rfl, _, rfl, t, _, _, _, rfl, rfl, SqT.of hP1, atI_nat (j := 0) rfl, l, _, _, _, rfl, rfl, SqL.of hW, atI_nat ew0, _, rfl, t, _, _, _, rfl, rfl, SqT.of hP1, atI_nat (j := 1) rfl, ga, _, _, _, rfl, rfl, SqL.of hG, atI_nat ew1, ?_⟩
      refine ⟨_, rfl, t, _, _, _, rfl, rfl, SqT.of hP1, atI_nat (j := 2) rfl, _, rfl, a, _, rfl, .inl (SqL.of hC), rfl, _, rfl, ?_⟩
      have hm := (List.getElem?_eq_some_iff.mp hf).1
      refine ite2 (fun z => ?_) (fun _ => ?_)
      · have z := V.int.inj (of_decide_eq_true z)
        omega
      have j0 : (0 : Int) ≤ (m : Int) := by omega
      obtain ⟨fl, hfl⟩ : ∃ fl : List Int, fl = f := ⟨f, rfl⟩
      subst hfl
      obtain ⟨w, f0, ew, ef, kf⟩ := ho.at_.kid hC (j := m) (by omega)
      have e := ef.symm.trans hf
      cases e
      obtain ⟨fa, _, rfl, _, _, _⟩ := kf.lst
      have hF := AtR.ints (ns := fl) kf.r
      have hfl : fl.length < 63 := by
        have h0 := flat_len hg
        have h1 := flat_len hd
        have h2 := flat_len hf
        have h3 := congrArg List.length (flat_ints fl)
        have e4 : (flat 4 U).length = (flat (3 + 1) (ls U : List (Tr 3))).length := rfl
        have e5 : (flat 3 g).length = (flat (2 + 1) (ls g : List (Tr 2))).length := rfl
        have e6 : (flat 2 d).length = (flat (1 + 1) (ls d : List (Tr 1))).length := rfl
        omega
      refine ⟨_, rfl, _, rfl, t, _, _, _, rfl, rfl, SqT.of hP1, atI_nat (j := 2) rfl, a, _, _, _, rfl, rfl, SqL.of hC, atI_nat ew, _, rfl, le_ble rfl, fun q1 h1 => ?_⟩
      have t1 : Same G1 (upd G1 q1 (.lst [.int s'])) := Same.new h1
      have e60 : (List.map V.int fl).length = fl.length := List.length_map ..
      refine ⟨fa, q1, _, _, rfl, rfl, t1 _ _ hF, upd_same, ?_, fun q2 h2 => ?_⟩
      · have : [V.int s'].length = 1 := rfl
        omega
      have t2 : Same (upd G1 q1 (.lst [.int s'])) (upd (upd G1 q1 (.lst [.int s'])) q2 (.lst (List.map V.int fl ++ [.int s']))) := Same.new h2
      refine ⟨q2, List.append fl [s'], rfl, SqL.of (by rw [upd_same]; exact congrArg (fun z => some (HO.lst z)) (List.map_append (f := V.int) (l₁ := fl) (l₂ := [s'])).symm), ?_, fun q3 ms h3 pm ps => ?_⟩
      · show (fl ++ [s']).length < 64
        rw [List.length_append]
        have : [s'].length = 1 := rfl
        omega
      have s3 := (t1.trans t2).trans (Same.new (o := HO.lst (ms.map V.int)) h3)
      have n3 : New G1 (upd (upd (upd G1 q1 (.lst [.int s'])) q2 (.lst (List.map V.int fl ++ [.int s']))) q3 (.lst (ms.map V.int))) 1 (.ref q3) ms := New.ints ((t1.trans t2).free h3) upd_same
      obtain ⟨o', x, a1⟩ := ho.at_.setN dm hC (i := m) (by omega) s3 n3
      have a2 := ho.up o' _ a [j, i] _ _ s3 x oa (List.suffix_refl _) a1
      obtain ⟨e1, e2⟩ := putEnd (u := .lst (vs.set m (.ref q3))) x s3 oa
      have hix : ixN vs.length (m : Int) = some m := by
        unfold ixN
        rw [if_pos j0, Int.toNat_natCast, if_pos (by omega)]
      refine ⟨_, rfl, _, rfl, t, _, _, _, rfl, rfl, SqT.of (s3 _ _ hP1), atI_nat (j := 2) rfl, a, _, _, m, rfl, rfl, s3 _ _ hC, hix, ?_⟩
      have ch : Chg o G1 o' _ (.ref l) _ := ⟨e1, a2, x.after dm s3, e2⟩
      obtain ⟨nw, sN⟩ := ch.new old s1
      exact ⟨_, rfl, k _ (by rw [lay_c hg hd, lay_form (lt_of_at hf) hf, ← srt_is pm ps]; rfl) _ _ sN nw.r⟩
set_option maxHeartbeats 4000000 in
theorem ok_Lbad_path (T : Txt w K mg c) : FnOk P w K mg base CX0 1 c.a_Lbad_path c.d_Lbad_path ["_law_sorting", "_law_path_here", "_law_mixed_here"] (spBadPath K) := by
  refine T.Lbad_path.fn.ok sc_Lbad_path (fun vs H Q E h => ?_) (fun cdv A outer s H vs Q E hr h => ?_)
  · obtain ⟨v, t, q, m, U, rfl, _⟩ := h
    rfl
  · obtain ⟨v, t, q, m, U, rfl, hat, fu, hz, hP, gp, k⟩ := h
    refine ⟨_, (pss_cons (ps_set (i := 3) sc_Lbad_path.nd rfl (Or.inl rfl) (pe_op op_mod (pv 2) pe_int))
      (pss_cons (ps_if (pt_cmpR op_eq (pv 3) pe_int (nomark _))
        (pss_cons (ps_set (i := 4) sc_Lbad_path.nd rfl (Or.inl rfl) (pv 0))
      (pss_cons (ps_for PassesOwn.never rfl (pi_tup (pe_slice sl_tup (pv 1) po_none (po_some (pe_un un_neg pe_int)))) (pg_name (i := 5) sc_Lbad_path.nd rfl (Or.inl rfl))
        (pss_one (ps_set (i := 4) sc_Lbad_path.nd rfl (Or.inl rfl) (pe_ix ix_list (pv 4) (pv 5) (fun _ _ => rfl)))))
      (pss_one (ps_ret (pe_op op_catT1 (pe_slice sl_tup (pv 1) po_none (po_some (pe_un un_neg pe_int))) (pe_tup (pa_cons (pe_op op_add (pe_op op_add (pe_callB call_len_seq rfl T.no_len bt_len (pa_cons (pv 4) pa_nil)) pe_int) (pe_op op_mod (pe_op op_fdiv (pv 2) pe_int) pe_int)) pa_nil)))))))
        pss_nil)
      (pss_cut (ps_if (PW.pt (pw_and (pt_cmpR op_eq (pv 3) pe_int (nomark _)) (pw_and1 (pt_cmpR op_gt (pe_callB call_len_seq rfl T.no_len bt_len (pa_cons (pv 1) pa_nil)) pe_int (nomark _)))))
        (pss_one (ps_ret (pe_op op_catT1 (pe_tup (pa_cons (pe_callB call_len_seq rfl T.no_len bt_len (pa_cons (pv 0) pa_nil)) pa_nil)) (pe_slice sl_tup (pv 1) (po_some pe_int) po_none))))
        pss_nil)
      (pss_cons (ps_if (pt_cmpR op_eq (pv 3) pe_int (nomark _))
        (pss_one (ps_ret (pe_op op_catT1 (pe_slice sl_tup (pv 1) po_none (po_some (pe_un un_neg pe_int))) (pe_tup (pa_cons (pe_op op_sub (pe_un un_neg pe_int) (pe_op op_mod (pe_op op_fdiv (pv 2) pe_int) pe_int)) pa_nil)))))
        pss_nil)
      (pss_cons (ps_if (pt_cmpR op_eq (pv 3) pe_int (nomark _))
        (pss_one (ps_ret (pe_ix ix_list (pe_lst (pa_cons (pe_callTy call_list_of rfl T.no_list bt_list (pa_cons (pv 1) pa_nil)) (pa_cons pe_non (pa_cons pe_str (pa_cons pe_int (pa_cons (pe_tup pa_nil) (pa_cons (pe_tup (pa_cons pe_int (pa_cons pe_int (pa_cons pe_int (pa_cons pe_int pa_nil))))) (pa_cons (pe_tup (pa_cons pe_str pa_nil)) (pa_cons (pe_tup (pa_cons pe_bl pa_nil)) pa_nil))))))))) (pe_op op_mod (pe_op op_fdiv (pv 2) pe_int) pe_int) (fun _ _ => rfl))))
        pss_nil)
      (pss_cut (ps_if (PW.pt (pw_and (pt_cmpR op_eq (pv 3) pe_int (nomark _)) (pw_and (pt_cmpR op_lt (pe_callB call_len_seq rfl T.no_len bt_len (pa_cons (pv 1) pa_nil)) pe_int (nomark _)) (pw_and1 (pt_cmpR op_gt (pe_ix ix_tup (pv 1) (pe_un un_neg pe_int) (fun _ _ => rfl)) pe_int (nomark _))))))
        (pss_one (ps_ret (pe_op op_catT1 (pe_slice sl_tup (pv 1) po_none (po_some (pe_un un_neg pe_int))) (pe_tup (pa_cons (pe_op op_sub (pe_ix ix_tup (pv 1) (pe_un un_neg pe_int) (fun _ _ => rfl)) pe_int) pa_nil)))))
        pss_nil)
      (pss_one (ps_ret (pe_op op_catT1 (pv 1) (pe_op op_repT (pe_tup (pa_cons pe_int pa_nil)) (pe_op op_sub pe_int (pe_callB call_len_seq rfl T.no_len bt_len (pa_cons (pv 1) pa_nil))))))))))))), ?_⟩
    obtain ⟨r, vs, rfl, hA, hlen⟩ := hat.lst
    have sz : 2000 < sizeLine := le_ble rfl
    have lq : 1 ≤ q.length ∧ q.length ≤ 3 := by cases gp <;> exact ⟨le_ble rfl, le_ble rfl⟩
    have lm : (q.map V.int).length = q.length := List.length_map ..
    have hne : q.map V.int ≠ [] := fun z => by
      rw [z] at lm
      have : 0 = q.length := lm
      omega
    have dl : (q.map V.int).dropLast = q.dropLast.map V.int := List.map_dropLast.symm
    have ld : (q.dropLast.map V.int).length ≤ 3 := by rw [List.length_map, List.length_dropLast]; omega
    have plI : ∀ (q' : List Int), ∀ y ∈ q'.map V.int, plainV y = true := fun q' y hy => by
      obtain ⟨i, _, rfl⟩ := List.mem_map.mp hy
      rfl
    have kt : ∀ (G : Hp) (p : Addr) (xs : List V), Same H G → (∀ y ∈ xs, plainV y = true) → Bad U xs → G p = some (.tup xs) → Q (.ref p) G := fun G p xs sG hp hb h => k _ _ G sG (.inl ⟨p, xs, rfl, h, hp, rfl⟩) hb
    have cat : ∀ (G : Hp) (q1 : List Int) (b : Addr) (i : Int), Same H G → G b = some (.tup [.int i]) → Bad U ((q1 ++ [i]).map V.int) → (q1.map V.int = [] → Q (.ref b) G) ∧ (q1.map V.int ≠ [] → ∀ p, G p = none → Q (.ref p) (upd G p (.tup (q1.map V.int ++ [.int i])))) := fun G q1 b i sG hb bad => by
      refine ⟨fun e => kt G b _ sG (plI [i]) ?_ hb, fun _ p hp => kt _ p _ (sG.trans (Same.new hp)) (fun y hy => ?_) ?_ upd_same⟩
      · rw [List.map_append, e] at bad
        exact bad
      · rcases List.mem_append.mp hy with z | z
        · exact plI _ y z
        · rw [List.mem_singleton.mp z]; rfl
      · rw [List.map_append] at bad
        exact bad
    walk_at "rd"
    refine ite2 (fun _ => ?_) (fun _ => ?_)
    · refine ⟨_, rfl, ?_⟩
      walk_at "rd"
      refine ⟨t, _, rfl, SqT.of hP, cut_part hne, fun sp hsp => ?_⟩
      rw [cut_last hne, dl]
      have s0 : Same H (upd H sp (.tup (q.dropLast.map V.int))) := Same.new hsp
      have hs1 := upd_same (H := H) (a := sp) (o := .tup (q.dropLast.map V.int))
      generalize upd H sp (.tup (q.dropLast.map V.int)) = G0 at s0 hs1 ⊢
      refine ⟨sp, rfl, ⟨_, SqT.of hs1⟩, ?_⟩
      refine for_tup (xs := q.dropLast.map V.int) (fun i σ G => G = G0 ∧ ∃ (n : Nat) (tr : Tr (n + 2)) (b : Addr) (z : Option V), σ = [some (.ref r), some (.ref t), some (.int m), some (.int (m % 6)), some (.ref b), z] ∧ i + n = 2 ∧ AtR G0 (n + 2) (.ref b) tr ∧ Wk n tr (q.dropLast.drop i) ∧ ∀ s x, lay n tr s (q.dropLast.drop i ++ [x]) = none → lay 2 U s (q.dropLast ++ [x]) = none) ?_ ?_ ?_ ?_
      · exact ⟨rfl, 2, U, r, _, rfl, rfl, hat.same s0, gp.wk, fun s x h => h⟩
      · rintro i σ G _ ⟨rfl, _⟩
        exact SqT.of hs1
      · rintro i x σ G hx ⟨rfl, n, tr, b, z, rfl, hn, ht, wk, hl⟩
        obtain ⟨p, hp, rfl⟩ := getI hx
        have ed : q.dropLast.drop i = p :: q.dropLast.drop (i + 1) := by
          obtain ⟨hi, e⟩ := List.getElem?_eq_some_iff.mp hp
          rw [← List.getElem_cons_drop hi, e]
        rw [ed] at wk hl
        cases n with
        | zero => exact False.elim wk
        | succ n =>
          obtain ⟨m', g, rfl, hg, wk'⟩ := (wk : ∃ (m : Nat) (g : Tr (n + 2)), p = (m : Int) ∧ (ls tr)[m]? = some g ∧ Wk n g (q.dropLast.drop (i + 1)))
          obtain ⟨_, bs, e, hB, blen⟩ := ht.lst
          cases e
          obtain ⟨w, g', ew, eg', kg⟩ := ht.kid hB (j := m') (by rw [blen]; exact (List.getElem?_eq_some_iff.mp hg).1)
          have e := eg'.symm.trans hg
          cases e
          obtain ⟨gb, _, rfl, _, _⟩ := kg.lst
          refine ⟨_, rfl, _, rfl, b, _, _, _, rfl, rfl, SqL.of hB, atI_nat ew, rfl, n, g, gb, _, rfl, by omega, kg, wk', fun s x h => hl s x ?_⟩
          show lay (n + 1) tr s ((m' : Int) :: (q.dropLast.drop (i + 1) ++ [x])) = none
          cases hd : q.dropLast.drop (i + 1) ++ [x] with
          | nil => exact absurd hd (by simp)
          | cons j r' =>
            rw [hd] at h
            rw [lay_in (lt_of_at hg) hg, h]
            rfl
      · rintro σ G ⟨rfl, n, tr, b, z, rfl, hn, ht, wk, hl⟩
        have e0 : q.dropLast.drop (q.dropLast.map V.int).length = [] := by rw [List.length_map, List.drop_length]
        rw [e0] at hl
        obtain ⟨_, bs, e, hB, blen⟩ := ht.lst
        cases e
        refine ⟨_, rfl, ?_⟩
        walk_at "rd"
        refine ⟨t, _, rfl, SqT.of (s0 _ _ hP), cut_part hne, fun sp2 hsp2 => ?_⟩
        rw [cut_last hne, dl]
        have s1 := Same.new (o := HO.tup (q.dropLast.map V.int)) hsp2
        have h1 := upd_same (H := G) (a := sp2) (o := .tup (q.dropLast.map V.int))
        generalize upd G sp2 (.tup (q.dropLast.map V.int)) = G1 at s1 h1 ⊢
        refine ⟨_, rfl, b, _, rfl, .inl (SqL.of (s1 _ _ hB)), ?_⟩
        walk_at "rd"
        have m0 := Int.emod_nonneg (m / 6) (b := 5) (by decide)
        have bad : Bad U ((q.dropLast ++ [(bs.length : Int) + 1 + m / 6 % 5]).map V.int) := Bad.of fun s => hl s _ (lay_no0 (by omega) (fun z => by omega))
        refine ⟨le_ble rfl, fun tp htp => ?_⟩
        have s2 := Same.new (o := HO.tup [V.int ((bs.length : Int) + 1 + m / 6 % 5)]) htp
        obtain ⟨c1, c2⟩ := cat _ q.dropLast tp _ (s0.trans (s1.trans s2)) upd_same bad
        exact ⟨sp2, tp, _, _, rfl, rfl, SqT.of (s2 _ _ h1), SqT.of upd_same, (by intro z; cases z), (by show _ + 1 ≤ _; omega), c1, c2⟩
    refine ⟨fun σ G => σ = [some (.ref r), some (.ref t), some (.int m), some (.int (m % 6)), none, none] ∧ G = H, ?_, ?_⟩
    · walk_at "rd"
      refine ite2 (fun _ => ?_) (fun _ => ⟨rfl, rfl⟩)
      refine ⟨_, rfl, t, _, rfl, .inr (SqT.of hP), ?_⟩
      walk_at "rd"
      refine ite2 (fun z => ?_) (fun _ => ⟨rfl, rfl⟩)
      have z := of_decide_eq_true z
      refine ⟨_, rfl, r, _, rfl, .inl (SqL.of hA), le_ble rfl, fun t1 h1 => ?_⟩
      have s1 := Same.new (o := HO.tup [V.int (vs.length : Int)]) h1
      have k1 := upd_same (H := H) (a := t1) (o := .tup [V.int (vs.length : Int)])
      generalize upd H t1 (.tup [V.int (vs.length : Int)]) = G1 at s1 k1 ⊢
      refine ⟨_, rfl, ?_⟩
      walk_at "rd"
      refine ⟨t, _, rfl, SqT.of (s1 _ _ hP), cut_partT hne, fun t2 h2 => ?_⟩
      rw [cut_tail hne]
      have s2 := Same.new (o := HO.tup (q.map V.int).tail) h2
      have lt : (q.map V.int).tail.length = q.length - 1 := by rw [List.length_tail, lm]
      refine ⟨t1, t2, _, _, rfl, rfl, SqT.of (s2 _ _ k1), SqT.of upd_same, fun e => ?_, (by show 1 + _ ≤ _; omega), (fun e => nomatch e), fun _ p hp => ?_⟩
      · rw [e] at lt
        have : 0 = q.length - 1 := lt
        omega
      have et : [V.int (vs.length : Int)] ++ (q.map V.int).tail = ((vs.length : Int) :: q.tail).map V.int := by
        rw [List.map_cons, List.map_tail]
        rfl
      rw [et]
      refine kt _ p _ (s1.trans (s2.trans (Same.new hp))) (plI _) (Bad.of fun s => ?_) upd_same
      cases eq : q.tail with
      | nil =>
        have := congrArg List.length eq
        rw [List.length_tail] at this
        have : q.length - 1 = 0 := this
        omega
      | cons j r' => exact lay_no (by omega)
    rintro σ G ⟨rfl, rfl⟩
    walk_at "rd"
    refine ite2 (fun _ => ?_) (fun _ => ?_)
    · refine ⟨_, rfl, ?_⟩
      walk_at "rd"
      refine ⟨t, _, rfl, SqT.of hP, cut_part hne, fun sp2 hsp2 => ?_⟩
      rw [cut_last hne, dl]
      have s1 := Same.new (o := HO.tup (q.dropLast.map V.int)) hsp2
      have h1 := upd_same (H := G) (a := sp2) (o := .tup (q.dropLast.map V.int))
      generalize upd G sp2 (.tup (q.dropLast.map V.int)) = G1 at s1 h1 ⊢
      walk_at "rd"
      have m0 := Int.emod_nonneg (m / 6) (b := 3) (by decide)
      have bad : Bad U ((q.dropLast ++ [-1 - m / 6 % 3]).map V.int) := by
        rw [List.map_append]
        exact Bad.no (nonN_neg (by omega) _)
      refine ⟨le_ble rfl, fun tp htp => ?_⟩
      have s2 := Same.new (o := HO.tup [V.int (-1 - m / 6 % 3)]) htp
      obtain ⟨c1, c2⟩ := cat _ q.dropLast tp _ (s1.trans s2) upd_same bad
      exact ⟨sp2, tp, _, _, rfl, rfl, SqT.of (s2 _ _ h1), SqT.of upd_same, (by intro z; cases z), (by show _ + 1 ≤ _; omega), c1, c2⟩
    walk_at "rd"
    refine ite2 (fun _ => ?_) (fun _ => ?_)
    · refine ⟨_, rfl, t, _, rfl, .inr (SqT.of hP), fun t1 h1 => ?_⟩
      have r1 := Same.new (o := HO.lst (q.map V.int)) h1
      have p1 := upd_same (H := G) (a := t1) (o := .lst (q.map V.int))
      generalize upd G t1 (.lst (q.map V.int)) = G1 at r1 p1 ⊢
      refine ⟨le_ble rfl, fun t2 h2 => ?_⟩
      have r2 := Same.new (o := HO.tup []) h2
      have p2 := upd_same (H := G1) (a := t2) (o := .tup [])
      generalize upd G1 t2 (.tup []) = G2 at r2 p2 ⊢
      refine ⟨le_ble rfl, fun t3 h3 => ?_⟩
      have r3 := Same.new (o := HO.tup [.int 0, .int 0, .int 0, .int 0]) h3
      have p3 := upd_same (H := G2) (a := t3) (o := .tup [.int 0, .int 0, .int 0, .int 0])
      generalize upd G2 t3 (.tup [.int 0, .int 0, .int 0, .int 0]) = G3 at r3 p3 ⊢
      refine ⟨le_ble rfl, fun t4 h4 => ?_⟩
      have r4 := Same.new (o := HO.tup [.str "0"]) h4
      have p4 := upd_same (H := G3) (a := t4) (o := .tup [.str "0"])
      generalize upd G3 t4 (.tup [.str "0"]) = G4 at r4 p4 ⊢
      refine ⟨le_ble rfl, fun t5 h5 => ?_⟩
      have r5 := Same.new (o := HO.tup [.bl true]) h5
      have p5 := upd_same (H := G4) (a := t5) (o := .tup [.bl true])
      generalize upd G4 t5 (.tup [.bl true]) = G5 at r5 p5 ⊢
      refine ⟨le_ble rfl, fun lo hlo => ?_⟩
      walk_at "rd"
      obtain ⟨pv, hpv, hm⟩ := atI_in (xs := [V.ref t1, V.non, V.str (Str.ofString "0"), V.int 0, V.ref t2, V.ref t3, V.ref t4, V.ref t5]) (i := m / 6 % 8) (Int.emod_nonneg _ (by decide)) (by show _ < (8 : Int); exact Int.emod_lt_of_pos _ (by decide))
      refine ⟨lo, _, _, pv, rfl, rfl, SqL.of upd_same, hpv, ?_⟩
      have r6 := Same.new (o := HO.lst [V.ref t1, V.non, V.str (Str.ofString "0"), V.int 0, V.ref t2, V.ref t3, V.ref t4, V.ref t5]) hlo
      generalize upd G5 lo (.lst [V.ref t1, V.non, V.str (Str.ofString "0"), V.int 0, V.ref t2, V.ref t3, V.ref t4, V.ref t5]) = G6 at r6 ⊢
      have u5 := r5.trans r6
      have u4 := r4.trans u5
      have u3 := r3.trans u4
      have u2 := r2.trans u3
      have sE := r1.trans u2
      simp only [List.mem_cons, List.not_mem_nil, or_false] at hm
      rcases hm with rfl | rfl | rfl | rfl | rfl | rfl | rfl | rfl
      · exact k _ none _ sE (.inr ⟨rfl, .inr (.inr (.inl ⟨t1, _, rfl, u2 _ _ p1⟩))⟩) fun s => rfl
      · exact k _ none _ sE (.inr ⟨rfl, .inl rfl⟩) fun s => rfl
      · exact k _ none _ sE (.inr ⟨rfl, .inr (.inr (.inr ⟨_, rfl⟩))⟩) fun s => rfl
      · exact k _ none _ sE (.inr ⟨rfl, .inr (.inl ⟨_, rfl⟩)⟩) fun s => rfl
      · exact kt _ t2 _ sE (fun y hy => absurd hy List.not_mem_nil) (fun s => rfl) (u3 _ _ p2)
      · exact kt _ t3 _ sE (plI [0, 0, 0, 0]) (Bad.long (by decide)) (u4 _ _ p3)
      · exact kt _ t4 _ sE (fun y hy => by rw [List.mem_singleton.mp hy]; rfl) (Bad.no rfl) (u5 _ _ p4)
      · exact kt _ t5 _ sE (fun y hy => by rw [List.mem_singleton.mp hy]; rfl) (Bad.no rfl) (r6 _ _ p5)
    obtain ⟨la, ela⟩ : ∃ la, q = q.dropLast ++ [la] := ⟨_, (List.dropLast_concat_getLast (fun z => by rw [z] at lq; exact absurd lq.1 (by decide))).symm⟩
    have atl : atI (q.map V.int) (-1) = some (V.int la) := by
      rw [ela, List.map_append]
      exact atI_last _ _
    refine ⟨fun σ G' => σ = [some (.ref r), some (.ref t), some (.int m), some (.int (m % 6)), none, none] ∧ G' = G, ?_, ?_⟩
    · walk_at "rd"
      refine ite2 (fun _ => ?_) (fun _ => ⟨rfl, rfl⟩)
      refine ⟨_, rfl, t, _, rfl, .inr (SqT.of hP), ?_⟩
      walk_at "rd"
      refine ite2 (fun z1 => ?_) (fun _ => ⟨rfl, rfl⟩)
      have z1 := of_decide_eq_true z1
      refine ⟨_, rfl, _, rfl, t, _, _, _, rfl, rfl, SqT.of hP, atl, ?_⟩
      walk_at "rd"
      refine ite2 (fun z2 => ?_) (fun _ => ⟨rfl, rfl⟩)
      have z2 := of_decide_eq_true z2
      refine ⟨_, rfl, ?_⟩
      walk_at "rd"
      refine ⟨t, _, rfl, SqT.of hP, cut_part hne, fun sp2 hsp2 => ?_⟩
      rw [cut_last hne, dl]
      have s1 := Same.new (o := HO.tup (q.dropLast.map V.int)) hsp2
      have h1 := upd_same (H := G) (a := sp2) (o := .tup (q.dropLast.map V.int))
      generalize upd G sp2 (.tup (q.dropLast.map V.int)) = G1 at s1 h1 ⊢
      refine ⟨_, rfl, _, rfl, t, _, _, _, rfl, rfl, SqT.of (s1 _ _ hP), atl, ?_⟩
      walk_at "rd"
      have bad : Bad U ((q.dropLast ++ [la - 1]).map V.int) := Bad.of fun s => by
        have lb : q.length < 3 := by omega
        clear atl cat kt k plI hsp2 s1 h1
        cases gp with
        | a =>
          have e : ((ls U).length : Int) = la := (List.cons.inj ela).1
          exact lay_no0 (by omega) (fun z => by have := z.2; omega)
        | @b i g hg =>
          have e : ((ls g).length : Int) = la := (List.cons.inj (List.cons.inj ela).2).1
          show lay 2 U s [(i : Int), la - 1] = none
          rw [lay_b hg, lay_no0 (by omega) (fun z => by have := z.2; omega)]
          rfl
        | c hg hd => exact absurd lb (by show ¬ (3 < 3); decide)
        | d hg hd hf => exact absurd lb (by show ¬ (3 < 3); decide)
      refine ⟨le_ble rfl, fun tp htp => ?_⟩
      have s2 := Same.new (o := HO.tup [V.int (la - 1)]) htp
      obtain ⟨c1, c2⟩ := cat _ q.dropLast tp _ (s1.trans s2) upd_same bad
      exact ⟨sp2, tp, _, _, rfl, rfl, SqT.of (s2 _ _ h1), SqT.of upd_same, (by intro z; cases z), (by show _ + 1 ≤ _; omega), c1, c2⟩
    rintro σ G' ⟨rfl, rfl⟩
    refine ⟨_, rfl, le_ble rfl, fun t1 h1 => ?_⟩
    have s1 := Same.new (o := HO.tup [V.int 0]) h1
    have k1 := upd_same (H := G') (a := t1) (o := .tup [V.int 0])
    generalize upd G' t1 (.tup [V.int 0]) = G1 at s1 k1 ⊢
    refine ⟨_, rfl, t, _, rfl, .inr (SqT.of (s1 _ _ hP)), _, _, rfl, rfl, ?_⟩
    have fin : ∀ (G2 : Hp) (p : Addr) (n : Nat), Same G1 G2 → G2 p = some (.tup (List.replicate n (V.int 0))) → 1 ≤ n → n ≤ 3 → q.length + n = 4 → rCatT1 K (.ref t) (.ref p) G2 Q := fun G2 p n s2 hp n1 n3 e4 => by
      refine ⟨t, p, _, _, rfl, rfl, SqT.of (s2 _ _ (s1 _ _ hP)), SqT.of hp, fun z => ?_, ?_, fun z => absurd z hne, fun _ p2 hp2 => ?_⟩
      · have := congrArg List.length z
        rw [List.length_replicate] at this
        have : n = 0 := this
        omega
      · rw [lm, List.length_replicate]
        omega
      · refine kt _ p2 _ (s1.trans (s2.trans (Same.new hp2))) (fun y hy => ?_) (Bad.long ?_) upd_same
        · rcases List.mem_append.mp hy with z | z
          · exact plI _ y z
          · rw [(List.mem_replicate.mp z).2]; rfl
        · rw [List.length_append, lm, List.length_replicate]
          omega
    have e4 : q.length = 1 ∨ q.length = 2 ∨ q.length = 3 := by omega
    rw [lm]
    refine ⟨t1, .int 0, 4 - (q.length : Int), rfl, rfl, SqT.of k1, ?_⟩
    rcases e4 with e | e | e
    · exact .inr ⟨.inr (by rw [e]; rfl), fun p hp => fin _ p 3 (Same.new hp) (by rw [e]; exact upd_same) (by decide) (by decide) (by omega)⟩
    · exact .inr ⟨.inl (by rw [e]; rfl), fun p hp => fin _ p 2 (Same.new hp) (by rw [e]; exact upd_same) (by decide) (by decide) (by omega)⟩
    · exact .inl ⟨by rw [e]; rfl, fin _ t1 1 (Same.refl _) k1 (by decide) (by decide) (by omega)⟩
set_option maxHeartbeats 4000000 in
theorem ok_Lstep (T : Txt w K mg c) : FnOk P w K mg base CX0 13 c.a_Lstep c.d_Lstep ["_law_clerk", "_law_sorting", "_law_cell", "_law_k"] (spStep K c.c_Clerk) := by
  refine T.Lstep.fn.ok sc_Lstep (fun vs H Q E h => ?_) (fun cdv A outer s H vs Q E hr h => ?_)
  · obtain ⟨a, v, ce, kk, S, rfl, _⟩ := h
    rfl
  · obtain ⟨a, v, ce, kk, S, rfl, k0, k1, cl, hat, wf, hz, k⟩ := h
    refine ⟨_, (pss_cons (ps_set (i := 4) sc_Lstep.nd rfl (Or.inl rfl) (pe_call (ok_Lmixed T) (hr.mono (by decide)) rfl T.Lmixed.mgf T.Lmixed.kp T.Lmixed.bi .nil pass0 (pa_cons (pv 2) (pa_cons (pv 3) pa_nil))))
      (pss_cut (ps_set (i := 5) sc_Lstep.nd rfl (Or.inl rfl) (pe_ix ix_list (pe_lst (pa_cons (pe_op op_add pe_int (pe_op op_mod (pv 4) pe_int)) (pa_cons (pe_op op_add pe_int (pe_op op_mod (pe_op op_mod (pe_op op_mul (pv 4) pe_int) pe_int) (pe_op op_pow pe_int pe_int))) pa_nil))) (pe_callTy call_int1 rfl T.no_int bt_int (pa_cons (pe_cmpR op_eq (pe_op op_mod (pe_op op_fdiv (pv 4) pe_int) pe_int) pe_int (nomark _)) pa_nil)) (fun _ _ => rfl)))
      (pss_cons (ps_set (i := 6) sc_Lstep.nd rfl (Or.inl rfl) (pe_call (ok_Lsheets T) (hr.mono (by decide)) rfl T.Lsheets.mgf T.Lsheets.kp T.Lsheets.bi .nil pass0 (pa_cons (pv 1) pa_nil)))
      (pss_cut (ps_set (i := 7) sc_Lstep.nd rfl (Or.inl rfl) (pe_ix ix_list (pe_lst (pa_cons pe_int (pa_cons (pe_un un_neg pe_int) (pa_cons (pe_op op_add (pe_op op_pow pe_int pe_int) pe_int) (pa_cons pe_bl (pa_cons pe_non (pa_cons pe_str (pa_cons (pe_lst (pa_cons pe_int pa_nil)) pa_nil)))))))) (pe_op op_mod (pe_op op_fdiv (pv 4) pe_int) pe_int) (fun _ _ => rfl)))
      (pss_cons (ps_set (i := 8) sc_Lstep.nd rfl (Or.inl rfl) (pe_lst (pa_cons pe_bl (pa_cons pe_bl (pa_cons pe_bl (pa_cons pe_bl (pa_cons pe_bl (pa_cons pe_bl pa_nil))))))))
      (pss_cons (ps_set (i := 9) sc_Lstep.nd rfl (Or.inl rfl) (pe_call (ok_Lwithout T) (hr.mono (by decide)) rfl T.Lwithout.mgf T.Lwithout.kp T.Lwithout.bi .nil pass0 (pa_cons (pv 1) (pa_cons (pv 5) pa_nil))))
      (pss_cons (ps_set (i := 10) sc_Lstep.nd rfl (Or.inl rfl) (pe_call (ok_Lpath T) (hr.mono (by decide)) rfl T.Lpath.mgf T.Lpath.kp T.Lpath.bi .nil pass0 (pa_cons (pv 9) (pa_cons (pe_op op_mod (pe_op op_mul (pv 4) pe_int) pe_int) pa_nil))))
      (pss_cons (ps_set (i := 11) sc_Lstep.nd rfl (Or.inl rfl) (pe_op op_mod (pv 2) pe_int))
      (pss_cut (ps_if (PW.pt (pw_and (pt_cmpR op_eq (pv 11) pe_int (nomark _)) (pw_and1 (pt_cmpR op_eq (pe_op op_mod (pe_op op_fdiv (pv 4) pe_int) pe_int) pe_int (nomark _)))))
        (pss_cons (ps_set (i := 12) sc_Lstep.nd rfl (Or.inl rfl) (pe_ix ix_list (pe_lst (pa_cons (pv 10) (pa_cons pe_non pa_nil))) (pe_op op_mod (pv 4) pe_int) (fun _ _ => rfl)))
      (pss_cons (ps_if (PW.pt (pw_or (pt_cmpR (op_neD (hu62 hr)) (pe_call (ok_Lasked T) (hr.mono (by decide)) rfl T.Lasked.mgf T.Lasked.kp T.Lasked.bi .nil pass0 (pa_cons (pv 0) (pa_cons pe_str (pa_cons (pv 7) (pa_cons pe_non pa_nil))))) (pv 8) (nomark _)) (pw_or1 (pt_cmpR (op_neD (hu62 hr)) (pe_call (ok_Lasked T) (hr.mono (by decide)) rfl T.Lasked.mgf T.Lasked.kp T.Lasked.bi .nil pass0 (pa_cons (pv 0) (pa_cons pe_str (pa_cons (pv 7) (pa_cons (pv 12) pa_nil))))) (pv 8) (nomark _)))))
        (pss_one (ps_ret pe_non))
        pss_nil)
      (pss_one (ps_ret (pv 1)))))
        pss_nil)
      (pss_cons (ps_if (pt_cmpR op_eq (pv 11) pe_int (nomark _))
        (pss_cut (ps_if (PW.pt (pw_and (pt_cmpR (op_neD (hu62 hr)) (pv 6) (pe_lst pa_nil) (nomark _)) (pw_and1 (pt_cmpR op_gt (pe_op op_mod (pv 4) pe_int) pe_int (nomark _)))))
        (pss_one (ps_set (i := 5) sc_Lstep.nd rfl (Or.inl rfl) (pe_ix ix_list (pv 6) (pe_op op_mod (pe_op op_fdiv (pv 4) pe_int) (pe_callB call_len_seq rfl T.no_len bt_len (pa_cons (pv 6) pa_nil))) (fun _ _ => rfl))))
        pss_nil)
      (pss_cons (ps_if (pt_cmpR op_notIn_seq (pv 5) (pv 6) (by with_unfolding_all rfl))
        (pss_cons (ps_if (pt_cmpR (op_neD (hu62 hr)) (pe_call (ok_Lasked T) (hr.mono (by decide)) rfl T.Lasked.mgf T.Lasked.kp T.Lasked.bi .nil pass0 (pa_cons (pv 0) (pa_cons pe_str (pa_cons (pv 5) (pa_cons pe_non pa_nil))))) (pv 8) (nomark _))
        (pss_one (ps_ret pe_non))
        pss_nil)
      (pss_one (ps_ret (pv 1))))
        pss_nil)
      (pss_cons (ps_if (pt_cmpR (op_neD (hu62 hr)) (pe_call (ok_Lasked T) (hr.mono (by decide)) rfl T.Lasked.mgf T.Lasked.kp T.Lasked.bi .nil pass0 (pa_cons (pv 0) (pa_cons pe_str (pa_cons (pv 5) (pa_cons pe_non pa_nil))))) (pe_lst pa_nil) (nomark _))
        (pss_one (ps_ret pe_non))
        pss_nil)
      (pss_one (ps_ret (pe_call (ok_Lwithout T) (hr.mono (by decide)) rfl T.Lwithout.mgf T.Lwithout.kp T.Lwithout.bi .nil pass0 (pa_cons (pv 1) (pa_cons (pv 5) pa_nil))))))))
        pss_nil)
      (pss_cut (ps_if (PW.pt (pw_and (pt_cmpR op_eq (pv 11) pe_int (nomark _)) (pw_and1 (pt_cmpR op_eq (pe_op op_mod (pe_op op_fdiv (pv 4) pe_int) pe_int) pe_int (nomark _)))))
        (pss_cons (ps_set (i := 13) sc_Lstep.nd rfl (Or.inl rfl) (pe_call (ok_Lbad_path T) (hr.mono (by decide)) rfl T.Lbad_path.mgf T.Lbad_path.kp T.Lbad_path.bi .nil pass0 (pa_cons (pv 9) (pa_cons (pv 10) (pa_cons (pe_op op_fdiv (pv 4) pe_int) pa_nil)))))
      (pss_cons (ps_if (pt_cmpR (op_neD (hu62 hr)) (pe_call (ok_Lasked T) (hr.mono (by decide)) rfl T.Lasked.mgf T.Lasked.kp T.Lasked.bi .nil pass0 (pa_cons (pv 0) (pa_cons pe_str (pa_cons (pv 5) (pa_cons (pv 13) pa_nil))))) (pe_lst (pa_cons pe_bl (pa_cons pe_bl (pa_cons pe_bl (pa_cons pe_bl (pa_cons pe_bl (pa_cons pe_bl pa_nil))))))) (nomark _))
        (pss_one (ps_ret pe_non))
        pss_nil)
      (pss_one (ps_ret (pv 1)))))
        pss_nil)
      (pss_cons (ps_if (pt_cmpR (op_neD (hu62 hr)) (pe_call (ok_Lasked T) (hr.mono (by decide)) rfl T.Lasked.mgf T.Lasked.kp T.Lasked.bi .nil pass0 (pa_cons (pv 0) (pa_cons pe_str (pa_cons (pv 5) (pa_cons (pv 10) pa_nil))))) (pe_lst pa_nil) (nomark _))
        (pss_one (ps_ret pe_non))
        pss_nil)
      (pss_one (ps_ret (pe_call (ok_Llaid T) (hr.mono (by decide)) rfl T.Llaid.mgf T.Llaid.kp T.Llaid.bi .nil pass0 (pa_cons (pv 9) (pa_cons (pv 5) (pa_cons (pv 10) pa_nil)))))))))))))))))), ?_⟩
    have sz : 2000 < sizeLine := le_ble rfl
    have e9 : (10 : Int) ^ Int.toNat 9 = 1000000000 := by decide
    refine ⟨_, rfl, _, rfl, ce, kk, rfl, k0, k1, fun m m0 m1 => ?_⟩
    refine ⟨fun σ G => Same H G ∧ ∃ sh : Int, inR 1000000000 (.int sh) = true ∧ σ = [some (.ref a), some (v), some (.int ce), some (.int kk), some (.int m), some (.int sh), none, none, none, none, none, none, none, none], ?_, ?_⟩
    · walk_at "rd"
      refine ⟨le_ble rfl, fun lo hlo => ?_⟩
      walk_at "rd"
      refine .inr ⟨_, rfl, ?_⟩
      obtain ⟨pv, hpv, hm⟩ := atI_in (xs := [V.int (1 + m % 12), V.int (1 + m * 69621 % 2147483647 % (10 : Int) ^ Int.toNat 9)]) (i := if decide (V.int (m / 12 % 9) = V.int 0) = true then 1 else 0) (by split <;> decide) (by show _ < (2 : Int); split <;> decide)
      refine ⟨lo, _, _, pv, rfl, rfl, SqL.of upd_same, hpv, ?_⟩
      have q0 := Int.emod_nonneg m (b := 12) (by decide)
      have q1 := Int.emod_lt_of_pos m (b := 12) (by decide)
      have q2 := Int.emod_nonneg (m * 69621 % 2147483647) (b := 1000000000) (by decide)
      have q3 := Int.emod_lt_of_pos (m * 69621 % 2147483647) (b := 1000000000) (by decide)
      simp only [List.mem_cons, List.not_mem_nil, or_false] at hm
      rcases hm with rfl | rfl
      · exact ⟨Same.new hlo, _, inR_of (by omega) (by omega), rfl⟩
      · exact ⟨Same.new hlo, _, inR_of (by rw [e9]; omega) (by rw [e9]; omega), rfl⟩
    rintro σ G0 ⟨s0, sh, hsh, rfl⟩
    refine ⟨_, rfl, v, S, rfl, hat.same s0, wf.fu, by omega, fun th G1 s1 hth => ?_⟩
    have s01 := s0.trans s1
    clear s0 s1
    refine ⟨fun σ G => Same H G ∧ G th = some (.lst ((flat 4 S).map V.int)) ∧ ∃ x, Own K G x ∧ inR 1000000000 x = false ∧ σ = [some (.ref a), some (v), some (.int ce), some (.int kk), some (.int m), some (.int sh), some (.ref th), some (x), none, none, none, none, none, none], ?_, ?_⟩
    · walk_at "rd"
      refine ⟨le_ble rfl, fun l5 h5 => ⟨le_ble rfl, fun lo hlo => ?_⟩⟩
      have t5 := Same.new (o := HO.lst [V.int 5]) h5
      have o5 := Own.lst (K := K) (upd_same (H := G1) (a := l5) (o := .lst [V.int 5]))
      generalize upd G1 l5 (.lst [V.int 5]) = G2 at t5 o5 hlo ⊢
      walk_at "rd"
      obtain ⟨pv, hpv, hm⟩ := atI_in (xs := [V.int 0, V.int (-5), V.int ((10 : Int) ^ Int.toNat 9 + 1), V.bl true, V.non, V.str (Str.ofString "5"), V.ref l5]) (i := m / 3 % 7) (Int.emod_nonneg _ (by decide)) (by show _ < (7 : Int); exact Int.emod_lt_of_pos _ (by decide))
      refine ⟨lo, _, _, pv, rfl, rfl, SqL.of upd_same, hpv, ?_⟩
      have t6 := Same.new (o := HO.lst [V.int 0, V.int (-5), V.int ((10 : Int) ^ Int.toNat 9 + 1), V.bl true, V.non, V.str (Str.ofString "5"), V.ref l5]) hlo
      have o6 := o5.same t6
      have t7 := t5.trans t6
      generalize upd G2 lo (.lst [V.int 0, V.int (-5), V.int ((10 : Int) ^ Int.toNat 9 + 1), V.bl true, V.non, V.str (Str.ofString "5"), V.ref l5]) = G3 at o6 t7 ⊢
      refine ⟨s01.trans t7, t7 _ _ hth, pv, ?_, ?_, rfl⟩
      · simp only [List.mem_cons, List.not_mem_nil, or_false] at hm
        rcases hm with rfl | rfl | rfl | rfl | rfl | rfl | rfl
        · exact Own.int
        · exact Own.int
        · exact Own.int
        · exact Own.bl
        · exact Own.non
        · exact Own.str
        · exact o6
      · simp only [List.mem_cons, List.not_mem_nil, or_false] at hm
        rcases hm with rfl | rfl | rfl | rfl | rfl | rfl | rfl <;> first | rfl | (rw [e9]; rfl)
    clear hth s01 G1 G0
    rintro σ G0 ⟨s0, hth, x, ox, hx, rfl⟩
    refine ⟨le_ble rfl, fun ns hns => ?_⟩
    have t1 := Same.new (o := HO.lst (kindS true)) hns
    have kn := upd_same (H := G0) (a := ns) (o := .lst (kindS true))
    show tSeq _ _ _ _ (upd G0 ns (.lst (kindS true)))
    have s1 := s0.trans t1
    have hth := t1 _ _ hth
    have ox := ox.same t1
    generalize upd G0 ns (.lst (kindS true)) = G1 at t1 kn s1 hth ox ⊢
    clear t1 s0 hns
    have smS := small_S wf.fu (by omega : (flat 4 S).length ≤ 1000)
    refine ⟨_, rfl, _, rfl, v, sh, S, rfl, hat.same s1, smS, fun lf G2 s2 n2 => ?_⟩
    have s12 := s1.trans s2
    have hth := s2 _ _ hth
    have ox := ox.same s2
    have kn := s2 _ _ kn
    have hlf := n2.r
    clear n2 s1 s2
    walk_at "rd"
    refine ⟨_, _, _, rfl, hlf, (wf.wo sh).fu, fun t q G s3 ht gp => ?_⟩
    have sH := s12.trans s3
    have hth := s3 _ _ hth
    have ox := ox.same s3
    have kn := s3 _ _ kn
    have hlf := hlf.same s3
    clear s12 s3
    have cl := cl.same sH
    have hat := hat.same sH
    have fin : ∀ v' S' H', FrD a G H' → ClP H' c.c_Clerk a S' → AtR H' 4 v' S' → WF S' → (flat 4 S').length ≤ (flat 4 S).length + 1 → Q v' H' := fun v' S' H' f => k v' S' H' (FrD.after sH f)
    clear k
    have stay : ∀ H', Same G H' → Q v H' := fun H' s' => fin v S H' (Same.frd s') (cl.same s') (hat.same s') wf (by omega)
    have plq : ∀ y ∈ q.map V.int, plainV y = true := fun y hy => by
      obtain ⟨i, _, rfl⟩ := List.mem_map.mp hy
      rfl
    have ipq : ∀ H', Same G H' → IsP K H' (.ref t) (some q) := fun H' s' => .inl ⟨t, _, rfl, s' _ _ ht, plq, gp.pathQ.symm⟩
    walk_at "rd"
    refine ⟨fun σ' G' => σ' = [some (.ref a), some (v), some (.int ce), some (.int kk), some (.int m), some (.int sh), some (.ref th), some (x), some (.ref ns), some (lf), some (.ref t), some (.int (ce % 6)), none, none] ∧ G' = G, ?_, ?_⟩
    · walk_at "rd"
      refine ite2 (fun _ => ?_) (fun _ => ⟨rfl, rfl⟩)
      walk_at "rd"
      refine ite2 (fun _ => ?_) (fun _ => ⟨rfl, rfl⟩)
      refine ⟨_, rfl, le_ble rfl, fun lo hlo => ?_⟩
      have t1 := Same.new (o := HO.lst [V.ref t, V.non]) hlo
      walk_at "rd"
      obtain ⟨pv, hpv, hm⟩ := atI_in (xs := [V.ref t, V.non]) (i := m % 2) (Int.emod_nonneg _ (by decide)) (by show _ < (2 : Int); exact Int.emod_lt_of_pos _ (by decide))
      refine ⟨lo, _, _, pv, rfl, rfl, SqL.of upd_same, hpv, ?_⟩
      generalize upd G lo (.lst [V.ref t, V.non]) = G1 at t1 ⊢
      have ip : ∀ H', Same G1 H' → ∃ op, IsP K H' pv op := fun H' s' => by
        simp only [List.mem_cons, List.not_mem_nil, or_false] at hm
        rcases hm with rfl | rfl
        · exact ⟨_, ipq H' (t1.trans s')⟩
        · exact ⟨none, .inr ⟨rfl, .inl rfl⟩⟩
      refine ⟨_, rfl, _, rfl, a, _, x, .non, none, S, resTake S x, rfl, cl.same t1, wf, by omega, ox.same t1, .inr ⟨rfl, .inl rfl⟩, .inl ⟨rfl, rfl⟩, fun U e => absurd ((resTake_out wf hx).symm.trans e) (by intro z; cases z), fun b e q1 G2 s2 h2 => ?_⟩
      have e := (resTake_out wf hx).symm.trans e
      cases e
      have t2 := t1.trans s2
      refine ⟨_, rfl, 0, true, by decide, sameK h2 (t2 _ _ kn) (kindS_flat true), _, rfl, iteF ?_⟩
      obtain ⟨op, ip2⟩ := ip G2 s2
      refine ⟨_, rfl, _, rfl, _, rfl, a, _, x, pv, op, S, resLay S op x, rfl, cl.same t2, wf, by omega, ox.same t2, ip2, .inr ⟨rfl, rfl⟩, fun U e => absurd ((resLay_out hx).symm.trans e) (by intro z; cases z), fun b e q2 G3 s3 h3 => ?_⟩
      have e := (resLay_out hx).symm.trans e
      cases e
      have t3 := t2.trans s3
      exact ⟨_, rfl, 0, true, by decide, sameK h3 (t3 _ _ kn) (kindS_flat true), _, rfl, iteF ⟨_, rfl, stay _ t3⟩⟩
    rintro σ' G' ⟨rfl, rfl⟩
    walk_at "rd"
    refine ite2 (fun _ => ?_) (fun _ => ?_)
    · refine ⟨fun σ' G1 => Same G' G1 ∧ ∃ sh : Int, inR 1000000000 (.int sh) = true ∧ σ' = [some (.ref a), some (v), some (.int ce), some (.int kk), some (.int m), some (.int sh), some (.ref th), some (x), some (.ref ns), some (lf), some (.ref t), some (.int (ce % 6)), none, none], ?_, ?_⟩
      · refine ⟨_, rfl, le_ble rfl, fun e0 he0 => ?_⟩
        have t1 := Same.new (o := HO.lst []) he0
        refine ⟨0, _, by decide, seqNil (SqL.of (t1 _ _ hth)) (SqL.of upd_same), _, rfl, ?_⟩
        generalize upd G' e0 (.lst []) = G1 at t1 ⊢
        refine iteB (fun he => ?_) (fun _ => ⟨t1, sh, hsh, rfl⟩)
        walk_at "rd"
        refine ite2 (fun _ => ?_) (fun _ => ⟨t1, sh, hsh, rfl⟩)
        have fp : 0 < (flat 4 S).length := by
          cases e : flat 4 S with
          | nil => rw [e] at he; exact absurd he (by decide)
          | cons _ _ => exact Nat.succ_pos _
        have lf' : ((flat 4 S).map V.int).length = (flat 4 S).length := List.length_map ..
        walk_at "rd"
        refine ⟨th, _, rfl, .inl (SqL.of (t1 _ _ hth)), _, _, rfl, rfl, by omega, ?_⟩
        obtain ⟨y, hy, hmy⟩ := atI_in (xs := (flat 4 S).map V.int) (i := m / 5 % (((flat 4 S).map V.int).length : Int)) (Int.emod_nonneg _ (by omega)) (Int.emod_lt_of_pos _ (by omega))
        obtain ⟨y', hm', rfl⟩ := List.mem_map.mp hmy
        exact ⟨th, _, _, _, rfl, rfl, SqL.of (t1 _ _ hth), hy, t1, y', wf.inn y' hm', rfl⟩
      rintro σ' G1 ⟨t1, s2, hs2, rfl⟩
      refine ⟨_, rfl, _, rfl, th, _, rfl, .inl (SqL.of (t1 _ _ hth)), rfl, flatI _, _, rfl, ?_⟩
      rw [inV_ints]
      refine ite2 (fun z => ?_) (fun z => ?_)
      · have z : s2 ∉ flat 4 S := fun y => by rw [decide_eq_true y] at z; exact absurd z (by decide)
        refine ⟨_, rfl, _, rfl, a, _, .int s2, .non, none, S, resTake S (.int s2), rfl, cl.same t1, wf, by omega, Own.int, .inr ⟨rfl, .inl rfl⟩, .inl ⟨rfl, rfl⟩, fun U e => absurd ((resTake_not z).symm.trans e) (by intro z; cases z), fun b e q1 G2 s3 h2 => ?_⟩
        have e := (resTake_not z).symm.trans e
        cases e
        have t2 := t1.trans s3
        exact ⟨_, rfl, 0, true, by decide, sameK h2 (t2 _ _ kn) (kindS_flat true), _, rfl, iteF ⟨_, rfl, stay _ t2⟩⟩
      · have z : s2 ∈ flat 4 S := Decidable.of_not_not (fun y => z (by rw [decide_eq_false y]; rfl))
        refine ⟨_, rfl, _, rfl, a, _, .int s2, .non, none, S, resTake S (.int s2), rfl, cl.same t1, wf, by omega, Own.int, .inr ⟨rfl, .inl rfl⟩, .inl ⟨rfl, rfl⟩, fun U e q1 G2 f2 c2 h2 => ?_, fun b e => absurd ((resTake_in z).symm.trans e) (by intro z; cases z)⟩
        have e := (resTake_in z).symm.trans e
        cases e
        refine ⟨le_ble rfl, fun e1 he1 => ?_⟩
        have t3 := Same.new (o := HO.lst []) he1
        refine ⟨0, true, by decide, seqNil (SqL.of (t3 _ _ h2)) (SqL.of upd_same), _, rfl, iteF ?_⟩
        have a2 := ((cl.same t1).tree f2 (hat.same t1)).same t3
        have c3 := c2.same t3
        generalize upd G2 e1 (.lst []) = G3 at t3 a2 c3 ⊢
        refine ⟨_, rfl, _, rfl, v, s2, S, rfl, a2, smS, fun w G4 s4 n4 => fin w _ G4 ?_ (c3.same s4) n4.r (wf.wo s2) (by have := wo_len S s2; omega)⟩
        exact fun b u nb hb => s4 _ _ (t3 _ _ (f2 b u nb (t1 _ _ hb)))
    refine ⟨fun σ' G1 => σ' = [some (.ref a), some (v), some (.int ce), some (.int kk), some (.int m), some (.int sh), some (.ref th), some (x), some (.ref ns), some (lf), some (.ref t), some (.int (ce % 6)), none, none] ∧ G1 = G', ?_, ?_⟩
    · walk_at "rd"
      refine ite2 (fun _ => ?_) (fun _ => ⟨rfl, rfl⟩)
      walk_at "rd"
      refine ite2 (fun _ => ?_) (fun _ => ⟨rfl, rfl⟩)
      have wl := wo_len S sh
      walk_at "rd"
      refine ⟨lf, t, q, _, _, rfl, hlf, (wf.wo sh).fu, by omega, ht, gp, fun p op G1 t1 ip bad => ?_⟩
      have hr : resLay S op (.int sh) = .inr false := by rw [resLay_in hsh, bad]
      refine ⟨_, rfl, _, rfl, _, rfl, a, _, .int sh, p, op, S, resLay S op (.int sh), rfl, cl.same t1, wf, by omega, Own.int, ip, .inr ⟨rfl, rfl⟩, fun U e => absurd (hr.symm.trans e) (by intro z; cases z), fun b e q1 G2 s2 h2 => ?_⟩
      have e := hr.symm.trans e
      cases e
      have t2 := t1.trans s2
      refine ⟨le_ble rfl, fun e1 he1 => ?_⟩
      have t3 := Same.new (o := HO.lst (kindS false)) he1
      exact ⟨0, true, by decide, sameK (t3 _ _ h2) upd_same (kindS_flat false), _, rfl, iteF ⟨_, rfl, stay _ (t2.trans t3)⟩⟩
    rintro σ' G1 ⟨rfl, rfl⟩
    obtain ⟨U', hU⟩ := gp.lay sh
    have hr : resLay S (some q) (.int sh) = .inl U' := by
      rw [resLay_in hsh]
      show (match lay 2 (wo 3 sh S) sh q with | some U => Sum.inl U | none => Sum.inr false) = _
      rw [hU]
    obtain ⟨wU, lU⟩ := lay_wf (ipq G1 (Same.refl _)) wf hsh hU
    refine ⟨_, rfl, _, rfl, _, rfl, a, _, .int sh, .ref t, some q, S, resLay S (some q) (.int sh), rfl, cl, wf, by omega, Own.int, ipq _ (Same.refl _), .inr ⟨rfl, rfl⟩, fun U e q1 G2 f2 c2 h2 => ?_, fun b e => absurd (hr.symm.trans e) (by intro z; cases z)⟩
    have e := hr.symm.trans e
    cases e
    refine ⟨le_ble rfl, fun e1 he1 => ?_⟩
    have t3 := Same.new (o := HO.lst []) he1
    refine ⟨0, true, by decide, seqNil (SqL.of (t3 _ _ h2)) (SqL.of upd_same), _, rfl, iteF ?_⟩
    have a2 := (cl.tree f2 hlf).same t3
    have c3 := c2.same t3
    obtain ⟨_, _, _, _, _, ca, _⟩ := cl
    have ht2 := t3 _ _ (f2 _ _ (ne_of ht ca (by intro z; cases z)) ht)
    generalize upd G2 e1 (.lst []) = G3 at t3 a2 c3 ht2 ⊢
    have wl := wo_len S sh
    refine ⟨_, rfl, _, rfl, _, rfl, lf, sh, t, q, _, rfl, a2, (wf.wo sh).fu, by omega, ht2, gp, fun U2 e2 w G4 s4 n4 => ?_⟩
    rw [hU] at e2
    cases e2
    exact fin w _ G4 (fun b u nb hb => s4 _ _ (t3 _ _ (f2 b u nb hb))) (c3.same s4) n4 wU (by omega)
set_option maxHeartbeats 4000000 in
theorem ok_law (T : Txt w K mg c) : FnOk P w K mg base CX0 14 c.a_law c.d_law ["_law_script"] (spLaw K) := by
  refine T.law.fn.ok sc_law (fun vs H Q E h => ?_) (fun cdv A outer s H vs Q E hr h => ?_)
  · obtain ⟨a, ns, rfl, _⟩ := h
    rfl
  · obtain ⟨a, ns, rfl, hS, hn, k⟩ := h
    refine ⟨_, (pss_cons (ps_set (i := 1) sc_law.nd rfl (Or.inl rfl) (pe_make0 T.mk_Clerk (ok_Clerk_init T) (hr.mono (by decide)) rfl T.mg_Clerk T.bi_Clerk_init .nil pass0))
      (pss_cons (ps_set (i := 2) sc_law.nd rfl (Or.inl rfl) (pe_lst pa_nil))
      (pss_cut (ps_for PassesOwn.never rfl (pi_range2 rfl T.no_range (pa_cons pe_int (pa_cons (pe_callB (call_min2 rfl) rfl T.no_min bt_min (pa_cons (pe_callB call_len_seq rfl T.no_len bt_len (pa_cons (pv 0) pa_nil)) (pa_cons pe_int pa_nil))) pa_nil))) (pg_name (i := 3) sc_law.nd rfl (Or.inl rfl))
        (pss_cons (ps_set (i := 2) sc_law.nd rfl (Or.inl rfl) (pe_call (ok_Lstep T) (hr.mono (by decide)) rfl T.Lstep.mgf T.Lstep.kp T.Lstep.bi .nil pass0 (pa_cons (pv 1) (pa_cons (pv 2) (pa_cons (pe_ix ix_list (pv 0) (pv 3) (fun _ _ => rfl)) (pa_cons (pv 3) pa_nil))))))
      (pss_one (ps_if (PW.pt (pw_or (pt_cmp (pc_isN (pv 2))) (pw_or1 (pt_cmpR (op_neD (hu62 hr)) (pe_methS0 (pv 1) T.cl_Clerk T.m_Clerk_sorting (ok_Clerk_sorting T) (hr.mono (by decide)) T.bi_Clerk_sorting .nil passE0) (pv 2) (nomark _)))))
        (pss_one (ps_ret pe_bl))
        pss_nil))))
      (pss_cons (ps_set (i := 4) sc_law.nd rfl (Or.inl rfl) (pe_methS0 (pv 1) T.cl_Clerk T.m_Clerk_sorting (ok_Clerk_sorting T) (hr.mono (by decide)) T.bi_Clerk_sorting .nil passE0))
      (pss_cons (ps_for PassesOwn.never rfl (pi_list (pv 4)) (pg_name (i := 5) sc_law.nd rfl (Or.inl rfl))
        (pss_cons (ps_expr (pe_bm PySem.F.plainAttrs_list PySem.F.slot_list_append PySem.F.type_list_append (MtM.r mt_append) (pe_ix ix_list (pe_ix ix_list (pv 5) pe_int (fun _ _ => rfl)) pe_int (fun _ _ => rfl)) (pa_cons pe_int pa_nil)))
      (pss_one (ps_expr (pe_bm PySem.F.plainAttrs_list PySem.F.slot_list_append PySem.F.type_list_append (MtM.r mt_append) (pv 5) (pa_cons (pe_lst pa_nil) pa_nil))))))
      (pss_cons (ps_expr (pe_bm PySem.F.plainAttrs_list PySem.F.slot_list_append PySem.F.type_list_append (MtM.r mt_append) (pv 4) (pa_cons (pe_lst pa_nil) pa_nil)))
      (pss_one (ps_ret (pe_and (pe_cmpR (op_eqD (hu62 hr)) (pe_methS0 (pv 1) T.cl_Clerk T.m_Clerk_sorting (ok_Clerk_sorting T) (hr.mono (by decide)) T.bi_Clerk_sorting .nil passE0) (pv 2) (nomark _)) (pe_and (pe_cmpR (op_eqD (hu62 hr)) (pe_meth0 (pv 1) T.cl_Clerk T.m_Clerk_book (ok_Clerk_book T) (hr.mono (by decide)) T.bi_Clerk_book .nil pass0) (pe_lst pa_nil) (nomark _)) (pe_one (pe_cmpR (op_eqD (hu62 hr)) (pe_meth0 (pv 1) T.cl_Clerk T.m_Clerk_acts (ok_Clerk_acts T) (hr.mono (by decide)) T.bi_Clerk_acts .nil pass0) (pe_lst pa_nil) (nomark _))))))))))))), ?_⟩
    have sz : 2000 < sizeLine := le_ble rfl
    refine fun x dx hx hdx ndx => ⟨x, dx, rfl, upd_same, fun G1 f1 cl1 => ⟨rfl, ?_⟩⟩
    have s1 : Same H G1 := fun b u hb => f1 b u (ne_of_none hb hx) (by rw [upd_ne (ne_of_none hb hx), upd_ne (ne_of_none hb hdx)]; exact hb)
    clear f1
    refine ⟨le_ble rfl, fun l hl => ?_⟩
    have t1 := Same.new (o := HO.lst []) hl
    have cl2 := cl1.same t1
    have at2 : AtR (upd G1 l (.lst [])) 4 (.ref l) ([] : List (Tr 3)) := ⟨l, [], rfl, upd_same, rfl, fun j w t h => by rw [List.getElem?_nil] at h; cases h⟩
    have s2 := s1.trans t1
    generalize upd G1 l (.lst []) = G2 at t1 cl2 at2 s2 ⊢
    have nxt : ∀ {G G' : Hp}, Same H G → FrD x G G' → Same H G' := fun sG f b u hb => f b u (ne_of_none hb hx) (sG b u hb)
    have lm : (ns.map V.int).length = ns.length := List.length_map ..
    refine ⟨fun σ G => Same H G ∧ ∃ v z3, ∃ S : Tr 4, σ = [some (.ref a), some (.ref x), some v, z3, none, none] ∧ ClP G c.c_Clerk x S ∧ AtR G 4 v S ∧ WF S ∧ (flat 4 S).length < 64, ?_, ?_⟩
    · walk_at "rd"
      refine ⟨a, _, rfl, .inl (s2.seq hS), ?_⟩
      walk_at "rd"
      have hm2 : (if (84 : Int) < ((ns.map V.int).length : Int) then (84 : Int) else ((ns.map V.int).length : Int)) = ns.length := by
        rw [lm]
        split <;> omega
      generalize (if (84 : Int) < ((ns.map V.int).length : Int) then (84 : Int) else ((ns.map V.int).length : Int)) = hi at hm2 ⊢
      subst hm2
      refine ⟨⟨by omega, by omega, by omega, by omega⟩, ?_⟩
      refine for_range (lo := 1) (fun i σ G => Same H G ∧ ∃ v z3, ∃ S : Tr 4, σ = [some (.ref a), some (.ref x), some v, z3, none, none] ∧ ClP G c.c_Clerk x S ∧ AtR G 4 v S ∧ WF S ∧ (flat 4 S).length ≤ i) ⟨s2, .ref l, _, [], rfl, cl2, at2, WF.nil, Nat.le_refl _⟩ ?_ ?_
      · rintro i σ G hi ⟨sG, v, z3, S, rfl, cl, hat, wf, hz⟩
        obtain ⟨v1, hv1, hm1⟩ := atI_in (xs := ns.map V.int) (i := 1 + (i : Int)) (by omega) (by omega)
        obtain ⟨c1, _, rfl⟩ := List.mem_map.mp hm1
        refine ⟨_, rfl, _, rfl, _, rfl, _, rfl, a, _, _, _, rfl, rfl, sG.seq hS, hv1, _, rfl, ?_⟩
        refine ⟨x, v, c1, 1 + (i : Int), S, rfl, by omega, by omega, cl, hat, wf, by omega, fun v' S' G' f' cl' at' wf' hz' => ?_⟩
        have sG' := nxt sG f'
        obtain ⟨va, vvs, rfl, hV, _⟩ := at'.lst
        obtain ⟨cdx, e0, rr, d0, pl, ca, _⟩ := id cl'
        refine ⟨_, rfl, _, rfl, iteF ?_⟩
        refine ⟨_, rfl, x, cdx, _, rfl, ca, rfl, x, S', rfl, cl', wf', by omega, fun w G3 s3 n3 => ?_⟩
        exact ⟨_, rfl, 3, true, by decide, AtR.seq n3.r (at'.same s3), _, rfl, iteF ⟨sG'.trans s3, _, _, S', rfl, cl'.same s3, at'.same s3, wf', by omega⟩⟩
      · rintro σ G ⟨sG, v, z3, S, rfl, cl, hat, wf, hz⟩
        exact ⟨sG, v, z3, S, rfl, cl, hat, wf, by omega⟩
    rintro σ G ⟨sG, v, z3, S, rfl, cl, hat, wf, hz⟩
    obtain ⟨cdx, e0, rr, d0, pl, ca, _⟩ := id cl
    refine ⟨_, rfl, x, cdx, _, rfl, ca, rfl, x, S, rfl, cl, wf, by omega, fun w G3 s3 n3 => ?_⟩
    have smS := small_S wf.fu (by omega : (flat 4 S).length ≤ 1000)
    obtain ⟨o, at3, dm⟩ := n3
    obtain ⟨fa, fs, rfl, of, hF, flen⟩ := at3.lst
    have lz : fs.length ≤ 1000 := by rw [flen]; exact smS.1
    refine ⟨_, rfl, fa, rfl, ⟨_, SqL.of hF⟩, ?_⟩
    refine for_list (xs := fs) (fun i σ G' => Jg o G3 i G' ∧ ∃ z5, σ = [some (.ref a), some (.ref x), some v, z3, some (.ref fa), z5]) ⟨⟨fun b u _ h => h, fun b p u _ _ h => h⟩, _, rfl⟩ ?_ ?_ ?_
    · rintro i σ G' _ ⟨jg, _⟩
      exact SqL.of (jg.own fa [] _ of (fun r j e => by have := congrArg List.length e; rw [List.length_append] at this; simp at this) hF)
    · rintro i y σ G' hy ⟨jg, z5, rfl⟩
      have hi : i < fs.length := (List.getElem?_eq_some_iff.mp hy).1
      obtain ⟨y', g, e1, eg, kg⟩ := at3.kid hF hi
      rw [hy] at e1
      cases e1
      obtain ⟨ga, gs, rfl, og, hG, glen⟩ := kg.lst
      have fg := wf.fu g (List.mem_of_getElem? eg)
      have smg := smS.2 g (List.mem_of_getElem? eg)
      have lg : gs.length ≤ 1000 := by rw [glen]; exact smg.1
      have gp : 0 < gs.length := by rw [glen]; exact List.length_pos_iff.mpr fg.1
      obtain ⟨w1, d, ew1, ed, kd⟩ := kg.kid hG (j := 0) gp
      obtain ⟨da, ds, rfl, od, hD, dlen⟩ := kd.lst
      have fd := fg.2 d (List.mem_of_getElem? ed)
      have smd := smg.2 d (List.mem_of_getElem? ed)
      have dp : 0 < ds.length := by rw [dlen]; exact List.length_pos_iff.mpr fd.1
      obtain ⟨w2, f, ew2, ef, kf⟩ := kd.kid hD (j := 0) dp
      obtain ⟨la, lls, rfl, ol, hL, llen⟩ := kf.lst
      have ll : lls.length ≤ 1000 := by rw [llen]; exact (smd.2 f (List.mem_of_getElem? ef)).1
      have own : ∀ b r u, o b = some (r ++ [i]) → G3 b = some u → G' b = some u := fun b r u hb hu => jg.own b _ u hb (fun r' j e => by
        have e2 := List.append_inj_right' e rfl
        cases e2
        exact Nat.le_refl _) hu
      have hG' := own ga [] _ og hG
      have hD' := own da [0] _ od hD
      have hL' := own la [0, 0] _ ol hL
      refine ⟨_, rfl, ga, _, _, _, rfl, rfl, SqL.of hG', atI_nat (j := 0) ew1, da, _, _, _, rfl, rfl, SqL.of hD', atI_nat (j := 0) ew2, .inl ⟨rfl, _, SqL.of hL'⟩, la, _, _, rfl, rfl, hL', by omega, ?_⟩
      have nlg : ga ≠ la := fun z => by
        rw [z, ol] at og
        cases og
      have hG2 : upd G' la (.lst (lls ++ [.int 0])) ga = some (.lst gs) := by rw [upd_ne nlg]; exact hG'
      refine ⟨_, rfl, .inl ⟨rfl, _, SqL.of hG2⟩, le_ble rfl, fun e1 he1 => ?_⟩
      have t3 := Same.new (o := HO.lst []) he1
      refine ⟨ga, _, _, rfl, rfl, t3 _ _ hG2, by omega, ?_, _, rfl⟩
      refine jg.step fun b u hr hu hb => ?_
      have n1 : b ≠ ga := fun z => hr [] (by rw [z]; exact og)
      have n2 : b ≠ la := fun z => hr [0, 0] (by rw [z]; exact ol)
      rw [upd_ne n1]
      refine t3 _ _ ?_
      rw [upd_ne n2]
      exact hb
    rintro σ G4 ⟨jg, z5, rfl⟩
    have hF4 := jg.own fa [] _ of (fun r j e => by have := congrArg List.length e; rw [List.length_append] at this; simp at this) hF
    refine ⟨_, rfl, .inl ⟨rfl, _, SqL.of hF4⟩, le_ble rfl, fun e1 he1 => ?_⟩
    have t4 := Same.new (o := HO.lst []) he1
    refine ⟨fa, _, _, rfl, rfl, t4 _ _ hF4, by omega, ?_⟩
    have s5 : Same G (upd (upd G4 e1 (.lst [])) fa (.lst (fs ++ [.ref e1]))) := fun b u hb => by
      have ob : o b = none := by
        cases e : o b with
        | none => rfl
        | some r => rw [(dm b r e).1] at hb; cases hb
      rw [upd_ne (fun z => by rw [z, of] at ob; cases ob)]
      exact t4 _ _ (jg.out b u ob (s3 b u hb))
    generalize upd (upd G4 e1 (.lst [])) fa (.lst (fs ++ [.ref e1])) = G5 at s5 ⊢
    have cl5 := cl.same s5
    have at5 := hat.same s5
    refine ⟨_, rfl, x, cdx, _, rfl, s5 _ _ ca, rfl, x, S, rfl, cl5, wf, by omega, fun w G6 s6 n6 => ?_⟩
    refine ⟨_, rfl, 3, true, by decide, AtR.seq n6.r (at5.same s6), _, rfl, iteT ?_⟩
    have s7 := s5.trans s6
    refine ⟨_, rfl, x, cdx, _, rfl, s7 _ _ ca, rfl, x, S, rfl, cl.same s7, fun q1 G7 s8 h7 => ?_⟩
    refine ⟨le_ble rfl, fun e2 he2 => ?_⟩
    have t7 := Same.new (o := HO.lst []) he2
    refine ⟨0, true, by decide, seqNil (SqL.of (t7 _ _ h7)) (SqL.of upd_same), _, rfl, iteT ?_⟩
    have s9 := s7.trans (s8.trans t7)
    refine ⟨_, rfl, x, cdx, _, rfl, s9 _ _ ca, rfl, x, S, rfl, cl.same s9, fun q2 G8 s10 h8 => ?_⟩
    refine ⟨le_ble rfl, fun e3 he3 => ?_⟩
    have t8 := Same.new (o := HO.lst []) he3
    exact ⟨0, true, by decide, seqNil (SqL.of (t8 _ _ h8)) (SqL.of upd_same), k _⟩
end
theorem all_mk {l : PySem.W.OpenLaw} {w : World} {K : PySem.W.Frag} {h : Heap} {mg : Str → Option Value} {fa : Addr} (X : K.In h) (G : h.Ns mainGlobals mg) (hfa : mg "law" = some (.ref fa))
    {f0 : Addr} {od0 an0 : Option Addr} {sl0 : Array (Option Value)} {oc0 kV0 dc0 pm0 cd0 ct0 : Value}
    {f1 : Addr} {od1 an1 : Option Addr} {sl1 : Array (Option Value)} {oc1 kV1 dc1 pm1 cd1 ct1 : Value}
    {f2 : Addr} {od2 an2 : Option Addr} {sl2 : Array (Option Value)} {oc2 kV2 dc2 pm2 cd2 ct2 : Value}
    {f3 : Addr} {od3 an3 : Option Addr} {sl3 : Array (Option Value)} {oc3 kV3 dc3 pm3 cd3 ct3 : Value}
    {f4 : Addr} {od4 an4 : Option Addr} {sl4 : Array (Option Value)} {oc4 kV4 dc4 pm4 cd4 ct4 : Value}
    {f5 : Addr} {od5 an5 : Option Addr} {sl5 : Array (Option Value)} {oc5 kV5 dc5 pm5 cd5 ct5 : Value}
    {f6 : Addr} {od6 an6 : Option Addr} {sl6 : Array (Option Value)} {oc6 kV6 dc6 pm6 cd6 ct6 : Value}
    {f7 : Addr} {od7 an7 : Option Addr} {sl7 : Array (Option Value)} {oc7 kV7 dc7 pm7 cd7 ct7 : Value}
    {f8 : Addr} {od8 an8 : Option Addr} {sl8 : Array (Option Value)} {oc8 kV8 dc8 pm8 cd8 ct8 : Value}
    {f9 : Addr} {od9 an9 : Option Addr} {sl9 : Array (Option Value)} {oc9 kV9 dc9 pm9 cd9 ct9 : Value}
    {f10 : Addr} {od10 an10 : Option Addr} {sl10 : Array (Option Value)} {oc10 kV10 dc10 pm10 cd10 ct10 : Value}
    {f11 : Addr} {od11 an11 : Option Addr} {sl11 : Array (Option Value)} {oc11 kV11 dc11 pm11 cd11 ct11 : Value}
    {f12 : Addr} {od12 an12 : Option Addr} {sl12 : Array (Option Value)} {oc12 kV12 dc12 pm12 cd12 ct12 : Value}
    {f13 : Addr} {od13 an13 : Option Addr} {sl13 : Array (Option Value)} {oc13 kV13 dc13 pm13 cd13 ct13 : Value}
    {f14 : Addr} {od14 an14 : Option Addr} {sl14 : Array (Option Value)} {oc14 kV14 dc14 pm14 cd14 ct14 : Value}
    {f15 : Addr} {od15 an15 : Option Addr} {sl15 : Array (Option Value)} {oc15 kV15 dc15 pm15 cd15 ct15 : Value}
    {f16 : Addr} {od16 an16 : Option Addr} {sl16 : Array (Option Value)} {oc16 kV16 dc16 pm16 cd16 ct16 : Value}
    {f17 : Addr} {od17 an17 : Option Addr} {sl17 : Array (Option Value)} {oc17 kV17 dc17 pm17 cd17 ct17 : Value}
    {f18 : Addr} {od18 an18 : Option Addr} {sl18 : Array (Option Value)} {oc18 kV18 dc18 pm18 cd18 ct18 : Value}
    {f19 : Addr} {od19 an19 : Option Addr} {sl19 : Array (Option Value)} {oc19 kV19 dc19 pm19 cd19 ct19 : Value}
    {f20 : Addr} {od20 an20 : Option Addr} {sl20 : Array (Option Value)} {oc20 kV20 dc20 pm20 cd20 ct20 : Value}
    {f21 : Addr} {od21 an21 : Option Addr} {sl21 : Array (Option Value)} {oc21 kV21 dc21 pm21 cd21 ct21 : Value}
    {f22 : Addr} {od22 an22 : Option Addr} {sl22 : Array (Option Value)} {oc22 kV22 dc22 pm22 cd22 ct22 : Value}
    {f23 : Addr} {od23 an23 : Option Addr} {sl23 : Array (Option Value)} {oc23 kV23 dc23 pm23 cd23 ct23 : Value}
    {f24 : Addr} {od24 an24 : Option Addr} {sl24 : Array (Option Value)} {oc24 kV24 dc24 pm24 cd24 ct24 : Value}
    {f25 : Addr} {od25 an25 : Option Addr} {sl25 : Array (Option Value)} {oc25 kV25 dc25 pm25 cd25 ct25 : Value}
    {c_Results : Addr}
    {f_Results_init : Addr} {od_Results_init an_Results_init : Option Addr} {sl_Results_init : Array (Option Value)} {oc_Results_init kV_Results_init dc_Results_init pm_Results_init cd_Results_init ct_Results_init : Value}
    {c_Clerk : Addr}
    {f_Clerk_init : Addr} {od_Clerk_init an_Clerk_init : Option Addr} {sl_Clerk_init : Array (Option Value)} {oc_Clerk_init kV_Clerk_init dc_Clerk_init pm_Clerk_init cd_Clerk_init ct_Clerk_init : Value}
    {f_Clerk_lay : Addr} {od_Clerk_lay an_Clerk_lay : Option Addr} {sl_Clerk_lay : Array (Option Value)} {oc_Clerk_lay kV_Clerk_lay dc_Clerk_lay pm_Clerk_lay cd_Clerk_lay ct_Clerk_lay : Value}
    {f_Clerk_take : Addr} {od_Clerk_take an_Clerk_take : Option Addr} {sl_Clerk_take : Array (Option Value)} {oc_Clerk_take kV_Clerk_take dc_Clerk_take pm_Clerk_take cd_Clerk_take ct_Clerk_take : Value}
    {f_Clerk_book : Addr} {od_Clerk_book an_Clerk_book : Option Addr} {sl_Clerk_book : Array (Option Value)} {oc_Clerk_book kV_Clerk_book dc_Clerk_book pm_Clerk_book cd_Clerk_book ct_Clerk_book : Value}
    {f_Clerk_acts : Addr} {od_Clerk_acts an_Clerk_acts : Option Addr} {sl_Clerk_acts : Array (Option Value)} {oc_Clerk_acts kV_Clerk_acts dc_Clerk_acts pm_Clerk_acts cd_Clerk_acts ct_Clerk_acts : Value}
    {f_Clerk_sorting : Addr} {od_Clerk_sorting an_Clerk_sorting : Option Addr} {sl_Clerk_sorting : Array (Option Value)} {oc_Clerk_sorting kV_Clerk_sorting dc_Clerk_sorting pm_Clerk_sorting cd_Clerk_sorting ct_Clerk_sorting : Value}
    {u_LAST_NUMBER : Value}
    {u_FORM_DEPTH : Value}
    {c_NoSorting : Addr}
    {c_NoSheet : Addr}
    {c_NoPath : Addr}
    {c_RightError : Addr}
    {c_NoEntry : Addr}
    {c_Late : Addr}
    {c_NoAct : Addr}
    {N_NoSorting A_NoSorting : Addr} {nm_NoSorting q_NoSorting : Str} {bs_NoSorting : List Value} {hd_NoSorting : Bool} {sn_NoSorting : List Str} {sub_NoSorting : List Value} {ab_NoSorting : Bool} {col_NoSorting : Option Bool} {dd_NoSorting : Option Addr} {k0_NoSorting k1_NoSorting k2_NoSorting k3_NoSorting k5_NoSorting : Option Value}
    {es_NoSorting : Array DictEntry} {x1_NoSorting : Value} {x2_NoSorting : Option Addr} {x3_NoSorting : Nat} {x4_NoSorting : Array (Option Value)} {y0_NoSorting : Value} {y1_NoSorting : Option Addr} {y2_NoSorting : ClassData} {y3_NoSorting : Array (Option Value)} {et_NoSorting : Array DictEntry} {z1_NoSorting : Value} {z2_NoSorting : Option Addr} {z3_NoSorting : Nat} {z4_NoSorting : Array (Option Value)}
    {N_NoSheet A_NoSheet : Addr} {nm_NoSheet q_NoSheet : Str} {bs_NoSheet : List Value} {hd_NoSheet : Bool} {sn_NoSheet : List Str} {sub_NoSheet : List Value} {ab_NoSheet : Bool} {col_NoSheet : Option Bool} {dd_NoSheet : Option Addr} {k0_NoSheet k1_NoSheet k2_NoSheet k3_NoSheet k5_NoSheet : Option Value}
    {es_NoSheet : Array DictEntry} {x1_NoSheet : Value} {x2_NoSheet : Option Addr} {x3_NoSheet : Nat} {x4_NoSheet : Array (Option Value)} {y0_NoSheet : Value} {y1_NoSheet : Option Addr} {y2_NoSheet : ClassData} {y3_NoSheet : Array (Option Value)} {et_NoSheet : Array DictEntry} {z1_NoSheet : Value} {z2_NoSheet : Option Addr} {z3_NoSheet : Nat} {z4_NoSheet : Array (Option Value)}
    {N_NoPath A_NoPath : Addr} {nm_NoPath q_NoPath : Str} {bs_NoPath : List Value} {hd_NoPath : Bool} {sn_NoPath : List Str} {sub_NoPath : List Value} {ab_NoPath : Bool} {col_NoPath : Option Bool} {dd_NoPath : Option Addr} {k0_NoPath k1_NoPath k2_NoPath k3_NoPath k5_NoPath : Option Value}
    {es_NoPath : Array DictEntry} {x1_NoPath : Value} {x2_NoPath : Option Addr} {x3_NoPath : Nat} {x4_NoPath : Array (Option Value)} {y0_NoPath : Value} {y1_NoPath : Option Addr} {y2_NoPath : ClassData} {y3_NoPath : Array (Option Value)} {et_NoPath : Array DictEntry} {z1_NoPath : Value} {z2_NoPath : Option Addr} {z3_NoPath : Nat} {z4_NoPath : Array (Option Value)}
    (a0 : PySem.W.nsIn K mainGlobals "is_whole" = some (some (.ref f0)))
    (l0 : K.lookup f0 = some ⟨oc0, od0, .func (PySem.W.fnOf "is_whole" "is_whole" (defArgs s_is_whole) (defBody s_is_whole) (defScope s_is_whole) .none kV0 dc0 pm0 an0 cd0 ct0), sl0⟩)
    (c0 : PySem.W.codeIn K cd0 "is_whole" = true)
    (k0 : PySem.W.keepIn K (.ref f0) = true)
    (a1 : PySem.W.nsIn K mainGlobals "is_number" = some (some (.ref f1)))
    (l1 : K.lookup f1 = some ⟨oc1, od1, .func (PySem.W.fnOf "is_number" "is_number" (defArgs s_is_number) (defBody s_is_number) (defScope s_is_number) .none kV1 dc1 pm1 an1 cd1 ct1), sl1⟩)
    (c1 : PySem.W.codeIn K cd1 "is_number" = true)
    (k1 : PySem.W.keepIn K (.ref f1) = true)
    (a2 : PySem.W.nsIn K mainGlobals "sorting_list" = some (some (.ref f2)))
    (l2 : K.lookup f2 = some ⟨oc2, od2, .func (PySem.W.fnOf "sorting_list" "sorting_list" (defArgs s_sorting_list) (defBody s_sorting_list) (defScope s_sorting_list) .none kV2 dc2 pm2 an2 cd2 ct2), sl2⟩)
    (c2 : PySem.W.codeIn K cd2 "sorting_list" = true)
    (k2 : PySem.W.keepIn K (.ref f2) = true)
    (a3 : PySem.W.nsIn K mainGlobals "group_list" = some (some (.ref f3)))
    (l3 : K.lookup f3 = some ⟨oc3, od3, .func (PySem.W.fnOf "group_list" "group_list" (defArgs s_group_list) (defBody s_group_list) (defScope s_group_list) .none kV3 dc3 pm3 an3 cd3 ct3), sl3⟩)
    (c3 : PySem.W.codeIn K cd3 "group_list" = true)
    (k3 : PySem.W.keepIn K (.ref f3) = true)
    (a4 : PySem.W.nsIn K mainGlobals "sheet_list" = some (some (.ref f4)))
    (l4 : K.lookup f4 = some ⟨oc4, od4, .func (PySem.W.fnOf "sheet_list" "sheet_list" (defArgs s_sheet_list) (defBody s_sheet_list) (defScope s_sheet_list) .none kV4 dc4 pm4 an4 cd4 ct4), sl4⟩)
    (c4 : PySem.W.codeIn K cd4 "sheet_list" = true)
    (k4 : PySem.W.keepIn K (.ref f4) = true)
    (a5 : PySem.W.nsIn K mainGlobals "groups" = some (some (.ref f5)))
    (l5 : K.lookup f5 = some ⟨oc5, od5, .func (PySem.W.fnOf "groups" "groups" (defArgs s_groups) (defBody s_groups) (defScope s_groups) .none kV5 dc5 pm5 an5 cd5 ct5), sl5⟩)
    (c5 : PySem.W.codeIn K cd5 "groups" = true)
    (k5 : PySem.W.keepIn K (.ref f5) = true)
    (a6 : PySem.W.nsIn K mainGlobals "groups_in" = some (some (.ref f6)))
    (l6 : K.lookup f6 = some ⟨oc6, od6, .func (PySem.W.fnOf "groups_in" "groups_in" (defArgs s_groups_in) (defBody s_groups_in) (defScope s_groups_in) .none kV6 dc6 pm6 an6 cd6 ct6), sl6⟩)
    (c6 : PySem.W.codeIn K cd6 "groups_in" = true)
    (k6 : PySem.W.keepIn K (.ref f6) = true)
    (a7 : PySem.W.nsIn K mainGlobals "sheets_of" = some (some (.ref f7)))
    (l7 : K.lookup f7 = some ⟨oc7, od7, .func (PySem.W.fnOf "sheets_of" "sheets_of" (defArgs s_sheets_of) (defBody s_sheets_of) (defScope s_sheets_of) .none kV7 dc7 pm7 an7 cd7 ct7), sl7⟩)
    (c7 : PySem.W.codeIn K cd7 "sheets_of" = true)
    (k7 : PySem.W.keepIn K (.ref f7) = true)
    (a8 : PySem.W.nsIn K mainGlobals "refuse_sheet" = some (some (.ref f8)))
    (l8 : K.lookup f8 = some ⟨oc8, od8, .func (PySem.W.fnOf "refuse_sheet" "refuse_sheet" (defArgs s_refuse_sheet) (defBody s_refuse_sheet) (defScope s_refuse_sheet) .none kV8 dc8 pm8 an8 cd8 ct8), sl8⟩)
    (c8 : PySem.W.codeIn K cd8 "refuse_sheet" = true)
    (k8 : PySem.W.keepIn K (.ref f8) = true)
    (a9 : PySem.W.nsIn K mainGlobals "path_of" = some (some (.ref f9)))
    (l9 : K.lookup f9 = some ⟨oc9, od9, .func (PySem.W.fnOf "path_of" "path_of" (defArgs s_path_of) (defBody s_path_of) (defScope s_path_of) .none kV9 dc9 pm9 an9 cd9 ct9), sl9⟩)
    (c9 : PySem.W.codeIn K cd9 "path_of" = true)
    (k9 : PySem.W.keepIn K (.ref f9) = true)
    (a10 : PySem.W.nsIn K mainGlobals "without" = some (some (.ref f10)))
    (l10 : K.lookup f10 = some ⟨oc10, od10, .func (PySem.W.fnOf "without" "without" (defArgs s_without) (defBody s_without) (defScope s_without) .none kV10 dc10 pm10 an10 cd10 ct10), sl10⟩)
    (c10 : PySem.W.codeIn K cd10 "without" = true)
    (k10 : PySem.W.keepIn K (.ref f10) = true)
    (a11 : PySem.W.nsIn K mainGlobals "taken" = some (some (.ref f11)))
    (l11 : K.lookup f11 = some ⟨oc11, od11, .func (PySem.W.fnOf "taken" "taken" (defArgs s_taken) (defBody s_taken) (defScope s_taken) .none kV11 dc11 pm11 an11 cd11 ct11), sl11⟩)
    (c11 : PySem.W.codeIn K cd11 "taken" = true)
    (k11 : PySem.W.keepIn K (.ref f11) = true)
    (a12 : PySem.W.nsIn K mainGlobals "laid" = some (some (.ref f12)))
    (l12 : K.lookup f12 = some ⟨oc12, od12, .func (PySem.W.fnOf "laid" "laid" (defArgs s_laid) (defBody s_laid) (defScope s_laid) .none kV12 dc12 pm12 an12 cd12 ct12), sl12⟩)
    (c12 : PySem.W.codeIn K cd12 "laid" = true)
    (k12 : PySem.W.keepIn K (.ref f12) = true)
    (a13 : PySem.W.nsIn K mainGlobals "is_path" = some (some (.ref f13)))
    (l13 : K.lookup f13 = some ⟨oc13, od13, .func (PySem.W.fnOf "is_path" "is_path" (defArgs s_is_path) (defBody s_is_path) (defScope s_is_path) .none kV13 dc13 pm13 an13 cd13 ct13), sl13⟩)
    (c13 : PySem.W.codeIn K cd13 "is_path" = true)
    (k13 : PySem.W.keepIn K (.ref f13) = true)
    (a14 : PySem.W.nsIn K mainGlobals "put_sheet" = some (some (.ref f14)))
    (l14 : K.lookup f14 = some ⟨oc14, od14, .func (PySem.W.fnOf "put_sheet" "put_sheet" (defArgs s_put_sheet) (defBody s_put_sheet) (defScope s_put_sheet) .none kV14 dc14 pm14 an14 cd14 ct14), sl14⟩)
    (c14 : PySem.W.codeIn K cd14 "put_sheet" = true)
    (k14 : PySem.W.keepIn K (.ref f14) = true)
    (a15 : PySem.W.nsIn K mainGlobals "new_group" = some (some (.ref f15)))
    (l15 : K.lookup f15 = some ⟨oc15, od15, .func (PySem.W.fnOf "new_group" "new_group" (defArgs s_new_group) (defBody s_new_group) (defScope s_new_group) .none kV15 dc15 pm15 an15 cd15 ct15), sl15⟩)
    (c15 : PySem.W.codeIn K cd15 "new_group" = true)
    (k15 : PySem.W.keepIn K (.ref f15) = true)
    (a16 : PySem.W.nsIn K mainGlobals "_law_mixed" = some (some (.ref f16)))
    (l16 : K.lookup f16 = some ⟨oc16, od16, .func (PySem.W.fnOf "_law_mixed" "_law_mixed" (defArgs s_Lmixed) (defBody s_Lmixed) (defScope s_Lmixed) .none kV16 dc16 pm16 an16 cd16 ct16), sl16⟩)
    (c16 : PySem.W.codeIn K cd16 "_law_mixed" = true)
    (k16 : PySem.W.keepIn K (.ref f16) = true)
    (a17 : PySem.W.nsIn K mainGlobals "_law_without" = some (some (.ref f17)))
    (l17 : K.lookup f17 = some ⟨oc17, od17, .func (PySem.W.fnOf "_law_without" "_law_without" (defArgs s_Lwithout) (defBody s_Lwithout) (defScope s_Lwithout) .none kV17 dc17 pm17 an17 cd17 ct17), sl17⟩)
    (c17 : PySem.W.codeIn K cd17 "_law_without" = true)
    (k17 : PySem.W.keepIn K (.ref f17) = true)
    (a18 : PySem.W.nsIn K mainGlobals "_law_path" = some (some (.ref f18)))
    (l18 : K.lookup f18 = some ⟨oc18, od18, .func (PySem.W.fnOf "_law_path" "_law_path" (defArgs s_Lpath) (defBody s_Lpath) (defScope s_Lpath) .none kV18 dc18 pm18 an18 cd18 ct18), sl18⟩)
    (c18 : PySem.W.codeIn K cd18 "_law_path" = true)
    (k18 : PySem.W.keepIn K (.ref f18) = true)
    (a19 : PySem.W.nsIn K mainGlobals "_law_laid" = some (some (.ref f19)))
    (l19 : K.lookup f19 = some ⟨oc19, od19, .func (PySem.W.fnOf "_law_laid" "_law_laid" (defArgs s_Llaid) (defBody s_Llaid) (defScope s_Llaid) .none kV19 dc19 pm19 an19 cd19 ct19), sl19⟩)
    (c19 : PySem.W.codeIn K cd19 "_law_laid" = true)
    (k19 : PySem.W.keepIn K (.ref f19) = true)
    (a20 : PySem.W.nsIn K mainGlobals "_law_sheets" = some (some (.ref f20)))
    (l20 : K.lookup f20 = some ⟨oc20, od20, .func (PySem.W.fnOf "_law_sheets" "_law_sheets" (defArgs s_Lsheets) (defBody s_Lsheets) (defScope s_Lsheets) .none kV20 dc20 pm20 an20 cd20 ct20), sl20⟩)
    (c20 : PySem.W.codeIn K cd20 "_law_sheets" = true)
    (k20 : PySem.W.keepIn K (.ref f20) = true)
    (a21 : PySem.W.nsIn K mainGlobals "_law_kind" = some (some (.ref f21)))
    (l21 : K.lookup f21 = some ⟨oc21, od21, .func (PySem.W.fnOf "_law_kind" "_law_kind" (defArgs s_Lkind) (defBody s_Lkind) (defScope s_Lkind) .none kV21 dc21 pm21 an21 cd21 ct21), sl21⟩)
    (c21 : PySem.W.codeIn K cd21 "_law_kind" = true)
    (k21 : PySem.W.keepIn K (.ref f21) = true)
    (a22 : PySem.W.nsIn K mainGlobals "_law_bad_path" = some (some (.ref f22)))
    (l22 : K.lookup f22 = some ⟨oc22, od22, .func (PySem.W.fnOf "_law_bad_path" "_law_bad_path" (defArgs s_Lbad_path) (defBody s_Lbad_path) (defScope s_Lbad_path) .none kV22 dc22 pm22 an22 cd22 ct22), sl22⟩)
    (c22 : PySem.W.codeIn K cd22 "_law_bad_path" = true)
    (k22 : PySem.W.keepIn K (.ref f22) = true)
    (a23 : PySem.W.nsIn K mainGlobals "_law_asked" = some (some (.ref f23)))
    (l23 : K.lookup f23 = some ⟨oc23, od23, .func (PySem.W.fnOf "_law_asked" "_law_asked" (defArgs s_Lasked) (defBody s_Lasked) (defScope s_Lasked) .none kV23 dc23 pm23 an23 cd23 ct23), sl23⟩)
    (c23 : PySem.W.codeIn K cd23 "_law_asked" = true)
    (k23 : PySem.W.keepIn K (.ref f23) = true)
    (a24 : PySem.W.nsIn K mainGlobals "_law_step" = some (some (.ref f24)))
    (l24 : K.lookup f24 = some ⟨oc24, od24, .func (PySem.W.fnOf "_law_step" "_law_step" (defArgs s_Lstep) (defBody s_Lstep) (defScope s_Lstep) .none kV24 dc24 pm24 an24 cd24 ct24), sl24⟩)
    (c24 : PySem.W.codeIn K cd24 "_law_step" = true)
    (k24 : PySem.W.keepIn K (.ref f24) = true)
    (a25 : PySem.W.nsIn K mainGlobals "law" = some (some (.ref f25)))
    (l25 : K.lookup f25 = some ⟨oc25, od25, .func (PySem.W.fnOf "law" "law" (defArgs s_law) (defBody s_law) (defScope s_law) .none kV25 dc25 pm25 an25 cd25 ct25), sl25⟩)
    (c25 : PySem.W.codeIn K cd25 "law" = true)
    (k25 : PySem.W.keepIn K (.ref f25) = true)
    (cg_Results : PySem.W.nsIn K mainGlobals "Results" = some (some (.ref c_Results)))
    (pg_Results : PySem.W.plainGet K c_Results Str.empty = true)
    (hd_Results : PySem.W.hasDictIn K c_Results = true)
    (po_Results : PySem.W.plainOver K c_Results = true)
    (sa_Results : PySem.W.findIn K (.ref c_Results) "__setattr__" = some (some (.builtin "object.__setattr__")))
    (kc_Results : PySem.W.keepIn K (.ref c_Results) = true)
    (mk_Results : PySem.W.makesIn K c_Results = true)
    (in_Results : PySem.W.findIn K (.ref c_Results) "__init__" = some (some (.ref f_Results_init)))
    (fn_Results : PySem.W.isFn K (.ref f_Results_init) = true)
    (l_Results_init : K.lookup f_Results_init = some ⟨oc_Results_init, od_Results_init, .func (PySem.W.fnOf "__init__" "Results.__init__" (defArgs s_Results_init) (defBody s_Results_init) (defScope s_Results_init) .none kV_Results_init dc_Results_init pm_Results_init an_Results_init cd_Results_init ct_Results_init), sl_Results_init⟩)
    (k_Results_init : PySem.W.codeIn K cd_Results_init "Results.__init__" = true)
    (p_Results_init : PySem.W.keepIn K (.ref f_Results_init) = true)
    (na_Results_outs : PySem.W.findIn K (.ref c_Results) "outs" = some none)
    (na_Results_names : PySem.W.findIn K (.ref c_Results) "names" = some none)
    (na_Results_rights : PySem.W.findIn K (.ref c_Results) "rights" = some none)
    (na_Results_holders : PySem.W.findIn K (.ref c_Results) "holders" = some none)
    (cg_Clerk : PySem.W.nsIn K mainGlobals "Clerk" = some (some (.ref c_Clerk)))
    (pg_Clerk : PySem.W.plainGet K c_Clerk Str.empty = true)
    (hd_Clerk : PySem.W.hasDictIn K c_Clerk = true)
    (po_Clerk : PySem.W.plainOver K c_Clerk = true)
    (sa_Clerk : PySem.W.findIn K (.ref c_Clerk) "__setattr__" = some (some (.builtin "object.__setattr__")))
    (kc_Clerk : PySem.W.keepIn K (.ref c_Clerk) = true)
    (mk_Clerk : PySem.W.makesIn K c_Clerk = true)
    (in_Clerk : PySem.W.findIn K (.ref c_Clerk) "__init__" = some (some (.ref f_Clerk_init)))
    (fn_Clerk : PySem.W.isFn K (.ref f_Clerk_init) = true)
    (l_Clerk_init : K.lookup f_Clerk_init = some ⟨oc_Clerk_init, od_Clerk_init, .func (PySem.W.fnOf "__init__" "Clerk.__init__" (defArgs s_Clerk_init) (defBody s_Clerk_init) (defScope s_Clerk_init) .none kV_Clerk_init dc_Clerk_init pm_Clerk_init an_Clerk_init cd_Clerk_init ct_Clerk_init), sl_Clerk_init⟩)
    (k_Clerk_init : PySem.W.codeIn K cd_Clerk_init "Clerk.__init__" = true)
    (p_Clerk_init : PySem.W.keepIn K (.ref f_Clerk_init) = true)
    (na_Clerk_entries : PySem.W.findIn K (.ref c_Clerk) "entries" = some none)
    (na_Clerk_results : PySem.W.findIn K (.ref c_Clerk) "results" = some none)
    (na_Clerk_deeds : PySem.W.findIn K (.ref c_Clerk) "deeds" = some none)
    (na_Clerk_piles : PySem.W.findIn K (.ref c_Clerk) "piles" = some none)
    (mf_Clerk_lay : PySem.W.findIn K (.ref c_Clerk) "lay" = some (some (.ref f_Clerk_lay)))
    (mi_Clerk_lay : PySem.W.isFn K (.ref f_Clerk_lay) = true)
    (l_Clerk_lay : K.lookup f_Clerk_lay = some ⟨oc_Clerk_lay, od_Clerk_lay, .func (PySem.W.fnOf "lay" "Clerk.lay" (defArgs s_Clerk_lay) (defBody s_Clerk_lay) (defScope s_Clerk_lay) .none kV_Clerk_lay dc_Clerk_lay pm_Clerk_lay an_Clerk_lay cd_Clerk_lay ct_Clerk_lay), sl_Clerk_lay⟩)
    (k_Clerk_lay : PySem.W.codeIn K cd_Clerk_lay "Clerk.lay" = true)
    (p_Clerk_lay : PySem.W.keepIn K (.ref f_Clerk_lay) = true)
    (mf_Clerk_take : PySem.W.findIn K (.ref c_Clerk) "take" = some (some (.ref f_Clerk_take)))
    (mi_Clerk_take : PySem.W.isFn K (.ref f_Clerk_take) = true)
    (l_Clerk_take : K.lookup f_Clerk_take = some ⟨oc_Clerk_take, od_Clerk_take, .func (PySem.W.fnOf "take" "Clerk.take" (defArgs s_Clerk_take) (defBody s_Clerk_take) (defScope s_Clerk_take) .none kV_Clerk_take dc_Clerk_take pm_Clerk_take an_Clerk_take cd_Clerk_take ct_Clerk_take), sl_Clerk_take⟩)
    (k_Clerk_take : PySem.W.codeIn K cd_Clerk_take "Clerk.take" = true)
    (p_Clerk_take : PySem.W.keepIn K (.ref f_Clerk_take) = true)
    (mf_Clerk_book : PySem.W.findIn K (.ref c_Clerk) "book" = some (some (.ref f_Clerk_book)))
    (mi_Clerk_book : PySem.W.isFn K (.ref f_Clerk_book) = true)
    (l_Clerk_book : K.lookup f_Clerk_book = some ⟨oc_Clerk_book, od_Clerk_book, .func (PySem.W.fnOf "book" "Clerk.book" (defArgs s_Clerk_book) (defBody s_Clerk_book) (defScope s_Clerk_book) .none kV_Clerk_book dc_Clerk_book pm_Clerk_book an_Clerk_book cd_Clerk_book ct_Clerk_book), sl_Clerk_book⟩)
    (k_Clerk_book : PySem.W.codeIn K cd_Clerk_book "Clerk.book" = true)
    (p_Clerk_book : PySem.W.keepIn K (.ref f_Clerk_book) = true)
    (mf_Clerk_acts : PySem.W.findIn K (.ref c_Clerk) "acts" = some (some (.ref f_Clerk_acts)))
    (mi_Clerk_acts : PySem.W.isFn K (.ref f_Clerk_acts) = true)
    (l_Clerk_acts : K.lookup f_Clerk_acts = some ⟨oc_Clerk_acts, od_Clerk_acts, .func (PySem.W.fnOf "acts" "Clerk.acts" (defArgs s_Clerk_acts) (defBody s_Clerk_acts) (defScope s_Clerk_acts) .none kV_Clerk_acts dc_Clerk_acts pm_Clerk_acts an_Clerk_acts cd_Clerk_acts ct_Clerk_acts), sl_Clerk_acts⟩)
    (k_Clerk_acts : PySem.W.codeIn K cd_Clerk_acts "Clerk.acts" = true)
    (p_Clerk_acts : PySem.W.keepIn K (.ref f_Clerk_acts) = true)
    (mf_Clerk_sorting : PySem.W.findIn K (.ref c_Clerk) "sorting" = some (some (.ref f_Clerk_sorting)))
    (mi_Clerk_sorting : PySem.W.isFn K (.ref f_Clerk_sorting) = true)
    (l_Clerk_sorting : K.lookup f_Clerk_sorting = some ⟨oc_Clerk_sorting, od_Clerk_sorting, .func (PySem.W.fnOf "sorting" "Clerk.sorting" (defArgs s_Clerk_sorting) (defBody s_Clerk_sorting) (defScope s_Clerk_sorting) .none kV_Clerk_sorting dc_Clerk_sorting pm_Clerk_sorting an_Clerk_sorting cd_Clerk_sorting ct_Clerk_sorting), sl_Clerk_sorting⟩)
    (k_Clerk_sorting : PySem.W.codeIn K cd_Clerk_sorting "Clerk.sorting" = true)
    (p_Clerk_sorting : PySem.W.keepIn K (.ref f_Clerk_sorting) = true)
    (cg_LAST_NUMBER : PySem.W.nsIn K mainGlobals "LAST_NUMBER" = some (some u_LAST_NUMBER))
    (cr_LAST_NUMBER : RelV (.int 1000000000) u_LAST_NUMBER)
    (cg_FORM_DEPTH : PySem.W.nsIn K mainGlobals "FORM_DEPTH" = some (some u_FORM_DEPTH))
    (cr_FORM_DEPTH : RelV (.int 3) u_FORM_DEPTH)
    (cg_NoSorting : PySem.W.nsIn K mainGlobals "NoSorting" = some (some (.ref c_NoSorting)))
    (cg_NoSheet : PySem.W.nsIn K mainGlobals "NoSheet" = some (some (.ref c_NoSheet)))
    (cg_NoPath : PySem.W.nsIn K mainGlobals "NoPath" = some (some (.ref c_NoPath)))
    (cg_RightError : PySem.W.nsIn K mainGlobals "RightError" = some (some (.ref c_RightError)))
    (cg_NoEntry : PySem.W.nsIn K mainGlobals "NoEntry" = some (some (.ref c_NoEntry)))
    (cg_Late : PySem.W.nsIn K mainGlobals "Late" = some (some (.ref c_Late)))
    (cg_NoAct : PySem.W.nsIn K mainGlobals "NoAct" = some (some (.ref c_NoAct)))
    (xl_NoSorting : K.lookup c_NoSorting = some (excClassObj nm_NoSorting q_NoSorting c_NoSorting N_NoSorting bs_NoSorting (.ref A_NoSorting :: vmro) hd_NoSorting sn_NoSorting sub_NoSorting ab_NoSorting col_NoSorting dd_NoSorting k0_NoSorting k1_NoSorting k2_NoSorting k3_NoSorting k5_NoSorting "ValueError.__new__"))
    (xn_NoSorting : K.lookup N_NoSorting = some ⟨x1_NoSorting, x2_NoSorting, .dict es_NoSorting x3_NoSorting, x4_NoSorting⟩)
    (xs_NoSorting : strKeysB es_NoSorting = true)
    (xi_NoSorting : nsFind es_NoSorting "__init__" = none)
    (xa_NoSorting : K.lookup A_NoSorting = some { cls := y0_NoSorting, dict := y1_NoSorting, data := .cls y2_NoSorting, slots := y3_NoSorting })
    (xb_NoSorting : K.lookup y2_NoSorting.ns = some ⟨z1_NoSorting, z2_NoSorting, .dict et_NoSorting z3_NoSorting, z4_NoSorting⟩)
    (xt_NoSorting : strKeysB et_NoSorting = true)
    (xj_NoSorting : nsFind et_NoSorting "__init__" = none)
    (qcs_NoSorting : (PySem.W.clsIn K c_NoSorting).isSome = true)
    (qga_NoSorting : PySem.W.findIn K (.ref c_NoSorting) "__getattribute__" = some (some (.builtin "BaseException.__getattribute__")))
    (qgt_NoSorting : PySem.W.findIn K (.ref c_NoSorting) "__getattr__" = some none)
    (qca_NoSorting : PySem.W.findIn K (.ref c_NoSorting) "__class__" = some (some (.builtin "object.__class__")))
    (qgg_NoSorting : PySem.W.specialIn K (.builtin "object.__class__") "__get__" = some (some (.builtin "getset_descriptor.__get__")))
    (qtk_NoSorting : PySem.W.takesIn K (.builtin "object.__class__") = some true)
    (qmo_NoSorting : PySem.W.mroIn K c_NoSorting (.type "object") = some true)
    (qsb_NoSorting : PySem.W.subIn K (.ref c_NoSorting) (.type "BaseException") = some true)
    (i_NoSorting_NoEntry : PySem.W.kitOne K (.ref c_NoSorting) (.ref c_NoEntry) = some false)
    (i_NoSorting_Late : PySem.W.kitOne K (.ref c_NoSorting) (.ref c_Late) = some false)
    (i_NoSorting_NoAct : PySem.W.kitOne K (.ref c_NoSorting) (.ref c_NoAct) = some false)
    (i_NoSorting_NoSheet : PySem.W.kitOne K (.ref c_NoSorting) (.ref c_NoSheet) = some false)
    (i_NoSorting_NoPath : PySem.W.kitOne K (.ref c_NoSorting) (.ref c_NoPath) = some false)
    (i_NoSorting_ValueError : PySem.W.kitOne K (.ref c_NoSorting) (.type "ValueError") = some true)
    (e_NoSorting_RightError : PySem.W.exmOne K (.ref c_NoSorting) (.ref c_RightError) = some true)
    (xl_NoSheet : K.lookup c_NoSheet = some (excClassObj nm_NoSheet q_NoSheet c_NoSheet N_NoSheet bs_NoSheet (.ref A_NoSheet :: vmro) hd_NoSheet sn_NoSheet sub_NoSheet ab_NoSheet col_NoSheet dd_NoSheet k0_NoSheet k1_NoSheet k2_NoSheet k3_NoSheet k5_NoSheet "ValueError.__new__"))
    (xn_NoSheet : K.lookup N_NoSheet = some ⟨x1_NoSheet, x2_NoSheet, .dict es_NoSheet x3_NoSheet, x4_NoSheet⟩)
    (xs_NoSheet : strKeysB es_NoSheet = true)
    (xi_NoSheet : nsFind es_NoSheet "__init__" = none)
    (xa_NoSheet : K.lookup A_NoSheet = some { cls := y0_NoSheet, dict := y1_NoSheet, data := .cls y2_NoSheet, slots := y3_NoSheet })
    (xb_NoSheet : K.lookup y2_NoSheet.ns = some ⟨z1_NoSheet, z2_NoSheet, .dict et_NoSheet z3_NoSheet, z4_NoSheet⟩)
    (xt_NoSheet : strKeysB et_NoSheet = true)
    (xj_NoSheet : nsFind et_NoSheet "__init__" = none)
    (qcs_NoSheet : (PySem.W.clsIn K c_NoSheet).isSome = true)
    (qga_NoSheet : PySem.W.findIn K (.ref c_NoSheet) "__getattribute__" = some (some (.builtin "BaseException.__getattribute__")))
    (qgt_NoSheet : PySem.W.findIn K (.ref c_NoSheet) "__getattr__" = some none)
    (qca_NoSheet : PySem.W.findIn K (.ref c_NoSheet) "__class__" = some (some (.builtin "object.__class__")))
    (qgg_NoSheet : PySem.W.specialIn K (.builtin "object.__class__") "__get__" = some (some (.builtin "getset_descriptor.__get__")))
    (qtk_NoSheet : PySem.W.takesIn K (.builtin "object.__class__") = some true)
    (qmo_NoSheet : PySem.W.mroIn K c_NoSheet (.type "object") = some true)
    (qsb_NoSheet : PySem.W.subIn K (.ref c_NoSheet) (.type "BaseException") = some true)
    (i_NoSheet_NoEntry : PySem.W.kitOne K (.ref c_NoSheet) (.ref c_NoEntry) = some false)
    (i_NoSheet_Late : PySem.W.kitOne K (.ref c_NoSheet) (.ref c_Late) = some false)
    (i_NoSheet_NoAct : PySem.W.kitOne K (.ref c_NoSheet) (.ref c_NoAct) = some false)
    (i_NoSheet_NoSheet : PySem.W.kitOne K (.ref c_NoSheet) (.ref c_NoSheet) = some true)
    (i_NoSheet_NoPath : PySem.W.kitOne K (.ref c_NoSheet) (.ref c_NoPath) = some false)
    (i_NoSheet_ValueError : PySem.W.kitOne K (.ref c_NoSheet) (.type "ValueError") = some true)
    (e_NoSheet_RightError : PySem.W.exmOne K (.ref c_NoSheet) (.ref c_RightError) = some true)
    (xl_NoPath : K.lookup c_NoPath = some (excClassObj nm_NoPath q_NoPath c_NoPath N_NoPath bs_NoPath (.ref A_NoPath :: vmro) hd_NoPath sn_NoPath sub_NoPath ab_NoPath col_NoPath dd_NoPath k0_NoPath k1_NoPath k2_NoPath k3_NoPath k5_NoPath "ValueError.__new__"))
    (xn_NoPath : K.lookup N_NoPath = some ⟨x1_NoPath, x2_NoPath, .dict es_NoPath x3_NoPath, x4_NoPath⟩)
    (xs_NoPath : strKeysB es_NoPath = true)
    (xi_NoPath : nsFind es_NoPath "__init__" = none)
    (xa_NoPath : K.lookup A_NoPath = some { cls := y0_NoPath, dict := y1_NoPath, data := .cls y2_NoPath, slots := y3_NoPath })
    (xb_NoPath : K.lookup y2_NoPath.ns = some ⟨z1_NoPath, z2_NoPath, .dict et_NoPath z3_NoPath, z4_NoPath⟩)
    (xt_NoPath : strKeysB et_NoPath = true)
    (xj_NoPath : nsFind et_NoPath "__init__" = none)
    (qcs_NoPath : (PySem.W.clsIn K c_NoPath).isSome = true)
    (qga_NoPath : PySem.W.findIn K (.ref c_NoPath) "__getattribute__" = some (some (.builtin "BaseException.__getattribute__")))
    (qgt_NoPath : PySem.W.findIn K (.ref c_NoPath) "__getattr__" = some none)
    (qca_NoPath : PySem.W.findIn K (.ref c_NoPath) "__class__" = some (some (.builtin "object.__class__")))
    (qgg_NoPath : PySem.W.specialIn K (.builtin "object.__class__") "__get__" = some (some (.builtin "getset_descriptor.__get__")))
    (qtk_NoPath : PySem.W.takesIn K (.builtin "object.__class__") = some true)
    (qmo_NoPath : PySem.W.mroIn K c_NoPath (.type "object") = some true)
    (qsb_NoPath : PySem.W.subIn K (.ref c_NoPath) (.type "BaseException") = some true)
    (i_NoPath_NoEntry : PySem.W.kitOne K (.ref c_NoPath) (.ref c_NoEntry) = some false)
    (i_NoPath_Late : PySem.W.kitOne K (.ref c_NoPath) (.ref c_Late) = some false)
    (i_NoPath_NoAct : PySem.W.kitOne K (.ref c_NoPath) (.ref c_NoAct) = some false)
    (i_NoPath_NoSheet : PySem.W.kitOne K (.ref c_NoPath) (.ref c_NoSheet) = some false)
    (i_NoPath_NoPath : PySem.W.kitOne K (.ref c_NoPath) (.ref c_NoPath) = some true)
    (i_NoPath_ValueError : PySem.W.kitOne K (.ref c_NoPath) (.type "ValueError") = some true)
    (e_NoPath_RightError : PySem.W.exmOne K (.ref c_NoPath) (.ref c_RightError) = some true)
    (z_len : PySem.W.nsIn K mainGlobals "len" = some none)
    (z_isinstance : PySem.W.nsIn K mainGlobals "isinstance" = some none)
    (z_int : PySem.W.nsIn K mainGlobals "int" = some none)
    (z_bool : PySem.W.nsIn K mainGlobals "bool" = some none)
    (z_list : PySem.W.nsIn K mainGlobals "list" = some none)
    (z_tuple : PySem.W.nsIn K mainGlobals "tuple" = some none)
    (z_sorted : PySem.W.nsIn K mainGlobals "sorted" = some none)
    (z_range : PySem.W.nsIn K mainGlobals "range" = some none)
    (z_min : PySem.W.nsIn K mainGlobals "min" = some none)
    (z_enumerate : PySem.W.nsIn K mainGlobals "enumerate" = some none)
    (z_all : PySem.W.nsIn K mainGlobals "all" = some none)
    (z_ValueError : PySem.W.nsIn K mainGlobals "ValueError" = some none)
    : ∃ fd : FuncData, (∀ (s : Shared) (v : Value), BindsTo s fd ⟨[v], []⟩ [("_law_script", v)]) ∧ ∀ base : Heap, K.In base → base.Ns mainGlobals mg → FnOk l.prog w K mg base CX0 14 fa fd ["_law_script"] (spLaw K) := by
  have e := hfa.symm.trans (PySem.W.mg_of X G a25)
  cases e
  have F0 := fun_mk (st := s_is_whole) l0 c0 k0
  have b0 := F0.binds (ps := ["thing"]) fun _ _ _ _ _ _ us hl => by
    obtain ⟨a0, us0, rfl, g0⟩ := lenS hl
    obtain rfl := len0 g0
    rfl
  have F1 := fun_mk (st := s_is_number) l1 c1 k1
  have b1 := F1.binds (ps := ["thing"]) fun _ _ _ _ _ _ us hl => by
    obtain ⟨a0, us0, rfl, g0⟩ := lenS hl
    obtain rfl := len0 g0
    rfl
  have F2 := fun_mk (st := s_sorting_list) l2 c2 k2
  have b2 := F2.binds (ps := ["sorting"]) fun _ _ _ _ _ _ us hl => by
    obtain ⟨a0, us0, rfl, g0⟩ := lenS hl
    obtain rfl := len0 g0
    rfl
  have F3 := fun_mk (st := s_group_list) l3 c3 k3
  have b3 := F3.binds (ps := ["group", "depth", "seen"]) fun _ _ _ _ _ _ us hl => by
    obtain ⟨a0, us0, rfl, g0⟩ := lenS hl
    obtain ⟨a1, us1, rfl, g1⟩ := lenS g0
    obtain ⟨a2, us2, rfl, g2⟩ := lenS g1
    obtain rfl := len0 g2
    rfl
  have F4 := fun_mk (st := s_sheet_list) l4 c4 k4
  have b4 := F4.binds (ps := ["sheets", "seen"]) fun _ _ _ _ _ _ us hl => by
    obtain ⟨a0, us0, rfl, g0⟩ := lenS hl
    obtain ⟨a1, us1, rfl, g1⟩ := lenS g0
    obtain rfl := len0 g1
    rfl
  have F5 := fun_mk (st := s_groups) l5 c5 k5
  have b5 := F5.binds (ps := ["sorting"]) fun _ _ _ _ _ _ us hl => by
    obtain ⟨a0, us0, rfl, g0⟩ := lenS hl
    obtain rfl := len0 g0
    rfl
  have F6 := fun_mk (st := s_groups_in) l6 c6 k6
  have b6 := F6.binds (ps := ["path", "parts"]) fun _ _ _ _ _ _ us hl => by
    obtain ⟨a0, us0, rfl, g0⟩ := lenS hl
    obtain ⟨a1, us1, rfl, g1⟩ := lenS g0
    obtain rfl := len0 g1
    rfl
  have F7 := fun_mk (st := s_sheets_of) l7 c7 k7
  have b7 := F7.binds (ps := ["told"]) fun _ _ _ _ _ _ us hl => by
    obtain ⟨a0, us0, rfl, g0⟩ := lenS hl
    obtain rfl := len0 g0
    rfl
  have F8 := fun_mk (st := s_refuse_sheet) l8 c8 k8
  have b8 := F8.binds (ps := ["sheet"]) fun _ _ _ _ _ _ us hl => by
    obtain ⟨a0, us0, rfl, g0⟩ := lenS hl
    obtain rfl := len0 g0
    rfl
  have F9 := fun_mk (st := s_path_of) l9 c9 k9
  have b9 := F9.binds (ps := ["sorting", "sheet"]) fun _ _ _ _ _ _ us hl => by
    obtain ⟨a0, us0, rfl, g0⟩ := lenS hl
    obtain ⟨a1, us1, rfl, g1⟩ := lenS g0
    obtain rfl := len0 g1
    rfl
  have F10 := fun_mk (st := s_without) l10 c10 k10
  have b10 := F10.binds (ps := ["parts", "sheet", "depth"]) fun _ _ _ _ _ _ us hl => by
    obtain ⟨a0, us0, rfl, g0⟩ := lenS hl
    obtain ⟨a1, us1, rfl, g1⟩ := lenS g0
    obtain ⟨a2, us2, rfl, g2⟩ := lenS g1
    obtain rfl := len0 g2
    rfl
  have F11 := fun_mk (st := s_taken) l11 c11 k11
  have b11 := F11.binds (ps := ["sorting", "sheet"]) fun _ _ _ _ _ _ us hl => by
    obtain ⟨a0, us0, rfl, g0⟩ := lenS hl
    obtain ⟨a1, us1, rfl, g1⟩ := lenS g0
    obtain rfl := len0 g1
    rfl
  have F12 := fun_mk (st := s_laid) l12 c12 k12
  have b12 := F12.binds (ps := ["sorting", "sheet", "path"]) fun _ _ _ _ _ _ us hl => by
    obtain ⟨a0, us0, rfl, g0⟩ := lenS hl
    obtain ⟨a1, us1, rfl, g1⟩ := lenS g0
    obtain ⟨a2, us2, rfl, g2⟩ := lenS g1
    obtain rfl := len0 g2
    rfl
  have F13 := fun_mk (st := s_is_path) l13 c13 k13
  have b13 := F13.binds (ps := ["thing"]) fun _ _ _ _ _ _ us hl => by
    obtain ⟨a0, us0, rfl, g0⟩ := lenS hl
    obtain rfl := len0 g0
    rfl
  have F14 := fun_mk (st := s_put_sheet) l14 c14 k14
  have b14 := F14.binds (ps := ["parts", "sheet", "path"]) fun _ _ _ _ _ _ us hl => by
    obtain ⟨a0, us0, rfl, g0⟩ := lenS hl
    obtain ⟨a1, us1, rfl, g1⟩ := lenS g0
    obtain ⟨a2, us2, rfl, g2⟩ := lenS g1
    obtain rfl := len0 g2
    rfl
  have F15 := fun_mk (st := s_new_group) l15 c15 k15
  have b15 := F15.binds (ps := ["sheet", "depth"]) fun _ _ _ _ _ _ us hl => by
    obtain ⟨a0, us0, rfl, g0⟩ := lenS hl
    obtain ⟨a1, us1, rfl, g1⟩ := lenS g0
    obtain rfl := len0 g1
    rfl
  have F16 := fun_mk (st := s_Lmixed) l16 c16 k16
  have b16 := F16.binds (ps := ["_law_cell", "_law_k"]) fun _ _ _ _ _ _ us hl => by
    obtain ⟨a0, us0, rfl, g0⟩ := lenS hl
    obtain ⟨a1, us1, rfl, g1⟩ := lenS g0
    obtain rfl := len0 g1
    rfl
  have F17 := fun_mk (st := s_Lwithout) l17 c17 k17
  have b17 := F17.binds (ps := ["_law_sorting", "_law_sheet"]) fun _ _ _ _ _ _ us hl => by
    obtain ⟨a0, us0, rfl, g0⟩ := lenS hl
    obtain ⟨a1, us1, rfl, g1⟩ := lenS g0
    obtain rfl := len0 g1
    rfl
  have F18 := fun_mk (st := s_Lpath) l18 c18 k18
  have b18 := F18.binds (ps := ["_law_sorting", "_law_mixed_here"]) fun _ _ _ _ _ _ us hl => by
    obtain ⟨a0, us0, rfl, g0⟩ := lenS hl
    obtain ⟨a1, us1, rfl, g1⟩ := lenS g0
    obtain rfl := len0 g1
    rfl
  have F19 := fun_mk (st := s_Llaid) l19 c19 k19
  have b19 := F19.binds (ps := ["_law_sorting", "_law_sheet", "_law_path_here"]) fun _ _ _ _ _ _ us hl => by
    obtain ⟨a0, us0, rfl, g0⟩ := lenS hl
    obtain ⟨a1, us1, rfl, g1⟩ := lenS g0
    obtain ⟨a2, us2, rfl, g2⟩ := lenS g1
    obtain rfl := len0 g2
    rfl
  have F20 := fun_mk (st := s_Lsheets) l20 c20 k20
  have b20 := F20.binds (ps := ["_law_sorting"]) fun _ _ _ _ _ _ us hl => by
    obtain ⟨a0, us0, rfl, g0⟩ := lenS hl
    obtain rfl := len0 g0
    rfl
  have F21 := fun_mk (st := s_Lkind) l21 c21 k21
  have b21 := F21.binds (ps := ["_law_error"]) fun _ _ _ _ _ _ us hl => by
    obtain ⟨a0, us0, rfl, g0⟩ := lenS hl
    obtain rfl := len0 g0
    rfl
  have F22 := fun_mk (st := s_Lbad_path) l22 c22 k22
  have b22 := F22.binds (ps := ["_law_sorting", "_law_path_here", "_law_mixed_here"]) fun _ _ _ _ _ _ us hl => by
    obtain ⟨a0, us0, rfl, g0⟩ := lenS hl
    obtain ⟨a1, us1, rfl, g1⟩ := lenS g0
    obtain ⟨a2, us2, rfl, g2⟩ := lenS g1
    obtain rfl := len0 g2
    rfl
  have F23 := fun_mk (st := s_Lasked) l23 c23 k23
  have b23 := F23.binds (ps := ["_law_clerk", "_law_word", "_law_sheet", "_law_path_here"]) fun _ _ _ _ _ _ us hl => by
    obtain ⟨a0, us0, rfl, g0⟩ := lenS hl
    obtain ⟨a1, us1, rfl, g1⟩ := lenS g0
    obtain ⟨a2, us2, rfl, g2⟩ := lenS g1
    obtain ⟨a3, us3, rfl, g3⟩ := lenS g2
    obtain rfl := len0 g3
    rfl
  have F24 := fun_mk (st := s_Lstep) l24 c24 k24
  have b24 := F24.binds (ps := ["_law_clerk", "_law_sorting", "_law_cell", "_law_k"]) fun _ _ _ _ _ _ us hl => by
    obtain ⟨a0, us0, rfl, g0⟩ := lenS hl
    obtain ⟨a1, us1, rfl, g1⟩ := lenS g0
    obtain ⟨a2, us2, rfl, g2⟩ := lenS g1
    obtain ⟨a3, us3, rfl, g3⟩ := lenS g2
    obtain rfl := len0 g3
    rfl
  have F25 := fun_mk (st := s_law) l25 c25 k25
  have b25 := F25.binds (ps := ["_law_script"]) fun _ _ _ _ _ _ us hl => by
    obtain ⟨a0, us0, rfl, g0⟩ := lenS hl
    obtain rfl := len0 g0
    rfl
  have bb_Results_init := (fun_mk (st := s_Results_init) l_Results_init k_Results_init p_Results_init).binds (ps := ["self"]) fun _ _ _ _ _ _ us hl => by
    obtain ⟨a0, us0, rfl, g0⟩ := lenS hl
    obtain rfl := len0 g0
    rfl
  have bb_Clerk_init := (fun_mk (st := s_Clerk_init) l_Clerk_init k_Clerk_init p_Clerk_init).binds (ps := ["self"]) fun _ _ _ _ _ _ us hl => by
    obtain ⟨a0, us0, rfl, g0⟩ := lenS hl
    obtain rfl := len0 g0
    rfl
  have bb_Clerk_lay := (fun_mk (st := s_Clerk_lay) l_Clerk_lay k_Clerk_lay p_Clerk_lay).binds (ps := ["self", "sheet", "path"]) fun _ _ _ _ _ _ us hl => by
    obtain ⟨a0, us0, rfl, g0⟩ := lenS hl
    obtain ⟨a1, us1, rfl, g1⟩ := lenS g0
    obtain ⟨a2, us2, rfl, g2⟩ := lenS g1
    obtain rfl := len0 g2
    rfl
  have bb_Clerk_take := (fun_mk (st := s_Clerk_take) l_Clerk_take k_Clerk_take p_Clerk_take).binds (ps := ["self", "sheet"]) fun _ _ _ _ _ _ us hl => by
    obtain ⟨a0, us0, rfl, g0⟩ := lenS hl
    obtain ⟨a1, us1, rfl, g1⟩ := lenS g0
    obtain rfl := len0 g1
    rfl
  have bb_Clerk_book := (fun_mk (st := s_Clerk_book) l_Clerk_book k_Clerk_book p_Clerk_book).binds (ps := ["self"]) fun _ _ _ _ _ _ us hl => by
    obtain ⟨a0, us0, rfl, g0⟩ := lenS hl
    obtain rfl := len0 g0
    rfl
  have bb_Clerk_acts := (fun_mk (st := s_Clerk_acts) l_Clerk_acts k_Clerk_acts p_Clerk_acts).binds (ps := ["self"]) fun _ _ _ _ _ _ us hl => by
    obtain ⟨a0, us0, rfl, g0⟩ := lenS hl
    obtain rfl := len0 g0
    rfl
  have bb_Clerk_sorting := (fun_mk (st := s_Clerk_sorting) l_Clerk_sorting k_Clerk_sorting p_Clerk_sorting).binds (ps := ["self"]) fun _ _ _ _ _ _ us hl => by
    obtain ⟨a0, us0, rfl, g0⟩ := lenS hl
    obtain rfl := len0 g0
    rfl
  have T : Txt w K mg ⟨f0, _, f1, _, f2, _, f3, _, f4, _, f5, _, f6, _, f7, _, f8, _, f9, _, f10, _, f11, _, f12, _, f13, _, f14, _, f15, _, f16, _, f17, _, f18, _, f19, _, f20, _, f21, _, f22, _, f23, _, f24, _, fa, _, c_Results, f_Results_init, _, c_Clerk, f_Clerk_init, _, f_Clerk_lay, _, f_Clerk_take, _, f_Clerk_book, _, f_Clerk_acts, _, f_Clerk_sorting, _, u_LAST_NUMBER, u_FORM_DEPTH, c_NoSorting, c_NoSheet, c_NoPath, c_RightError, c_NoEntry, c_Late, c_NoAct⟩ := ⟨⟨F0, PySem.W.mg_of X G a0, b0⟩, ⟨F1, PySem.W.mg_of X G a1, b1⟩, ⟨F2, PySem.W.mg_of X G a2, b2⟩, ⟨F3, PySem.W.mg_of X G a3, b3⟩, ⟨F4, PySem.W.mg_of X G a4, b4⟩, ⟨F5, PySem.W.mg_of X G a5, b5⟩, ⟨F6, PySem.W.mg_of X G a6, b6⟩, ⟨F7, PySem.W.mg_of X G a7, b7⟩, ⟨F8, PySem.W.mg_of X G a8, b8⟩, ⟨F9, PySem.W.mg_of X G a9, b9⟩, ⟨F10, PySem.W.mg_of X G a10, b10⟩, ⟨F11, PySem.W.mg_of X G a11, b11⟩, ⟨F12, PySem.W.mg_of X G a12, b12⟩, ⟨F13, PySem.W.mg_of X G a13, b13⟩, ⟨F14, PySem.W.mg_of X G a14, b14⟩, ⟨F15, PySem.W.mg_of X G a15, b15⟩, ⟨F16, PySem.W.mg_of X G a16, b16⟩, ⟨F17, PySem.W.mg_of X G a17, b17⟩, ⟨F18, PySem.W.mg_of X G a18, b18⟩, ⟨F19, PySem.W.mg_of X G a19, b19⟩, ⟨F20, PySem.W.mg_of X G a20, b20⟩, ⟨F21, PySem.W.mg_of X G a21, b21⟩, ⟨F22, PySem.W.mg_of X G a22, b22⟩, ⟨F23, PySem.W.mg_of X G a23, b23⟩, ⟨F24, PySem.W.mg_of X G a24, b24⟩, ⟨F25, PySem.W.mg_of X G a25, b25⟩, PySem.W.mg_of X G cg_Results, ⟨pg_Results, hd_Results, po_Results, sa_Results⟩, fun_mk l_Results_init k_Results_init p_Results_init, bb_Results_init, ⟨mk_Results, in_Results, fn_Results, kc_Results⟩, na_Results_outs, na_Results_names, na_Results_rights, na_Results_holders, PySem.W.mg_of X G cg_Clerk, ⟨pg_Clerk, hd_Clerk, po_Clerk, sa_Clerk⟩, fun_mk l_Clerk_init k_Clerk_init p_Clerk_init, bb_Clerk_init, ⟨mk_Clerk, in_Clerk, fn_Clerk, kc_Clerk⟩, na_Clerk_entries, na_Clerk_results, na_Clerk_deeds, na_Clerk_piles, fun_mk l_Clerk_lay k_Clerk_lay p_Clerk_lay, bb_Clerk_lay, ⟨mf_Clerk_lay, mi_Clerk_lay, p_Clerk_lay⟩, fun_mk l_Clerk_take k_Clerk_take p_Clerk_take, bb_Clerk_take, ⟨mf_Clerk_take, mi_Clerk_take, p_Clerk_take⟩, fun_mk l_Clerk_book k_Clerk_book p_Clerk_book, bb_Clerk_book, ⟨mf_Clerk_book, mi_Clerk_book, p_Clerk_book⟩, fun_mk l_Clerk_acts k_Clerk_acts p_Clerk_acts, bb_Clerk_acts, ⟨mf_Clerk_acts, mi_Clerk_acts, p_Clerk_acts⟩, fun_mk l_Clerk_sorting k_Clerk_sorting p_Clerk_sorting, bb_Clerk_sorting, ⟨mf_Clerk_sorting, mi_Clerk_sorting, p_Clerk_sorting⟩, PySem.W.mg_of X G cg_LAST_NUMBER, cr_LAST_NUMBER, PySem.W.mg_of X G cg_FORM_DEPTH, cr_FORM_DEPTH, PySem.W.mg_of X G cg_NoSorting, PySem.W.mg_of X G cg_NoSheet, PySem.W.mg_of X G cg_NoPath, PySem.W.mg_of X G cg_RightError, PySem.W.mg_of X G cg_NoEntry, PySem.W.mg_of X G cg_Late, PySem.W.mg_of X G cg_NoAct, XCls.mk2 xl_NoSorting xn_NoSorting xs_NoSorting xi_NoSorting xa_NoSorting xb_NoSorting xt_NoSorting xj_NoSorting, ⟨qcs_NoSorting, qga_NoSorting, qgt_NoSorting, qca_NoSorting, qgg_NoSorting, qtk_NoSorting, qmo_NoSorting, qsb_NoSorting⟩, i_NoSorting_NoEntry, i_NoSorting_Late, i_NoSorting_NoAct, i_NoSorting_NoSheet, i_NoSorting_NoPath, i_NoSorting_ValueError, e_NoSorting_RightError, XCls.mk2 xl_NoSheet xn_NoSheet xs_NoSheet xi_NoSheet xa_NoSheet xb_NoSheet xt_NoSheet xj_NoSheet, ⟨qcs_NoSheet, qga_NoSheet, qgt_NoSheet, qca_NoSheet, qgg_NoSheet, qtk_NoSheet, qmo_NoSheet, qsb_NoSheet⟩, i_NoSheet_NoEntry, i_NoSheet_Late, i_NoSheet_NoAct, i_NoSheet_NoSheet, i_NoSheet_NoPath, i_NoSheet_ValueError, e_NoSheet_RightError, XCls.mk2 xl_NoPath xn_NoPath xs_NoPath xi_NoPath xa_NoPath xb_NoPath xt_NoPath xj_NoPath, ⟨qcs_NoPath, qga_NoPath, qgt_NoPath, qca_NoPath, qgg_NoPath, qtk_NoPath, qmo_NoPath, qsb_NoPath⟩, i_NoPath_NoEntry, i_NoPath_Late, i_NoPath_NoAct, i_NoPath_NoSheet, i_NoPath_NoPath, i_NoPath_ValueError, e_NoPath_RightError, PySem.W.mg_none_of X G z_len, PySem.W.mg_none_of X G z_isinstance, PySem.W.mg_none_of X G z_int, PySem.W.mg_none_of X G z_bool, PySem.W.mg_none_of X G z_list, PySem.W.mg_none_of X G z_tuple, PySem.W.mg_none_of X G z_sorted, PySem.W.mg_none_of X G z_range, PySem.W.mg_none_of X G z_min, PySem.W.mg_none_of X G z_enumerate, PySem.W.mg_none_of X G z_all, PySem.W.mg_none_of X G z_ValueError⟩
  exact ⟨_, fun s v => .of_eq rfl, fun base _ _ => ok_law T⟩
end My
theorem PySem.W.Fast.tw12372653296336922659 : True := trivial
theorem PySem.W.Fast.tw4348203843124478391 : True := trivial
theorem PySem.W.Fast.tw1773912705362217553 : True := trivial
theorem PySem.W.Fast.tw5418761648754219506 : True := trivial
theorem PySem.W.Fast.tw15415126533226220191 : True := trivial
theorem PySem.W.Fast.tw14308959846955221982 : True := trivial
theorem PySem.W.Fast.tw3297537428024368041 : True := trivial
theorem PySem.W.Fast.tw3163071874952961809 : True := trivial
theorem PySem.W.Fast.tw4239760122488326018 : True := trivial
theorem PySem.W.Fast.tw15318145094494297608 : True := trivial
theorem PySem.W.Fast.tw8528549705603222503 : True := trivial
theorem PySem.W.Fast.tw11061704653036431251 : True := trivial
theorem PySem.W.Fast.tw17488120860487645354 : True := trivial
theorem PySem.W.Fast.tw23619054227224306 : True := trivial
theorem PySem.W.Fast.tw2068560688898979426 : True := trivial
theorem PySem.W.Fast.tw10084932144740598903 : True := trivial
theorem PySem.W.Fast.tw16189443092232504337 : True := trivial
theorem PySem.W.Fast.tw5000771681394881602 : True := trivial
theorem PySem.W.Fast.tw119810886689149439 : True := trivial
theorem PySem.W.Fast.tw12489314680438072637 : True := trivial
theorem PySem.W.Fast.tw15220280618715457175 : True := trivial
theorem PySem.W.Fast.tw16870696808786719088 : True := trivial
theorem PySem.W.Fast.tw10743121356985141546 : True := trivial
theorem PySem.W.Fast.tw9829424462307599543 : True := trivial
theorem PySem.W.Fast.tw17809245173618033911 : True := trivial
theorem PySem.W.Fast.tw8201756835568535953 : True := trivial
theorem PySem.W.Fast.tw14719631746867096950 : True := trivial
theorem PySem.W.Fast.tw16625300022377959816 : True := trivial
theorem PySem.W.Fast.tw9553053491921657938 : True := trivial
theorem PySem.W.Fast.tw472460216423669696 : True := trivial
theorem PySem.W.Fast.tw17452832801150971380 : True := trivial
theorem PySem.W.Fast.tw10482297856680388142 : True := trivial
theorem PySem.W.Fast.tw5361356959767979113 : True := trivial
theorem PySem.W.Fast.tw2000539002157763449 : True := trivial
theorem PySem.W.Fast.tw10157505381713349554 : True := trivial
theorem PySem.W.Fast.tw4975600604186334581 : True := trivial
theorem PySem.W.Fast.tw15684750934130649757 : True := trivial
theorem PySem.W.Fast.tw6993315109084207608 : True := trivial
theorem PySem.W.Fast.tw5687244934105443180 : True := trivial
theorem PySem.W.Fast.tw11937018074252229745 : True := trivial
theorem PySem.W.Fast.tw17404764508675684523 : True := trivial
theorem PySem.W.Fast.tw15485460155365175030 : True := trivial
theorem PySem.W.Fast.tw16955821016212193858 : True := trivial
theorem PySem.W.Fast.tw7446751045250178959 : True := trivial
theorem PySem.W.Fast.tw11291280277965736211 : True := trivial
theorem PySem.W.Fast.tw4829726031262508409 : True := trivial
theorem PySem.W.Fast.tw5882272763709385442 : True := trivial
theorem PySem.W.Fast.tw11142573731567021164 : True := trivial
theorem PySem.W.Fast.tw12044731396205693294 : True := trivial
theorem PySem.W.Fast.tw8105821713762788083 : True := trivial
theorem PySem.W.Fast.tw7851725279125673556 : True := trivial
theorem PySem.W.Fast.tw6440961935275078692 : True := trivial
theorem PySem.W.Fast.tw14925792428996698925 : True := trivial
theorem PySem.W.Fast.tw4652356181537178952 : True := trivial
theorem PySem.W.Fast.tw664262665963974748 : True := trivial
theorem PySem.W.Fast.tw9270824149135657897 : True := trivial
theorem PySem.W.Fast.tw2845873980077896316 : True := trivial
theorem PySem.W.Fast.tw5766768331491659760 : True := trivial
theorem PySem.W.Fast.tw943529410428277878 : True := trivial
theorem PySem.W.Fast.tw12249555163686853086 : True := trivial
theorem PySem.W.Fast.tw9987431952017968257 : True := trivial
theorem PySem.W.Fast.tw17208835784562135930 : True := trivial
theorem PySem.W.Fast.tw9646636632374703151 : True := trivial
theorem PySem.W.Fast.tw11919772187167055774 : True := trivial
theorem PySem.W.Fast.tw4954045726675251635 : True := trivial
theorem PySem.W.Fast.tw4330129711264059322 : True := trivial
theorem PySem.W.Fast.tw5671571511573135331 : True := trivial
theorem PySem.W.Fast.tw14093917343889733350 : True := trivial
theorem PySem.W.Fast.tw7463718032665712315 : True := trivial
theorem PySem.W.Fast.tw10899745814896220536 : True := trivial
theorem PySem.W.Fast.tw17956469732546016594 : True := trivial
theorem PySem.W.Fast.tw2558788397675915161 : True := trivial
theorem PySem.W.Fast.tw4854936821985141265 : True := trivial
theorem PySem.W.Fast.tw4740497822831120374 : True := trivial
theorem PySem.W.Fast.tw9414981987390087753 : True := trivial
theorem PySem.W.Fast.tw15307222391123704027 : True := trivial
theorem PySem.W.Fast.tw8405665032435346836 : True := trivial
theorem PySem.W.Fast.tw42233686831405212 : True := trivial
theorem PySem.W.Fast.tw11547735300234126845 : True := trivial
theorem PySem.W.Fast.tw11615891290996397764 : True := trivial
theorem PySem.W.Fast.tw9335120710859509667 : True := trivial
theorem PySem.W.Fast.tw17930587807110688326 : True := trivial
theorem PySem.W.Fast.tw11573509176882207250 : True := trivial
theorem PySem.W.Fast.tw824453310736538409 : True := trivial
theorem PySem.W.Fast.tw1316827632692999074 : True := trivial
theorem PySem.W.Fast.tw17115457828403970675 : True := trivial
theorem PySem.W.Fast.tw2588757939855487752 : True := trivial
theorem PySem.W.Fast.tw18274301411738585585 : True := trivial
theorem PySem.W.Fast.tw10248364010320647217 : True := trivial
theorem PySem.W.Fast.tw4342527664746532555 : True := trivial
theorem PySem.W.Fast.tw14316319161564959450 : True := trivial
theorem PySem.W.Fast.tw16638970362278185792 : True := trivial
theorem PySem.W.Fast.tw17350127606712244488 : True := trivial
theorem PySem.W.Fast.tw11339642586117109153 : True := trivial
theorem PySem.W.Fast.tw12238816333205540156 : True := trivial
theorem PySem.W.Fast.tw8263353834597252673 : True := trivial
theorem PySem.W.Fast.tw5261650156834980111 : True := trivial
theorem PySem.W.Fast.tw1622777801084526806 : True := trivial
theorem PySem.W.Fast.tw2547035928604750176 : True := trivial
theorem PySem.W.Fast.tw11038540077133567984 : True := trivial
theorem PySem.W.Fast.tw17273706147245854002 : True := trivial
theorem PySem.W.Fast.tw3769525202907665917 : True := trivial
theorem PySem.W.Fast.tw6280544925669794551 : True := trivial
theorem PySem.W.Fast.tw10550239196845216015 : True := trivial
theorem PySem.W.Fast.tw1099579026786075961 : True := trivial
theorem PySem.W.Fast.tw3697954626566444288 : True := trivial
theorem PySem.W.Fast.tw13151348797536499089 : True := trivial
theorem PySem.W.Fast.tw3376469766700387739 : True := trivial
theorem PySem.W.Fast.tw11026153092183127609 : True := trivial
theorem PySem.W.Fast.tw4113336608852077684 : True := trivial
theorem PySem.W.Fast.tw6651615958920428982 : True := trivial
theorem PySem.W.Fast.tw11035788402363595349 : True := trivial
theorem PySem.W.Fast.tw12789149177744800223 : True := trivial
theorem PySem.W.Fast.tw9886216169963860028 : True := trivial
theorem PySem.W.Fast.tw2721820441706702641 : True := trivial
theorem PySem.W.Fast.tw5705452035962033491 : True := trivial
theorem PySem.W.Fast.tw16888246956653902894 : True := trivial
theorem PySem.W.Fast.tw12993846436238790410 : True := trivial
theorem PySem.W.Fast.tw8337293156963056487 : True := trivial
theorem PySem.W.Fast.tw14225237265644640929 : True := trivial
theorem PySem.W.Fast.tw13927645189781434154 : True := trivial
theorem PySem.W.Fast.tw13798649476768499069 : True := trivial
theorem PySem.W.Fast.tw7132101225058619167 : True := trivial
theorem PySem.W.Fast.tw7153242967991572168 : True := trivial
theorem PySem.W.Fast.tw2831055684982751041 : True := trivial
theorem PySem.W.Fast.tw6989675039764900958 : True := trivial
theorem PySem.W.Fast.tw16126352822656320955 : True := trivial
theorem PySem.W.Fast.tw4292270888976606692 : True := trivial
theorem PySem.W.Fast.tw14408901889687610288 : True := trivial
theorem PySem.W.Fast.tw11488524668154757032 : True := trivial
theorem PySem.W.Fast.tw569626716177078309 : True := trivial
theorem PySem.W.Fast.tw4582901010073488052 : True := trivial
theorem PySem.W.Fast.tw12169378534239633403 : True := trivial
theorem PySem.W.Fast.tw3851842772222893164 : True := trivial
theorem PySem.W.Fast.tw18215758132492960401 : True := trivial
theorem PySem.W.Fast.tw12454184305025966775 : True := trivial
theorem PySem.W.Fast.tw15806362906251938056 : True := trivial
theorem PySem.W.Fast.tw7587021982680835566 : True := trivial
theorem PySem.W.Fast.tw5113915077800956174 : True := trivial
theorem PySem.W.Fast.tw11309583106888772065 : True := trivial
theorem PySem.W.Fast.tw13196085786162638499 : True := trivial
theorem PySem.W.Fast.tw16083430042576594137 : True := trivial
theorem PySem.W.Fast.tw291559643398596769 : True := trivial
theorem PySem.W.Fast.tw837628060902824176 : True := trivial
theorem PySem.W.Fast.tw17244086631029702108 : True := trivial
theorem PySem.W.Fast.tw7547894308011667721 : True := trivial
theorem PySem.W.Fast.tw14449778598045875038 : True := trivial
theorem PySem.W.Fast.tw9209520097119518084 : True := trivial
theorem PySem.W.Fast.tw15743222205981396992 : True := trivial
theorem PySem.W.Fast.tw11643401220866514020 : True := trivial
theorem PySem.W.Fast.tw155969572951727549 : True := trivial
theorem PySem.W.Fast.tw6604573855734374393 : True := trivial
theorem PySem.W.Fast.tw6426349831398467182 : True := trivial
theorem PySem.W.Fast.tw16066905872920379783 : True := trivial
theorem PySem.W.Fast.tw13472771372554030712 : True := trivial
theorem PySem.W.Fast.tw8784714571330268504 : True := trivial
theorem PySem.W.Fast.tw9804412341326973844 : True := trivial
theorem PySem.W.Fast.tw14855821991648836044 : True := trivial
theorem PySem.W.Fast.tw8092022461051575760 : True := trivial
theorem PySem.W.Fast.tw3676033622660185190 : True := trivial
theorem PySem.W.Fast.tw10103152641388151197 : True := trivial
theorem PySem.W.Fast.tw16075468652857736471 : True := trivial
theorem PySem.W.Fast.tw11731038911292817819 : True := trivial
theorem PySem.W.Fast.tw16698377276777047543 : True := trivial
theorem PySem.W.Fast.tw8632115651294335381 : True := trivial
theorem PySem.W.Fast.tw11885007191537082052 : True := trivial
theorem PySem.W.Fast.tw16928916948742290833 : True := trivial
theorem PySem.W.Fast.tw7309658990534437501 : True := trivial
theorem PySem.W.Fast.tw6525733991528041533 : True := trivial
theorem PySem.W.Fast.tw17935268133041662188 : True := trivial
theorem PySem.W.Fast.tw4132482421511879012 : True := trivial
theorem PySem.W.Fast.tw7099414655472291240 : True := trivial
theorem PySem.W.Fast.tw13913076484194011160 : True := trivial
theorem PySem.W.Fast.tw4928454831341755135 : True := trivial
theorem PySem.W.Fast.tw3627365906260237705 : True := trivial
theorem PySem.W.Fast.tw3931529578475447056 : True := trivial
theorem PySem.W.Fast.tw3041081071414211831 : True := trivial
theorem PySem.W.Fast.tw13950315500592774601 : True := trivial
theorem PySem.W.Fast.tw11010617248526483286 : True := trivial
theorem PySem.W.Fast.tw16757781875461623205 : True := trivial
theorem PySem.W.Fast.tw6376710704787000515 : True := trivial
theorem PySem.W.Fast.tw7734685484949262466 : True := trivial
theorem PySem.W.Fast.tw17500645140417722529 : True := trivial
theorem PySem.W.Fast.tw727153658312323940 : True := trivial
theorem PySem.W.Fast.tw11359062018539587702 : True := trivial
theorem PySem.W.Fast.tw12539240107465759867 : True := trivial
theorem PySem.W.Fast.tw5283680836390802288 : True := trivial
theorem PySem.W.Fast.tw5069896721842611404 : True := trivial
theorem PySem.W.Fast.tw10253784747265019248 : True := trivial
theorem PySem.W.Fast.tw5252381223772705212 : True := trivial
theorem PySem.W.Fast.tw10356016899655020978 : True := trivial
theorem PySem.W.Fast.tw3845916919096334853 : True := trivial
theorem PySem.W.Fast.tw6759360890926172568 : True := trivial
theorem PySem.W.Fast.tw9661716891930011679 : True := trivial
theorem PySem.W.Fast.tw11531122655465166902 : True := trivial
theorem PySem.W.Fast.tw6234996306360276226 : True := trivial
theorem PySem.W.Fast.tw15431046804785811633 : True := trivial
theorem PySem.W.Fast.tw2775151326531192343 : True := trivial
theorem PySem.W.Fast.tw7714106753583981618 : True := trivial
theorem PySem.W.Fast.tw15063290468612863653 : True := trivial
theorem PySem.W.Fast.tw1107547636655564013 : True := trivial
theorem PySem.W.Fast.tw325444017463409054 : True := trivial
theorem PySem.W.Fast.tw13293387627797417019 : True := trivial
theorem PySem.W.Fast.tw5496786896903302600 : True := trivial
theorem PySem.W.Fast.tw18128141827962851523 : True := trivial
theorem PySem.W.Fast.tw8286392250742658607 : True := trivial
theorem PySem.W.Fast.tw7644803375612816589 : True := trivial
theorem PySem.W.Fast.tw11179971933793693299 : True := trivial
theorem PySem.W.Fast.tw734408364716687484 : True := trivial
theorem PySem.W.Fast.tw14536970675093280951 : True := trivial
theorem PySem.W.Fast.tw15795464726574006460 : True := trivial
theorem PySem.W.Fast.tw4369700467828002685 : True := trivial
theorem PySem.W.Fast.tw14074358667330092174 : True := trivial
theorem PySem.W.Fast.tw9328366774679958397 : True := trivial
theorem PySem.W.Fast.tw17095072573874814695 : True := trivial
theorem PySem.W.Fast.tw10542931776997699402 : True := trivial
theorem PySem.W.Fast.tw5903341758820312053 : True := trivial
theorem PySem.W.Fast.tw10445403769320570123 : True := trivial
theorem PySem.W.Fast.tw694057963304568096 : True := trivial
theorem PySem.W.Fast.tw17406944275187492216 : True := trivial
theorem PySem.W.Fast.tw15225937170351356522 : True := trivial
theorem PySem.W.Fast.tw1927524770851174420 : True := trivial
theorem PySem.W.Fast.tw1670458733605944633 : True := trivial
theorem PySem.W.Fast.tw16270114285873595449 : True := trivial
theorem PySem.W.Fast.tw6205947000922471600 : True := trivial
theorem PySem.W.Fast.tw17220829939323649616 : True := trivial
theorem PySem.W.Fast.tw5170507326119105532 : True := trivial
theorem PySem.W.Fast.tw2417801043827436428 : True := trivial
theorem PySem.W.Fast.tw1504151118531346578 : True := trivial
theorem PySem.W.Fast.tw2964109387742678054 : True := trivial
theorem PySem.W.Fast.tw13290510392955451998 : True := trivial
theorem PySem.W.Fast.tw14934479038039294046 : True := trivial
theorem PySem.W.Fast.tw15424004503170073906 : True := trivial
theorem PySem.W.Fast.tw15020559250608521242 : True := trivial
theorem PySem.W.Fast.tw4121840870234972995 : True := trivial
theorem PySem.W.Fast.tw3267362017871018859 : True := trivial
theorem PySem.W.Fast.tw8822220961393799870 : True := trivial
theorem PySem.W.Fast.tw8364917880641281321 : True := trivial
theorem PySem.W.Fast.tw6916190231889967996 : True := trivial
theorem PySem.W.Fast.tw8097336604202715700 : True := trivial
theorem PySem.W.Fast.tw13987130951949696672 : True := trivial
theorem PySem.W.Fast.tw6677583909239366001 : True := trivial
theorem PySem.W.Fast.tw13527858081518294285 : True := trivial
theorem PySem.W.Fast.tw5062495452750728055 : True := trivial
theorem PySem.W.Fast.tw11789703261140602385 : True := trivial
theorem PySem.W.Fast.tw10715523378732547262 : True := trivial
theorem PySem.W.Fast.tw14303214242472032357 : True := trivial
theorem PySem.W.Fast.tw15801609025079107363 : True := trivial
theorem PySem.W.Fast.tw10173869485680528017 : True := trivial
theorem PySem.W.Fast.tw3338895030696360889 : True := trivial
theorem PySem.W.Fast.tw10010181310262180738 : True := trivial
theorem PySem.W.Fast.tw5952288824048793985 : True := trivial
theorem PySem.W.Fast.tw7107914881176758141 : True := trivial
theorem PySem.W.Fast.tw15732781446186689663 : True := trivial
theorem PySem.W.Fast.tw3745861394130836460 : True := trivial
theorem PySem.W.Fast.tw3595742312360825640 : True := trivial
theorem PySem.W.Fast.tw4298778377874611951 : True := trivial
theorem PySem.W.Fast.tw14559820571750528716 : True := trivial
theorem PySem.W.Fast.tw4767911322874875143 : True := trivial
theorem PySem.W.Fast.tw17254288730003679939 : True := trivial
theorem PySem.W.Fast.tw11377144434103561879 : True := trivial
theorem PySem.W.Fast.tw9131719498143038949 : True := trivial
theorem PySem.W.Fast.tw12484841233242354468 : True := trivial
theorem PySem.W.Fast.tw1996676969369100433 : True := trivial
theorem PySem.W.Fast.tw4100462155954148577 : True := trivial
theorem PySem.W.Fast.tw6645076725854355550 : True := trivial
theorem PySem.W.Fast.tw2209864748516010536 : True := trivial
theorem PySem.W.Fast.tw1259357591197976108 : True := trivial
theorem PySem.W.Fast.tw12287776398694244828 : True := trivial
theorem PySem.W.Fast.tw8344899151171364984 : True := trivial
theorem PySem.W.Fast.tw1375867264281902288 : True := trivial
theorem PySem.W.Fast.tw4347891115078242013 : True := trivial
theorem PySem.W.Fast.tw12098880265207689324 : True := trivial
theorem PySem.W.Fast.tw6428884019967625905 : True := trivial
theorem PySem.W.Fast.tw15913445016229631143 : True := trivial
theorem PySem.W.Fast.tw3661520727014303875 : True := trivial
theorem PySem.W.Fast.tw1505419098966495888 : True := trivial
theorem PySem.W.Fast.tw10735620810677569461 : True := trivial
theorem PySem.W.Fast.tw14107831519177729299 : True := trivial
theorem PySem.W.Fast.tw12575892235503308641 : True := trivial
theorem PySem.W.Fast.tw2264303979314659029 : True := trivial
theorem PySem.W.Fast.tw17527876768943024371 : True := trivial
theorem PySem.W.Fast.tw7929191059296526174 : True := trivial
theorem PySem.W.Fast.tw3839423082417802248 : True := trivial
theorem PySem.W.Fast.tw9318363898197375764 : True := trivial
theorem PySem.W.Fast.tw2423699384993843731 : True := trivial
theorem PySem.W.Fast.tw6361134836275483268 : True := trivial
theorem PySem.W.Fast.tw12564725308096246833 : True := trivial
theorem PySem.W.Fast.tw6028499892328369792 : True := trivial
theorem PySem.W.Fast.tw8381438121222947006 : True := trivial
theorem PySem.W.Fast.tw7530674615343027831 : True := trivial
theorem PySem.W.Fast.tw14178816702968967577 : True := trivial
theorem PySem.W.Fast.tw2594985764839718577 : True := trivial
theorem PySem.W.Fast.tw7540016952574629457 : True := trivial
theorem PySem.W.Fast.tw2115908624097896353 : True := trivial
theorem PySem.W.Fast.tw6612709079319311704 : True := trivial
theorem PySem.W.Fast.tw2844698912484571118 : True := trivial
theorem PySem.W.Fast.tw10361680478132130104 : True := trivial
theorem PySem.W.Fast.tw11338804108684443036 : True := trivial
theorem PySem.W.Fast.tw6282119098479294989 : True := trivial
theorem PySem.W.Fast.tw12252325346440695087 : True := trivial
theorem PySem.W.Fast.tw16719973666535174633 : True := trivial
theorem PySem.W.Fast.tw14851238920540920650 : True := trivial
theorem PySem.W.Fast.tw6446496938034707559 : True := trivial
theorem PySem.W.Fast.tw16454398909656218951 : True := trivial
theorem PySem.W.Fast.tw3805774327304737479 : True := trivial
theorem PySem.W.Fast.tw15157584354331932809 : True := trivial
theorem PySem.W.Fast.tw17774520686070649932 : True := trivial
theorem PySem.W.Fast.tw15080709516697024081 : True := trivial
theorem PySem.W.Fast.tw11912167768799238616 : True := trivial
theorem PySem.W.Fast.tw7582762393396686708 : True := trivial
theorem PySem.W.Fast.tw13409645390374718949 : True := trivial
theorem PySem.W.Fast.tw17694070090543612462 : True := trivial
theorem PySem.W.Fast.tw364024746509271045 : True := trivial
theorem PySem.W.Fast.tw2486022174756141503 : True := trivial
theorem PySem.W.Fast.tw3329382475024991389 : True := trivial
theorem PySem.W.Fast.tw9689680806018585143 : True := trivial
theorem PySem.W.Fast.tw5027425293853537614 : True := trivial
theorem PySem.W.Fast.tw12104482274646299186 : True := trivial
theorem PySem.W.Fast.tw13549103569992155013 : True := trivial
theorem PySem.W.Fast.tw11362077676650520861 : True := trivial
theorem PySem.W.Fast.tw8922614375751723104 : True := trivial
theorem PySem.W.Fast.tw5951525438693595907 : True := trivial
theorem PySem.W.Fast.tw12697620274040828054 : True := trivial
theorem PySem.W.Fast.tw16425848123390759421 : True := trivial
theorem PySem.W.Fast.tw5958903393163936989 : True := trivial
theorem PySem.W.Fast.tw11774930688827044262 : True := trivial
theorem PySem.W.Fast.tw10554005805905055264 : True := trivial
theorem PySem.W.Fast.tw4980934379192237416 : True := trivial
theorem PySem.W.Fast.tw14106715067956490953 : True := trivial
theorem PySem.W.Fast.tw17127960575668496769 : True := trivial
theorem PySem.W.Fast.tw2803492523390682173 : True := trivial
theorem PySem.W.Fast.tw11196593549358064152 : True := trivial
theorem PySem.W.Fast.tw710045440310024370 : True := trivial
theorem PySem.W.Fast.tw7665548229988819094 : True := trivial
theorem PySem.W.Fast.tw2242114374020080144 : True := trivial
theorem PySem.W.Fast.tw6208220321229566576 : True := trivial
theorem PySem.W.Fast.tw7201555817923339252 : True := trivial
theorem PySem.W.Fast.tw5002614887760515698 : True := trivial
theorem PySem.W.Fast.tw17792424946980884932 : True := trivial
theorem PySem.W.Fast.tw2778007153177249205 : True := trivial
theorem PySem.W.Fast.tw15756744266243485313 : True := trivial
theorem PySem.W.Fast.tw5205438222199279409 : True := trivial
theorem PySem.W.Fast.tw1334971976408457315 : True := trivial
theorem PySem.W.Fast.tw5038319879980863984 : True := trivial
theorem PySem.W.Fast.tw534839261860396390 : True := trivial
theorem PySem.W.Fast.tw9262057421632015136 : True := trivial
theorem PySem.W.Fast.tw1691868123837863570 : True := trivial
theorem PySem.W.Fast.tw16667681904975558797 : True := trivial
theorem PySem.W.Fast.tw14465091804347675236 : True := trivial
theorem PySem.W.Fast.tw6840895866113307150 : True := trivial
theorem PySem.W.Fast.tw10702986581445534687 : True := trivial
theorem PySem.W.Fast.tw8021798567955073238 : True := trivial
theorem PySem.W.Fast.tw8845791099484772663 : True := trivial
theorem PySem.W.Fast.tw3553803745992615658 : True := trivial
theorem PySem.W.Fast.tw13444894703310957059 : True := trivial
theorem PySem.W.Fast.tw12338507537109985178 : True := trivial
theorem PySem.W.Fast.tw3343603256234279138 : True := trivial
theorem PySem.W.Fast.tw12531261830728863183 : True := trivial
theorem PySem.W.Fast.tw17302717166508996754 : True := trivial
theorem PySem.W.Fast.tw9925565614092680996 : True := trivial
theorem PySem.W.Fast.tw8102297697483579648 : True := trivial
theorem PySem.W.Fast.tw17746050641254717715 : True := trivial
theorem PySem.W.Fast.tw13976185435050008483 : True := trivial
theorem PySem.W.Fast.tw12489494054202204953 : True := trivial
theorem PySem.W.Fast.tw10072461452229271129 : True := trivial
theorem PySem.W.Fast.tw10450952146259627537 : True := trivial
theorem PySem.W.Fast.tw5743148366984546855 : True := trivial
theorem PySem.W.Fast.tw2871425440702852128 : True := trivial
theorem PySem.W.Fast.tw4997832673046140362 : True := trivial
theorem PySem.W.Fast.tw7520457319533253368 : True := trivial
theorem PySem.W.Fast.tw1048224942358281596 : True := trivial
theorem PySem.W.Fast.tw10035693066094203021 : True := trivial
theorem PySem.W.Fast.tw16748861362732053148 : True := trivial
theorem PySem.W.Fast.tw13403056151717966147 : True := trivial
theorem PySem.W.Fast.tw13513907094146835476 : True := trivial
theorem PySem.W.Fast.tw15424187211958807951 : True := trivial
theorem PySem.W.Fast.tw4430302024324623339 : True := trivial
theorem PySem.W.Fast.tw14164440144806765135 : True := trivial
theorem PySem.W.Fast.tw12958034175525744719 : True := trivial
theorem PySem.W.Fast.tw9002915494679641272 : True := trivial
theorem PySem.W.Fast.tw10931999135463723307 : True := trivial
theorem PySem.W.Fast.tw18145576050006518994 : True := trivial
theorem PySem.W.Fast.tw1748518503401373739 : True := trivial
theorem PySem.W.Fast.tw16967392973155688906 : True := trivial
theorem PySem.W.Fast.tw6502845613423718885 : True := trivial
theorem PySem.W.Fast.tw6889314310823751638 : True := trivial
theorem PySem.W.Fast.tw7911692121510670441 : True := trivial
theorem PySem.W.Fast.tw6026541543175008953 : True := trivial
theorem PySem.W.Fast.tw6614869935098739794 : True := trivial
theorem PySem.W.Fast.tw15710653038431144816 : True := trivial
theorem PySem.W.Fast.tw16440875264419192177 : True := trivial
theorem PySem.W.Fast.tw7232469942400217497 : True := trivial
theorem PySem.W.Fast.tw17387861577787054997 : True := trivial
theorem PySem.W.Fast.tw5582946708830321046 : True := trivial
theorem PySem.W.Fast.tw13422123059306187339 : True := trivial
theorem PySem.W.Fast.tw16722681954177919594 : True := trivial
theorem PySem.W.Fast.tw5848941240762448220 : True := trivial
theorem PySem.W.Fast.tw10178641801269109891 : True := trivial
theorem PySem.W.Fast.tw4353285890911992710 : True := trivial
theorem PySem.W.Fast.tw15690837642630355194 : True := trivial
theorem PySem.W.Fast.tw17964297429642043595 : True := trivial
theorem PySem.W.Fast.tw5264643608032917386 : True := trivial
theorem PySem.W.Fast.tw17362274131644246237 : True := trivial
theorem PySem.W.Fast.tw677339745291020417 : True := trivial
theorem PySem.W.Fast.tw3522842583303987665 : True := trivial
theorem PySem.W.Fast.tw14315595731888427936 : True := trivial
theorem PySem.W.Fast.tw4931418915405444716 : True := trivial
theorem PySem.W.Fast.tw7472481530617671018 : True := trivial
theorem PySem.W.Fast.tw2975801624735121426 : True := trivial
theorem PySem.W.Fast.tw3230980513750811974 : True := trivial
theorem PySem.W.Fast.tw11650559664206897242 : True := trivial
theorem PySem.W.Fast.tw10578677259515269824 : True := trivial
theorem PySem.W.Fast.tw3058768596148296561 : True := trivial
theorem PySem.W.Fast.tw17110010004477163374 : True := trivial
theorem PySem.W.Fast.tw5967340521648778572 : True := trivial
theorem PySem.W.Fast.tw14240432117083447697 : True := trivial
theorem PySem.W.Fast.tw8076044508786886288 : True := trivial
theorem PySem.W.Fast.tw12150095287306243244 : True := trivial
theorem PySem.W.Fast.tw6492653249171016861 : True := trivial
theorem PySem.W.Fast.tw9739168804061817415 : True := trivial
theorem PySem.W.Fast.tw2409065000273056515 : True := trivial
theorem PySem.W.Fast.tw3287195541569373623 : True := trivial
theorem PySem.W.Fast.tw17652973918440060279 : True := trivial
theorem PySem.W.Fast.tw14450355771656131289 : True := trivial
theorem PySem.W.Fast.tw5729586823363453817 : True := trivial
theorem PySem.W.Fast.tw17025140078327472636 : True := trivial
theorem PySem.W.Fast.tw13471205068077245325 : True := trivial
theorem PySem.W.Fast.tw13613235560862188310 : True := trivial
theorem PySem.W.Fast.tw14196767852206200376 : True := trivial
theorem PySem.W.Fast.tw12368465943217911153 : True := trivial
theorem PySem.W.Fast.tw18384242920438357544 : True := trivial
theorem PySem.W.Fast.tw2221900932096680658 : True := trivial
theorem PySem.W.Fast.tw1872120996428067258 : True := trivial
theorem PySem.W.Fast.tw14345280110300209207 : True := trivial
theorem PySem.W.Fast.tw877304796992962325 : True := trivial
theorem PySem.W.Fast.tw14697549162928530027 : True := trivial
theorem PySem.W.Fast.tw8803346772751182610 : True := trivial
theorem PySem.W.Fast.tw17489640215629085302 : True := trivial
theorem PySem.W.Fast.tw4978000727300543116 : True := trivial
theorem PySem.W.Fast.tw13510109067093083871 : True := trivial
theorem PySem.W.Fast.tw9320336207565055397 : True := trivial
theorem PySem.W.Fast.tw7442208187109666711 : True := trivial
theorem PySem.W.Fast.tw17063866115755861470 : True := trivial
theorem PySem.W.Fast.tw11064957514298477327 : True := trivial
theorem PySem.W.Fast.tw17191045799467787271 : True := trivial
theorem PySem.W.Fast.tw18064723561675974080 : True := trivial
theorem PySem.W.Fast.tw17566639088731894439 : True := trivial
theorem PySem.W.Fast.tw11804956133908733120 : True := trivial
theorem PySem.W.Fast.tw15610289624162353434 : True := trivial
theorem PySem.W.Fast.tw10392392022097726964 : True := trivial
theorem PySem.W.Fast.tw12069158044853481101 : True := trivial
theorem PySem.W.Fast.tw11046129949944462298 : True := trivial
theorem PySem.W.Fast.tw361648687095153536 : True := trivial
theorem PySem.W.Fast.tw18183849391249981040 : True := trivial
theorem PySem.W.Fast.tw15838594280451383983 : True := trivial
theorem PySem.W.Fast.tw6625619487948021964 : True := trivial
theorem PySem.W.Fast.tw13206125756142168071 : True := trivial
theorem PySem.W.Fast.tw4346161345752242312 : True := trivial
theorem PySem.W.Fast.tw15176642496985826103 : True := trivial
theorem PySem.W.Fast.tw2936062146442035400 : True := trivial
theorem PySem.W.Fast.tw14133338835289184927 : True := trivial
theorem PySem.W.Fast.tw1978088115768994519 : True := trivial
theorem PySem.W.Fast.tw7806384182737226039 : True := trivial
theorem PySem.W.Fast.tw232275369162514249 : True := trivial
theorem PySem.W.Fast.tw14721705252249992907 : True := trivial
theorem PySem.W.Fast.tw13526203819512087486 : True := trivial
theorem PySem.W.Fast.tw6390492539099227517 : True := trivial
theorem PySem.W.Fast.tw628886330958200399 : True := trivial
theorem PySem.W.Fast.tw10641896188747680036 : True := trivial
theorem PySem.W.Fast.tw3955338343965769003 : True := trivial
theorem PySem.W.Fast.tw1413143282617657116 : True := trivial
theorem PySem.W.Fast.tw12170463997601992546 : True := trivial
theorem PySem.W.Fast.tw10758914567679244770 : True := trivial
theorem PySem.W.Fast.tw6074309443653365734 : True := trivial
open PySem PySem.W PyProof.Rows
set_option maxRecDepth 100000 in
set_option maxHeartbeats 0 in
theorem PySem.Challenge.cw_rightname_k73_sheets_laid_holds : PySem.Challenge.rw_rightname_k73_sheets_laid.Holds := by
  w_on; o_law; k_head; (case hw => w_witness2)
  k_fill
  refine L2.walk_ofK (l := PySem.Challenge.rw_rightname_k73_sheets_laid) (n := 63) (k := 14) (x := "_law_script") (CX := L2.CX0) (sp := My.spLaw) rfl (by decide) rfl ⟨rfl, by decide, by decide⟩ (fun w h Y => PySem.W.kIn_of Y) ?F ?S ?C
  case F =>
    intro w mg fa h KX G hmg
    refine' My.all_mk KX G hmg ?pa0 ?pl0 ?pc0 ?pk0 ?pa1 ?pl1 ?pc1 ?pk1 ?pa2 ?pl2 ?pc2 ?pk2 ?pa3 ?pl3 ?pc3 ?pk3 ?pa4 ?pl4 ?pc4 ?pk4 ?pa5 ?pl5 ?pc5 ?pk5 ?pa6 ?pl6 ?pc6 ?pk6 ?pa7 ?pl7 ?pc7 ?pk7 ?pa8 ?pl8 ?pc8 ?pk8 ?pa9 ?pl9 ?pc9 ?pk9 ?pa10 ?pl10 ?pc10 ?pk10 ?pa11 ?pl11 ?pc11 ?pk11 ?pa12 ?pl12 ?pc12 ?pk12 ?pa13 ?pl13 ?pc13 ?pk13 ?pa14 ?pl14 ?pc14 ?pk14 ?pa15 ?pl15 ?pc15 ?pk15 ?pa16 ?pl16 ?pc16 ?pk16 ?pa17 ?pl17 ?pc17 ?pk17 ?pa18 ?pl18 ?pc18 ?pk18 ?pa19 ?pl19 ?pc19 ?pk19 ?pa20 ?pl20 ?pc20 ?pk20 ?pa21 ?pl21 ?pc21 ?pk21 ?pa22 ?pl22 ?pc22 ?pk22 ?pa23 ?pl23 ?pc23 ?pk23 ?pa24 ?pl24 ?pc24 ?pk24 ?pa25 ?pl25 ?pc25 ?pk25 ?pcg_Results ?ppg_Results ?phd_Results ?ppo_Results ?psa_Results ?pkc_Results ?pmk_Results ?pin_Results ?pfn_Results ?pl_Results_init ?pk_Results_init ?pp_Results_init ?pna_Results_outs ?pna_Results_names ?pna_Results_rights ?pna_Results_holders ?pcg_Clerk ?ppg_Clerk ?phd_Clerk ?ppo_Clerk ?psa_Clerk ?pkc_Clerk ?pmk_Clerk ?pin_Clerk ?pfn_Clerk ?pl_Clerk_init ?pk_Clerk_init ?pp_Clerk_init ?pna_Clerk_entries ?pna_Clerk_results ?pna_Clerk_deeds ?pna_Clerk_piles ?pmf_Clerk_lay ?pmi_Clerk_lay ?pl_Clerk_lay ?pk_Clerk_lay ?pp_Clerk_lay ?pmf_Clerk_take ?pmi_Clerk_take ?pl_Clerk_take ?pk_Clerk_take ?pp_Clerk_take ?pmf_Clerk_book ?pmi_Clerk_book ?pl_Clerk_book ?pk_Clerk_book ?pp_Clerk_book ?pmf_Clerk_acts ?pmi_Clerk_acts ?pl_Clerk_acts ?pk_Clerk_acts ?pp_Clerk_acts ?pmf_Clerk_sorting ?pmi_Clerk_sorting ?pl_Clerk_sorting ?pk_Clerk_sorting ?pp_Clerk_sorting ?pcg_LAST_NUMBER ?pcr_LAST_NUMBER ?pcg_FORM_DEPTH ?pcr_FORM_DEPTH ?pcg_NoSorting ?pcg_NoSheet ?pcg_NoPath ?pcg_RightError ?pcg_NoEntry ?pcg_Late ?pcg_NoAct ?pxl_NoSorting ?pxn_NoSorting ?pxs_NoSorting ?pxi_NoSorting ?pxa_NoSorting ?pxb_NoSorting ?pxt_NoSorting ?pxj_NoSorting ?pqcs_NoSorting ?pqga_NoSorting ?pqgt_NoSorting ?pqca_NoSorting ?pqgg_NoSorting ?pqtk_NoSorting ?pqmo_NoSorting ?pqsb_NoSorting ?pi_NoSorting_NoEntry ?pi_NoSorting_Late ?pi_NoSorting_NoAct ?pi_NoSorting_NoSheet ?pi_NoSorting_NoPath ?pi_NoSorting_ValueError ?pe_NoSorting_RightError ?pxl_NoSheet ?pxn_NoSheet ?pxs_NoSheet ?pxi_NoSheet ?pxa_NoSheet ?pxb_NoSheet ?pxt_NoSheet ?pxj_NoSheet ?pqcs_NoSheet ?pqga_NoSheet ?pqgt_NoSheet ?pqca_NoSheet ?pqgg_NoSheet ?pqtk_NoSheet ?pqmo_NoSheet ?pqsb_NoSheet ?pi_NoSheet_NoEntry ?pi_NoSheet_Late ?pi_NoSheet_NoAct ?pi_NoSheet_NoSheet ?pi_NoSheet_NoPath ?pi_NoSheet_ValueError ?pe_NoSheet_RightError ?pxl_NoPath ?pxn_NoPath ?pxs_NoPath ?pxi_NoPath ?pxa_NoPath ?pxb_NoPath ?pxt_NoPath ?pxj_NoPath ?pqcs_NoPath ?pqga_NoPath ?pqgt_NoPath ?pqca_NoPath ?pqgg_NoPath ?pqtk_NoPath ?pqmo_NoPath ?pqsb_NoPath ?pi_NoPath_NoEntry ?pi_NoPath_Late ?pi_NoPath_NoAct ?pi_NoPath_NoSheet ?pi_NoPath_NoPath ?pi_NoPath_ValueError ?pe_NoPath_RightError ?pz_len ?pz_isinstance ?pz_int ?pz_bool ?pz_list ?pz_tuple ?pz_sorted ?pz_range ?pz_min ?pz_enumerate ?pz_all ?pz_ValueError
    (case pa0 => k_is)
    (case pl0 => k_is)
    (case pc0 => k_is)
    (case pk0 => k_is)
    (case pa1 => k_is)
    (case pl1 => k_is)
    (case pc1 => k_is)
    (case pk1 => k_is)
    (case pa2 => k_is)
    (case pl2 => k_is)
    (case pc2 => k_is)
    (case pk2 => k_is)
    (case pa3 => k_is)
    (case pl3 => k_is)
    (case pc3 => k_is)
    (case pk3 => k_is)
    (case pa4 => k_is)
    (case pl4 => k_is)
    (case pc4 => k_is)
    (case pk4 => k_is)
    (case pa5 => k_is)
    (case pl5 => k_is)
    (case pc5 => k_is)
    (case pk5 => k_is)
    (case pa6 => k_is)
    (case pl6 => k_is)
    (case pc6 => k_is)
    (case pk6 => k_is)
    (case pa7 => k_is)
    (case pl7 => k_is)
    (case pc7 => k_is)
    (case pk7 => k_is)
    (case pa8 => k_is)
    (case pl8 => k_is)
    (case pc8 => k_is)
    (case pk8 => k_is)
    (case pa9 => k_is)
    (case pl9 => k_is)
    (case pc9 => k_is)
    (case pk9 => k_is)
    (case pa10 => k_is)
    (case pl10 => k_is)
    (case pc10 => k_is)
    (case pk10 => k_is)
    (case pa11 => k_is)
    (case pl11 => k_is)
    (case pc11 => k_is)
    (case pk11 => k_is)
    (case pa12 => k_is)
    (case pl12 => k_is)
    (case pc12 => k_is)
    (case pk12 => k_is)
    (case pa13 => k_is)
    (case pl13 => k_is)
    (case pc13 => k_is)
    (case pk13 => k_is)
    (case pa14 => k_is)
    (case pl14 => k_is)
    (case pc14 => k_is)
    (case pk14 => k_is)
    (case pa15 => k_is)
    (case pl15 => k_is)
    (case pc15 => k_is)
    (case pk15 => k_is)
    (case pa16 => k_is)
    (case pl16 => k_is)
    (case pc16 => k_is)
    (case pk16 => k_is)
    (case pa17 => k_is)
    (case pl17 => k_is)
    (case pc17 => k_is)
    (case pk17 => k_is)
    (case pa18 => k_is)
    (case pl18 => k_is)
    (case pc18 => k_is)
    (case pk18 => k_is)
    (case pa19 => k_is)
    (case pl19 => k_is)
    (case pc19 => k_is)
    (case pk19 => k_is)
    (case pa20 => k_is)
    (case pl20 => k_is)
    (case pc20 => k_is)
    (case pk20 => k_is)
    (case pa21 => k_is)
    (case pl21 => k_is)
    (case pc21 => k_is)
    (case pk21 => k_is)
    (case pa22 => k_is)
    (case pl22 => k_is)
    (case pc22 => k_is)
    (case pk22 => k_is)
    (case pa23 => k_is)
    (case pl23 => k_is)
    (case pc23 => k_is)
    (case pk23 => k_is)
    (case pa24 => k_is)
    (case pl24 => k_is)
    (case pc24 => k_is)
    (case pk24 => k_is)
    (case pa25 => k_is)
    (case pl25 => k_is)
    (case pc25 => k_is)
    (case pk25 => k_is)
    (case pcg_Results => k_is)
    (case ppg_Results => k_is)
    (case phd_Results => k_is)
    (case ppo_Results => k_is)
    (case psa_Results => k_is)
    (case pkc_Results => k_is)
    (case pmk_Results => k_is)
    (case pin_Results => k_is)
    (case pfn_Results => k_is)
    (case pl_Results_init => k_is)
    (case pk_Results_init => k_is)
    (case pp_Results_init => k_is)
    (case pna_Results_outs => k_is)
    (case pna_Results_names => k_is)
    (case pna_Results_rights => k_is)
    (case pna_Results_holders => k_is)
    (case pcg_Clerk => k_is)
    (case ppg_Clerk => k_is)
    (case phd_Clerk => k_is)
    (case ppo_Clerk => k_is)
    (case psa_Clerk => k_is)
    (case pkc_Clerk => k_is)
    (case pmk_Clerk => k_is)
    (case pin_Clerk => k_is)
    (case pfn_Clerk => k_is)
    (case pl_Clerk_init => k_is)
    (case pk_Clerk_init => k_is)
    (case pp_Clerk_init => k_is)
    (case pna_Clerk_entries => k_is)
    (case pna_Clerk_results => k_is)
    (case pna_Clerk_deeds => k_is)
    (case pna_Clerk_piles => k_is)
    (case pmf_Clerk_lay => k_is)
    (case pmi_Clerk_lay => k_is)
    (case pl_Clerk_lay => k_is)
    (case pk_Clerk_lay => k_is)
    (case pp_Clerk_lay => k_is)
    (case pmf_Clerk_take => k_is)
    (case pmi_Clerk_take => k_is)
    (case pl_Clerk_take => k_is)
    (case pk_Clerk_take => k_is)
    (case pp_Clerk_take => k_is)
    (case pmf_Clerk_book => k_is)
    (case pmi_Clerk_book => k_is)
    (case pl_Clerk_book => k_is)
    (case pk_Clerk_book => k_is)
    (case pp_Clerk_book => k_is)
    (case pmf_Clerk_acts => k_is)
    (case pmi_Clerk_acts => k_is)
    (case pl_Clerk_acts => k_is)
    (case pk_Clerk_acts => k_is)
    (case pp_Clerk_acts => k_is)
    (case pmf_Clerk_sorting => k_is)
    (case pmi_Clerk_sorting => k_is)
    (case pl_Clerk_sorting => k_is)
    (case pk_Clerk_sorting => k_is)
    (case pp_Clerk_sorting => k_is)
    (case pcg_LAST_NUMBER => k_is)
    (case pcr_LAST_NUMBER => first | exact L2.rel_int | exact L2.rel_str | exact rfl)
    (case pcg_FORM_DEPTH => k_is)
    (case pcr_FORM_DEPTH => first | exact L2.rel_int | exact L2.rel_str | exact rfl)
    (case pcg_NoSorting => k_is)
    (case pcg_NoSheet => k_is)
    (case pcg_NoPath => k_is)
    (case pcg_RightError => k_is)
    (case pcg_NoEntry => k_is)
    (case pcg_Late => k_is)
    (case pcg_NoAct => k_is)
    (case pxl_NoSorting => k_is)
    (case pxn_NoSorting => k_is)
    (case pxs_NoSorting => kernel_rfl)
    (case pxi_NoSorting => kernel_rfl)
    (case pxa_NoSorting => k_is)
    (case pxb_NoSorting => k_is)
    (case pxt_NoSorting => kernel_rfl)
    (case pxj_NoSorting => kernel_rfl)
    (case pqcs_NoSorting => kernel_rfl)
    (case pqga_NoSorting => k_is)
    (case pqgt_NoSorting => k_is)
    (case pqca_NoSorting => k_is)
    (case pqgg_NoSorting => k_is)
    (case pqtk_NoSorting => k_is)
    (case pqmo_NoSorting => k_is)
    (case pqsb_NoSorting => k_is)
    (case pi_NoSorting_NoEntry => kernel_rfl)
    (case pi_NoSorting_Late => kernel_rfl)
    (case pi_NoSorting_NoAct => kernel_rfl)
    (case pi_NoSorting_NoSheet => kernel_rfl)
    (case pi_NoSorting_NoPath => kernel_rfl)
    (case pi_NoSorting_ValueError => kernel_rfl)
    (case pe_NoSorting_RightError => kernel_rfl)
    (case pxl_NoSheet => k_is)
    (case pxn_NoSheet => k_is)
    (case pxs_NoSheet => kernel_rfl)
    (case pxi_NoSheet => kernel_rfl)
    (case pxa_NoSheet => k_is)
    (case pxb_NoSheet => k_is)
    (case pxt_NoSheet => kernel_rfl)
    (case pxj_NoSheet => kernel_rfl)
    (case pqcs_NoSheet => kernel_rfl)
    (case pqga_NoSheet => k_is)
    (case pqgt_NoSheet => k_is)
    (case pqca_NoSheet => k_is)
    (case pqgg_NoSheet => k_is)
    (case pqtk_NoSheet => k_is)
    (case pqmo_NoSheet => k_is)
    (case pqsb_NoSheet => k_is)
    (case pi_NoSheet_NoEntry => kernel_rfl)
    (case pi_NoSheet_Late => kernel_rfl)
    (case pi_NoSheet_NoAct => kernel_rfl)
    (case pi_NoSheet_NoSheet => kernel_rfl)
    (case pi_NoSheet_NoPath => kernel_rfl)
    (case pi_NoSheet_ValueError => kernel_rfl)
    (case pe_NoSheet_RightError => kernel_rfl)
    (case pxl_NoPath => k_is)
    (case pxn_NoPath => k_is)
    (case pxs_NoPath => kernel_rfl)
    (case pxi_NoPath => kernel_rfl)
    (case pxa_NoPath => k_is)
    (case pxb_NoPath => k_is)
    (case pxt_NoPath => kernel_rfl)
    (case pxj_NoPath => kernel_rfl)
    (case pqcs_NoPath => kernel_rfl)
    (case pqga_NoPath => k_is)
    (case pqgt_NoPath => k_is)
    (case pqca_NoPath => k_is)
    (case pqgg_NoPath => k_is)
    (case pqtk_NoPath => k_is)
    (case pqmo_NoPath => k_is)
    (case pqsb_NoPath => k_is)
    (case pi_NoPath_NoEntry => kernel_rfl)
    (case pi_NoPath_Late => kernel_rfl)
    (case pi_NoPath_NoAct => kernel_rfl)
    (case pi_NoPath_NoSheet => kernel_rfl)
    (case pi_NoPath_NoPath => kernel_rfl)
    (case pi_NoPath_ValueError => kernel_rfl)
    (case pe_NoPath_RightError => kernel_rfl)
    (case pz_len => k_is)
    (case pz_isinstance => k_is)
    (case pz_int => k_is)
    (case pz_bool => k_is)
    (case pz_list => k_is)
    (case pz_tuple => k_is)
    (case pz_sorted => k_is)
    (case pz_range => k_is)
    (case pz_min => k_is)
    (case pz_enumerate => k_is)
    (case pz_all => k_is)
    (case pz_ValueError => k_is)
  case S => exact fun K H a ns hl hO hS => ⟨a, ns, rfl, hS, hl, fun _ => rfl⟩
  case C => exact fun _ _ _ _ z => z
#print axioms PySem.Challenge.cw_rightname_k73_sheets_laid_holds
