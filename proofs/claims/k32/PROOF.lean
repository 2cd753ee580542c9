import PyProof.Rows.All
import Wide.All
import OpenK.AllK
import Wide.FinOn
import Lean
import PyProof.EqAt
import PyProof.EqKinds
import PyProof.TupleCall
import PySem.Challenge.RW_rightname_k32_books_of_acts
set_option Elab.async false
set_option linter.all false
set_option maxRecDepth 100000
namespace L2
open PySem PySem.Spec PyProof.Rows
abbrev Key:=Sum Int Str
def iF:Key → Value → Bool
 | .inl k,v=>Value.isInt k v
 | .inr x,v=>Value.isStrOf x v
def zC (w:World):Key → Int
 | .inl k=>hashInt k
 | .inr x=>hashStr w x
theorem bc:∀ {k:Key} {v:Value},iF k v = true → (∃ i t,k = Sum.inl i ∧ v = Value.int i t) ∨ (∃ x t,k = Sum.inr x ∧ v = Value.str x t)
 | .inl i,v,h=>by
  obtain ⟨t,e⟩:=Value.isInt_shape (k:=i) (v:=v) h
  exact .inl ⟨i,t,rfl,e⟩
 | .inr x,v,h=>by
  obtain ⟨t,e⟩:=Value.isStrOf_shape (x:=x) (v:=v) h
  exact .inr ⟨x,t,rfl,e⟩
theorem qN (i:Int) (t:Tok):iF (.inl i) (.int i t) = true:=by simp [iF,Value.isInt]
theorem iy (x:Str) (t:Tok):iF (.inr x) (.str x t) = true:=by simp [iF,Value.isStrOf]
theorem vw (a b:Int):decide ((Sum.inl a:Key) = Sum.inl b) = (a == b):=by
 by_cases e:a = b
 ·subst e; simp
 ·have h:¬ (Sum.inl a:Key) = Sum.inl b:=fun q=>e (Sum.inl.inj q)
  rw [decide_eq_false h]
  exact (beq_eq_false_iff_ne.mpr e).symm
theorem vx (a b:Str):decide ((Sum.inr a:Key) = Sum.inr b) = decide (a = b):=by
 by_cases e:a = b
 ·subst e; simp
 ·have h:¬ (Sum.inr a:Key) = Sum.inr b:=fun q=>e (Sum.inr.inj q)
  rw [decide_eq_false h,decide_eq_false e]
theorem wK (a:Int) (b:Str):decide ((Sum.inl a:Key) = Sum.inr b) = false:=decide_eq_false (fun q=>nomatch q)
theorem w6 (a:Str) (b:Int):decide ((Sum.inr a:Key) = Sum.inl b) = false:=decide_eq_false (fun q=>nomatch q)
def aU (prog:Program) (w:World):PySem.KeyKind prog w Key where
 is:=iF
 hash:=zC w
 inj:=fun v a b ha hb=>by
  rcases bc ha with ⟨i,t,rfl,rfl⟩ | ⟨x,t,rfl,rfl⟩
  ·rcases bc hb with ⟨j,u,rfl,e⟩ | ⟨y,u,rfl,e⟩
   ·injection e with e1 _; rw [e1]
   ·exact nomatch e
  ·rcases bc hb with ⟨j,u,rfl,e⟩ | ⟨y,u,rfl,e⟩
   ·exact nomatch e
   ·injection e with e1 _; rw [e1]
 byValue:=fun k v h=>by
  rcases bc h with ⟨i,t,rfl,rfl⟩ | ⟨x,t,rfl,rfl⟩ <;> rfl
 pyHash:=fun hv h=>by
  rcases bc hv with ⟨i,t,rfl,rfl⟩ | ⟨x,t,rfl,rfl⟩
  ·exact wpAny_pyHash_int h
  ·exact wpAny_pyHash_str h
 eqBool:=fun hu hv h=>by
  rcases bc hu with ⟨i,t,rfl,rfl⟩ | ⟨x,t,rfl,rfl⟩
  ·rcases bc hv with ⟨j,u,rfl,rfl⟩ | ⟨y,u,rfl,rfl⟩
   ·rw [vw] at h; exact wpAny_eqBool_int h
   ·rw [wK] at h; exact SeqAt.EqAt.int_str i t y u _ _ _ _ h
  ·rcases bc hv with ⟨j,u,rfl,rfl⟩ | ⟨y,u,rfl,rfl⟩
   ·rw [w6] at h; exact SeqAt.EqAt.str_int x t j u _ _ _ _ h
   ·rw [vx] at h; exact wpAny_eqBool_str h
 «strs»:=fun k x t v h=>by
  rcases bc h with ⟨i,u,rfl,e⟩ | ⟨y,u,rfl,e⟩
  ·exact nomatch e
  ·injection e with e1 _
   subst e1
   cases v <;> rfl
theorem nS (prog:Program) (w:World) (i:Int) (t:Tok):(aU prog w).is (.inl i) (.int i t) = true:=qN i t
theorem nY (prog:Program) (w:World) (x:Str) (t:Tok):(aU prog w).is (.inr x) (.str x t) = true:=iy x t
end L2
namespace L2
open PySem PySem.Spec PyProof.Rows
inductive V where
 | bA | bl (b:Bool) | int (i:Int) | str (x:Str) | byt (b:Array UInt8) | flt (b:UInt64) | ref (a:Addr) | ty (n:String)
 deriving DecidableEq
def RelV:V → Value → Prop
 | .bA,u=>u = Value.none
 | .bl b,u=>u = Value.bool b
 | .int i,u=>∃ t,u = Value.int i t
 | .str x,u=>∃ t,u = Value.str x t
 | .byt b,u=>∃ t,u = Value.bytes b t
 | .flt b,u=>∃ t,u = Value.float b t
 | .ref a,u=>u = Value.ref a
 | .ty n,u=>u = Value.type n
abbrev Vals:List V → List Value → Prop:=Paired RelV
theorem Vals.length {xs:List V} {us:List Value} (r:Vals xs us):xs.length = us.length:=Paired.length r
theorem Vals.get:∀ {xs:List V} {us:List Value} {i:Nat} {x:V},Vals xs us → xs[i]? = some x → ∃ u,us[i]? = some u ∧ RelV x u
 | _,_,_,_,.nil,e=>by simp at e
 | _,_,0,_,.cons r _,e=>by simp at e; subst e; exact ⟨_,rfl,r⟩
 | _,_,i + 1,x,.cons _ t,e=>by
  obtain ⟨u,h1,h2⟩:=Vals.get (i:=i) (x:=x) t (by simpa using e)
  exact ⟨u,by simpa using h1,h2⟩
theorem Vals.set {x:V} {u:Value} (r:RelV x u):∀ {xs:List V} {us:List Value} (i:Nat),Vals xs us → Vals (xs.set i x) (us.set i u)
 | _,_,_,.nil=>.nil
 | _,_,0,.cons _ t=>.cons r t
 | _,_,i + 1,.cons q t=>.cons q (Vals.set r i t)
theorem Vals.append:∀ {xs ys:List V} {us ws:List Value},Vals xs us → Vals ys ws → Vals (xs ++ ys) (us ++ ws)
 | _,_,_,_,.nil,s=>s
 | _,_,_,_,.cons r t,s=>.cons r (Vals.append t s)
theorem Vals.take:∀ {xs:List V} {us:List Value} (n:Nat),Vals xs us → Vals (xs.take n) (us.take n)
 | _,_,0,_=>.nil
 | _,_,_ + 1,.nil=>.nil
 | _,_,n + 1,.cons r t=>.cons r (Vals.take n t)
theorem Vals.drop:∀ {xs:List V} {us:List Value} (n:Nat),Vals xs us → Vals (xs.drop n) (us.drop n)
 | _,_,0,r=>r
 | _,_,_ + 1,.nil=>.nil
 | _,_,n + 1,.cons _ t=>Vals.drop n t
theorem Vals.none_of:∀ {xs:List V} {us:List Value} {i:Nat},Vals xs us → xs[i]? = none → us[i]? = none:=fun {xs us i} r e=>by
 have h1:=r.length
 have h2:xs.length ≤ i:=List.getElem?_eq_none_iff.mp e
 exact List.getElem?_eq_none_iff.mpr (by omega)
def eP:Option V → Option Value → Prop
 | some v,some u=>RelV v u
 | none,none=>True
 | _,_=>False
def KV {κ:Type}:List (κ × V) → List (κ × Value) → Prop:=Paired fun (p:κ × V) (q:κ × Value)=>p.1 = q.1 ∧ RelV p.2 q.2
def kV:Key → V
 | .inl i=>.int i
 | .inr x=>.str x
inductive HO where
  | lst (xs:List V)
  | tup (xs:List V)
  | dK (kvs:List (Key × V)) | dT (kvs:List (List Key × V))
  | set (S:Int → Bool) (n:Nat)
  | ins (C dx:Addr) (fs:List (Str × V))
  | own (x:Addr)
  | xd (fs:List (Str × V))
  | met (f x:Addr)
  | rng (lo hi:Int)
  | frz (o:Obj) (u:HO)
  | tbl (ps:Array Value)
  | ext (φ:Heap → Prop)
abbrev Hp:=Addr → Option HO
def upd (H:Hp) (a:Addr) (o:HO):Hp:=fun b=>if b = a then some o else H b
theorem aB {H:Hp} {a:Addr} {o:HO}:upd H a o a = some o:=by unfold upd; rw [if_pos rfl]
theorem aK {H:Hp} {a b:Addr} {o:HO} (h:b ≠ a):upd H a o b = H b:=by unfold upd; rw [if_neg h]
theorem fB {H:Hp} {a:Addr} {o u:HO}:upd (upd H a o) a u = upd H a u:=by
 funext b; unfold upd; split <;> rfl
theorem bT {H:Hp} {a b:Addr} {o u:HO} (h:H a = some o) (h':H b = some u) (d:o ≠ u):a ≠ b:=by
 intro e; subst e; rw [h] at h'; exact d (Option.some.inj h')
theorem aM {H:Hp} {a b:Addr} {o:HO} (h:H a = some o) (h':H b = none):a ≠ b:=by
 intro e; subst e; rw [h] at h'; cases h'
section
variable (P:Program) (w:World)
def bL (H:Hp) (h:Heap) (a:Addr):HO → Prop
 | .lst xs=>xs.length ≤ sizeLine ∧ ∃ (ai:List Value) (n:Nat),Vals xs ai ∧ h.get? a = some { cls:=.type "list",data:=.seq ai.toArray n }
 | .tup xs=>xs.length ≤ sizeLine ∧ ∃ ai:List Value,Vals xs ai ∧ IsTup h a ai.toArray
 | .dK kvs=>kvs.length ≤ sizeLine ∧ (a == sysModules) = false ∧ ∃ vs,KV kvs vs ∧ h.DictOf (aU P w) a vs
 | .dT kvs=>kvs.length ≤ sizeLine ∧ (a == sysModules) = false ∧ ∃ xs:List (List Key × Addr × Value),
   Paired (fun (p:List Key × V) (q:List Key × Addr × Value)=>p.1 = q.1 ∧ H q.2.1 = some (.tup (p.1.map kV)) ∧ RelV p.2 q.2.2) kvs xs ∧
   ∃ o es ep,h.get? a = some o ∧ o.ExactDict ∧ o.data = .dict es ep ∧ es.toList = xs.map (entryOfKey (tupleKind (aU P w))) ∧ (xs.map (·.1)).Nodup
 | .set S n=>h.SetOf (intKind P w) a S n
 | .ins C dx fs=>H dx = some (.own a) ∧ fs.length ≤ 1000 ∧ dx ≠ a ∧ h.get? a = some (PySem.W.instObj C dx) ∧
   ∃ mA,h.Ns1 dx mA ∧ (∀ f,eP (fs.lookup f) (mA f)) ∧ PySem.Within mA (fs.map (·.1))
 | .own _=>∃ o,h.get? a = some o
 | .xd fs=>∃ mA,h.Ns1 a mA ∧ ∀ f,eP (fs.lookup f) (mA f)
 | .rng lo hi=>∃ t u v,h.get? a = some { cls:=.type "range",data:=.fields #[.int lo t,.int hi u,.int 1 v] }
 | .frz o u=>h.get? a = some o ∧ bL H h a u
 | .tbl ps=>h.get? a = some { cls:=.none,data:=.fields ps }
 | .met f x=>h.get? a = some (PySem.W.methodObj (.ref f) (.ref x))
 | .ext φ=>φ h ∧ (∃ o,h.get? a = some o) ∧ ∀ h1 h2:Heap,φ h1 → (∀ o,h1.get? a = some o → h2.get? a = some o) → φ h2
def eJ (H:Hp) (h:Heap):Prop:=∀ a o,H a = some o → bL P w H h a o
end
section
variable {P:Program} {w:World} {H H':Hp} {h h':Heap} {a:Addr} {o:HO}
theorem bL.lt (x:bL P w H h a o):a < h.objs.size:=by
 cases o with
 | lst xs=>obtain ⟨_,_,_,_,e⟩:=x; exact Heap.lt_size e
 | tup xs=>obtain ⟨_,_,_,p⟩:=x; exact p.lt
 | dK kvs=>obtain ⟨_,_,_,_,o,_,_,e,_⟩:=x; exact Heap.lt_size e
 | dT kvs=>obtain ⟨_,_,_,_,o,_,_,e,_⟩:=x; exact Heap.lt_size e
 | set S n=>obtain ⟨o,_,_,_,e,_⟩:=x; exact Heap.lt_size e
 | ins C dx fs=>obtain ⟨_,_,_,e,_⟩:=x; exact Heap.lt_size e
 | own y=>obtain ⟨_,e⟩:=x; exact Heap.lt_size e
 | xd fs=>obtain ⟨_,⟨_,_,_,e,_⟩,_⟩:=x; exact Heap.lt_size e
 | rng lo hi=>obtain ⟨_,_,_,e⟩:=x; exact Heap.lt_size e
 | frz ob u=>obtain ⟨e,_⟩:=x; exact Heap.lt_size e
 | tbl ps=>exact Heap.lt_size (show h.get? a = some _ from x)
 | met f y=>exact Heap.lt_size (show h.get? a = some _ from x)
 | ext φ=>obtain ⟨_,⟨_,e⟩,_⟩:=x; exact Heap.lt_size e
theorem Paired.fG {α β:Type} {F G:α → β → Prop}:∀ {l₁:List α} {l₂:List β},Paired F l₁ l₂ → (∀ a b,F a b → G a b) → Paired G l₁ l₂
 | _,_,.nil,_=>.nil
 | _,_,.cons r t,f=>.cons (f _ _ r) (Paired.fG t f)
theorem bL.jL (x:bL P w H h a o) (k:∀ b u,(b = a ∨ H b = some (.own a)) → h.get? b = some u → h'.get? b = some u)
  (ho:∀ b,H b = some (.own a) → H' b = some (.own a)) (ht:∀ b xs,H b = some (.tup xs) → H' b = some (.tup xs)):bL P w H' h' a o:=by
 induction o with
 | lst xs=>obtain ⟨z,ai,n,r,e⟩:=x; exact ⟨z,ai,n,r,k _ _ (.inl rfl) e⟩
 | tup xs=>obtain ⟨z,ai,r,ob,e,c⟩:=x; exact ⟨z,ai,r,ob,k _ _ (.inl rfl) e,c⟩
 | dK kvs=>obtain ⟨z,y,vs,r,ob,es,ep,e,c⟩:=x; exact ⟨z,y,vs,r,ob,es,ep,k _ _ (.inl rfl) e,c⟩
 | dT kvs =>
  obtain ⟨z,y,xs,r,ob,es,ep,e,c⟩:=x
  exact ⟨z,y,xs,Paired.fG r fun p q z=>⟨z.1,ht _ _ z.2.1,z.2.2⟩,ob,es,ep,k _ _ (.inl rfl) e,c⟩
 | set S n=>obtain ⟨ob,es,ep,t,e,c⟩:=x; exact ⟨ob,es,ep,t,k _ _ (.inl rfl) e,c⟩
 | ins C dx fs =>
  obtain ⟨d,z,ne,e,mA,⟨od,es,ep,e2,c⟩,r⟩:=x
  exact ⟨ho _ d,z,ne,k _ _ (.inl rfl) e,mA,⟨od,es,ep,k _ _ (.inr d) e2,c⟩,r⟩
 | own y=>obtain ⟨ob,e⟩:=x; exact ⟨ob,k _ _ (.inl rfl) e⟩
 | xd fs=>obtain ⟨mA,⟨od,es,ep,e,c⟩,r⟩:=x; exact ⟨mA,⟨od,es,ep,k _ _ (.inl rfl) e,c⟩,r⟩
 | rng lo hi=>obtain ⟨t,u,v,e⟩:=x; exact ⟨t,u,v,k _ _ (.inl rfl) e⟩
 | frz ob u ih=>obtain ⟨e,q⟩:=x; exact ⟨k _ _ (.inl rfl) e,ih q⟩
 | tbl ps =>
  have e:h.get? a = some { cls:=.none,data:=.fields ps }:=x
  show h'.get? a = some { cls:=.none,data:=.fields ps }
  exact k a _ (.inl rfl) e
 | met f y =>
  have e:h.get? a = some (PySem.W.methodObj (.ref f) (.ref y)):=x
  show h'.get? a = some (PySem.W.methodObj (.ref f) (.ref y))
  exact k a _ (.inl rfl) e
 | ext φ=>obtain ⟨p,⟨o,e⟩,st⟩:=x; exact ⟨st _ _ p fun o q=>k _ _ (.inl rfl) q,⟨o,k _ _ (.inl rfl) e⟩,st⟩
theorem eJ.lt (x:eJ P w H h) (e:H a = some o):a < h.objs.size:=(x a o e).lt
theorem eJ.fresh (x:eJ P w H h) (e:h.objs.size ≤ a):H a = none:=by
 cases q:H a with
 | none=>rfl
 | some u=>exact absurd (Nat.lt_of_lt_of_le (x.lt q) e) (Nat.lt_irrefl _)
theorem eJ.kept (x:eJ P w H h) (k:∀ b u,h.get? b = some u → h'.get? b = some u):eJ P w H h':=fun a o e =>
 (x a o e).jL (fun b u _ q=>k b u q) (fun _ q=>q) fun _ _ q=>q
theorem eJ.laid (x:eJ P w H h) (k:∀ b u,h.get? b = some u → h'.get? b = some u) (hp:h.objs.size ≤ a) (new:bL P w (upd H a o) h' a o):eJ P w (upd H a o) h':=fun b u e=>by
 have hn:=x.fresh hp
 by_cases hb:b = a
 ·subst hb; rw [aB] at e; cases e; exact new
 ·rw [aK hb] at e
  exact (x b u e).jL (fun c v _ q=>k c v q) (fun c q=>by rw [aK (aM q hn)]; exact q) fun c xs q=>by rw [aK (aM q hn)]; exact q
end
def Rd (H:Hp) (a:Addr) (u:HO):Prop:=H a = some u ∨ ∃ o,H a = some (.frz o u)
theorem Rd.of {H:Hp} {a:Addr} {u:HO} (h:H a = some u):Rd H a u:=.inl h
theorem Rd.ok {P:Program} {w:World} {H:Hp} {h:Heap} {a:Addr} {u:HO} (r:Rd H a u) (x:eJ P w H h):bL P w H h a u:=by
 rcases r with r | ⟨o,r⟩
 ·exact x a u r
 ·obtain ⟨_,q⟩:=x a _ r
  exact q
def y9:Option HO → Prop
 | some (.lst _)=>True
 | some (.dK _)=>True
 | some (.dT _)=>True
 | some (.set _ _)=>True
 | some (.ins _ _ _)=>True
 | some (.ext _)=>True
 | _=>False
section
variable {P:Program} {w:World} {H:Hp} {h h':Heap} {x e:Addr} {o':HO}
theorem eJ.write (ok:eJ P w H h) (mu:y9 (H x)) (he:e = x ∨ H e = some (.own x)) (k:∀ b u,b ≠ e → h.get? b = some u → h'.get? b = some u) (heo:∃ u,h'.get? e = some u)
  (new:bL P w (upd H x o') h' x o'):eJ P w (upd H x o') h':=fun b u q=>by
 have nown:∀ c y,H c = some (.own y) → c ≠ x:=fun c y r z=>by subst z; rw [r] at mu; exact mu
 have ntup:∀ c xs,H c = some (.tup xs) → c ≠ x:=fun c xs r z=>by subst z; rw [r] at mu; exact mu
 by_cases hb:b = x
 ·subst hb; rw [aB] at q; cases q; exact new
 ·rw [aK hb] at q
  by_cases hbe:b = e
  ·have q':H b = some (.own x):=by
    rcases he with z | z
    ·exact absurd (hbe.trans z) hb
    ·rw [hbe]; exact z
   rw [q] at q'; cases q'
   obtain ⟨v,hv⟩:=heo
   exact ⟨v,by rw [hbe]; exact hv⟩
  ·refine (ok b u q).jL (fun c v hc r=>k c v ?_ r) (fun c r=>by rw [aK (nown c b r)]; exact r) fun c xs r=>by rw [aK (ntup c xs r)]; exact r
   rcases hc with rfl | hc
   ·exact hbe
   ·rintro rfl
    rcases he with z | z
    ·exact nown c b hc z
    ·rw [hc] at z; cases z; exact hb rfl
end
structure Un (fs ex:List Addr) (H H':Hp) (h h':Heap):Prop where
 keep:∀ b o,h.get? b = some o → H b = none → b ∉ fs → b ∉ ex → h'.get? b = some o
 slot:∀ b o,h.get? b = some o → H b = none → b ∈ fs → b ∉ ex → ∃ sl,h'.get? b = some { o with slots:=sl }
 free:∀ b o,h.get? b = some o → H b = none → b ∉ ex → H' b = none
 there:∀ b o,h.get? b = some o → b ∉ ex → ∃ o',h'.get? b = some o'
 tups:∀ b xs,H b = some (.tup xs) → H' b = some (.tup xs)
 frzs:∀ b o u,H b = some (.frz o u) → H' b = some (.frz o u)
 tbls:∀ b ps,H b = some (.tbl ps) → ∃ more,H' b = some (.tbl (ps ++ more))
section
variable {fs fs' ex ex':List Addr} {H H1 H2:Hp} {h h1 h2 h':Heap} {a x e:Addr} {o:HO}
theorem Un.any (u:Un fs ex H H1 h h1) {b:Addr} {ob:Obj} (q:h.get? b = some ob) (n:H b = none) (hx:b ∉ ex):∃ sl,h1.get? b = some { ob with slots:=sl }:=by
 by_cases hb:b ∈ fs
 ·exact u.slot b ob q n hb hx
 ·exact ⟨ob.slots,u.keep b ob q n hb hx⟩
theorem Un.trans (a:Un fs ex H H1 h h1) (b:Un fs ex H1 H2 h1 h2):Un fs ex H H2 h h2 where
 keep:=fun c ob q n hc hx=>b.keep c ob (a.keep c ob q n hc hx) (a.free c ob q n hx) hc hx
 slot:=fun c ob q n hc hx=>by
  obtain ⟨sl,e1⟩:=a.slot c ob q n hc hx
  obtain ⟨sl',e2⟩:=b.slot c _ e1 (a.free c ob q n hx) hc hx
  exact ⟨sl',e2⟩
 free:=fun c ob q n hx=>by
  obtain ⟨o',e1⟩:=a.there c ob q hx
  exact b.free c o' e1 (a.free c ob q n hx) hx
 there:=fun c ob q hx=>by
  obtain ⟨o',e1⟩:=a.there c ob q hx
  exact b.there c o' e1 hx
 tups:=fun c xs q=>b.tups c xs (a.tups c xs q)
 frzs:=fun c ob xs q=>b.frzs c ob xs (a.frzs c ob xs q)
 tbls:=fun c ps q=>by
  obtain ⟨m1,e1⟩:=a.tbls c ps q
  obtain ⟨m2,e2⟩:=b.tbls c _ e1
  exact ⟨m1 ++ m2,by rw [e2,Array.append_assoc]⟩
theorem Un.kept (k:∀ b u,h.get? b = some u → h'.get? b = some u):Un fs ex H H h h' :=
 ⟨fun b ob q _ _ _=>k b ob q,fun b ob q _ _ _=>⟨ob.slots,k b ob q⟩,fun _ _ _ n _=>n,fun b ob q _=>⟨ob,k b ob q⟩,fun _ _ q=>q,fun _ _ _ q=>q,fun _ ps q=>⟨#[],by rw [q]; simp⟩⟩
theorem Un.refl:Un fs ex H H h h:=Un.kept fun _ _ q=>q
theorem Un.laid (k:∀ b u,h.get? b = some u → h'.get? b = some u) (hp:h.objs.size ≤ a) (hn:H a = none):Un fs ex H (upd H a o) h h' where
 keep:=fun b u q _ _ _=>k b u q
 slot:=fun b u q _ _ _=>⟨u.slots,k b u q⟩
 free:=fun b u q n _=>by rw [aK (Nat.ne_of_lt (Nat.lt_of_lt_of_le (Heap.lt_size q) hp))]; exact n
 there:=fun b u q _=>⟨u,k b u q⟩
 tups:=fun b xs q=>by rw [aK (aM q hn)]; exact q
 frzs:=fun b u xs q=>by rw [aK (aM q hn)]; exact q
 tbls:=fun b ps q=>⟨#[],by rw [aK (aM q hn),q]; simp⟩
theorem Un.write (mu:y9 (H x)) (he:e = x ∨ H e = some (.own x)) (k:∀ b u,b ≠ e → h.get? b = some u → h'.get? b = some u) (heo:∃ u,h'.get? e = some u):Un fs ex H (upd H x o) h h':=by
 have hx:∀ b,H b = none → b ≠ x:=fun b n z=>by subst z; rw [n] at mu; exact mu
 have hb:∀ b,H b = none → b ≠ e:=fun b n z=>by
  subst z
  rcases he with r | r
  ·exact hx b n r
  ·rw [n] at r; cases r
 have hm:∀ b u,H b = some u → ¬ y9 (some u) → b ≠ x:=fun b u q nm z=>by subst z; rw [q] at mu; exact nm mu
 refine ⟨fun b u q n _ _=>k b u (hb b n) q,fun b u q n _ _=>⟨u.slots,k b u (hb b n) q⟩,fun b u q n _=>by rw [aK (hx b n)]; exact n,fun b u q _=>?_,
  fun b xs q=>by rw [aK (hm b _ q fun z=>z)]; exact q,fun b u xs q=>by rw [aK (hm b _ q fun z=>z)]; exact q,fun b ps q=>⟨#[],by rw [aK (hm b _ q fun z=>z),q]; simp⟩⟩
 by_cases hbe:b = e
 ·subst hbe; exact heo
 ·exact ⟨u,k b u hbe q⟩
theorem Un.mono (u:Un fs ex H H1 h h1) (hs:∀ b ∈ fs,b ∈ fs') (hx:∀ b ∈ ex,b ∈ ex'):Un fs' ex' H H1 h h1 :=
 ⟨fun b ob q n hb he=>u.keep b ob q n (fun z=>hb (hs b z)) fun z=>he (hx b z),fun _ _ q n _ he=>u.any q n fun z=>he (hx _ z),fun b ob q n he=>u.free b ob q n fun z=>he (hx b z),fun b ob q he=>u.there b ob q fun z=>he (hx b z),u.tups,u.frzs,u.tbls⟩
end
def yh (h:Heap) (H:Hp):List Addr:=(List.range h.objs.size).filter fun a=>(H a).isSome
def mV (h:Heap) (H:Hp):Heap:=PySem.W.hideAll h (yh h H)
theorem qP (h:Heap) (H:Hp):(mV h H).objs.size = h.objs.size:=PySem.W.hideAll_size _ _
theorem sD {h:Heap} {H:Hp} {b:Addr} {o:Obj} (e:h.get? b = some o) (n:H b = none):(mV h H).get? b = some o :=
 PySem.W.hideAll_get _ e fun hm=>by
  have q:(H b).isSome = true:=(List.mem_filter.mp hm).2
  rw [n] at q; simp at q
theorem u7 {h:Heap} {H:Hp} {b:Addr} {o:Obj} (e:(mV h H).get? b = some o):h.get? b = some o ∧ H b = none:=by
 have e':h.get? b = some o:=PySem.W.of_hideAll (yh h H) e
 refine ⟨e',?_⟩
 cases q:H b with
 | none=>rfl
 | some x =>
  have hm:b ∈ yh h H:=List.mem_filter.mpr ⟨List.mem_range.mpr (Heap.lt_size e'),by simp [q]⟩
  have z:(mV h H).get? b = none:=PySem.W.hideAll_none (yh h H) hm
  rw [z] at e; cases e
def uO (g h:Heap) (L:Addr):List (Addr × Obj):=(List.range h.objs.size).filterMap fun a=>if a = L ∨ (g.get? a).isSome = true then none else (h.get? a).map fun o=>(a,o)
def rest (g h:Heap) (L d:Addr):List (Addr × Obj):=(uO g h L).filter fun p=>decide (p.1 ≠ d)
end L2
namespace L2
open PySem PySem.Spec PyProof.Rows
structure Mod (K:PySem.W.Frag) (mg:Str → Option Value) (base:Heap):Prop where
 kin:K.In base
 glob:base.Ns mainGlobals mg
 blt:∃ mb,base.Ns builtinsNs mb ∧ ∀ x:Str,x ≠ "__name__" → mb x = bootBuiltins x
 nolimit:base.NoLimit
/- the context: a def's body (or a comprehension's block) running. base: fixed through the whole law; s₀, H₀: the entry; outer: the frames whose slots others may change (a def's callers); stack: all frames that run;
   ex: iterators that were made ahead of the entry and are walked here (a comprehension's); fn: the names whose cells were made at the entry (a def: all; a comprehension's block: ai own); calm: not within an except suite; pn: pins that every state bears; xe: what is wanted of an exception that leaves the code -/
set_option genInjectivity false in
set_option genSizeOfSpec false in
set_option genSizeOf false in
structure Cx where
 prog:Program
 w:World
 K:PySem.W.Frag
 mg:Str → Option Value
 base:Heap
 A:Around
 N:List Str
 s₀:Shared
 H₀:Hp
 env:Env
 outer:List Env
 stack:List Env
 ex:List Addr
 fn:Str → Bool
 calm:Bool
 pn:List (Addr × Obj)
 xe:Value → Shared → Prop
def eZ (l:List Env):List Addr:=l.filterMap (·.frame)
abbrev Cx.fs (X:Cx):List Addr:=eZ X.outer
def ze (sc:Scope) (x:Str):Prop:=sc.names.lookup x = some .local ∨ sc.names.lookup x = some .cell ∨ sc.names.lookup x = some .free
def Loc (sc:Scope) (x:Str):Prop:=sc.names.lookup x = some .local ∨ sc.names.lookup x = some .cell
def Look (env:Env) (h:Heap) (m:Str → Option Value) (x:Str) (u:Value):Prop :=
 (env.kindOf x = some .local ∧ m x = some u) ∨ ((env.kindOf x = some .cell ∨ env.kindOf x = some .free) ∧ ∃ c,env.cells.lookup x = some c ∧ h.IsCell c (some u))
structure Cx.Ok (X:Cx):Prop where
 mod:Mod X.K X.mg X.base
 kind:X.env.scope.kind = .function
 glob:X.env.globals = mainGlobals
 blt:X.env.builtins = builtinsNs
 above:X.s₀.heap.objs.size ≤ X.env.locals
 inj:∀ x y c,X.env.cells.lookup x = some c → X.env.cells.lookup y = some c → x = y
 has:∀ x,(X.env.kindOf x = some .cell ∨ X.env.kindOf x = some .free) → ∃ c,X.env.cells.lookup x = some c
 cab:∀ x c,X.fn x = true → X.env.cells.lookup x = some c → X.s₀.heap.objs.size ≤ c
 hd:X.calm = true → X.A.handled = none
 frames:X.A.frames = some X.stack
 stk:X.stack = X.outer ∨ (X.stack = X.env :: X.outer ∧ X.env.frame = some X.env.locals)
 exf:∀ b ∈ X.ex,b ≠ X.env.locals ∧ ∀ x c,X.env.cells.lookup x = some c → c ≠ b
 bs:∀ b o,X.base.get? b = some o → X.s₀.heap.get? b = some o ∧ X.H₀ b = none
 bsz:X.base.objs.size ≤ X.s₀.heap.objs.size
 noex:∀ b o,X.base.get? b = some o → b ∉ X.ex
 exfs:∀ b ∈ X.ex,b ∉ X.fs
 iD:X.s₀.heap.FunFrames X.base X.outer
 frf:∀ b ∈ X.fs,X.H₀ b = none
structure Inv (X:Cx) (pins:List (Addr × Obj)) (σ:List (Option V)) (H:Hp) (s:Shared):Prop where
 ok:X.Ok
 os:s.os = X.s₀.os
 bare:AllBare s.gens
 base:Un X.fs X.ex X.H₀ H X.s₀.heap s.heap
 loc:∃ m,s.heap.Ns X.env.locals m ∧ ∀ (i:Nat) (x:Str) (v:V),X.N[i]? = some x → σ[i]? = some (some v) → ze X.env.scope x → ∃ u,RelV v u ∧ Look X.env s.heap m x u
 cell:∀ x c,X.env.cells.lookup x = some c → ∃ v,s.heap.IsCell c v
 free:H X.env.locals = none
 freeC:∀ x c,X.env.cells.lookup x = some c → H c = none
 pin:∀ p ∈ X.pn ++ pins,s.heap.get? p.1 = some p.2 ∧ H p.1 = none ∧ p.1 ≠ X.env.locals ∧ p.1 ∉ X.fs ∧ ∀ v,p.2.data ≠ .cell v
 hok:eJ X.prog X.w H s.heap
 len:σ.length = X.N.length
section
variable {X:Cx} {pins:List (Addr × Obj)} {σ:List (Option V)} {H H':Hp} {s:Shared} {h':Heap}
theorem Cx.Ok.zW (ok:X.Ok) {b:Addr} {o:Obj} (e:X.base.get? b = some o):b ∉ X.fs:=fun hb=>by
 have:=(ok.iD.mem hb).1
 rw [e] at this; cases this
theorem Inv.bs (I:Inv X pins σ H s):∀ b o,X.base.get? b = some o → s.heap.get? b = some o ∧ H b = none:=fun b o e =>
 ⟨I.base.keep b o (I.ok.bs b o e).1 (I.ok.bs b o e).2 (I.ok.zW e) (I.ok.noex b o e),I.base.free b o (I.ok.bs b o e).1 (I.ok.bs b o e).2 (I.ok.noex b o e)⟩
theorem Inv.bk (I:Inv X pins σ H s):∀ b o,X.base.get? b = some o → s.heap.get? b = some o:=fun b o e=>(I.bs b o e).1
theorem Inv.mod (I:Inv X pins σ H s):Mod X.K X.mg X.base:=I.ok.mod
theorem Inv.du (I:Inv X pins σ H s):X.K.In s.heap:=I.ok.mod.kin.keeps I.bk
theorem Inv.nolimit (I:Inv X pins σ H s):s.heap.NoLimit:=I.ok.mod.nolimit.keeps I.bk
theorem Inv.lt (I:Inv X pins σ H s):X.env.locals < s.heap.objs.size:=let ⟨_,hn,_⟩:=I.loc; hn.lt
theorem Inv.sz (I:Inv X pins σ H s):X.s₀.heap.objs.size ≤ s.heap.objs.size:=Nat.le_trans I.ok.above (Nat.le_of_lt I.lt)
theorem Inv.y0 (I:Inv X pins σ H s) {a:Addr} (h:s.heap.objs.size ≤ a):a ∉ X.fs:=fun hb=>by
 obtain ⟨_,o,ho,_⟩:=I.ok.iD.mem hb
 exact absurd (Nat.lt_of_lt_of_le (Heap.lt_size ho) (Nat.le_trans I.sz h)) (Nat.lt_irrefl _)
theorem Inv.vN (I:Inv X pins σ H s):∀ x c,X.env.cells.lookup x = some c → c ≠ X.env.locals:=fun x c e z=>by
 obtain ⟨v,o,ho,hd⟩:=I.cell x c e
 obtain ⟨m,⟨o',es,ep,ho',hd',_⟩,_⟩:=I.loc
 rw [z,ho'] at ho; cases ho; rw [hd'] at hd; cases hd
theorem Inv.iD (I:Inv X pins σ H s):s.heap.FunFrames X.base X.outer:=by
 have all:∀ (l:List Env),(∀ b ∈ eZ l,b ∈ X.fs) → X.s₀.heap.FunFrames X.base l → s.heap.FunFrames X.base l:=by
  intro l
  induction l with
  | nil=>intro _ _; trivial
  | cons env r ih =>
   intro hs hl
   obtain ⟨hk,⟨L,o,hf,hn,ho,hd⟩,hr⟩:=hl
   have hL:L ∈ X.fs:=hs L (by unfold eZ; rw [List.filterMap_cons,hf]; exact List.mem_cons_self)
   obtain ⟨sl,e⟩:=I.base.slot L o ho (I.ok.frf L hL) hL fun z=>I.ok.exfs L z hL
   exact ⟨hk,⟨L,_,hf,hn,e,hd⟩,ih (fun b hb=>hs b (by unfold eZ; rw [List.filterMap_cons,hf]; exact List.mem_cons_of_mem _ hb)) hr⟩
 exact all X.outer (fun _ hb=>hb) I.ok.iD
theorem Inv.stack (I:Inv X pins σ H s):s.heap.FunFrames X.base X.stack:=by
 rcases I.ok.stk with e | ⟨e,hf⟩
 ·rw [e]; exact I.iD
 ·rw [e]
  obtain ⟨m,hn,_⟩:=I.loc
  refine .cons (by rw [I.ok.kind]; decide) hf hn ?_ I.iD
  exact Heap.get?_none_of_le (Nat.le_trans I.ok.bsz I.ok.above)
theorem Inv.oj (I:Inv X pins σ H s):∀ b ∈ eZ X.stack,b ∈ X.env.locals :: X.fs:=fun b hb=>by
 rcases I.ok.stk with e | ⟨e,hf⟩
 ·rw [e] at hb; exact List.mem_cons_of_mem _ hb
 ·rw [e] at hb
  unfold eZ at hb
  rw [List.filterMap_cons,hf] at hb
  exact hb
theorem Inv.eh (I:Inv X pins σ H s):∀ b ∈ eZ X.stack,H b = none:=fun b hb=>by
 rcases List.mem_cons.mp (I.oj b hb) with e | hb
 ·rw [e]; exact I.free
 ·obtain ⟨_,o,ho,_⟩:=I.ok.iD.mem hb
  exact I.base.free b o ho (I.ok.frf b hb) fun z=>I.ok.exfs b z hb
theorem Inv.step {g':Array GenState} {t':Nat} {d':Drawn} {ch:List Addr} (I:Inv X pins σ H s)
  (hch:∀ b ∈ ch,(b ∈ X.ex ∨ X.s₀.heap.objs.size ≤ b) ∧ b ≠ X.env.locals ∧ (∀ x c,X.env.cells.lookup x = some c → c ≠ b) ∧ ∀ p ∈ X.pn ++ pins,p.1 ≠ b)
  (keep:∀ b o,b ≠ X.env.locals → b ∉ X.fs → b ∉ ch → s.heap.get? b = some o → H b = none → h'.get? b = some o)
  (slot:∀ b o,b ≠ X.env.locals → b ∈ X.fs → b ∉ ch → s.heap.get? b = some o → H b = none → ∃ sl,h'.get? b = some { o with slots:=sl }) (free:∀ b o,b ∉ ch → s.heap.get? b = some o → H b = none → H' b = none)
  (there:∀ b o,b ∉ ch → s.heap.get? b = some o → ∃ o',h'.get? b = some o')
  (tups:∀ b xs,H b = some (.tup xs) → H' b = some (.tup xs)) (frzs:∀ b o u,H b = some (.frz o u) → H' b = some (.frz o u)) (tbls:∀ b ps,H b = some (.tbl ps) → ∃ more,H' b = some (.tbl (ps ++ more)))
  (ns:∀ m,s.heap.Ns X.env.locals m → h'.Ns X.env.locals m) (hok:eJ X.prog X.w H' h') (hg:AllBare g') :
  Inv X pins σ H' { s with heap:=h',gens:=g',drawn:=d',toks:=t' }:=by
 have neL:∀ b o,X.s₀.heap.get? b = some o → b ≠ X.env.locals:=fun b o e=>Nat.ne_of_lt (Nat.lt_of_lt_of_le (Heap.lt_size e) I.ok.above)
 have neC:∀ b o,X.s₀.heap.get? b = some o → b ∉ X.ex → b ∉ ch:=fun b o e hx hb=>by
  rcases (hch b hb).1 with z | z
  ·exact hx z
  ·exact absurd (Nat.lt_of_lt_of_le (Heap.lt_size e) z) (Nat.lt_irrefl _)
 have cellK:∀ x c,X.env.cells.lookup x = some c → ∀ v,s.heap.IsCell c v → h'.IsCell c v:=fun x c e v ⟨o,ho,hd⟩=>by
  have nch:c ∉ ch:=fun z=>(hch c z).2.2.1 x c e rfl
  by_cases hc:c ∈ X.fs
  ·obtain ⟨sl,q⟩:=slot c o (I.vN x c e) hc nch ho (I.freeC x c e)
   exact ⟨_,q,hd⟩
  ·exact ⟨o,keep c o (I.vN x c e) hc nch ho (I.freeC x c e),hd⟩
 refine ⟨I.ok,I.os,hg,⟨fun b o e n hb hx=>?_,fun b o e n hb hx=>?_,fun b o e n hx=>?_,fun b o e hx=>?_,fun b xs e=>tups b xs (I.base.tups b xs e),fun b o xs e=>frzs b o xs (I.base.frzs b o xs e),fun b ps e=>?_⟩,?_,fun x c e=>?_,?_,fun x c e=>?_,fun p hp=>?_,hok,I.len⟩
 ·exact keep b o (neL b o e) hb (neC b o e hx) (I.base.keep b o e n hb hx) (I.base.free b o e n hx)
 ·obtain ⟨sl,e1⟩:=I.base.slot b o e n hb hx
  obtain ⟨sl',e2⟩:=slot b _ (neL b o e) hb (neC b o e hx) e1 (I.base.free b o e n hx)
  exact ⟨sl',e2⟩
 ·obtain ⟨o',e1⟩:=I.base.there b o e hx
  exact free b o' (neC b o e hx) e1 (I.base.free b o e n hx)
 ·obtain ⟨o',e1⟩:=I.base.there b o e hx
  exact there b o' (neC b o e hx) e1
 ·obtain ⟨m1,e1⟩:=I.base.tbls b ps e
  obtain ⟨m2,e2⟩:=tbls b _ e1
  exact ⟨m1 ++ m2,by rw [e2,Array.append_assoc]⟩
 ·obtain ⟨m,hn,hl⟩:=I.loc
  refine ⟨m,ns m hn,fun i x v e1 e2 e3=>?_⟩
  obtain ⟨u,r,l⟩:=hl i x v e1 e2 e3
  refine ⟨u,r,?_⟩
  rcases l with l | ⟨k,c,e,z⟩
  ·exact .inl l
  ·exact .inr ⟨k,c,e,cellK x c e _ z⟩
 ·obtain ⟨v,z⟩:=I.cell x c e
  exact ⟨v,cellK x c e v z⟩
 ·obtain ⟨m,⟨o,_,_,ho,_⟩,_⟩:=I.loc
  exact free _ o (fun z=>(hch _ z).2.1 rfl) ho I.free
 ·obtain ⟨v,o,ho,hd⟩:=I.cell x c e
  exact free c o (fun z=>(hch c z).2.2.1 x c e rfl) ho (I.freeC x c e)
 ·obtain ⟨e,n,ne,nf,d⟩:=I.pin p hp
  have nch:p.1 ∉ ch:=fun z=>(hch p.1 z).2.2.2 p hp rfl
  exact ⟨keep p.1 p.2 ne nf nch e n,free p.1 p.2 nch e n,ne,nf,d⟩
theorem Inv.un {t':Nat} (I:Inv X pins σ H s) (u:Un X.fs [] H H' s.heap h') (hok:eJ X.prog X.w H' h'):Inv X pins σ H' { s with heap:=h',toks:=t' }:=by
 obtain ⟨m,⟨o,es,ep,ho,r⟩,_⟩:=id I.loc
 obtain ⟨sl,hL⟩:=u.any ho I.free (by simp)
 exact I.step (g':=s.gens) (d':=s.drawn) (ch:=[]) (fun _ z=>nomatch z) (fun b o _ hb _ e n=>u.keep b o e n hb (by simp)) (fun b o _ hb _ e n=>u.slot b o e n hb (by simp)) (fun b o _ e n=>u.free b o e n (by simp)) (fun b o _ e=>u.there b o e (by simp)) u.tups u.frzs u.tbls (fun m' hm=>by
  obtain ⟨o',es',ep',ho',r'⟩:=hm
  rw [ho] at ho'; cases ho'
  exact ⟨_,es',ep',hL,r'⟩) hok I.bare
theorem Inv.call {g':Array GenState} {t':Nat} {d':Drawn} {ch:List Addr} (I:Inv X pins σ H s) (u:Un (eZ X.stack) ch H H' s.heap h') (hok:eJ X.prog X.w H' h') (hg:AllBare g')
  (hch:∀ b ∈ ch,(b ∈ X.ex ∨ X.s₀.heap.objs.size ≤ b) ∧ b ≠ X.env.locals ∧ (∀ x c,X.env.cells.lookup x = some c → c ≠ b) ∧ ∀ p ∈ X.pn ++ pins,p.1 ≠ b) :
  Inv X pins σ H' { s with heap:=h',gens:=g',drawn:=d',toks:=t' }:=by
 obtain ⟨m,⟨o,es,ep,ho,r⟩,_⟩:=id I.loc
 obtain ⟨sl,hL⟩:=u.any ho I.free fun z=>(hch _ z).2.1 rfl
 exact I.step (ch:=ch) hch (fun b o hL hb hc e n=>u.keep b o e n (fun z=>(List.mem_cons.mp (I.oj b z)).elim hL hb) hc) (fun b o _ _ hc e n=>u.any e n hc) (fun b o hc e n=>u.free b o e n hc) (fun b o hc e=>u.there b o e hc) u.tups u.frzs u.tbls (fun m' hm=>by
  obtain ⟨o',es',ep',ho',r'⟩:=hm
  rw [ho] at ho'; cases ho'
  exact ⟨_,es',ep',hL,r'⟩) hok hg
theorem Inv.turned {t':Nat} {it:Addr} (I:Inv X pins σ H s) (k:∀ b o,b ≠ it → s.heap.get? b = some o → h'.get? b = some o) (hn:H it = none) (hL:it ≠ X.env.locals)
  (h1:it ∈ X.ex ∨ X.s₀.heap.objs.size ≤ it) (h2:∀ x c,X.env.cells.lookup x = some c → c ≠ it) (h3:∀ p ∈ X.pn ++ pins,p.1 ≠ it):Inv X pins σ H { s with heap:=h',toks:=t' }:=by
 have nit:∀ b u,H b = some u → b ≠ it:=fun b u e z=>by rw [z,hn] at e; cases e
 refine I.step (g':=s.gens) (d':=s.drawn) (ch:=[it]) (fun b hb=>?_) (fun b o _ _ hc e _=>k b o (fun z=>hc (by simp [z])) e) (fun b o _ _ hc e _=>⟨o.slots,k b o (fun z=>hc (by simp [z])) e⟩) (fun _ _ _ _ n=>n)
  (fun b o hc e=>⟨o,k b o (fun z=>hc (by simp [z])) e⟩) (fun _ _ e=>e) (fun _ _ _ e=>e) (fun b ps e=>⟨#[],by rw [e]; simp⟩) (fun m hm=>?_) (fun b u e=>?_) I.bare
 ·have e:b = it:=by simpa using hb
  subst e
  exact ⟨h1,hL,h2,h3⟩
 ·obtain ⟨o,es,ep,ho,r⟩:=hm
  exact ⟨o,es,ep,k _ o (Ne.symm hL) ho,r⟩
 ·refine (I.hok b u e).jL (fun c v hc q=>k c v ?_ q) (fun _ q=>q) fun _ _ q=>q
  rcases hc with z | z
  ·rw [z]; exact nit b u e
  ·exact nit c _ z
theorem Inv.tok (I:Inv X pins σ H s) (t:Nat):Inv X pins σ H { s with toks:=t }:=I.un (h':=s.heap) (t':=t) Un.refl I.hok
theorem Inv.kept {t':Nat} (I:Inv X pins σ H s) (k:∀ b u,s.heap.get? b = some u → h'.get? b = some u):Inv X pins σ H { s with heap:=h',toks:=t' }:=I.un (Un.kept k) (I.hok.kept k)
theorem Inv.laid {a:Addr} {o:HO} {t':Nat} (I:Inv X pins σ H s) (k:∀ b u,s.heap.get? b = some u → h'.get? b = some u) (hp:s.heap.objs.size ≤ a) (new:bL X.prog X.w (upd H a o) h' a o) :
  Inv X pins σ (upd H a o) { s with heap:=h',toks:=t' }:=I.un (Un.laid k hp (I.hok.fresh hp)) (I.hok.laid k hp new)
theorem Inv.write {x e:Addr} {o:HO} {t':Nat} (I:Inv X pins σ H s) (mu:y9 (H x)) (he:e = x ∨ H e = some (.own x)) (k:∀ b u,b ≠ e → s.heap.get? b = some u → h'.get? b = some u) (heo:∃ u,h'.get? e = some u)
  (new:bL X.prog X.w (upd H x o) h' x o):Inv X pins σ (upd H x o) { s with heap:=h',toks:=t' }:=I.un (Un.write mu he k heo) (I.hok.write mu he k heo new)
theorem Inv.pe {pins':List (Addr × Obj)} (I:Inv X pins σ H s) (h:∀ p ∈ pins',s.heap.get? p.1 = some p.2 ∧ H p.1 = none ∧ p.1 ≠ X.env.locals ∧ p.1 ∉ X.fs ∧ ∀ v,p.2.data ≠ .cell v):Inv X pins' σ H s :=
 ⟨I.ok,I.os,I.bare,I.base,I.loc,I.cell,I.free,I.freeC,fun p hp=>(List.mem_append.mp hp).elim (fun z=>I.pin p (List.mem_append_left _ z)) (h p),I.hok,I.len⟩
theorem jx {N:List Str} (hN:N.Nodup) {i j:Nat} {x:Str} (a:N[i]? = some x) (b:N[j]? = some x):i = j:=by
 obtain ⟨h1,e1⟩:=List.getElem?_eq_some_iff.mp a
 obtain ⟨h2,e2⟩:=List.getElem?_eq_some_iff.mp b
 exact (List.getElem_inj hN).mp (e1.trans e2.symm)
theorem mC {M:Model} {A:Around} {E:Value → Shared → Prop} {i:Nat} {x:Str} {v:V} {u:Value} {Q:Unit → Shared → Prop} (I:Inv X pins σ H s) (hN:X.N.Nodup) (hi:X.N[i]? = some x) (hx:Loc X.env.scope x) (r:RelV v u)
  (h:∀ s',Inv X pins (σ.set i (some v)) H s' → (∃ a,Heap.SameBut a s.heap s'.heap ∧ (a = X.env.locals ∨ X.env.cells.lookup x = some a)) → Q () s') (hf:X.fn x = true ∨ X.env.scope.names.lookup x = some .local:=by first | exact .inl rfl | exact .inr rfl | assumption):wpAny M A (storeName X.env x u) Q E s:=by
 obtain ⟨m,hn,hl⟩:=id I.loc
 have hcls:(X.env.scope.kind == .class || (X.env.scope.kind == .module && X.env.locals != X.env.globals)) = false:=by rw [I.ok.kind]; rfl
 have hiσ:i < σ.length:=by rw [I.len]; exact (List.getElem?_eq_some_iff.mp hi).1
 have vN:=I.vN
 have tracked:∀ {a:Addr} {h':Heap},(∃ o,s.heap.get? a = some o ∧ H a = none) → Heap.SameBut a s.heap h' → eJ X.prog X.w H h':=fun {a h'} ha hs b ob e=>by
  obtain ⟨_,_,hfree⟩:=ha
  refine (I.hok b ob e).jL (fun c w' hc q=>(hs.2 c ?_).trans q) (fun _ q=>q) fun _ _ q=>q
  rintro rfl
  rcases hc with rfl | hc
  ·rw [hfree] at e; cases e
  ·rw [hfree] at hc; cases hc
 rcases hx with hk | hk
 ·refine wpAny_storeName_local hk hn (fun h' hn' hs=>?_) hcls
  obtain ⟨oL,_,_,hoL,_⟩:=id hn
  refine h _ ⟨I.ok,I.os,I.bare,⟨fun b o e n hb hx=>?_,fun b o e n hb hx=>?_,I.base.free,fun b o e hx=>?_,I.base.tups,I.base.frzs,I.base.tbls⟩,⟨_,hn',fun j y v' e1 e2 e3=>?_⟩,fun y c e=>?_,I.free,I.freeC,fun p hp=>?_,tracked ⟨oL,hoL,I.free⟩ hs,by simpa using I.len⟩ ⟨_,hs,.inl rfl⟩
  ·exact (hs.2 b (Nat.ne_of_lt (Nat.lt_of_lt_of_le (Heap.lt_size e) I.ok.above))).trans (I.base.keep b o e n hb hx)
  ·obtain ⟨sl,e1⟩:=I.base.slot b o e n hb hx
   exact ⟨sl,(hs.2 b (Nat.ne_of_lt (Nat.lt_of_lt_of_le (Heap.lt_size e) I.ok.above))).trans e1⟩
  ·obtain ⟨o',e1⟩:=I.base.there b o e hx
   exact ⟨o',(hs.2 b (Nat.ne_of_lt (Nat.lt_of_lt_of_le (Heap.lt_size e) I.ok.above))).trans e1⟩
  ·by_cases hj:j = i
   ·subst hj
    rw [hi] at e1; cases e1
    rw [List.getElem?_set_self hiσ] at e2
    cases e2
    exact ⟨u,r,.inl ⟨hk,by simp⟩⟩
   ·rw [List.getElem?_set_ne (Ne.symm hj)] at e2
    obtain ⟨u',r',q⟩:=hl j y v' e1 e2 e3
    refine ⟨u',r',?_⟩
    rcases q with ⟨k,e⟩ | ⟨k,c,e,z⟩
    ·refine .inl ⟨k,?_⟩
     have:y ≠ x:=fun e=>hj (jx hN e1 (e ▸ hi))
     simp [this,e]
    ·exact .inr ⟨k,c,e,z.sameBut hs (vN y c e)⟩
  ·obtain ⟨w',z⟩:=I.cell y c e
   exact ⟨w',z.sameBut hs (vN y c e)⟩
  ·obtain ⟨e,n,ne,nf,d⟩:=I.pin p hp
   exact ⟨(hs.2 p.1 ne).trans e,n,ne,nf,d⟩
 ·have hfn:X.fn x = true:=by
   rcases hf with z | z
   ·exact z
   ·rw [z] at hk; cases hk
  obtain ⟨c,hc⟩:=I.ok.has x (.inl hk)
  obtain ⟨w',z⟩:=I.cell x c hc
  refine wpAny_storeName_cell I.ok.kind hk hc z (fun h' hc' hs=>?_)
  obtain ⟨oc,hoc,hocd⟩:=id z
  refine h { s with heap:=h' } ⟨I.ok,I.os,I.bare,⟨fun b o e n hb hx=>?_,fun b o e n hb hx=>?_,I.base.free,fun b o e hx=>?_,I.base.tups,I.base.frzs,I.base.tbls⟩,⟨m,hn.sameBut hs (Ne.symm (vN x c hc)),fun j y v' e1 e2 e3=>?_⟩,fun y c' e=>?_,I.free,I.freeC,fun p hp=>?_,tracked ⟨oc,hoc,I.freeC x c hc⟩ hs,by simpa using I.len⟩ ⟨c,hs,.inr hc⟩
  ·exact (hs.2 b (Nat.ne_of_lt (Nat.lt_of_lt_of_le (Heap.lt_size e) (I.ok.cab x c hfn hc)))).trans (I.base.keep b o e n hb hx)
  ·obtain ⟨sl,e1⟩:=I.base.slot b o e n hb hx
   exact ⟨sl,(hs.2 b (Nat.ne_of_lt (Nat.lt_of_lt_of_le (Heap.lt_size e) (I.ok.cab x c hfn hc)))).trans e1⟩
  ·obtain ⟨o',e1⟩:=I.base.there b o e hx
   exact ⟨o',(hs.2 b (Nat.ne_of_lt (Nat.lt_of_lt_of_le (Heap.lt_size e) (I.ok.cab x c hfn hc)))).trans e1⟩
  ·by_cases hj:j = i
   ·subst hj
    rw [hi] at e1; cases e1
    rw [List.getElem?_set_self hiσ] at e2
    cases e2
    exact ⟨u,r,.inr ⟨.inl hk,c,hc,hc'⟩⟩
   ·rw [List.getElem?_set_ne (Ne.symm hj)] at e2
    obtain ⟨u',r',q⟩:=hl j y v' e1 e2 e3
    refine ⟨u',r',?_⟩
    rcases q with q | ⟨k,c',e,z'⟩
    ·exact .inl q
    ·refine .inr ⟨k,c',e,z'.sameBut hs ?_⟩
     rintro rfl
     exact hj (jx hN e1 (I.ok.inj _ _ _ e hc ▸ hi))
  ·by_cases hcc:c' = c
   ·subst hcc; exact ⟨_,hc'⟩
   ·obtain ⟨w2,z2⟩:=I.cell y c' e
    exact ⟨w2,z2.sameBut hs hcc⟩
  ·obtain ⟨e,n,ne,nf,d⟩:=I.pin p hp
   refine ⟨(hs.2 p.1 ?_).trans e,n,ne,nf,d⟩
   intro q
   rw [q,hoc] at e
   have q':oc = p.2:=Option.some.inj e
   exact d w' (by rw [← q']; exact hocd)
theorem kW {M:Model} {A:Around} {E:Value → Shared → Prop} {i:Nat} {x:Str} {v:V} {u:Value} {Q:Unit → Shared → Prop} (I:Inv X pins σ H s) (hN:X.N.Nodup) (hi:X.N[i]? = some x) (hx:Loc X.env.scope x) (r:RelV v u)
  (h:∀ s',Inv X pins (σ.set i (some v)) H s' → Q () s') (hf:X.fn x = true ∨ X.env.scope.names.lookup x = some .local:=by first | exact .inl rfl | exact .inr rfl | assumption):wpAny M A (storeName X.env x u) Q E s :=
 mC I hN hi hx r (fun s' I' _=>h s' I') hf
theorem Inv.vd {s':Shared} {ch:List Addr} (I:Inv X pins σ H s) (ho:s'.os = s.os) (u:Un (eZ X.stack) ch H H' s.heap s'.heap) (hok:eJ X.prog X.w H' s'.heap) (hg:AllBare s'.gens)
  (hch:∀ b ∈ ch,(b ∈ X.ex ∨ X.s₀.heap.objs.size ≤ b) ∧ b ≠ X.env.locals ∧ (∀ x c,X.env.cells.lookup x = some c → c ≠ b) ∧ ∀ p ∈ X.pn ++ pins,p.1 ≠ b):Inv X pins σ H' s':=by
 obtain ⟨h',g',d',t',o'⟩:=s'
 have e:o' = s.os:=ho
 subst e
 exact I.call (g':=g') (t':=t') (d':=d') u hok hg hch
end
abbrev XK:=Value → Option Addr → Hp → Prop
abbrev St:=List (Option V)
abbrev VK:=V → Hp → Prop
abbrev TE:=St → Hp → VK → Prop
abbrev TT:=St → Hp → (Bool → Hp → Prop) → Prop
abbrev TA:=St → Hp → (List V → Hp → Prop) → Prop
/- what is wanted behind a statement -/
set_option genInjectivity false in
set_option genSizeOfSpec false in
set_option genSizeOf false in
structure Ends where
 nx:St → Hp → Prop
 rt:VK
 bk:St → Hp → Prop:=fun _ _=>False
 ct:St → Hp → Prop:=fun _ _=>False
abbrev TS:=Ends → St → Hp → Prop
def EP (X:Cx) (pins:List (Addr × Obj)) (σ:St) (Q:VK) (u:Value) (s':Shared):Prop:=∃ v H',Inv X pins σ H' s' ∧ RelV v u ∧ Q v H'
def TP (X:Cx) (pins:List (Addr × Obj)) (σ:St) (Q:Bool → Hp → Prop) (b:Bool) (s':Shared):Prop:=∃ H',Inv X pins σ H' s' ∧ Q b H'
def AP (X:Cx) (pins:List (Addr × Obj)) (σ:St) (Q:List V → Hp → Prop) (us:List Value) (s':Shared):Prop:=∃ vs H',Inv X pins σ H' s' ∧ Vals vs us ∧ Q vs H'
def SP (X:Cx) (pins:List (Addr × Obj)) (D:Ends) (f:Flow) (s':Shared):Prop :=
 match f with
 | .next=>∃ σ' H',Inv X pins σ' H' s' ∧ D.nx σ' H'
 | .brk=>∃ σ' H',Inv X pins σ' H' s' ∧ D.bk σ' H'
 | .cont=>∃ σ' H',Inv X pins σ' H' s' ∧ D.ct σ' H'
 | .ret u=>∃ v σ' H',Inv X pins σ' H' s' ∧ RelV v u ∧ D.rt v H'
@[irreducible] def PE (X:Cx) (e:Expr) (t:TE):Prop :=
 ∀ (pins:List (Addr × Obj)) (s:Shared) (σ:St) (H:Hp) (Q:VK),Inv X pins σ H s → t σ H Q → wpAny (model X.prog X.w) X.A (eval e X.env) (EP X pins σ Q) X.xe s
@[irreducible] def PT (X:Cx) (e:Expr) (t:TT):Prop :=
 ∀ (pins:List (Addr × Obj)) (s:Shared) (σ:St) (H:Hp) (Q:Bool → Hp → Prop),Inv X pins σ H s → t σ H Q → wpAny (model X.prog X.w) X.A (isTrue e X.env (eval e X.env)) (TP X pins σ Q) X.xe s
@[irreducible] def PW (X:Cx) (e:Expr) (t:TT):Prop :=
 ∀ (whole:Sem Value) (pins:List (Addr × Obj)) (s:Shared) (σ:St) (H:Hp) (Q:Bool → Hp → Prop),Inv X pins σ H s → t σ H Q → wpAny (model X.prog X.w) X.A (isTrue e X.env whole) (TP X pins σ Q) X.xe s
theorem PW.pt {X:Cx} {e:Expr} {t:TT} (h:PW X e t):PT X e t:=by
 first
 | exact (h _)
 | (unfold PT at *; unfold PW at *; exact (h _))
@[irreducible] def PA (X:Cx) (es:List Expr) (t:TA):Prop :=
 ∀ (pos:Pos) (pins:List (Addr × Obj)) (s:Shared) (σ:St) (H:Hp) (Q:List V → Hp → Prop),Inv X pins σ H s → t σ H Q → wpAny (model X.prog X.w) X.A (spliced (backTo pos (starEach es X.env))) (AP X pins σ Q) X.xe s
@[irreducible] def PS (X:Cx) (st:Stmt) (t:TS):Prop :=
 ∀ (pins:List (Addr × Obj)) (s:Shared) (σ:St) (H:Hp) (D:Ends),Inv X pins σ H s → t D σ H → wpAny (model X.prog X.w) X.A (exec st X.env) (SP X pins D) X.xe s
@[irreducible] def jJ (X:Cx) (st:List Stmt) (t:TS):Prop :=
 ∀ (pins:List (Addr × Obj)) (s:Shared) (σ:St) (H:Hp) (D:Ends),Inv X pins σ H s → t D σ H → wpAny (model X.prog X.w) X.A (execs st X.env) (SP X pins D) X.xe s
theorem bX {α:Type} {t:Sem α} {Q Q':α → Shared → Prop} {M:Model} {A:Around} {E:Value → Shared → Prop} {s:Shared} (h:wpAny M A t Q E s) (hQ:∀ a s,Q a s → Q' a s):wpAny M A t Q' E s:=wpAny_mono h hQ fun _ _ x=>x
end L2
namespace L2
open PySem PySem.Spec PyProof.Rows
section
variable {X:Cx}
def yS (i:Nat):TE:=fun σ H Q=>∃ v,σ[i]? = some (some v) ∧ Q v H
def tC (v:V):TE:=fun _ H Q=>Q v H
theorem t9 {i:Nat} {x:Str} {pos:Pos} (hN:X.N[i]? = some x) (hv:ze X.env.scope x) (hd:(x == ("__debug__" : Str)) = false:=by decide) (hcd:(x == ("__classdict__" : Str)) = false:=by decide):PE X (.Name x pos) (yS i):=by
 unfold PE at *
 exact by
  intro pins s σ H Q I h
  obtain ⟨v,e,h⟩:=h
  obtain ⟨m,hn,hl⟩:=I.loc
  obtain ⟨u,r,l⟩:=hl i x v hN e hv
  have fin:EP X pins σ Q u s:=⟨v,H,I,r,h⟩
  rcases l with ⟨hk,hm⟩ | ⟨hk,c,hc,hcell⟩
  ·exact wpAny_Name (wpAny_loadName_local I.ok.kind hk hn hm fin) hd
  ·rcases hk with hk | hk
   ·exact wpAny_Name (wpAny_loadName_cell I.ok.kind hk hc hcell fin) hd
   ·exact wpAny_Name (wpAny_loadName_free I.ok.kind hk hc hcell fin hcd) hd
theorem aD {i j pos}:PE X (.Constant (.int i) j pos) (tC (.int i)):=by
 first
 | exact (fun _ _ _ H _ I h=>wpAny_Constant_int ⟨.int i,H,I.tok _,⟨_,rfl⟩,h⟩)
 | (unfold PE at *; exact (fun _ _ _ H _ I h=>wpAny_Constant_int ⟨.int i,H,I.tok _,⟨_,rfl⟩,h⟩))
theorem cN {b j pos}:PE X (.Constant (.bool b) j pos) (tC (.bl b)):=by
 first
 | exact (fun _ _ _ H _ I h=>Constant_bool ⟨.bl b,H,I,rfl,h⟩)
 | (unfold PE at *; exact (fun _ _ _ H _ I h=>Constant_bool ⟨.bl b,H,I,rfl,h⟩))
theorem cw {j pos}:PE X (.Constant .none j pos) (tC .bA):=by
 first
 | exact (fun _ _ _ H _ I h=>Constant_none ⟨.bA,H,I,rfl,h⟩)
 | (unfold PE at *; exact (fun _ _ _ H _ I h=>Constant_none ⟨.bA,H,I,rfl,h⟩))
theorem aQ {x j pos}:PE X (.Constant (.str x) j pos) (tC (.str x)):=by
 first
 | exact (fun _ _ _ H _ I h=>Calls.Constant_str ⟨.str x,H,I.tok _,⟨_,rfl⟩,h⟩)
 | (unfold PE at *; exact (fun _ _ _ H _ I h=>Calls.Constant_str ⟨.str x,H,I.tok _,⟨_,rfl⟩,h⟩))
def Gl (X:Cx) (x:Str):Prop:=X.env.kindOf x = some .globalImplicit
theorem de {E:Value → Shared → Prop} {pins:List (Addr × Obj)} {s:Shared} {σ:St} {H:Hp} {x:Str} {u:Value} {pos:Pos} {Q:Value → Shared → Prop} (I:Inv X pins σ H s) (hg:Gl X x) (hm:X.mg x = some u) (h:Q u s)
  (hd:(x == ("__debug__" : Str)) = false:=by decide):wpAny (model X.prog X.w) X.A (eval (.Name x pos) X.env) Q E s :=
 Calls.Name_function_global I.ok.kind hg (Calls.loadGlobal_global (by rw [I.ok.glob]; exact I.mod.glob.keeps I.bk) hm h) hd
theorem iJ {E:Value → Shared → Prop} {pins:List (Addr × Obj)} {s:Shared} {σ:St} {H:Hp} {x:Str} {u:Value} {pos:Pos} {Q:Value → Shared → Prop} (I:Inv X pins σ H s) (hg:Gl X x) (hm:X.mg x = none) (hv:bootBuiltins x = some u) (h:Q u s)
  (hn:x ≠ "__name__" := by decide) (hd:(x == ("__debug__" : Str)) = false:=by decide):wpAny (model X.prog X.w) X.A (eval (.Name x pos) X.env) Q E s:=by
 obtain ⟨mb,h1,h2⟩:=I.mod.blt
 exact Calls.Name_function_global I.ok.kind hg (Calls.loadGlobal_builtin (by rw [I.ok.glob]; exact I.mod.glob.keeps I.bk) hm (by rw [I.ok.blt]; exact h1.keeps I.bk) ((h2 x hn).trans hv) h) hd
theorem bw {x:Str} {v:V} {u:Value} {pos:Pos} (hg:Gl X x) (hm:X.mg x = some u) (r:RelV v u) (hd:(x == ("__debug__" : Str)) = false:=by decide):PE X (.Name x pos) (tC v):=by
 first
 | exact (fun _ _ _ H _ I h=>de I hg hm ⟨v,H,I,r,h⟩ hd)
 | (unfold PE at *; exact (fun _ _ _ H _ I h=>de I hg hm ⟨v,H,I,r,h⟩ hd))
theorem eC {x:Str} {v:V} {u:Value} {pos:Pos} (hg:Gl X x) (hm:X.mg x = none) (hv:bootBuiltins x = some u) (r:RelV v u) (hn:x ≠ "__name__" := by decide) (hd:(x == ("__debug__" : Str)) = false:=by decide):PE X (.Name x pos) (tC v):=by
 first
 | exact (fun _ _ _ H _ I h=>iJ I hg hm hv ⟨v,H,I,r,h⟩ hn hd)
 | (unfold PE at *; exact (fun _ _ _ H _ I h=>iJ I hg hm hv ⟨v,H,I,r,h⟩ hn hd))
variable {a b:Expr} {ta tb:TE} {pos:Pos}
@[irreducible] def PC (X:Cx) (op:CmpOp) (a b:Expr) (t:TE):Prop :=
 ∀ (pins:List (Addr × Obj)) (s:Shared) (σ:St) (H:Hp) (Q:VK),Inv X pins σ H s → t σ H Q →
  wpAny (model X.prog X.w) X.A (eval a X.env) (fun v s₁=>wpAny (model X.prog X.w) X.A (eval b X.env) (fun u s₂=>wpAny (model X.prog X.w) X.A (compareOp op v u) (EP X pins σ Q) X.xe s₂) X.xe s₁) X.xe s
theorem nN (b:Expr) {op:CmpOp} (h:op ≠ .In) (h2:op ≠ .NotIn):behindInMarks op b = false:=by
 have e1:(op == CmpOp.In) = false:=by cases op <;> first | rfl | exact absurd rfl h
 have e2:(op == CmpOp.NotIn) = false:=by cases op <;> first | rfl | exact absurd rfl h2
 cases b <;> simp [behindInMarks,e1,e2]
def zS (ta:TE):TE:=fun σ H Q=>ta σ H fun x H1=>Q (.bl (decide (x = .bA))) H1
def yc (ta:TE):TE:=fun σ H Q=>ta σ H fun x H1=>Q (.bl (!decide (x = .bA))) H1
theorem RelV.n8 {x:V} {v:Value} (r:RelV x v):(v == Value.none) = decide (x = .bA):=by
 cases x with
 | bA=>cases r; rfl
 | bl _=>cases r; rfl
 | int _=>obtain ⟨t,rfl⟩:=r; rfl
 | str _=>obtain ⟨t,rfl⟩:=r; rfl
 | byt _=>obtain ⟨t,rfl⟩:=r; rfl
 | flt _=>obtain ⟨t,rfl⟩:=r; rfl
 | ref _=>cases r; rfl
 | ty _=>cases r; rfl
theorem eV {j pos'} (ha:PE X a ta):PC X .Is a (.Constant .none j pos') (zS ta):=by
 unfold PE at *; unfold PC at *
 exact by
  intro pins s σ H Q I h
  refine bX (ha pins s σ H _ I h) fun v s1 ⟨x,H1,I1,r1,q1⟩=>?_
  exact Constant_none (is_none_gen ⟨.bl _,H1,I1,by rw [r1.n8]; rfl,q1⟩)
theorem fo {j pos'} (ha:PE X a ta):PC X .IsNot a (.Constant .none j pos') (yc ta):=by
 unfold PE at *; unfold PC at *
 exact by
  intro pins s σ H Q I h
  refine bX (ha pins s σ H _ I h) fun v s1 ⟨x,H1,I1,r1,q1⟩=>?_
  exact Constant_none (isnot_none_gen ⟨.bl _,H1,I1,by rw [r1.n8]; rfl,q1⟩)
def tB (t:TE):TT:=fun σ H Q=>t σ H fun x H1=>∃ c,x = .bl c ∧ Q c H1
theorem jC {op:CmpOp} {t:TE} (h:PC X op a b t) (h1:behindInMarks op b = false:=by first | exact nN _ (by decide) (by decide) | rfl):PE X (.Compare a [op] [b] pos) t:=by
 first
 | exact (fun pins s σ H Q I hw=>wpAny_Compare1 (h pins s σ H Q I hw) h1)
 | (unfold PE at *; unfold PC at *; exact (fun pins s σ H Q I hw=>wpAny_Compare1 (h pins s σ H Q I hw) h1))
theorem dP {op:CmpOp} {t:TE} (h:PC X op a b t) (h1:behindInMarks op b = false:=by first | exact nN _ (by decide) (by decide) | rfl):PT X (.Compare a [op] [b] pos) (tB t):=by
 unfold PT at *; unfold PC at *
 exact by
  intro pins s σ H Q I hw
  refine wpAny_isTrue_Compare1 (bX (h pins s σ H _ I hw) fun v s1 h1=>bX h1 fun u s2 h2=>bX h2 fun c s3 ⟨x,H1,I1,r1,q1⟩=>?_) h1
  obtain ⟨d,rfl,q⟩:=q1
  cases r1
  exact wpAny_truthy_bool ⟨H1,I1,q⟩
theorem bg {e:Expr} {t:TE} (h:PE X e t) (he:∀ whole,isTrue e X.env whole = (do let v ← whole; standAt e.pos; holding [v] (truthy v)):=by intro _; rfl):PT X e (tB t):=by
 unfold PE at *; unfold PT at *
 exact by
  intro pins s σ H Q I hw
  refine isTrue_plain (bX (h pins s σ H _ I hw) fun v s1 ⟨x,H1,I1,r1,q1⟩=>?_) (he _)
  obtain ⟨d,rfl,q⟩:=q1
  cases r1
  exact wpAny_truthy_bool ⟨H1,I1,q⟩
variable {tA tB':TT} {rest:List Expr}
def zP (t u:TT):TT:=fun σ H Q=>t σ H fun c H1=>if c = true then u σ H1 Q else Q false H1
def AB (t u:TT):TT:=fun σ H Q=>t σ H fun c H1=>if c = true then Q true H1 else u σ H1 Q
def zG (t:TT):TT:=fun σ H Q=>t σ H fun c H1=>Q (!c) H1
theorem cW (ha:PT X a tA):PW X (.BoolOp .And [a] pos) tA:=by
 unfold PT at *; unfold PW at *
 exact by
  intro wh pins s σ H Q I h
  refine isTrue_and (bX (ha pins s σ H Q I h) fun c s1 e=>?_)
  cases c with
  | true=>exact isTrue_and_nil e
  | false=>exact e
theorem jM (ha:PT X a tA):PW X (.BoolOp .Or [a] pos) tA:=by
 unfold PT at *; unfold PW at *
 exact by
  intro wh pins s σ H Q I h
  refine isTrue_or (bX (ha pins s σ H Q I h) fun c s1 e=>?_)
  cases c with
  | false=>exact isTrue_or_nil e
  | true=>exact e
theorem cz (ha:PT X a tA) (hb:PW X (.BoolOp .And (b :: rest) pos) tB'):PW X (.BoolOp .And (a :: b :: rest) pos) (zP tA tB'):=by
 unfold PT at *; unfold PW at *
 exact by
  intro wh pins s σ H Q I h
  refine isTrue_and (bX (ha pins s σ H _ I h) fun c s1 ⟨H1,I1,q1⟩=>?_)
  cases c with
  | true=>exact hb wh pins s1 σ H1 Q I1 q1
  | false=>exact ⟨H1,I1,q1⟩
theorem jz (ha:PT X a tA) (hb:PW X (.BoolOp .Or (b :: rest) pos) tB'):PW X (.BoolOp .Or (a :: b :: rest) pos) (AB tA tB'):=by
 unfold PT at *; unfold PW at *
 exact by
  intro wh pins s σ H Q I h
  refine isTrue_or (bX (ha pins s σ H _ I h) fun c s1 ⟨H1,I1,q1⟩=>?_)
  cases c with
  | true=>exact ⟨H1,I1,q1⟩
  | false=>exact hb wh pins s1 σ H1 Q I1 q1
theorem bh (ha:PT X a tA):PT X (.UnaryOp .Not a pos) (zG tA):=by
 unfold PT at *
 exact by
  intro pins s σ H Q I h
  exact isTrue_not (ha pins s σ H (fun c H1=>Q (!c) H1) I h)
def yH (ta tb:TE):TE:=fun σ H Q=>ta σ H fun x H1=>∃ c,x = .bl c ∧ if c = true then tb σ H1 Q else Q (.bl false) H1
def yu (ta tb:TE):TE:=fun σ H Q=>ta σ H fun x H1=>∃ c,x = .bl c ∧ if c = true then Q (.bl true) H1 else tb σ H1 Q
def y8 (ta:TE):TE:=fun σ H Q=>ta σ H fun x H1=>∃ c,x = .bl c ∧ Q (.bl (!c)) H1
theorem eR {op} {t:TE} (h:PE X a t):PE X (.BoolOp op [a] pos) t:=by
 first
 | exact (fun pins s σ H Q I hw=>BoolOp_one (h pins s σ H Q I hw))
 | (unfold PE at *; exact (fun pins s σ H Q I hw=>BoolOp_one (h pins s σ H Q I hw)))
theorem dI (ha:PE X a ta) (hb:PE X (.BoolOp .And (b :: rest) pos) tb):PE X (.BoolOp .And (a :: b :: rest) pos) (yH ta tb):=by
 unfold PE at *
 exact by
  intro pins s σ H Q I h
  refine BoolOp_and (bX (ha pins s σ H _ I h) fun v s1 ⟨x,H1,I1,r1,q1⟩=>?_)
  obtain ⟨c,rfl,q1⟩:=q1
  cases r1
  refine wpAny_truthy_bool ?_
  cases c with
  | true=>exact hb pins s1 σ H1 Q I1 q1
  | false=>exact ⟨.bl false,H1,I1,rfl,q1⟩
theorem xp (ha:PE X a ta) (hb:PE X (.BoolOp .Or (b :: rest) pos) tb):PE X (.BoolOp .Or (a :: b :: rest) pos) (yu ta tb):=by
 unfold PE at *
 exact by
  intro pins s σ H Q I h
  refine BoolOp_or (bX (ha pins s σ H _ I h) fun v s1 ⟨x,H1,I1,r1,q1⟩=>?_)
  obtain ⟨c,rfl,q1⟩:=q1
  cases r1
  refine wpAny_truthy_bool ?_
  cases c with
  | false=>exact hb pins s1 σ H1 Q I1 q1
  | true=>exact ⟨.bl true,H1,I1,rfl,q1⟩
theorem xV (ha:PE X a ta):PE X (.UnaryOp .Not a pos) (y8 ta):=by
 unfold PE at *
 exact by
  intro pins s σ H Q I h
  refine UnaryOp_ (bX (ha pins s σ H _ I h) fun v s1 ⟨x,H1,I1,r1,q1⟩=>?_)
  obtain ⟨c,rfl,q1⟩:=q1
  cases r1
  exact not_of (wpAny_truthy_bool ⟨.bl (!c),H1,I1,rfl,q1⟩)
end
end L2
namespace L2
open PySem PySem.Spec PyProof.Rows
def ao (K:PySem.W.Frag) (H:Hp) (a:Addr) (xs:List V):Prop :=
 Rd H a (.lst xs) ∨
  ∃ (o:Obj) (ai:Array Value) (n:Nat),K.lookup a = some o ∧ o.cls = .type "list" ∧ o.dict = none ∧ o.data = .seq ai n ∧ ai.size ≤ sizeLine ∧ Vals xs ai.toList
def bz (K:PySem.W.Frag) (H:Hp) (a:Addr) (xs:List V):Prop :=
 Rd H a (.tup xs) ∨
  ∃ (o:Obj) (ai:Array Value) (n:Nat),K.lookup a = some o ∧ o.cls = .type "tuple" ∧ o.data = .seq ai n ∧ ai.size ≤ sizeLine ∧ Vals xs ai.toList
def zf:Value → Option V
 | .none=>some .bA
 | .bool b=>some (.bl b)
 | .int i _=>some (.int i)
 | .str x _=>some (.str x)
 | .bytes b _=>some (.byt b)
 | .float b _=>some (.flt b)
 | .ref a=>some (.ref a)
 | .type n=>some (.ty n)
 | _=>none
theorem RelV.abs {x:V} {u:Value} (r:RelV x u):zf u = some x:=by
 cases x with
 | bA=>cases r; rfl
 | bl _=>cases r; rfl
 | int _=>obtain ⟨t,rfl⟩:=r; rfl
 | str _=>obtain ⟨t,rfl⟩:=r; rfl
 | byt _=>obtain ⟨t,rfl⟩:=r; rfl
 | flt _=>obtain ⟨t,rfl⟩:=r; rfl
 | ref _=>cases r; rfl
 | ty _=>cases r; rfl
theorem RelV.inj {x y:V} {u:Value} (r:RelV x u) (q:RelV y u):x = y:=Option.some.inj (r.abs.symm.trans q.abs)
theorem Vals.inj:∀ {xs ys:List V} {us:List Value},Vals xs us → Vals ys us → xs = ys
 | _,_,_,.nil,.nil=>rfl
 | _,_,_,.cons r t,.cons r' t'=>by rw [r.inj r',Vals.inj t t']
section
variable {X:Cx} {pins:List (Addr × Obj)} {σ:St} {H:Hp} {s:Shared} {a:Addr} {xs ys:List V}
theorem ao.of {K:PySem.W.Frag} (h:H a = some (.lst xs)):ao K H a xs:=.inl (.inl h)
theorem bz.of {K:PySem.W.Frag} (h:H a = some (.tup xs)):bz K H a xs:=.inl (.inl h)
theorem Inv.list (I:Inv X pins σ H s) (h:ao X.K H a xs):∃ ai:List Value,Vals xs ai ∧ PlainL s.heap a ai.toArray ∧ xs.length ≤ sizeLine:=by
 rcases h with h | ⟨o,ai,n,hk,hc,hd,hs,hz,r⟩
 ·obtain ⟨z,ai,n,r,e⟩:=h.ok I.hok
  exact ⟨ai,r,⟨_,n,e,rfl,rfl,rfl⟩,z⟩
 ·refine ⟨ai.toList,r,⟨o,n,I.du a o hk,hc,hd,by simpa using hs⟩,?_⟩
  have e:=r.length
  simp only [Array.length_toList] at e
  omega
theorem Inv.tuple (I:Inv X pins σ H s) (h:bz X.K H a xs):∃ ai:List Value,Vals xs ai ∧ IsTup s.heap a ai.toArray ∧ xs.length ≤ sizeLine:=by
 rcases h with h | ⟨o,ai,n,hk,hc,hs,hz,r⟩
 ·obtain ⟨z,ai,r,p⟩:=h.ok I.hok
  exact ⟨ai,r,p,z⟩
 ·refine ⟨ai.toList,r,⟨o,I.du a o hk,hc,n,by simpa using hs⟩,?_⟩
  have e:=r.length
  simp only [Array.length_toList] at e
  omega
theorem Inv.fV (I:Inv X pins σ H s) (h:ao X.K H a xs) (h':ao X.K H a ys):xs = ys:=by
 obtain ⟨ai,r,⟨o,n,e,_,_,d⟩,_⟩:=I.list h
 obtain ⟨its',r',⟨o',n',e',_,_,d'⟩,_⟩:=I.list h'
 rw [e] at e'; cases e'
 rw [d] at d'
 injection d' with d1 _
 have:ai = its':=by simpa using congrArg Array.toList d1
 subst this
 exact r.inj r'
theorem Inv.qq (I:Inv X pins σ H s) (h:bz X.K H a xs) (h':bz X.K H a ys):xs = ys:=by
 obtain ⟨ai,r,⟨o,e,_,n,d⟩,_⟩:=I.tuple h
 obtain ⟨its',r',⟨o',e',_,n',d'⟩,_⟩:=I.tuple h'
 rw [e] at e'; cases e'
 rw [d] at d'
 injection d' with d1 _
 have:ai = its':=by simpa using congrArg Array.toList d1
 subst this
 exact r.inj r'
end
abbrev Cx.jb (X:Cx) (E:Value → Shared → Prop):Cx:={ X with xe:=E }
abbrev Cx.v5 (X:Cx):Cx:=X.jb fun _ _=>False
theorem Cx.Ok.jb {X:Cx} (ok:X.Ok) (E:Value → Shared → Prop):(X.jb E).Ok :=
 ⟨ok.mod,ok.kind,ok.glob,ok.blt,ok.above,ok.inj,ok.has,ok.cab,ok.hd,ok.frames,ok.stk,ok.exf,ok.bs,ok.bsz,ok.noex,ok.exfs,ok.iD,ok.frf⟩
theorem Cx.Ok.fJ {X:Cx} {E:Value → Shared → Prop} (ok:(X.jb E).Ok):X.Ok :=
 ⟨ok.mod,ok.kind,ok.glob,ok.blt,ok.above,ok.inj,ok.has,ok.cab,ok.hd,ok.frames,ok.stk,ok.exf,ok.bs,ok.bsz,ok.noex,ok.exfs,ok.iD,ok.frf⟩
section
variable {X:Cx} {pins:List (Addr × Obj)} {σ:St} {H:Hp} {s:Shared} {E:Value → Shared → Prop}
theorem Inv.jb (I:Inv X pins σ H s) (E:Value → Shared → Prop):Inv (X.jb E) pins σ H s:=⟨I.ok.jb E,I.os,I.bare,I.base,I.loc,I.cell,I.free,I.freeC,I.pin,I.hok,I.len⟩
theorem Inv.fJ (I:Inv (X.jb E) pins σ H s):Inv X pins σ H s:=⟨I.ok.fJ,I.os,I.bare,I.base,I.loc,I.cell,I.free,I.freeC,I.pin,I.hok,I.len⟩
theorem SP.fJ {D:Ends} {f:Flow} {s':Shared} (h:SP (X.jb E) pins D f s'):SP X pins D f s':=by
 cases f with
 | next=>obtain ⟨σ',H',I,q⟩:=h; exact ⟨σ',H',I.fJ,q⟩
 | brk=>obtain ⟨σ',H',I,q⟩:=h; exact ⟨σ',H',I.fJ,q⟩
 | cont=>obtain ⟨σ',H',I,q⟩:=h; exact ⟨σ',H',I.fJ,q⟩
 | ret u=>obtain ⟨v,σ',H',I,r,q⟩:=h; exact ⟨v,σ',H',I.fJ,r,q⟩
theorem PE.v5 {e:Expr} {t:TE} (h:PE X.v5 e t):PE X e t:=by
 unfold PE at *
 exact (fun pins s σ H Q I hw =>
  wpAny_mono (h pins s σ H Q (I.jb _) hw) (fun _ _ ⟨v,H',I',r,q⟩=>⟨v,H',I'.fJ,r,q⟩) fun _ _ z=>False.elim z)
theorem PT.v5 {e:Expr} {t:TT} (h:PT X.v5 e t):PT X e t:=by
 unfold PT at *
 exact (fun pins s σ H Q I hw =>
  wpAny_mono (h pins s σ H Q (I.jb _) hw) (fun _ _ ⟨H',I',q⟩=>⟨H',I'.fJ,q⟩) fun _ _ z=>False.elim z)
theorem jJ.v5 {st:List Stmt} {t:TS} (h:jJ X.v5 st t):jJ X st t:=by
 unfold jJ at *
 exact (fun pins s σ H D I hw =>
  wpAny_mono (h pins s σ H D (I.jb _) hw) (fun _ _ q=>q.fJ) fun _ _ z=>False.elim z)
end
section
variable {X:Cx} {st:Stmt} {rest:List Stmt} {t u:TS} {e:Expr} {te:TE} {pos:Pos}
def yZ:TS:=fun D σ H=>D.nx σ H
def yn (t u:TS):TS:=fun D σ H=>t { D with nx:=u D } σ H
theorem aO:jJ X [] yZ:=by
 first
 | exact (fun _ _ σ H _ I h=>wpAny_execs_nil ⟨σ,H,I,h⟩)
 | (unfold jJ at *; exact (fun _ _ σ H _ I h=>wpAny_execs_nil ⟨σ,H,I,h⟩))
theorem aE (h1:PS X st t) (h2:jJ X rest u):jJ X (st :: rest) (yn t u):=by
 unfold PS at *; unfold jJ at *
 exact by
  intro pins s σ H D I h
  refine wpAny_execs_cons (bX (h1 pins s σ H { D with nx:=u D } I h) fun f s1 q=>?_)
  cases f with
  | next =>
   obtain ⟨σ',H',I',q⟩:=q
   exact h2 pins s1 σ' H' D I' q
  | ret v=>exact q
  | brk=>exact q
  | cont=>exact q
theorem aI (h1:PS X st t):jJ X [st] t:=by
 unfold PS at *; unfold jJ at *
 exact by
  intro pins s σ H D I h
  refine wpAny_execs_cons (bX (h1 pins s σ H D I h) fun f s1 q=>?_)
  cases f with
  | next=>exact wpAny_execs_nil q
  | ret v=>exact q
  | brk=>exact q
  | cont=>exact q
theorem Inv.quiet {pins:List (Addr × Obj)} {σ:St} {H:Hp} {s:Shared} (I:Inv X pins σ H s):interactive X.env = false:=by simp [interactive,I.ok.kind]
def y6 (te:TE):TS:=fun D σ H=>te σ H fun _ H1=>D.nx σ H1
theorem cS (he:PE X e te) (hs:swapsWith e none pos.line X.env = pure false:=by rfl):PS X (.Expr e pos) (y6 te):=by
 unfold PE at *; unfold PS at *
 exact by
  intro pins s σ H D I h
  exact wpAny_Expr_any (bX (he pins s σ H _ I h) fun v s1 ⟨x,H1,I1,r1,q1⟩=>⟨σ,H1,I1,q1⟩) I.quiet hs
def zM (te:TE):TS:=fun D σ H=>te σ H D.rt
theorem aR (he:PE X e te):PS X (.Return (some e) pos) (zM te):=by
 unfold PE at *; unfold PS at *
 exact by
  intro pins s σ H D I h
  exact wpAny_Return_some (bX (he pins s σ H _ I h) fun v s1 ⟨x,H1,I1,r1,q1⟩=>⟨x,σ,H1,I1,r1,q1⟩)
def zg (c:TT) (t u:TS):TS:=fun D σ H=>c σ H fun b H1=>if b = true then t D σ H1 else u D σ H1
theorem au {c:Expr} {a b:List Stmt} {tc:TT} (hc:PT X c tc) (ha:jJ X a t) (hb:jJ X b u):PS X (.If c a b pos) (zg tc t u):=by
 unfold PT at *; unfold PS at *; unfold jJ at *
 exact by
  intro pins s σ H D I h
  refine wpAny_If (bX (hc pins s σ H _ I h) fun d s1 ⟨H1,I1,q1⟩=>?_)
  cases d with
  | true=>exact ha pins s1 σ H1 D I1 q1
  | false=>exact hb pins s1 σ H1 D I1 q1
def xg:TS:=fun _ _ _=>False
theorem su:PS X st xg:=by
 first
 | exact (fun _ _ _ _ _ _ h=>h.elim)
 | (unfold PS at *; exact (fun _ _ _ _ _ _ h=>h.elim))
end
abbrev TG:=V → St → Hp → (St → Hp → Prop) → Prop
abbrev wx:=List V → St → Hp → (St → Hp → Prop) → Prop
@[irreducible] def PG (X:Cx) (target:Expr) (t:TG):Prop :=
 ∀ (pins:List (Addr × Obj)) (s:Shared) (σ:St) (H:Hp) (v:V) (u:Value) (Q:St → Hp → Prop),Inv X pins σ H s → RelV v u → t v σ H Q →
  wpAny (model X.prog X.w) X.A (assign target X.env u) (fun _ s'=>∃ σ' H',Inv X pins σ' H' s' ∧ Q σ' H') X.xe s
@[irreducible] def xf (X:Cx) (ts:List Expr) (t:wx):Prop :=
 ∀ (pins:List (Addr × Obj)) (s:Shared) (σ:St) (H:Hp) (vs:List V) (us:List Value) (Q:St → Hp → Prop),Inv X pins σ H s → Vals vs us → t vs σ H Q →
  wpAny (model X.prog X.w) X.A (assignInOrder ((assignEach ts X.env).map (·.2)) us) (fun _ s'=>∃ σ' H',Inv X pins σ' H' s' ∧ Q σ' H') X.xe s
abbrev uQ:=V → V → V → Hp → (Hp → Prop) → Prop
@[irreducible] def uo (X:Cx) (t:uQ):Prop :=
 ∀ (pins:List (Addr × Obj)) (s:Shared) (σ:St) (H:Hp) (o i v:V) (ov iv u:Value) (Q:Hp → Prop),Inv X pins σ H s → RelV o ov → RelV i iv → RelV v u → t o i v H Q →
  wpAny (model X.prog X.w) X.A (setItem ov iv u) (fun _ s'=>∃ H',Inv X pins σ H' s' ∧ Q H') X.xe s
section
variable {X:Cx} {pos:Pos}
def tG (i:Nat):TG:=fun v σ H Q=>Q (σ.set i (some v)) H
theorem ag {i:Nat} {x:Str} (hN:X.N.Nodup) (hi:X.N[i]? = some x) (hx:Loc X.env.scope x) (hf:X.fn x = true ∨ X.env.scope.names.lookup x = some .local:=by first | exact .inl rfl | exact .inr rfl | assumption):PG X (.Name x pos) (tG i):=by
 unfold PG at *
 exact by
  intro pins s σ H v u Q I r h
  exact wpAny_assign_Name (kW I hN hi hx r (fun s' I'=>⟨_,H,I',h⟩) hf)
def zZ:wx:=fun vs σ H Q=>vs = [] ∧ Q σ H
def yA (t:TG) (u:wx):wx:=fun vs σ H Q=>∃ v r,vs = v :: r ∧ t v σ H fun σ' H'=>u r σ' H' Q
theorem gy:xf X [] zZ:=by
 unfold xf at *
 exact by
  intro pins s σ H vs us Q I r h
  obtain ⟨e,h⟩:=h
  subst e
  cases r
  exact assignInOrder_nil ⟨σ,H,I,h⟩
theorem bN {e:Expr} {es:List Expr} {t:TG} {u:wx} (h1:PG X e t) (h2:xf X es u)
  (hs:(assignEach (e :: es) X.env).map (·.2) = assign e X.env :: (assignEach es X.env).map (·.2):=by rfl):xf X (e :: es) (yA t u):=by
 unfold PG at *; unfold xf at *
 exact by
  intro pins s σ H vs us Q I r h
  obtain ⟨v,vr,e1,h⟩:=h
  subst e1
  cases r with
  | cons r rr =>
   rw [hs]
   refine assignInOrder_cons (bX (h1 pins s σ H _ _ _ I r h) fun _ s1 ⟨σ1,H1,I1,q1⟩=>?_)
   exact h2 pins s1 σ1 H1 _ _ Q I1 rr q1
def zO (K:PySem.W.Frag) (n:Nat) (t:wx):TG:=fun v σ H Q=>∃ a xs,v = .ref a ∧ bz K H a xs ∧ xs.length = n ∧ t xs σ H Q
theorem jB {es:List Expr} {k:Nat} {t:wx} {n:Nat} (hc:X.calm = true) (h:xf X es t)
  (hn:(assignEach es X.env).length = n:=by rfl) (hst:(assignEach es X.env).findIdx? (·.1) = none:=by rfl):PG X (.Tuple es k pos) (zO X.K n t):=by
 unfold PG at *; unfold xf at *
 exact by
  intro pins s σ H v u Q I r hw
  obtain ⟨a,xs,e1,hq,hl,hw⟩:=hw
  subst e1
  cases r
  obtain ⟨ai,rv,ht,hz⟩:=I.tuple hq
  refine assign_Tuple_tuple (I.ok.hd hc) ht (by simp [hn,← hl,rv.length]) hst fun h' hx=>?_
  have I1:Inv X pins σ H { s with heap:=h' }:=I.kept (t':=s.toks) fun b o e=>hx b o (Nat.ne_of_lt (Heap.lt_size e)) e
  exact h pins _ σ H xs _ Q I1 (by simpa using rv) hw
def zJ (to ti:TE) (t:uQ):TG:=fun v σ H Q=>to σ H fun o H1=>ti σ H1 fun i H2=>t o i v H2 fun H3=>Q σ H3
theorem wZ {o i:Expr} {to ti:TE} {t:uQ} (ho:PE X o to) (hi:PE X i ti) (hs:uo X t)
  (ha:∀ v,assign (.Subscript o i pos) X.env v = (do
   let ov ← holding [v] (eval o X.env)
   let iv ← holding [v,ov] (eval i X.env)
   standAt pos
   holding [v,ov,iv] (setItem ov iv v)
   release [v,ov,iv] []):=by intro _; rfl):PG X (.Subscript o i pos) (zJ to ti t):=by
 unfold PE at *; unfold PG at *; unfold uo at *
 exact by
  intro pins s σ H v u Q I r h
  rw [ha]
  refine wpAny_bind (wpAny_holding (bX (ho pins s σ H _ I h) fun ov s1 ⟨x,H1,I1,r1,q1⟩=>?_))
  refine wpAny_bind (wpAny_holding (bX (hi pins s1 σ H1 _ I1 q1) fun iv s2 ⟨y,H2,I2,r2,q2⟩=>?_))
  refine wpAny_bind (wpAny_standAt (wpAny_bind (wpAny_holding (bX (hs pins s2 σ H2 x y v ov iv u _ I2 r1 r2 r q2) fun _ s3 ⟨H3,I3,q3⟩=>?_))))
  exact wpAny_release ⟨σ,H3,I3,q3⟩
def xN (te:TE) (g:TG):TS:=fun D σ H=>te σ H fun x H1=>g x σ H1 D.nx
theorem mw {tg e:Expr} {te:TE} {g:TG} (he:PE X e te) (hg:PG X tg g) (hs:swapsWithSole [tg] e pos.line X.env = pure false:=by rfl) (hw:swappedStores [tg] e X.env = pure none:=by rfl)
  (h1:(assignEach [tg] X.env).map (·.2) = [assign tg X.env]:=by rfl):PS X (.Assign [tg] e pos) (xN te g):=by
 unfold PE at *; unfold PS at *; unfold PG at *
 exact by
  intro pins s σ H D I h
  refine wpAny_Assign_stores (bX (he pins s σ H _ I h) fun v s1 ⟨x,H1,I1,r1,q1⟩=>?_) hs hw
  rw [h1]
  exact bX (hg pins s1 σ H1 x v _ I1 r1 q1) fun _ s2 q=>q
theorem aN {i:Nat} {x:Str} {e:Expr} {te:TE} {pos':Pos} (hN:X.N.Nodup) (hi:X.N[i]? = some x) (hx:Loc X.env.scope x) (he:PE X e te) (hs:swapsWith e (some (.Name x pos')) pos.line X.env = pure false:=by rfl) (hf:X.fn x = true ∨ X.env.scope.names.lookup x = some .local:=by first | exact .inl rfl | exact .inr rfl | assumption) :
  PS X (.Assign [.Name x pos'] e pos) (xN te (tG i)):=by
 unfold PE at *; unfold PS at *
 exact by
  intro pins s σ H D I h
  refine wpAny_Assign_Name (bX (he pins s σ H _ I h) fun v s1 ⟨y,H1,I1,r1,q1⟩=>?_) hs
  exact kW I1 hN hi hx r1 (fun s2 I2=>⟨_,H1,I2,q1⟩) hf
end
section
variable {X:Cx} {pos:Pos}
end
/- at turn i: it yields x (the heap may grow),or it stops -/
set_option genInjectivity false in
set_option genSizeOfSpec false in
set_option genSizeOf false in
structure It where
 go:Nat → Hp → Prop
 yld:Nat → Hp → V → Hp → Prop
 stop:Nat → Hp → Prop
def ja (X:Cx) (pins:List (Addr × Obj)) (H:Hp) (b:Addr):Prop :=
 H b = none ∧ b ≠ X.env.locals ∧ b ∉ X.fs ∧ (b ∈ X.ex ∨ X.s₀.heap.objs.size ≤ b) ∧ (∀ x c,X.env.cells.lookup x = some c → c ≠ b) ∧ ∀ p ∈ X.pn ++ pins,p.1 ≠ b
theorem Inv.qM {X:Cx} {pins:List (Addr × Obj)} {σ:St} {H H':Hp} {s:Shared} {b:Addr} (I:Inv X pins σ H s) (hb:s.heap.objs.size ≤ b) (hn:H' b = none):ja X pins H' b:=by
 refine ⟨hn,Nat.ne_of_gt (Nat.lt_of_lt_of_le I.lt hb),I.y0 hb,.inr (Nat.le_trans I.sz hb),fun x c e z=>?_,fun p hp z=>?_⟩
 ·obtain ⟨v,q⟩:=I.cell x c e
  exact absurd (Nat.lt_of_lt_of_le q.lt (by rw [z]; exact hb)) (Nat.lt_irrefl _)
 ·exact absurd (Nat.lt_of_lt_of_le (Heap.lt_size (I.pin p hp).1) (by rw [z]; exact hb)) (Nat.lt_irrefl _)
structure Turn (P:Program) (w:World) (K:PySem.W.Frag) (tg:Expr) (J:It) (fp:List Addr) (it:Addr) (tn:Nat → Heap → Prop):Prop where
 mem:it ∈ fp
 obj:∀ i h,tn i h → ∀ b ∈ fp,∃ o,h.get? b = some o ∧ ∀ v,o.data ≠ .cell v
 keep:∀ i h h',tn i h → (∀ b ∈ fp,∀ o,h.get? b = some o → h'.get? b = some o) → tn i h'
 item:∀ (X:Cx),X.prog = P → X.w = w → X.K = K → X.calm = true → ∀ (i:Nat) (pins:List (Addr × Obj)) (s:Shared) (σ:St) (H:Hp) (E:Value → Shared → Prop),Inv X pins σ H s → (∀ b ∈ fp,ja X pins H b) → tn i s.heap → J.go i H →
  wpAny (model P w) X.A (pyNext (.ref it)) (fun r s1=>∃ u,r = some u ∧
   wpAny (model P w) X.A (letOwnedTupleGo tg (.ref it) u) (fun _ s2=>∃ x H',Inv X pins σ H' s2 ∧ RelV x u ∧ J.yld i H x H' ∧ tn (i + 1) s2.heap ∧ ∀ b ∈ fp,H' b = none) E s1) E s
 done:∀ (X:Cx),X.prog = P → X.w = w → X.K = K → X.calm = true → ∀ (i:Nat) (pins:List (Addr × Obj)) (s:Shared) (σ:St) (H:Hp) (E:Value → Shared → Prop),Inv X pins σ H s → (∀ b ∈ fp,ja X pins H b) → tn i s.heap → J.stop i H →
  wpAny (model P w) X.A (pyNext (.ref it)) (fun r s1=>r = none ∧ Inv X pins σ H s1) E s
 self:∀ (A:Around) (i:Nat) (s:Shared) (Q:Value → Shared → Prop) (E:Value → Shared → Prop),tn i s.heap → Q (.ref it) s → wpAny (model P w) A (pyIter (.ref it)) Q E s
abbrev TI:=St → Hp → (It → Hp → Prop) → Prop
def zr (X:Cx) (pins:List (Addr × Obj)) (σ:St) (tg:Expr) (R:It → Hp → Prop) (itv:Value) (s2:Shared):Prop :=
 ∃ (it:Addr) (fp:List Addr) (tn:Nat → Heap → Prop) (J:It) (H':Hp),itv = .ref it ∧ Inv X pins σ H' s2 ∧ Turn X.prog X.w X.K tg J fp it tn ∧ tn 0 s2.heap ∧ (∀ b ∈ fp,ja X pins H' b) ∧ R J H'
@[irreducible] def PI (X:Cx) (tg iter:Expr) (wi:TI):Prop :=
 ∀ (pins:List (Addr × Obj)) (s:Shared) (σ:St) (H:Hp) (R:It → Hp → Prop),Inv X pins σ H s → wi σ H R →
  wpAny (model X.prog X.w) X.A (eval iter X.env) (fun v s1=>wpAny (model X.prog X.w) X.A (pyIter v) (zr X pins σ tg R) X.xe s1) X.xe s
theorem qC {M : Model} {A : Around} {E : Value → Shared → Prop} {s : Shared} {tg : Expr} {it : Addr} {u : Value} {o : Obj} {n : String} {vs : Array Value} {Q : Unit → Shared → Prop} (ho : s.heap.get? it = some o) (hc : o.cls = .type n) (hd : o.data = .fields vs)
    (hn : ["enumerate", "zip", "dict_itemiterator", "dict_reverseitemiterator", "odict_iterator", "itertools.zip_longest", "itertools.pairwise"].contains n = false) (hQ : Q () s) : wpAny M A (letOwnedTupleGo tg (.ref it) u) Q E s := by
  unfold letOwnedTupleGo
  cases tg <;> first
    | exact wpAny_pure hQ
    | (cases u <;> first
        | exact wpAny_pure hQ
        | (refine wpAny_bind (wpAny_load ho ?_)
           rw [hc, hd]
           show wpAny M A (if (["enumerate", "zip", "dict_itemiterator", "dict_reverseitemiterator", "odict_iterator", "itertools.zip_longest", "itertools.pairwise"].contains n && vs[0]? == some (rawInt _)) = true then _ else _) Q E s
           rw [if_neg (by intro h; rw [hn, Bool.false_and] at h; cases h)]
           exact wpAny_pure hQ))
def vi (K:PySem.W.Frag) (a:Addr):It :=
 ⟨fun i H=>∃ xs x,ao K H a xs ∧ xs[i]? = some x,fun i H x H'=>H' = H ∧ ∀ xs,ao K H a xs → xs[i]? = some x,fun i H=>∃ xs,ao K H a xs ∧ xs.length ≤ i⟩
def wz (lo:Int) (n:Nat):It:=⟨fun i _=>i < n,fun i H x H'=>H' = H ∧ x = .int (lo + i),fun i _=>n ≤ i⟩
theorem qp {P:Program} {w:World} {K:PySem.W.Frag} {tg:Expr} (a it:Addr):Turn P w K tg (vi K a) [it] it (fun i h=>h.IsListIter it a i) where
 mem:=by simp
 obj:=fun i h st b hb=>by
  have e:b = it:=by simpa using hb
  subst e
  obtain ⟨o,e,c,d⟩:=st
  exact ⟨o,e,fun v z=>by rw [d] at z; cases z⟩
 keep:=fun i h h' st k=>st.at fun o e=>k it (by simp) o e
 item:=by
  intro X hP hw hK hc i pins s σ H E I hf st hg
  subst hP hw hK
  obtain ⟨xs,x,hq,hx⟩:=hg
  obtain ⟨ai,rv,p,hz⟩:=I.list hq
  obtain ⟨u,hu,ru⟩:=rv.get hx
  obtain ⟨f0,f1,f2,f3,f4,f5⟩:=hf it (by simp)
  refine wpAny_pyNext_list_item st p.isList (x:=u) (by simpa using hu) fun h' st' sb=>?_
  have I1:Inv X pins σ H { s with heap:=h' }:=I.turned (t':=s.toks) (fun b o hb e=>(sb.2 b hb).trans e) f0 f1 f3 f4 f5
  obtain ⟨o,e,c,d⟩:=id st'
  exact ⟨u,rfl,qC (s:={ s with heap:=h' }) e c d (by decide) ⟨x,H,I1,ru,⟨rfl,fun ys hy=>by rw [I.fV hy hq]; exact hx⟩,st',fun b hb=>(hf b hb).1⟩⟩
 done:=by
  intro X hP hw hK hc i pins s σ H E I hf st hg
  subst hP hw hK
  obtain ⟨xs,hq,hx⟩:=hg
  obtain ⟨ai,rv,p,hz⟩:=I.list hq
  obtain ⟨f0,f1,f2,f3,f4,f5⟩:=hf it (by simp)
  have hl:=rv.length
  exact wpAny_pyNext_list_end (I.ok.hd hc) st p.isList (by simp; omega) fun h' eb=>⟨rfl,I.turned (t':=s.toks) (fun b o hb e=>eb b o hb e) f0 f1 f3 f4 f5⟩
 self:=fun _ _ _ _ _ st h=>wpAny_pyIter_listiter st h
theorem pA {P:Program} {w:World} {K:PySem.W.Frag} {tg:Expr} (it:Addr) (lo:Int) (n:Nat):Turn P w K tg (wz lo n) [it] it (fun i h=>IsRangeIter h it (lo + (i:Nat) * 1) ((n:Int) - (i:Nat)) 1) where
 mem:=by simp
 obj:=fun i h st b hb=>by
  have e:b = it:=by simpa using hb
  subst e
  exact ⟨_,st,fun v z=>by
   have z':Data.fields _ = Data.cell v:=z
   cases z'⟩
 keep:=fun i h h' st k=>k it (by simp) _ st
 item:=by
  intro X hP hw hK hc i pins s σ H E I hf st hg
  subst hP hw hK
  obtain ⟨f0,f1,f2,f3,f4,f5⟩:=hf it (by simp)
  have W:=Walks.range (prog:=X.prog) (w:=X.w) (I.ok.hd hc) it lo 1 n
  refine W.item i s _ _ hg st fun v h' tk hv st' kk=>?_
  obtain ⟨t,rfl⟩:=hv
  have I1:Inv X pins σ H { s with heap:=h',toks:=tk }:=I.turned (fun b o hb e=>kk b o (by simpa using hb) e) f0 f1 f3 f4 f5
  refine ⟨_,rfl,qC (s:={ s with heap:=h',toks:=tk }) (n := "range_iterator") st' rfl rfl (by decide) ⟨.int (lo + i),H,I1,⟨t,?_⟩,⟨rfl,rfl⟩,st',fun b hb=>(hf b hb).1⟩⟩
  rw [Int.mul_one]
 done:=by
  intro X hP hw hK hc i pins s σ H E I hf st hg
  subst hP hw hK
  obtain ⟨f0,f1,f2,f3,f4,f5⟩:=hf it (by simp)
  exact wpAny_pyNext_range_end (I.ok.hd hc) st (by have:n ≤ i:=hg; omega) fun h' eb=>⟨rfl,I.turned (t':=s.toks) (fun b o hb e=>eb b o hb e) f0 f1 f3 f4 f5⟩
 self:=fun _ _ _ _ _ st h=>wpAny_pyIter_rangeiter st h
end L2
namespace L2
open PySem PySem.Spec PyProof.Rows
section
variable {X:Cx} {tg:Expr}
def xt (K:PySem.W.Frag) (tl:TE):TI:=fun σ H R=>tl σ H fun x H1=>∃ a,x = .ref a ∧ (∃ xs,ao K H1 a xs) ∧ R (vi K a) H1
theorem cZ {l:Expr} {tl:TE} (hl:PE X l tl):PI X tg l (xt X.K tl):=by
 unfold PE at *; unfold PI at *
 exact by
  intro pins s σ H R I h
  refine bX (hl pins s σ H _ I h) fun v s1 ⟨x,H1,I1,r1,q1⟩=>?_
  obtain ⟨a,e,⟨xs,hq⟩,q⟩:=q1
  subst e
  cases r1
  obtain ⟨ai,rv,p,hz⟩:=I1.list hq
  refine wpAny_pyIter_list p.isList ?_
  refine ⟨s1.heap.objs.size,[s1.heap.objs.size],_,_,H1,rfl,I1.kept (t':=s1.toks) fun b o e=>Heap.get?_push_of_some _ e,qp a _,⟨_,Heap.get?_push_size _ rfl,rfl,rfl⟩,fun b hb=>?_,q⟩
  have e:b = s1.heap.objs.size:=by simpa using hb
  subst e
  exact I1.qM (Nat.le_refl _) (I1.hok.fresh (Nat.le_refl _))
theorem tU {pins:List (Addr × Obj)} {σ:St} {H:Hp} {s:Shared} {R:It → Hp → Prop} {E:Value → Shared → Prop} {lo hi:Int} {t u v:Tok} {tk:Nat} (I:Inv X pins σ H s) (h1:-(2 ^ 62) ≤ lo) (h2:lo < 2 ^ 62) (h3:-(2 ^ 62) ≤ hi) (h4:hi < 2 ^ 62)
  (q:R (wz lo (hi - lo).toNat) H):wpAny (model X.prog X.w) X.A (pyIter (.ref s.heap.objs.size)) (zr X pins σ tg R) E { s with heap:=s.heap.push { cls:=.type "range",data:=.fields #[.int lo t,.int hi u,.int 1 v] },toks:=tk }:=by
 refine wpAny_pyIter_range (IsRange.new ..) (small_one h1 h2 h3 h4) ?_
 have I1:Inv X pins σ H { s with heap:=s.heap.push { cls:=.type "range",data:=.fields #[.int lo t,.int hi u,.int 1 v] },toks:=tk }:=I.kept fun b o e=>Heap.get?_push_of_some _ e
 refine ⟨(s.heap.push { cls:=.type "range",data:=.fields #[.int lo t,.int hi u,.int 1 v] }).objs.size,[(s.heap.push { cls:=.type "range",data:=.fields #[.int lo t,.int hi u,.int 1 v] }).objs.size],_,_,H,rfl,
  I1.kept (t':=tk) fun b o e=>Heap.get?_push_of_some _ e,pA _ lo (hi - lo).toNat,?_,fun b hb=>?_,q⟩
 ·have e1:lo + ((0:Nat):Int) * 1 = lo:=by simp
  have e2:(((hi - lo).toNat:Nat):Int) - ((0:Nat):Int) = Builtin.Range.rangeSize lo hi 1:=by rw [rangeSize_one]; split <;> omega
  show IsRangeIter _ _ (lo + ((0:Nat):Int) * 1) ((((hi - lo).toNat:Nat):Int) - ((0:Nat):Int)) 1
  rw [e1,e2]
  exact Heap.get?_push_size _ rfl
 ·have e:b = (s.heap.push { cls:=.type "range",data:=.fields #[.int lo t,.int hi u,.int 1 v] }).objs.size:=by simpa using hb
  subst e
  exact I1.qM (Nat.le_refl _) (I1.hok.fresh (Nat.le_refl _))
def xm (ta:TA):TI:=fun σ H R=>ta σ H fun vs H1=>∃ j:Int,vs = [.int j] ∧ -(2 ^ 62) ≤ j ∧ j < 2 ^ 62 ∧ R (wz 0 j.toNat) H1
theorem eI {a:Expr} {ta:TA} {p pos:Pos} (hg:Gl X "range") (hm:X.mg "range" = none) (ha:PA X [a] ta) (hs:starEach [a] X.env = [(false,eval a X.env)]:=by rfl):PI X tg (.Call (.Name "range" p) [a] [] pos) (xm ta):=by
 unfold PA at *; unfold PI at *
 exact by
  intro pins s σ H R I h
  refine Call_ (iJ I hg hm boot_range (PyProof.Rows.callWith_type1 (bX (ha pos pins s σ H _ I h) fun us s1 ⟨vs,H1,I1,r1,q1⟩=>?_) hs rfl))
  obtain ⟨j,e,q1,q2,q⟩:=q1
  subst e
  cases r1 with
  | cons r rr =>
   cases rr
   obtain ⟨t,rfl⟩:=r
   exact call_range_1 (tU I1 (by omega) (by omega) q1 q2 (by simpa using q))
def zi (wi:TI) (g:TG) (tb:TS):TS:=fun D σ H=>wi σ H fun J H1=>∃ W:Nat → Nat → St → Hp → Prop,(∃ m,W 0 m σ H1) ∧ ∀ i m σ H,W i m σ H →
 (J.stop i H ∧ D.nx σ H) ∨ (J.go i H ∧ ∃ N:St → Hp → Prop,(∀ σ' H',N σ' H' → ∃ m',m' < m ∧ W (i + 1) m' σ' H') ∧ ∀ x H',J.yld i H x H' → g x σ H' fun σ2 H2=>tb { D with nx:=N,ct:=N,bk:=D.nx } σ2 H2)
def kE (fp:List Addr) (h:Heap):List (Addr × Obj):=fp.filterMap fun b=>(h.get? b).map fun o=>(b,o)
theorem gD {fp:List Addr} {h:Heap} {b:Addr} {o:Obj} (hb:b ∈ fp) (e:h.get? b = some o):(b,o) ∈ kE fp h:=List.mem_filterMap.mpr ⟨b,hb,by rw [e]; rfl⟩
theorem qQ {fp:List Addr} {h:Heap} {p:Addr × Obj} (hp:p ∈ kE fp h):p.1 ∈ fp ∧ h.get? p.1 = some p.2:=by
 obtain ⟨b,hb,e⟩:=List.mem_filterMap.mp hp
 cases q:h.get? b with
 | none=>rw [q] at e; cases e
 | some o =>
  rw [q] at e
  have e':(b,o) = p:=Option.some.inj e
  subst e'
  exact ⟨hb,q⟩
theorem Inv.pinned {pins:List (Addr × Obj)} {σ:St} {H:Hp} {s:Shared} {fp:List Addr} (I:Inv X pins σ H s) (hf:∀ b ∈ fp,ja X pins H b) (ho:∀ b ∈ fp,∃ o,s.heap.get? b = some o ∧ ∀ v,o.data ≠ .cell v):Inv X (pins ++ kE fp s.heap) σ H s :=
 I.pe fun p hp=>(List.mem_append.mp hp).elim (fun z=>I.pin p (List.mem_append_right _ z)) fun z=>by
  obtain ⟨hb,e⟩:=qQ z
  obtain ⟨f0,f1,f2,_⟩:=hf p.1 hb
  obtain ⟨o,e',d⟩:=ho p.1 hb
  rw [e] at e'; cases e'
  exact ⟨e,f0,f1,f2,d⟩
theorem Inv.ic {pins pl:List (Addr × Obj)} {σ:St} {H:Hp} {s:Shared} (I:Inv X (pins ++ pl) σ H s):Inv X pins σ H s:=I.pe fun p hp=>I.pin p (List.mem_append_right _ (List.mem_append_left _ hp))
theorem eX {iter:Expr} {body:List Stmt} {wi:TI} {g:TG} {tb:TS} {pos:Pos} (hp:PassesOwn (model X.prog X.w) X.A X.env X.xe) (hc:X.calm = true) (hi:PI X tg iter wi) (hg:PG X tg g) (hb:jJ X body tb)
  (hs:∀ x,foldedSetIterable iter X.env x = pure x:=by intro _; rfl):PS X (.For tg iter body [] pos) (zi wi g tb):=by
 unfold PS at *; unfold jJ at *; unfold PG at *; unfold PI at *
 exact by
  intro pins s σ H D I h
  refine wpAny_For (bX (hi pins s σ H _ I h) fun v s1 h1=>bX h1 fun itv s2 h2=>?_) hs
  obtain ⟨it,fp,tn,J,H2,e,I2,T,st2,f2,W,⟨m0,w0⟩,turn⟩:=h2
  subst e
  -- what stays true of the iterator's objects through the loop
  have stat:∀ {H':Hp},(∀ b ∈ fp,H' b = none) → ∀ b ∈ fp,ja X pins H' b:=fun hn b hb=>⟨hn b hb,(f2 b hb).2⟩
  refine codeAny_forLoop_any (fun n s'=>∃ i σ' H',Inv X pins σ' H' s' ∧ tn i s'.heap ∧ (∀ b ∈ fp,H' b = none) ∧ W i n σ' H') ?_ m0 ⟨0,σ,H2,I2,st2,fun b hb=>(f2 b hb).1,w0⟩
  rintro n s3 ⟨i,σ3,H3,I3,st3,fr3,w3⟩
  rcases turn i n σ3 H3 w3 with ⟨stop,qn⟩ | ⟨go,N,hN,step⟩
  ·refine wpAny_passesOwn hp (bX (T.done X rfl rfl rfl hc i pins s3 σ3 H3 X.xe I3 (stat fr3) st3 stop) fun r s4 ⟨hr,I4⟩=>?_)
   subst hr
   exact wpAny_execs_nil ⟨σ3,H3,I4,qn⟩
  ·refine wpAny_passesOwn hp (bX (T.item X rfl rfl rfl hc i pins s3 σ3 H3 X.xe I3 (stat fr3) st3 go) fun r s4 ⟨u,hr,h4⟩=>?_)
   subst hr
   refine wpAny_passesOwn hp (bX h4 fun _ s5 ⟨x,H5,I5,r5,y5,st5,fr5⟩=>?_)
   have I5':=I5.pinned (stat fr5) (T.obj _ _ st5)
   refine wpAny_passesOwn hp (bX (hg _ s5 σ3 H5 x u _ I5' r5 (step x H5 y5)) fun _ s6 ⟨σ6,H6,I6,q6⟩=>?_)
   refine wpAny_passesOwn hp (bX (hb _ s6 σ6 H6 _ I6 q6) fun f s7 q7=>?_)
   have again:∀ {σ7:St} {H7:Hp},Inv X (pins ++ kE fp s5.heap) σ7 H7 s7 → N σ7 H7 → ∃ m,m < n ∧ ∃ i σ' H',Inv X pins σ' H' s7 ∧ tn i s7.heap ∧ (∀ b ∈ fp,H' b = none) ∧ W i m σ' H':=fun {σ7 H7} I7 n7=>by
    obtain ⟨m',hm,w7⟩:=hN σ7 H7 n7
    refine ⟨m',hm,i + 1,σ7,H7,I7.ic,T.keep _ _ _ st5 fun b hb o e=>(I7.pin (b,o) (List.mem_append_right _ (List.mem_append_right _ (gD hb e)))).1,fun b hb=>?_,w7⟩
    obtain ⟨o,e,d⟩:=T.obj _ _ st5 b hb
    exact (I7.pin (b,o) (List.mem_append_right _ (List.mem_append_right _ (gD hb e)))).2.1
   cases f with
   | next=>obtain ⟨σ7,H7,I7,n7⟩:=q7; exact again I7 n7
   | cont=>obtain ⟨σ7,H7,I7,n7⟩:=q7; exact again I7 n7
   | brk=>obtain ⟨σ7,H7,I7,q7⟩:=q7; exact ⟨σ7,H7,I7.ic,q7⟩
   | ret v=>obtain ⟨x7,σ7,H7,I7,r7,q7⟩:=q7; exact ⟨x7,σ7,H7,I7.ic,r7,q7⟩
end
theorem gR {K:PySem.W.Frag} {a:Addr} {xs:List V} {g:TG} {tb:TS} {D:Ends} {σ:St} {H:Hp} (Pv:Nat → St → Hp → Prop) (h0:Pv 0 σ H) (hl:∀ i σ H,i ≤ xs.length → Pv i σ H → ao K H a xs)
  (hs:∀ i x σ H,xs[i]? = some x → Pv i σ H → g x σ H fun σ2 H2=>tb { D with nx:=Pv (i + 1),ct:=Pv (i + 1),bk:=D.nx } σ2 H2) (hd:∀ σ H,Pv xs.length σ H → D.nx σ H) :
  ∃ W:Nat → Nat → St → Hp → Prop,(∃ m,W 0 m σ H) ∧ ∀ i m σ H,W i m σ H →
   ((vi K a).stop i H ∧ D.nx σ H) ∨ ((vi K a).go i H ∧ ∃ N:St → Hp → Prop,(∀ σ' H',N σ' H' → ∃ m',m' < m ∧ W (i + 1) m' σ' H') ∧ ∀ x H',(vi K a).yld i H x H' → g x σ H' fun σ2 H2=>tb { D with nx:=N,ct:=N,bk:=D.nx } σ2 H2):=by
 refine ⟨fun i m σ H=>m = xs.length - i ∧ i ≤ xs.length ∧ Pv i σ H,⟨xs.length,by simp,Nat.zero_le _,h0⟩,?_⟩
 rintro i m σ H ⟨rfl,hi,p⟩
 have q:=hl i σ H hi p
 by_cases hlt:i < xs.length
 ·refine .inr ⟨⟨xs,xs[i],q,by simp [hlt]⟩,Pv (i + 1),fun σ' H' p'=>⟨xs.length - (i + 1),by omega,rfl,hlt,p'⟩,fun x H' y=>?_⟩
  obtain ⟨e,y⟩:=y
  subst e
  exact hs i x σ _ (y xs q) p
 ·have e:i = xs.length:=by omega
  subst e
  exact .inl ⟨⟨xs,q,Nat.le_refl _⟩,hd σ H p⟩
theorem hZ {lo:Int} {n:Nat} {g:TG} {tb:TS} {D:Ends} {σ:St} {H:Hp} (Pv:Nat → St → Hp → Prop) (h0:Pv 0 σ H)
  (hs:∀ i σ H,i < n → Pv i σ H → g (.int (lo + i)) σ H fun σ2 H2=>tb { D with nx:=Pv (i + 1),ct:=Pv (i + 1),bk:=D.nx } σ2 H2) (hd:∀ σ H,Pv n σ H → D.nx σ H) :
  ∃ W:Nat → Nat → St → Hp → Prop,(∃ m,W 0 m σ H) ∧ ∀ i m σ H,W i m σ H →
   ((wz lo n).stop i H ∧ D.nx σ H) ∨ ((wz lo n).go i H ∧ ∃ N:St → Hp → Prop,(∀ σ' H',N σ' H' → ∃ m',m' < m ∧ W (i + 1) m' σ' H') ∧ ∀ x H',(wz lo n).yld i H x H' → g x σ H' fun σ2 H2=>tb { D with nx:=N,ct:=N,bk:=D.nx } σ2 H2):=by
 refine ⟨fun i m σ H=>m = n - i ∧ i ≤ n ∧ Pv i σ H,⟨n,by simp,Nat.zero_le _,h0⟩,?_⟩
 rintro i m σ H ⟨rfl,hi,p⟩
 by_cases hlt:i < n
 ·refine .inr ⟨hlt,Pv (i + 1),fun σ' H' p'=>⟨n - (i + 1),by omega,rfl,hlt,p'⟩,fun x H' y=>?_⟩
  obtain ⟨e,y⟩:=y
  subst e y
  exact hs i σ _ hlt p
 ·have e:i = n:=by omega
  subst e
  exact .inl ⟨Nat.le_refl _,hd σ H p⟩
end L2
namespace L2
open PySem PySem.Spec PyProof.Rows
abbrev R2:=V → V → Hp → VK → Prop
@[irreducible] def cY (X:Cx) (f:Value → Value → Sem Value) (r:R2):Prop :=
 ∀ (pins:List (Addr × Obj)) (s:Shared) (σ:St) (H:Hp) (x y:V) (v u:Value) (Q:VK),Inv X pins σ H s → RelV x v → RelV y u → r x y H Q →
  wpAny (model X.prog X.w) X.A (f v u) (EP X pins σ Q) X.xe s
@[irreducible] def xj (X:Cx) (f:Value → Sem Value) (r:V → Hp → VK → Prop):Prop :=
 ∀ (pins:List (Addr × Obj)) (s:Shared) (σ:St) (H:Hp) (x:V) (v:Value) (Q:VK),Inv X pins σ H s → RelV x v → r x H Q →
  wpAny (model X.prog X.w) X.A (f v) (EP X pins σ Q) X.xe s
@[irreducible] def bW (X:Cx) (f:Value) (r:List V → Hp → VK → Prop):Prop :=
 ∀ (pins:List (Addr × Obj)) (s:Shared) (σ:St) (H:Hp) (xs:List V) (us:List Value) (Q:VK),Inv X pins σ H s → Vals xs us → r xs H Q →
  wpAny (model X.prog X.w) X.A (call f us) (EP X pins σ Q) X.xe s
@[irreducible] def xD (X:Cx) (r:V → Hp → (Bool → Hp → Prop) → Prop):Prop :=
 ∀ (pins:List (Addr × Obj)) (s:Shared) (σ:St) (H:Hp) (x:V) (v:Value) (Q:Bool → Hp → Prop),Inv X pins σ H s → RelV x v → r x H Q →
  wpAny (model X.prog X.w) X.A (truthy v) (TP X pins σ Q) X.xe s
def yj (r:R2) (ta tb:TE):TE:=fun σ H Q=>ta σ H fun x H1=>tb σ H1 fun y H2=>r x y H2 Q
def AD (r:V → Hp → VK → Prop) (ta:TE):TE:=fun σ H Q=>ta σ H fun x H1=>r x H1 Q
def rI (C:Int → Int → Prop) (g:Int → Int → V):R2:=fun x y H Q=>∃ i j,x = .int i ∧ y = .int j ∧ C i j ∧ Q (g i j) H
def w9 (g:Int → Int → V):R2:=fun x y H Q=>∃ i j,x = .int i ∧ y = .int j ∧ Q (g i j) H
def rU (g:Int → V):V → Hp → VK → Prop:=fun x H Q=>∃ i,x = .int i ∧ Q (g i) H
section
variable {X:Cx} {a b c:Expr} {ta tb tc:TE} {pos:Pos}
theorem wu (ha:PE X a ta) (hb:PE X b tb) {pins:List (Addr × Obj)} {s:Shared} {σ:St} {H:Hp} {R:V → V → Hp → Prop} (I:Inv X pins σ H s)
  (h:ta σ H fun x H1=>tb σ H1 fun y H2=>R x y H2) {Q:Value → Shared → Prop} {f:Value → Value → Sem Value}
  (hf:∀ v u s2 x y H2,Inv X pins σ H2 s2 → RelV x v → RelV y u → R x y H2 → wpAny (model X.prog X.w) X.A (f v u) Q X.xe s2) :
  wpAny (model X.prog X.w) X.A (eval a X.env) (fun v s₁=>wpAny (model X.prog X.w) X.A (eval b X.env) (fun u s₂=>wpAny (model X.prog X.w) X.A (f v u) Q X.xe s₂) X.xe s₁) X.xe s:=by
 unfold PE at *
 exact by
  refine bX (ha pins s σ H _ I h) fun v s1 ⟨x,H1,I1,r1,q1⟩=>?_
  refine bX (hb pins s1 σ H1 _ I1 q1) fun u s2 ⟨y,H2,I2,r2,q2⟩=>?_
  exact hf v u s2 x y H2 I2 r1 r2 q2
theorem aL {op:Operator} {r:R2} (ho:cY X (binaryOp op) r) (ha:PE X a ta) (hb:PE X b tb):PE X (.BinOp a op b pos) (yj r ta tb):=by
 unfold PE; unfold cY at ho
 exact by
  intro pins s σ H Q I h
  exact wpAny_BinOp (wu ha hb I h fun v u s2 x y H2 I2 rx ry q=>ho pins s2 σ H2 x y v u Q I2 rx ry q)
theorem p9 {op:UnaryOp} {r:V → Hp → VK → Prop} (ho:xj X (unaryOp op) r) (ha:PE X a ta):PE X (.UnaryOp op a pos) (AD r ta):=by
 unfold PE at *; unfold xj at *
 exact by
  intro pins s σ H Q I h
  exact UnaryOp_ (bX (ha pins s σ H _ I h) fun v s1 ⟨x,H1,I1,r1,q1⟩=>ho pins s1 σ H1 x v Q I1 r1 q1)
theorem vy {f:Value → Value → Sem Value} {C:Int → Int → Prop} {g:Int → Int → Int}
  (rule:∀ (i j:Int) (t u:Tok) (s:Shared) (Q:Value → Shared → Prop) (E:Value → Shared → Prop),C i j → Q (.int (g i j) s.toks) { s with toks:=s.toks + 1 } → wpAny (model X.prog X.w) X.A (f (.int i t) (.int j u)) Q E s) :
  cY X f (rI C fun i j=>.int (g i j)):=by
 unfold cY at *
 exact by
  intro pins s σ H x y v u Q I rx ry h
  obtain ⟨i,j,rfl,rfl,hc,q⟩:=h
  obtain ⟨t,rfl⟩:=rx
  obtain ⟨t',rfl⟩:=ry
  exact rule i j t t' s _ _ hc ⟨.int (g i j),H,I.tok _,⟨_,rfl⟩,q⟩
theorem vX {f:Value → Value → Sem Value} {g:Int → Int → Int}
  (rule:∀ (i j:Int) (t u:Tok) (s:Shared) (Q:Value → Shared → Prop) (E:Value → Shared → Prop),Q (.int (g i j) s.toks) { s with toks:=s.toks + 1 } → wpAny (model X.prog X.w) X.A (f (.int i t) (.int j u)) Q E s) :
  cY X f (w9 fun i j=>.int (g i j)):=by
 unfold cY at *
 exact by
  intro pins s σ H x y v u Q I rx ry h
  obtain ⟨i,j,rfl,rfl,q⟩:=h
  obtain ⟨t,rfl⟩:=rx
  obtain ⟨t',rfl⟩:=ry
  exact rule i j t t' s _ _ ⟨.int (g i j),H,I.tok _,⟨_,rfl⟩,q⟩
theorem qi {f:Value → Value → Sem Value} {g:Int → Int → Bool}
  (rule:∀ (i j:Int) (t u:Tok) (s:Shared) (Q:Value → Shared → Prop) (E:Value → Shared → Prop),Q (.bool (g i j)) s → wpAny (model X.prog X.w) X.A (f (.int i t) (.int j u)) Q E s) :
  cY X f (w9 fun i j=>.bl (g i j)):=by
 unfold cY at *
 exact by
  intro pins s σ H x y v u Q I rx ry h
  obtain ⟨i,j,rfl,rfl,q⟩:=h
  obtain ⟨t,rfl⟩:=rx
  obtain ⟨t',rfl⟩:=ry
  exact rule i j t t' s _ _ ⟨.bl (g i j),H,I,rfl,q⟩
def yW (i j:Int):Prop:=0 < j ∧ j < 1073741824
def yT (i j:Int):Prop:=0 ≤ j ∧ j ≤ 1000000 ∧ i.natAbs < 2 ^ 64
def tQ (i j:Int):Prop:=(-(2 ^ 64) < i ∧ i < 2 ^ 64) ∨ (-(2 ^ 64) < j ∧ j < 2 ^ 64)
theorem tQ.ok {i j:Int} (h:tQ i j):IntMulOk i j:=by
 rcases h with ⟨h1,h2⟩ | ⟨h1,h2⟩
 ·exact .of_left (intBits_le_64 h1 h2)
 ·exact .of_right (intBits_le_64 h1 h2)
theorem pO (k:Nat):(0:Int) ≤ 2 ^ k:=by
 rw [two_pow_cast]
 exact Int.natCast_nonneg _
theorem cJ:cY X (binaryOp .Add) (w9 fun i j=>.int (i + j)):=by
 first
 | exact (vX fun _ _ _ _ _ _ _ q=>add_int q)
 | (unfold cY at *; exact (vX fun _ _ _ _ _ _ _ q=>add_int q))
theorem gO:cY X (binaryOp .Sub) (w9 fun i j=>.int (i - j)):=by
 first
 | exact (vX fun _ _ _ _ _ _ _ q=>sub_int q)
 | (unfold cY at *; exact (vX fun _ _ _ _ _ _ _ q=>sub_int q))
theorem dc:cY X (binaryOp .Mult) (rI tQ fun i j=>.int (i * j)):=by
 first
 | exact (vy fun _ _ _ _ _ _ _ hc q=>mul_int q hc.ok)
 | (unfold cY at *; exact (vy fun _ _ _ _ _ _ _ hc q=>mul_int q hc.ok))
theorem bu:cY X (binaryOp .FloorDiv) (rI yW fun i j=>.int (i / j)):=vy fun i j _ _ _ _ _ hc q=>by
 have h1:(0:Int) < j:=hc.1
 have h2:j < 1073741824:=hc.2
 exact floordiv_int (by omega) (by rw [Int.fdiv_eq_ediv_of_nonneg i (by omega)]; exact q) (.inl (PyProof.noPylong_small (by omega)))
theorem ar:cY X (binaryOp .Mod) (rI (fun _ j=>0 < j) fun i j=>.int (i % j)):=vy fun i j _ _ _ _ _ hc q=>by
 have h1:(0:Int) < j:=hc
 exact mod_int' (by omega) (by rw [Int.fmod_eq_emod_of_nonneg i (by omega)]; exact q)
theorem mi:cY X (binaryOp .Pow) (rI yT fun i j=>.int (i ^ j.toNat)):=by
 first
 | exact (vy fun _ _ _ _ _ _ _ hc q=>pow_int_small hc.1 hc.2.1 hc.2.2 q)
 | (unfold cY at *; exact (vy fun _ _ _ _ _ _ _ hc q=>pow_int_small hc.1 hc.2.1 hc.2.2 q))
theorem xR:cY X (binaryOp .RShift) (rI (fun _ j=>0 ≤ j) fun i j=>.int (i / 2 ^ j.toNat)):=vy fun i j _ _ _ _ _ hc q =>
 rshift_int hc (by rw [Int.fdiv_eq_ediv_of_nonneg i (pO _)]; exact q)
theorem zt {f:Value → Sem Value} {g:Int → Int}
  (rule:∀ (i:Int) (t:Tok) (s:Shared) (Q:Value → Shared → Prop) (E:Value → Shared → Prop),Q (.int (g i) s.toks) { s with toks:=s.toks + 1 } → wpAny (model X.prog X.w) X.A (f (.int i t)) Q E s) :
  xj X f (rU fun i=>.int (g i)):=by
 unfold xj at *
 exact by
  intro pins s σ H x v Q I rx h
  obtain ⟨i,rfl,q⟩:=h
  obtain ⟨t,rfl⟩:=rx
  exact rule i t s _ _ ⟨.int (g i),H,I.tok _,⟨_,rfl⟩,q⟩
theorem m7:xj X (unaryOp .USub) (rU fun i=>.int (-i)):=by
 first
 | exact (zt fun _ _ _ _ _ q=>neg_int q)
 | (unfold xj at *; exact (zt fun _ _ _ _ _ q=>neg_int q))
end
def yR:V → V → Bool
 | .bA,.bA=>true | .bA,.int _=>true | .int _,.bA=>true | .bA,.bl _=>true | .bl _,.bA=>true | .bA,.str _=>true | .str _,.bA=>true
 | .int _,.int _=>true | .bl _,.bl _=>true | .str _,.str _=>true | .byt _,.byt _=>true
 | .int _,.str _=>true | .str _,.int _=>true | .bl _,.str _=>true | .str _,.bl _=>true
 | _,_=>false
def zy:R2:=fun x y H Q=>yR x y = true ∧ Q (.bl (decide (x = y))) H
def AA:R2:=fun x y H Q=>yR x y = true ∧ Q (.bl (!decide (x = y))) H
theorem pY {i j:Int}:decide (V.int i = V.int j) = (i == j):=by
 rw [Bool.eq_iff_iff]
 simp
theorem tE {i j:Bool}:decide (V.bl i = V.bl j) = (i == j):=by
 rw [Bool.eq_iff_iff]
 simp
theorem pw {i j:Str}:decide (V.str i = V.str j) = (i == j):=by
 rw [Bool.eq_iff_iff]
 simp
theorem px {i j:Array UInt8}:decide (V.byt i = V.byt j) = (i.toList == j.toList):=by
 rw [Bool.eq_iff_iff]
 cases i
 cases j
 simp
section
variable {X:Cx} {a b c:Expr} {ta tb tc:TE} {pos:Pos}
theorem bG {pins:List (Addr × Obj)} {σ:St} {H:Hp} {s:Shared} {Q:VK} {k k':Bool} (I:Inv X pins σ H s) (q:Q (.bl k) H) (e:k = k'):EP X pins σ Q (.bool k') s:=by
 subst e
 exact ⟨.bl k,H,I,rfl,q⟩
theorem cT:cY X (compareOp .Eq) zy:=by
 unfold cY at *
 exact by
  intro pins s σ H x y v u Q I rx ry h
  obtain ⟨hs,q⟩:=h
  cases x with
  | bA =>
   cases rx
   cases y with
   | bA=>cases ry; exact PySem.EqNone.eq_none_none (bG I q (by simp))
   | bl j=>cases ry; exact PySem.EqNone.eq_none_bool (bG I q (by simp))
   | int j=>obtain ⟨t',rfl⟩:=ry; exact PySem.EqNone.eq_none_int (bG I q (by simp))
   | str j=>obtain ⟨t',rfl⟩:=ry; exact PySem.EqNone.eq_none_str (bG I q (by simp))
   | _=>exact absurd (show false = true from hs) Bool.false_ne_true
  | bl i =>
   cases rx
   cases y with
   | bA=>cases ry; exact PySem.EqNone.eq_bool_none (bG I q (by simp))
   | bl j=>cases ry; exact eq_bool (bG I q tE)
   | str j=>obtain ⟨t',rfl⟩:=ry; exact PySem.EqMixed.eq_bool_str (bG I q (by simp))
   | _=>exact absurd (show false = true from hs) Bool.false_ne_true
  | int i =>
   obtain ⟨t,rfl⟩:=rx
   cases y with
   | bA=>cases ry; exact PySem.EqNone.eq_int_none (bG I q (by simp))
   | int j=>obtain ⟨t',rfl⟩:=ry; exact eq_int (bG I q pY)
   | str j=>obtain ⟨t',rfl⟩:=ry; exact PySem.EqMixed.eq_int_str (bG I q (by simp))
   | _=>exact absurd (show false = true from hs) Bool.false_ne_true
  | str i =>
   obtain ⟨t,rfl⟩:=rx
   cases y with
   | bA=>cases ry; exact PySem.EqNone.eq_str_none (bG I q (by simp))
   | bl j=>cases ry; exact PySem.EqMixed.eq_str_bool (bG I q (by simp))
   | int j=>obtain ⟨t',rfl⟩:=ry; exact PySem.EqMixed.eq_str_int (bG I q (by simp))
   | str j=>obtain ⟨t',rfl⟩:=ry; exact eq_str (bG I q pw)
   | _=>exact absurd (show false = true from hs) Bool.false_ne_true
  | byt i =>
   obtain ⟨t,rfl⟩:=rx
   cases y with
   | byt j=>obtain ⟨t',rfl⟩:=ry; exact PySem.W.eq_bytes (bG I q px)
   | _=>exact absurd (show false = true from hs) Bool.false_ne_true
  | _=>cases y <;> exact absurd (show false = true from hs) Bool.false_ne_true
theorem kR:cY X (compareOp .NotEq) AA:=by
 unfold cY at *
 exact by
  intro pins s σ H x y v u Q I rx ry h
  obtain ⟨hs,q⟩:=h
  cases x with
  | bA =>
   cases rx
   cases y with
   | bA=>cases ry; exact PySem.EqNone.ne_none_none (bG I q (by simp))
   | bl j=>cases ry; exact PySem.EqNone.ne_none_bool (bG I q (by simp))
   | int j=>obtain ⟨t',rfl⟩:=ry; exact PySem.EqNone.ne_none_int (bG I q (by simp))
   | str j=>obtain ⟨t',rfl⟩:=ry; exact PySem.EqNone.ne_none_str (bG I q (by simp))
   | _=>exact absurd (show false = true from hs) Bool.false_ne_true
  | bl i =>
   cases rx
   cases y with
   | bA=>cases ry; exact PySem.EqNone.ne_bool_none (bG I q (by simp))
   | bl j=>cases ry; exact ne_bool (bG I q (congrArg not tE))
   | str j=>obtain ⟨t',rfl⟩:=ry; exact PySem.EqMixed.ne_bool_str (bG I q (by simp))
   | _=>exact absurd (show false = true from hs) Bool.false_ne_true
  | int i =>
   obtain ⟨t,rfl⟩:=rx
   cases y with
   | bA=>cases ry; exact PySem.EqNone.ne_int_none (bG I q (by simp))
   | int j=>obtain ⟨t',rfl⟩:=ry; exact ne_int (bG I q (congrArg not pY))
   | str j=>obtain ⟨t',rfl⟩:=ry; exact PySem.EqMixed.ne_int_str (bG I q (by simp))
   | _=>exact absurd (show false = true from hs) Bool.false_ne_true
  | str i =>
   obtain ⟨t,rfl⟩:=rx
   cases y with
   | bA=>cases ry; exact PySem.EqNone.ne_str_none (bG I q (by simp))
   | bl j=>cases ry; exact PySem.EqMixed.ne_str_bool (bG I q (by simp))
   | int j=>obtain ⟨t',rfl⟩:=ry; exact PySem.EqMixed.ne_str_int (bG I q (by simp))
   | str j=>obtain ⟨t',rfl⟩:=ry; exact ne_str (bG I q (congrArg not pw))
   | _=>exact absurd (show false = true from hs) Bool.false_ne_true
  | byt i =>
   obtain ⟨t,rfl⟩:=rx
   cases y with
   | byt j=>obtain ⟨t',rfl⟩:=ry; exact PySem.W.ne_bytes (bG I q (congrArg not px))
   | _=>exact absurd (show false = true from hs) Bool.false_ne_true
  | _=>cases y <;> exact absurd (show false = true from hs) Bool.false_ne_true
theorem rK:cY X (compareOp .Lt) (w9 fun i j=>.bl (decide (i < j))):=by
 first
 | exact (qi fun _ _ _ _ _ _ _ q=>lt_int q)
 | (unfold cY at *; exact (qi fun _ _ _ _ _ _ _ q=>lt_int q))
theorem kU:cY X (compareOp .LtE) (w9 fun i j=>.bl (decide (i ≤ j))):=by
 first
 | exact (qi fun _ _ _ _ _ _ _ q=>le_int q)
 | (unfold cY at *; exact (qi fun _ _ _ _ _ _ _ q=>le_int q))
theorem iT:cY X (compareOp .Gt) (w9 fun i j=>.bl (decide (j < i))):=by
 first
 | exact (qi fun _ _ _ _ _ _ _ q=>gt_int q)
 | (unfold cY at *; exact (qi fun _ _ _ _ _ _ _ q=>gt_int q))
theorem cY.or {f:Value → Value → Sem Value} {r r':R2} (h:cY X f r) (h':cY X f r'):cY X f (fun x y H Q=>r x y H Q ∨ r' x y H Q):=by
 unfold cY at *
 exact by
  intro pins s σ H x y v u Q I rx ry q
  rcases q with q | q
  ·exact h pins s σ H x y v u Q I rx ry q
  ·exact h' pins s σ H x y v u Q I rx ry q
theorem aW (b:Expr) {op:CmpOp} (h:op ≠ .In:=by decide) (h2:op ≠ .NotIn:=by decide):behindInMarks op b = false:=by
 have e1:(op == CmpOp.In) = false:=by cases op <;> first | rfl | exact absurd rfl h
 have e2:(op == CmpOp.NotIn) = false:=by cases op <;> first | rfl | exact absurd rfl h2
 cases b <;> simp [behindInMarks,e1,e2]
theorem cK {op:CmpOp} {r:R2} (ho:cY X (compareOp op) r) (ha:PE X a ta) (hb:PE X b tb) (hm:behindInMarks op b = false):PE X (.Compare a [op] [b] pos) (yj r ta tb):=by
 unfold PE; unfold cY at ho
 exact by
  intro pins s σ H Q I h
  exact wpAny_Compare1 (wu ha hb I h fun v u s2 x y H2 I2 rx ry q=>ho pins s2 σ H2 x y v u Q I2 rx ry q) hm
def vY (t:TE):TT:=fun σ H Q=>t σ H fun x H'=>∃ k,x = .bl k ∧ Q k H'
theorem aV {op:CmpOp} {r:R2} (ho:cY X (compareOp op) r) (ha:PE X a ta) (hb:PE X b tb) (hm:behindInMarks op b = false):PT X (.Compare a [op] [b] pos) (vY (yj r ta tb)):=by
 unfold PE at *; unfold PT at *; unfold cY at *
 exact by
  intro pins s σ H Q I h
  refine wpAny_isTrue_Compare1 (bX (ha pins s σ H _ I h) fun v s1 ⟨x,H1,I1,r1,q1⟩=>bX (hb pins s1 σ H1 _ I1 q1) fun u s2 ⟨y,H2,I2,r2,q2⟩ =>
   bX (ho pins s2 σ H2 x y v u _ I2 r1 r2 q2) fun c s3 ⟨z,H3,I3,r3,k,e,q3⟩=>?_) hm
  subst e
  cases r3
  exact wpAny_truthy_bool ⟨H3,I3,q3⟩
def sY (r r':R2) (ta tb tc:TE):TE:=fun σ H Q=>ta σ H fun x H1=>tb σ H1 fun y H2=>r x y H2 fun z H3=>∃ k,z = .bl k ∧
 (if k = true then tc σ H3 fun w' H4=>r' y w' H4 Q else Q (.bl false) H3)
theorem kg {op op':CmpOp} {r r':R2} (ho:cY X (compareOp op) r) (ho':cY X (compareOp op') r') (ha:PE X a ta) (hb:PE X b tb) (hc:PE X c tc)
  (hm:lastMarks [op,op'] [b,c] = false:=by with_unfolding_all rfl):PE X (.Compare a [op,op'] [b,c] pos) (sY r r' ta tb tc):=by
 unfold PE at *; unfold cY at *
 exact by
  intro pins s σ H Q I h
  refine Compare_chain (bX (ha pins s σ H _ I h) fun v s1 ⟨x,H1,I1,r1,q1⟩=>chain_link (bX (hb pins s1 σ H1 _ I1 q1) fun u s2 ⟨y,H2,I2,r2,q2⟩ =>
   bX (ho pins s2 σ H2 x y v u _ I2 r1 r2 q2) fun d s3 ⟨z,H3,I3,r3,k,e,q3⟩=>?_)) hm
  subst e
  cases r3
  refine wpAny_truthy_bool ?_
  cases k with
  | false=>exact ite_ff ⟨.bl false,H3,I3,rfl,q3⟩
  | true=>exact ite_tt (chain_last (bX (hc pins s3 σ H3 _ I3 q3) fun w' s4 ⟨z',H4,I4,r4,q4⟩=>ho' pins s4 σ H4 y z' u w' Q I4 r2 r4 q4))
theorem uF {op op':CmpOp} {r r':R2} (ho:cY X (compareOp op) r) (ho':cY X (compareOp op') r') (ha:PE X a ta) (hb:PE X b tb) (hc:PE X c tc)
  (hm:lastMarks [op,op'] [b,c] = false:=by with_unfolding_all rfl):PT X (.Compare a [op,op'] [b,c] pos) (vY (sY r r' ta tb tc)):=by
 unfold PE at *; unfold PT at *; unfold cY at *
 exact by
  intro pins s σ H Q I h
  refine isTrue_chain (bX (ha pins s σ H _ I h) fun v s1 ⟨x,H1,I1,r1,q1⟩=>test_link (bX (hb pins s1 σ H1 _ I1 q1) fun u s2 ⟨y,H2,I2,r2,q2⟩ =>
   bX (ho pins s2 σ H2 x y v u _ I2 r1 r2 q2) fun d s3 ⟨z,H3,I3,r3,k,e,q3⟩=>?_)) hm
  subst e
  cases r3
  refine wpAny_truthy_bool ?_
  cases k with
  | false =>
   obtain ⟨k',e',q'⟩:=q3
   cases e'
   exact ite_ff ⟨H3,I3,q'⟩
  | true =>
   refine ite_tt (test_last (bX (hc pins s3 σ H3 _ I3 q3) fun w' s4 ⟨z',H4,I4,r4,q4⟩=>bX (ho' pins s4 σ H4 y z' u w' _ I4 r2 r4 q4) fun d' s5 ⟨z2,H5,I5,r5,k2,e2,q5⟩=>?_))
   subst e2
   cases r5
   exact wpAny_truthy_bool ⟨H5,I5,q5⟩
def yM (K:PySem.W.Frag) (x:V) (H:Hp) (k:Bool):Prop :=
 match x with
 | .bA=>k = false
 | .bl b=>k = b
 | .int i=>k = (i != 0)
 | .str y=>y.length ≤ sizeLine ∧ k = ((y.length:Int) != 0)
 | .byt y=>y.size ≤ sizeLine ∧ k = ((y.size:Int) != 0)
 | .ref p=>(∃ xs,ao K H p xs ∧ k = !xs.isEmpty) ∨ (∃ xs,bz K H p xs ∧ k = !xs.isEmpty) ∨ ∃ kvs,H p = some (.dK kvs) ∧ k = !kvs.isEmpty
 | _=>False
theorem pL {κ:Type} {kvs:List (κ × V)} {vs:List (κ × Value)} (r:KV kvs vs):(!vs.isEmpty) = !kvs.isEmpty:=by
 cases r <;> rfl
theorem kA {xs:List V} {ai:List Value} (r:Vals xs ai):(!ai.toArray.isEmpty) = !xs.isEmpty:=by
 cases r <;> simp
theorem jH:(sizeLine:Nat) < 2 ^ 63:=by rw [sizeLine_eq]; decide
theorem md:xD X (fun x H Q=>∃ k,yM X.K x H k ∧ Q k H):=by
 unfold xD at *
 exact by
  intro pins s σ H x v Q I rx h
  obtain ⟨k,e,q⟩:=h
  have hl:=jH
  have hs:sizeLine = 16777216:=sizeLine_eq
  cases x with
  | bA =>
   cases rx
   have e':k = false:=e
   subst e'
   exact truthy_none ⟨H,I,q⟩
  | bl b =>
   cases rx
   have e':k = b:=e
   subst e'
   exact wpAny_truthy_bool ⟨H,I,q⟩
  | int i =>
   obtain ⟨t,rfl⟩:=rx
   have e':k = (i != 0):=e
   subst e'
   exact PySem.P.truthy_int ⟨H,I,q⟩
  | str y =>
   obtain ⟨t,rfl⟩:=rx
   obtain ⟨hy,e'⟩:y.length ≤ sizeLine ∧ k = ((y.length:Int) != 0):=e
   subst e'
   exact PySem.P.truthy_str (by omega) ⟨H,I.tok _,q⟩
  | byt y =>
   obtain ⟨t,rfl⟩:=rx
   obtain ⟨hy,e'⟩:y.size ≤ sizeLine ∧ k = ((y.size:Int) != 0):=e
   subst e'
   exact PySem.W.truthy_bytes (by omega) ⟨H,I.tok _,q⟩
  | ref p =>
   cases rx
   have e':(∃ xs,ao X.K H p xs ∧ k = !xs.isEmpty) ∨ (∃ xs,bz X.K H p xs ∧ k = !xs.isEmpty) ∨ ∃ kvs,H p = some (.dK kvs) ∧ k = !kvs.isEmpty:=e
   rcases e' with ⟨xs,hx,e'⟩ | ⟨xs,hx,e'⟩ | ⟨kvs,hx,e'⟩
   ·subst e'
    obtain ⟨ai,r,pl,hz⟩:=I.list hx
    have hlen:=r.length
    exact wpAny_truthy_list pl.isList (by simp only [List.size_toArray]; omega) ⟨H,I.tok _,by rw [kA r]; exact q⟩
   ·subst e'
    obtain ⟨ai,r,pl,hz⟩:=I.tuple hx
    have hlen:=r.length
    exact truthy_tuple pl (by simp only [List.size_toArray]; omega) ⟨H,I.tok _,by rw [kA r]; exact q⟩
   ·subst e'
    obtain ⟨hz,hS,vs,r,m⟩:kvs.length ≤ sizeLine ∧ (p == sysModules) = false ∧ ∃ vs,KV kvs vs ∧ s.heap.DictOf (aU X.prog X.w) p vs:=I.hok p _ hx
    have hlen:kvs.length = vs.length:=Paired.length r
    exact wpAny_truthy_dict hS m (by omega) ⟨H,I.tok _,by rw [pL r]; exact q⟩
  | _=>exact (show False from e).elim
theorem nI (ha:PE X a ta) (he:∀ whole,isTrue a X.env whole = (do let v ← whole; standAt a.pos; holding [v] (truthy v))) :
  PT X a (fun σ H Q=>ta σ H fun x H'=>∃ k,yM X.K x H' k ∧ Q k H'):=by
 unfold PE at *; unfold PT at *; have md:=md (X:=X); unfold xD at md
 exact by
  intro pins s σ H Q I h
  exact isTrue_plain (bX (ha pins s σ H _ I h) fun v s1 ⟨x,H1,I1,r1,q1⟩=>md pins s1 σ H1 x v Q I1 r1 q1) (he _)
theorem om:cY X (binaryOp .Add) (fun x y H Q=>∃ i j,x = .str i ∧ y = .str j ∧ i.length + j.length ≤ sizeLine ∧ Q (.str (i ++ j)) H):=by
 unfold cY at *
 exact by
  intro pins s σ H x y v u Q I rx ry h
  obtain ⟨i,j,rfl,rfl,hz,q⟩:=h
  obtain ⟨t,rfl⟩:=rx
  obtain ⟨t',rfl⟩:=ry
  exact add_str (fun t' tk=>⟨.str (i ++ j),H,I.tok _,⟨_,rfl⟩,q⟩) hz
theorem vals1 {x:V} {us:List Value} (r:Vals [x] us):∃ u,us = [u] ∧ RelV x u:=by
 cases r with
 | cons r1 r2=>cases r2; exact ⟨_,rfl,r1⟩
theorem vals2 {x y:V} {us:List Value} (r:Vals [x,y] us):∃ u w',us = [u,w'] ∧ RelV x u ∧ RelV y w':=by
 cases r with
 | cons r1 r2 =>
  cases r2 with
  | cons r3 r4=>cases r4; exact ⟨_,_,rfl,r1,r3⟩
theorem qJ (hc:X.calm = true):bW X (.builtin "max") (fun xs H Q=>∃ i j,xs = [.int i,.int j] ∧ Q (.int (if j > i then j else i)) H):=by
 unfold bW at *
 exact by
  intro pins s σ H xs us Q I r h
  obtain ⟨i,j,rfl,q⟩:=h
  obtain ⟨u,w',rfl,⟨t,rfl⟩,⟨t',rfl⟩⟩:=vals2 r
  refine max_two_ints (I.ok.hd hc) fun h' tk k=>⟨_,H,I.kept k,?_,q⟩
  by_cases hj:j > i
  ·rw [if_pos hj,if_pos hj]; exact ⟨_,rfl⟩
  ·rw [if_neg hj,if_neg hj]; exact ⟨_,rfl⟩
theorem iz:bW X (.type "int") (fun xs H Q=>(∃ i,xs = [.int i] ∧ Q (.int i) H) ∨ ∃ k,xs = [.bl k] ∧ Q (.int (if k then 1 else 0)) H):=by
 unfold bW at *
 exact by
  intro pins s σ H xs us Q I r h
  rcases h with ⟨i,rfl,q⟩ | ⟨k,rfl,q⟩
  ·obtain ⟨u,rfl,t,rfl⟩:=vals1 r
   exact call_int_int ⟨.int i,H,I,⟨_,rfl⟩,q⟩
  ·obtain ⟨u,rfl,r1⟩:=vals1 r
   cases r1
   exact call_int_bool ⟨.int (if k then 1 else 0),H,I.tok _,⟨_,rfl⟩,q⟩
end
end L2
namespace L2
open PySem PySem.Spec PyProof.Rows
structure pM (h:Heap) (x dx C:Addr) (mA:Str → Option Value):Prop where
 obj:h.get? x = some (PySem.W.instObj C dx)
 ns:h.Ns1 dx mA
 ne:dx ≠ x
theorem mG {h:Heap} {dx:Addr} {mA:Str → Option Value} (n:h.Ns1 dx mA):∃ od,h.get? dx = some od ∧ ∀ name,PySem.W.lookIn name od = some (mA name):=by
 obtain ⟨o,es,ep,ho,hd,hk,_,hm⟩:=n
 refine ⟨o,ho,fun name=>?_⟩
 have e:=hm name
 unfold nsFind findBy at e
 rw [← Array.find?_toList] at e
 unfold PySem.W.lookIn
 rw [hd]
 dsimp only
 split
 ·rename_i y q
  rw [q] at e
  exact congrArg some e
 ·rename_i q
  rw [q] at e
  have a:es.toList.any (·.refKey) = false:=by
   rw [List.any_eq_false]
   intro y hy
   obtain ⟨z,t,hkey⟩:=hk y (Array.mem_toList_iff.mp hy)
   simp [DictEntry.refKey,hkey]
  have a':¬ es.toList.any (·.refKey) = true:=by rw [a]; exact Bool.false_ne_true
  rw [if_neg a']
  exact congrArg some e
theorem pM.look {h:Heap} {x dx C:Addr} {mA:Str → Option Value} (I:pM h x dx C mA):∃ od,PySem.W.InstAt h x (PySem.W.instObj C dx) C (some od) ∧ ∀ name,PySem.W.lookIn name od = some (mA name) :=
 let ⟨od,ho,hl⟩:=mG I.ns
 ⟨od,⟨I.obj,rfl,rfl,ho⟩,hl⟩
section
variable {prog:Program} {w:World} {A:Around} {E:Value → Shared → Prop} {s:Shared} {K:PySem.W.Frag} {x dx C f:Addr} {mA:Str → Option Value} {name:Str} {v:Value}
theorem get_map {expr:Bool} {Q:Value → Shared → Prop} (X:K.In s.heap) (I:pM s.heap x dx C mA) (hg:PySem.W.plainGet K C name = true) (hh:PySem.W.hasDictIn K C = true)
  (ha:PySem.W.findIn K (.ref C) name = some none) (hv:mA name = some v) (hv':PySem.W.handedIn v = true) (h:Q v { s with toks:=s.toks + 1 }) :
  wpAny (model prog w) A (getAttr (.ref x) name expr) Q E s:=by
 obtain ⟨od,J,hl⟩:=I.look
 exact PySem.W.get_value X J (PySem.W.plainGet_of hg).1 (PySem.W.findObj_own hh ha rfl (by rw [hl,hv])) hv' h
theorem rE {pl:Sem Bool} {Q:Value × List Value → Shared → Prop} (X:K.In s.heap) (I:pM s.heap x dx C mA) (hg:PySem.W.plainGet K C name = true)
  (hf:PySem.W.findIn K (.ref C) name = some (some (.ref f))) (ht:PySem.W.isFn K (.ref f) = true) (hv:mA name = none) (h:Q (.ref f,[.ref x]) s) :
  wpAny (model prog w) A (getMethod (.ref x) name pl) Q E s:=by
 obtain ⟨od,J,hl⟩:=I.look
 exact PySem.W.method_fn X J (PySem.W.plainGet_of hg).1 (PySem.W.plainGet_of hg).2 hf (beq_iff_eq.mp ht) (by show (PySem.W.lookIn name od).map (·.isSome) = some false; rw [hl,hv]; rfl) h
theorem vT {ns:List Str} {Q:Unit → Shared → Prop} (X:K.In s.heap) (I:pM s.heap x dx C mA)
  (hs:PySem.W.findIn K (.ref C) "__setattr__" = some (some (.builtin "object.__setattr__"))) (hp:PySem.W.plainOver K C = true) (ht:PySem.W.takerIn K C name = some none) (hh:PySem.W.hasDictIn K C = true)
  (hw:PySem.Within mA ns) (hsz:ns.length ≤ sizeLine)
  (h:∀ h',pM h' x dx C (fun y=>if y = name then some v else mA y) → Heap.SameBut dx s.heap h' → Q () { s with heap:=h',toks:=s.toks + 2 }) :
  wpAny (model prog w) A (setAttr (.ref x) name v) Q E s:=by
 obtain ⟨od,J,hl⟩:=I.look
 refine PySem.W.set_plain X J hs (PySem.W.osa_open (s:={ s with toks:=s.toks + 1 }) (r:=none) X J hp ht fun b=>?_)
 obtain ⟨cd,hc,hd'⟩:=PySem.W.any_some hh
 have hx:s.heap.get? x = some ⟨.ref C,some dx,.plain,#[]⟩:=I.obj
 refine wpAny_bind (wpAny_pure (wpAny_bind (wpAny_bind (wpAny_loadPart hx (wpAny_bind (PySem.W.Looks.here (s:={ s with toks:=s.toks + 1 }) (PySem.W.looks_clsIn X hc) ?_))))))
 rw [hd']
 refine wpAny_pure (a:=some dx) (wpAny_bind (wpAny_pure (wpAny_bind ?_)))
 refine wpAny_nsSet1 (s:={ s with toks:=s.toks + 1 }) I.ns fun h' hn2 hs2=>?_
 obtain ⟨oD,esD,epD,hoD,hdD,hcD⟩:=hn2.count (PySem.Within.cons name v hw)
 refine wpAny_bind (wpAny_lookBehind hoD (by rw [hdD]; exact pastItsLine_dict (Nat.le_trans hcD (by rw [List.length_cons]; omega))) ?_)
 exact wpAny_pure (h _ ⟨(hs2.2 _ (Ne.symm I.ne)).trans I.obj,hn2,I.ne⟩ hs2)
theorem nV {R:Result → Shared → Prop} {vs:List Value} {kw:List (Str × Value)} (X:K.In s.heap) (hm:PySem.W.makesIn K C = true)
  (hi:PySem.W.findIn K (.ref C) "__init__" = some (some (.ref f))) (hf:PySem.W.typeIn K (.ref f) = some (.type "function"))
  (h:codeAny (model prog w) (A.under (.builtin "type.__call__" ⟨.ref C :: vs,kw⟩)) (.call (.ref f) ⟨.ref (s.heap.objs.size + 1) :: vs,kw⟩) (PySem.W.InitBack (s.heap.objs.size + 1) R)
   { s with heap:=(s.heap.push PySem.W.emptyDict).push (PySem.W.instObj C s.heap.objs.size) }) :
  codeAny (model prog w) A (.call (.ref C) ⟨vs,kw⟩) R s:=by
 obtain ⟨hh,g,d,t,os⟩:=s
 exact PySem.W.make_core (PySem.W.makes_of X hm) (PySem.W.looks_findIn X hi) (fun self=>PySem.W.bind_fn X self hf) (.inl rfl) h
end
def gS (f:Str) (v:V):List (Str × V) → List (Str × V)
 | []=>[(f,v)]
 | (g,x) :: r=>if g = f then (g,v) :: r else (g,x) :: gS f v r
theorem j1 (f g:Str) (v:V):∀ fs:List (Str × V),(gS f v fs).lookup g = if g = f then some v else fs.lookup g
 | []=>by
  show List.lookup g [(f,v)] = _
  by_cases h:g = f
  ·have hb:(g == f) = true:=beq_iff_eq.mpr h
   simp only [List.lookup,hb,if_pos h]
  ·have hb:(g == f) = false:=beq_eq_false_iff_ne.mpr h
   simp only [List.lookup,hb,if_neg h]
 | (k,x) :: r=>by
  have ih:=j1 f g v r
  rw [show gS f v ((k,x) :: r) = (if k = f then (k,v) :: r else (k,x) :: gS f v r) from rfl]
  by_cases hk:k = f
  ·rw [if_pos hk]
   by_cases h:g = k
   ·have hb:(g == k) = true:=beq_iff_eq.mpr h
    simp only [List.lookup,hb,if_pos (h.trans hk)]
   ·have hb:(g == k) = false:=beq_eq_false_iff_ne.mpr h
    simp only [List.lookup,hb,if_neg (fun e:g = f=>h (e.trans hk.symm))]
  ·rw [if_neg hk]
   by_cases h:g = k
   ·have hb:(g == k) = true:=beq_iff_eq.mpr h
    simp only [List.lookup,hb,if_neg (fun e:g = f=>hk (h.symm.trans e))]
   ·have hb:(g == k) = false:=beq_eq_false_iff_ne.mpr h
    simp only [List.lookup,hb]
    exact ih
theorem jQ (f:Str) (v:V):∀ fs:List (Str × V),f ∈ (gS f v fs).map (·.1) ∧ ∀ g,g ∈ fs.map (·.1) → g ∈ (gS f v fs).map (·.1)
 | []=>⟨by simp [gS],fun g h=>by simp at h⟩
 | (k,x) :: r=>by
  obtain ⟨i1,i2⟩:=jQ f v r
  rw [show gS f v ((k,x) :: r) = (if k = f then (k,v) :: r else (k,x) :: gS f v r) from rfl]
  by_cases hk:k = f
  ·rw [if_pos hk]
   subst hk
   exact ⟨by simp,fun g h=>by simpa using h⟩
  ·rw [if_neg hk]
   refine ⟨?_,fun g h=>?_⟩
   ·rw [List.map_cons]
    exact List.mem_cons_of_mem _ i1
   ·rw [List.map_cons] at h ⊢
    rcases List.mem_cons.mp h with e | e
    ·exact List.mem_cons.mpr (.inl e)
    ·exact List.mem_cons_of_mem _ (i2 g e)
theorem j8 (f:Str) (v:V):∀ fs:List (Str × V),(gS f v fs).length ≤ fs.length + 1
 | []=>by simp [gS]
 | (k,x) :: r=>by
  have ih:=j8 f v r
  rw [show gS f v ((k,x) :: r) = (if k = f then (k,v) :: r else (k,x) :: gS f v r) from rfl]
  by_cases hk:k = f
  ·rw [if_pos hk,List.length_cons,List.length_cons]; omega
  ·rw [if_neg hk,List.length_cons,List.length_cons]; omega
theorem eP.some_of {v:V} {o:Option Value} (r:eP (some v) o):∃ u,o = some u ∧ RelV v u:=by
 cases o with
 | none=>exact (show False from r).elim
 | some u=>exact ⟨u,rfl,r⟩
theorem eP.none_of {o:Option Value} (r:eP none o):o = none:=by
 cases o with
 | none=>rfl
 | some u=>exact (show False from r).elim
theorem ly {v:V} {u:Value} (r:RelV v u):PySem.W.handedIn u = true:=by
 cases v with
 | bA=>cases (show u = Value.none from r); rfl
 | bl b=>cases (show u = Value.bool b from r); rfl
 | int i=>obtain ⟨t,e⟩:=(show ∃ t,u = Value.int i t from r); cases e; rfl
 | str x=>obtain ⟨t,e⟩:=(show ∃ t,u = Value.str x t from r); cases e; rfl
 | byt b=>obtain ⟨t,e⟩:=(show ∃ t,u = Value.bytes b t from r); cases e; rfl
 | flt b=>obtain ⟨t,e⟩:=(show ∃ t,u = Value.float b t from r); cases e; rfl
 | ref a=>cases (show u = Value.ref a from r); rfl
 | ty n=>cases (show u = Value.type n from r); rfl
section
variable {P:Program} {w:World} {H H':Hp} {h h':Heap} {a C dx:Addr} {fs fs':List (Str × V)}
theorem ji (hok:eJ P w H h) (e:H a = some (.ins C dx fs)):∃ mA,pM h a dx C mA ∧ (∀ f,eP (fs.lookup f) (mA f)) ∧ PySem.Within mA (fs.map (·.1)) ∧ fs.length ≤ 1000 ∧ H dx = some (.own a):=by
 obtain ⟨d,z,ne,ob,mA,n,r,q⟩:=(show bL P w H h a (.ins C dx fs) from hok a _ e)
 exact ⟨mA,⟨ob,n,ne⟩,r,q,z,d⟩
end
structure qm (K:PySem.W.Frag) (C:Addr):Prop where
 pg:PySem.W.plainGet K C Str.empty = true
 hd:PySem.W.hasDictIn K C = true
 po:PySem.W.plainOver K C = true
 sa:PySem.W.findIn K (.ref C) "__setattr__" = some (some (.builtin "object.__setattr__"))
theorem qm.get {K:PySem.W.Frag} {C:Addr} (c:qm K C) (f:Str):PySem.W.plainGet K C f = true:=c.pg
def bp (K:PySem.W.Frag) (C:Addr) (f:Str):Prop:=PySem.W.findIn K (.ref C) f = some none
theorem bp.yG {K:PySem.W.Frag} {C:Addr} {f:Str} (n:bp K C f):PySem.W.takerIn K C f = some none:=by
 unfold PySem.W.takerIn
 rw [show PySem.W.findIn K (.ref C) f = some none from n]
 rfl
structure Meth (K:PySem.W.Frag) (C:Addr) (m:Str) (f:Addr):Prop where
 at_:PySem.W.findIn K (.ref C) m = some (some (.ref f))
 fn:PySem.W.isFn K (.ref f) = true
 kp:PySem.W.keepIn K (.ref f) = true
section
variable {X:Cx} {pins:List (Addr × Obj)} {σ:St} {H:Hp} {s:Shared} {a C dx:Addr} {fs:List (Str × V)} {f:Str} {v:V} {A:Around} {E:Value → Shared → Prop}
theorem o7 {b:Bool} {Q:Value → Shared → Prop} (I:Inv X pins σ H s) (e:H a = some (.ins C dx fs)) (c:qm X.K C) (n:bp X.K C f) (l:fs.lookup f = some v)
  (h:∀ u s',Inv X pins σ H s' → RelV v u → Q u s'):wpAny (model X.prog X.w) A (getAttr (.ref a) f b) Q E s:=by
 obtain ⟨mA,O,r,_,_,_⟩:=ji I.hok e
 obtain ⟨u,hu,ru⟩:=eP.some_of (v:=v) (o:=mA f) (by rw [← l]; exact r f)
 exact get_map I.du O (c.get f) c.hd n hu (ly ru) (h u _ (I.tok _) ru)
theorem pF {m:Str} {g:Addr} {pl:Sem Bool} {Q:Value × List Value → Shared → Prop} (I:Inv X pins σ H s) (e:H a = some (.ins C dx fs)) (c:qm X.K C) (k:Meth X.K C m g) (l:fs.lookup m = none)
  (h:Q (.ref g,[.ref a]) s):wpAny (model X.prog X.w) A (getMethod (.ref a) m pl) Q E s:=by
 obtain ⟨mA,O,r,_,_,_⟩:=ji I.hok e
 have hn:mA m = none:=eP.none_of (by rw [← l]; exact r m)
 exact rE I.du O (c.get m) k.at_ k.fn hn h
theorem pE {y:V} {u:Value} {Q:Unit → Shared → Prop} (I:Inv X pins σ H s) (e:H a = some (.ins C dx fs)) (c:qm X.K C) (n:bp X.K C f) (hl:fs.length < 1000) (ry:RelV y u)
  (h:∀ s',Inv X pins σ (upd H a (.ins C dx (gS f y fs))) s' → Q () s'):wpAny (model X.prog X.w) A (setAttr (.ref a) f u) Q E s:=by
 obtain ⟨mA,O,r,wi,_,ho⟩:=ji I.hok e
 have hz:(fs.map (·.1)).length ≤ sizeLine:=by rw [List.length_map,sizeLine_eq]; omega
 refine vT I.du O c.sa c.po n.yG c.hd wi hz fun h' O' sb=>h _ ?_
 have hd:∃ o,h'.get? dx = some o:=let ⟨o,_,_,e',_⟩:=O'.ns; ⟨o,e'⟩
 refine I.write (x:=a) (e:=dx) (by rw [e]; exact True.intro) (.inr ho) (fun b q hb z=>(sb.2 b hb).trans z) hd ?_
 refine ⟨by rw [aK O.ne]; exact ho,?_,O.ne,O'.obj,_,O'.ns,fun g=>?_,fun g hg=>?_⟩
 ·have:=j8 f y fs; omega
 ·show eP ((gS f y fs).lookup g) (if g = f then some u else mA g)
  rw [j1]
  by_cases q:g = f
  ·rw [if_pos q,if_pos q]; exact ry
  ·rw [if_neg q,if_neg q]; exact r g
 ·by_cases q:g = f
  ·rw [q]; exact (jQ f y fs).1
  ·refine (jQ f y fs).2 g (wi g fun z=>hg ?_)
   show (if g = f then some u else mA g) = none
   rw [if_neg q]; exact z
theorem Inv.made (I:Inv X pins σ H s):Inv X pins σ (upd (upd H s.heap.objs.size (.own (s.heap.objs.size + 1))) (s.heap.objs.size + 1) (.ins C s.heap.objs.size []))
  { s with heap:=(s.heap.push PySem.W.emptyDict).push (PySem.W.instObj C s.heap.objs.size) }:=by
 have e1:(s.heap.push PySem.W.emptyDict).get? s.heap.objs.size = some PySem.W.emptyDict:=Heap.get?_push_size s.heap rfl
 have e2:((s.heap.push PySem.W.emptyDict).push (PySem.W.instObj C s.heap.objs.size)).get? (s.heap.objs.size + 1) = some (PySem.W.instObj C s.heap.objs.size):=by
  have:=Heap.get?_push_size (s.heap.push PySem.W.emptyDict) (o:=PySem.W.instObj C s.heap.objs.size) rfl
  rwa [Heap.size_push] at this
 have e3:(s.heap.push PySem.W.emptyDict).Ns s.heap.objs.size (fun _=>none):=⟨PySem.W.emptyDict,#[],_,e1,rfl,(fun e he=>absurd he (by simp)),fun _=>rfl⟩
 have I1:=I.laid (a:=s.heap.objs.size) (o:=.own (s.heap.objs.size + 1)) (h':=s.heap.push PySem.W.emptyDict) (t':=s.toks) (fun b u q=>Heap.get?_push_of_some _ q) (Nat.le_refl _) ⟨_,e1⟩
 refine I1.laid (a:=s.heap.objs.size + 1) (o:=.ins C s.heap.objs.size []) (t':=s.toks) (fun b u q=>Heap.get?_push_of_some _ q) (Nat.le_of_eq (Heap.size_push _ _)) ?_
 have ne:s.heap.objs.size ≠ s.heap.objs.size + 1:=Nat.ne_of_lt (Nat.lt_succ_self _)
 refine ⟨by rw [aK ne,aB],Nat.zero_le _,ne,e2,fun _=>none,(Heap.Ns1.of_empty e3).at fun o q=>Heap.get?_push_of_some _ q,fun _=>True.intro,fun y hy=>absurd rfl hy⟩
theorem pk {prog:Program} {w:World} {env:Env} {e:Expr} {f:Str} {pos:Pos} {s:Shared} {Q:Value → Shared → Prop} (hb:attributeBase e f env (eval e env) = eval e env)
  (h:wpAny (model prog w) A (eval e env) (fun o s₁=>wpAny (model prog w) A (getAttr o f true) Q E s₁) E s):wpAny (model prog w) A (eval (.Attribute e f pos) env) Q E s :=
 Attribute_any_ h (by rw [arm_eval_Attribute,hb])
end
def zY (K:PySem.W.Frag) (ta:TE) (f:Str):TE:=fun σ H Q=>ta σ H fun x H1=>∃ a C dx fs v,x = .ref a ∧ H1 a = some (.ins C dx fs) ∧ qm K C ∧ bp K C f ∧ fs.lookup f = some v ∧ Q v H1
def yo (K:PySem.W.Frag) (ta tv:TE) (f:Str):TS:=fun D σ H=>tv σ H fun y H1=>ta σ H1 fun x H2=>∃ a C dx fs,x = .ref a ∧ H2 a = some (.ins C dx fs) ∧ qm K C ∧ bp K C f ∧ fs.length < 1000 ∧
 D.nx σ (upd H2 a (.ins C dx (gS f y fs)))
section
variable {X:Cx} {o e value:Expr} {f:Str} {pos pos' tpos:Pos} {ta tv:TE}
theorem aj (he:PE X e ta) (hb:attributeBase e f X.env (eval e X.env) = eval e X.env):PE X (.Attribute e f pos) (zY X.K ta f):=by
 unfold PE at *
 exact by
  intro pins s σ H Q I h
  refine pk hb (bX (he pins s σ H _ I h) fun u s1 ⟨x,H1,I1,rx,a,C,dx,fs,v,ex,ea,c,n,l,q⟩=>?_)
  subst ex
  obtain rfl:u = Value.ref a:=rx
  exact o7 I1 ea c n l fun u' s2 I2 ru=>⟨v,H1,I2,ru,q⟩
theorem cq (ha:PE X o ta) (hv:PE X value tv) (hs:swapsWith value (some (.Attribute o f pos')) pos.line X.env = pure false):PS X (.Assign [.Attribute o f pos'] value pos) (yo X.K ta tv f):=by
 unfold PE at *; unfold PS at *
 exact by
  intro pins s σ H D I h
  refine plainObj_wpAny_Assign_Attribute (bX (hv pins s σ H _ I h) fun u s1 ⟨y,H1,I1,ry,q⟩=>bX (ha pins s1 σ H1 _ I1 q) fun ov s2 ⟨x,H2,I2,rx,a,C,dx,fs,ex,ea,c,n,l,q2⟩=>?_) hs
  subst ex
  obtain rfl:ov = Value.ref a:=rx
  exact pE I2 ea c n l ry fun s3 I3=>⟨σ,_,I3,q2⟩
end
section
variable {X:Cx} {pins:List (Addr × Obj)} {σ:St} {H:Hp} {s:Shared} {A:Around} {E:Value → Shared → Prop} {Q:Value → Shared → Prop} {c:Value} {b:Bool}
inductive dQ (K:PySem.W.Frag) (H:Hp):V → Value → Prop where
 | bA:dQ K H .bA (.type "NoneType")
 | bl (x:Bool):dQ K H (.bl x) (.type "bool")
 | int (i:Int):dQ K H (.int i) (.type "int")
 | str (x:Str):dQ K H (.str x) (.type "str")
 | flt (x:UInt64):dQ K H (.flt x) (.type "float")
 | lst {a:Addr} {xs:List V} (e:H a = some (.lst xs)):dQ K H (.ref a) (.type "list")
 | frz {a:Addr} {o:Obj} {xs:List V} (e:H a = some (.frz o (.lst xs))):dQ K H (.ref a) (.type "list")
 | tup {a:Addr} {xs:List V} (e:H a = some (.tup xs)):dQ K H (.ref a) (.type "tuple")
 | dK {a:Addr} {kvs:List (Key × V)} (e:H a = some (.dK kvs)):dQ K H (.ref a) (.type "dict")
 | dT {a:Addr} {kvs:List (List Key × V)} (e:H a = some (.dT kvs)):dQ K H (.ref a) (.type "dict")
 | ins {a C dx:Addr} {fs:List (Str × V)} (e:H a = some (.ins C dx fs)) (cl:qm K C) (ha:PySem.W.findIn K (.ref C) "__class__" = some (some (.builtin "object.__class__")))
   (hn:PySem.W.specialIn K (.builtin "object.__class__") "__get__" = some (some (.builtin "getset_descriptor.__get__"))) (htk:PySem.W.takesIn K (.builtin "object.__class__") = some true)
   (hm:PySem.W.mroIn K C (.type "object") = some true):dQ K H (.ref a) (.ref C)
theorem q8 {x:V} {u t:Value} (I:Inv X pins σ H s) (rx:RelV x u) (ty:dQ X.K H x t) (e:PySem.W.kitOne X.K t c = some b) (h:∀ tk,Q (.bool b) { s with toks:=tk }) :
  wpAny (model X.prog X.w) A (call (.builtin "isinstance") [u,c]) Q E s:=by
 cases ty with
 | bA=>cases (show u = Value.none from rx); exact PySem.W.kia_one PySem.W.kitx_none I.du True.intro e (fun z=>nomatch z) h
 | bl y=>cases (show u = Value.bool y from rx); exact PySem.W.kia_one PySem.W.kitx_bool I.du True.intro e (fun z=>nomatch z) h
 | int i=>obtain ⟨t,q⟩:=(show ∃ t,u = Value.int i t from rx); cases q; exact PySem.W.kia_one PySem.W.kitx_int I.du True.intro e (fun z=>nomatch z) h
 | str y=>obtain ⟨t,q⟩:=(show ∃ t,u = Value.str y t from rx); cases q; exact PySem.W.kia_one PySem.W.kitx_str I.du True.intro e (fun z=>nomatch z) h
 | flt y=>obtain ⟨t,q⟩:=(show ∃ t,u = Value.float y t from rx); cases q; exact PySem.W.kia_one PySem.W.kitx_float I.du True.intro e (fun z=>nomatch z) h
 | @lst a xs ea =>
  cases (show u = Value.ref a from rx)
  obtain ⟨_,_,n,_,h1⟩:=(show bL X.prog X.w H s.heap a (.lst xs) from I.hok a _ ea)
  exact PySem.W.kia_one PySem.W.kitx_list I.du ⟨_,h1,rfl⟩ e (fun z=>nomatch z) h
 | @frz a ob xs ea =>
  cases (show u = Value.ref a from rx)
  obtain ⟨_,_,_,n,_,h1⟩:=(show bL X.prog X.w H s.heap a (.frz ob (.lst xs)) from I.hok a _ ea)
  exact PySem.W.kia_one PySem.W.kitx_list I.du ⟨_,h1,rfl⟩ e (fun z=>nomatch z) h
 | @tup a xs ea =>
  cases (show u = Value.ref a from rx)
  obtain ⟨_,_,_,p⟩:=(show bL X.prog X.w H s.heap a (.tup xs) from I.hok a _ ea)
  obtain ⟨o,h1,h2,_⟩:=p
  exact PySem.W.kia_one PySem.W.kitx_tuple I.du ⟨o,h1,h2⟩ e (fun z=>nomatch z) h
 | @dK a kvs ea =>
  cases (show u = Value.ref a from rx)
  obtain ⟨_,_,vs,_,p⟩:=(show bL X.prog X.w H s.heap a (.dK kvs) from I.hok a _ ea)
  obtain ⟨o,es,ep,h1,h2,_⟩:=p
  exact PySem.W.kia_one PySem.W.kitx_dict I.du ⟨o,h1,h2.1⟩ e (fun z=>nomatch z) h
 | @dT a kvs ea =>
  cases (show u = Value.ref a from rx)
  obtain ⟨_,_,xs,_,o,es,ep,h1,h2,_⟩:=(show bL X.prog X.w H s.heap a (.dT kvs) from I.hok a _ ea)
  exact PySem.W.kia_one PySem.W.kitx_dict I.du ⟨o,h1,h2.1⟩ e (fun z=>nomatch z) h
 | @ins a C dx fs ea cl ha hn htk hm =>
  cases (show u = Value.ref a from rx)
  obtain ⟨mA,O,_⟩:=ji I.hok ea
  obtain ⟨od,J,_⟩:=O.look
  exact PySem.W.kia_one (PySem.W.kitx_own (cl.get _) cl.hd ha hn htk hm) I.du J e (fun z=>nomatch z) h
end
end L2
namespace L2
open PySem PySem.Spec PyProof.Rows
structure cD (k:Nat) (A:Around):Prop where
 hd:A.handled = none
 dp:A.depth + 3 * k + 5 < recursionLimit
 un:A.units + 16 * k + 200 < cLine
theorem cD.mono {j k:Nat} {A:Around} (r:cD k A) (h:j ≤ k):cD j A:=⟨r.hd,by have:=r.dp; omega,by have:=r.un; omega⟩
theorem cD.deeper {k:Nat} {A:Around} (r:cD (k + 1) A) (env:Env):cD k (A.deeper env) :=
 ⟨r.hd,by have:=r.dp; show A.depth + 1 + 3 * k + 5 < _; omega,by have:=r.un; show A.units + 3 + 16 * k + 200 < _; omega⟩
theorem cD.in1 {k:Nat} {A:Around} (r:cD (k + 1) A):cD k A.in1 :=
 ⟨r.hd,by have:=r.dp; show A.depth + 3 * k + 5 < _; omega,by have:=r.un; show A.units + 1 + 16 * k + 200 < _; omega⟩
theorem oP {A:Around} {C:Addr} {us:List Value} {kw:List (Str × Value)}:(A.under (.builtin "type.__call__" ⟨.ref C :: us,kw⟩)).depth = A.depth + 1:=by
 first | rfl | simp [Around.under,Code.weight,Code.isCreation,Code.isGuard,Code.isCaller,Code.frames,Code.isFrame,guardIds]
theorem oy {A:Around} {C:Addr} {us:List Value} {kw:List (Str × Value)}:(A.under (.builtin "type.__call__" ⟨.ref C :: us,kw⟩)).units = A.units + 1:=by
 first | rfl | simp [Around.under,Code.cUnits,Code.frames,Code.isFrame]
theorem cD.make {k:Nat} {A:Around} (r:cD (k + 1) A) (C:Addr) (us:List Value) (kw:List (Str × Value)):cD k (A.under (.builtin "type.__call__" ⟨.ref C :: us,kw⟩)) :=
 ⟨r.hd,by have:=r.dp; rw [oP]; omega,by have:=r.un; rw [oy]; omega⟩
theorem cD.depth {k:Nat} {A:Around} (r:cD k A):A.depth < recursionLimit:=by have:=r.dp; omega
theorem cD.units {k:Nat} {A:Around} (r:cD k A):A.units + 64 < cLine:=by have:=r.un; omega
theorem cD.wO {k:Nat} {A:Around} (r:cD k A):A.units < cLine:=by have:=r.un; omega
def wI:TA:=fun _ H Q=>Q [] H
def y7 (ta:TE) (tr:TA):TA:=fun σ H Q=>ta σ H fun x H1=>tr σ H1 fun xs H2=>Q (x :: xs) H2
section
variable {X:Cx} {e:Expr} {es:List Expr} {te:TE} {t:TA} {pos:Pos}
theorem aC:PA X [] wI:=by
 first
 | exact (fun _ _ _ _ H Q I h=>Calls.spliced_nil ⟨[],H,I,.nil,h⟩)
 | (unfold PA at *; exact (fun _ _ _ _ H Q I h=>Calls.spliced_nil ⟨[],H,I,.nil,h⟩))
theorem aA (ha:PE X e te) (hr:PA X es t) (hs:starEach (e :: es) X.env = (false,eval e X.env) :: starEach es X.env:=by rfl):PA X (e :: es) (y7 te t):=by
 unfold PE at *; unfold PA at *
 exact by
  intro pos pins s σ H Q I h
  rw [hs]
  show wpAny _ _ (spliced ((false,eval e X.env) :: backTo pos (starEach es X.env))) _ _ s
  refine Calls.spliced_cons (bX (ha pins s σ H _ I h) fun u s1 ⟨x,H1,I1,r1,q1⟩=>?_)
  exact bX (hr pos pins s1 σ H1 _ I1 q1) fun us s2 ⟨xs,H2,I2,r2,q2⟩=>⟨x :: xs,H2,I2,.cons r1 r2,q2⟩
def yz (t:TA):TE:=fun σ H Q=>t σ H fun xs H1=>xs.length ≤ sizeLine ∧ ∀ p,H1 p = none → Q (.ref p) (upd H1 p (.tup xs))
def yp (t:TA):TE:=fun σ H Q=>t σ H fun xs H1=>xs.length ≤ sizeLine ∧ ∀ p,H1 p = none → Q (.ref p) (upd H1 p (.lst xs))
theorem cA {x1} (h:PA X es t):PE X (.Tuple es x1 pos) (yz t):=by
 unfold PE at *; unfold PA at *
 exact by
  intro pins s σ H Q I hq
  refine wpAny_Tuple_spliced (bX (h pos pins s σ H _ I hq) fun us s1 ⟨xs,H1,I1,r,z,q⟩=>⟨by rw [← r.length]; exact z,?_⟩)
  have hf:H1 s1.heap.objs.size = none:=I1.hok.fresh (Nat.le_refl _)
  refine ⟨.ref s1.heap.objs.size,upd H1 s1.heap.objs.size (.tup xs),I1.laid (t':=s1.toks) (fun b u e=>Heap.get?_push_of_some _ e) (Nat.le_refl _) ?_,rfl,q _ hf⟩
  exact ⟨z,us,r,⟨_,Heap.get?_push_size _ rfl,rfl,_,rfl⟩⟩
theorem bB (h:PA X es t):PE X (.List es pos) (yp t):=by
 unfold PE at *; unfold PA at *
 exact by
  intro pins s σ H Q I hq
  refine wpAny_List_spliced (bX (h pos pins s σ H _ I hq) fun us s1 ⟨xs,H1,I1,r,z,q⟩=>⟨by rw [← r.length]; exact z,?_⟩)
  have hf:H1 s1.heap.objs.size = none:=I1.hok.fresh (Nat.le_refl _)
  refine ⟨.ref s1.heap.objs.size,upd H1 s1.heap.objs.size (.lst xs),I1.laid (t':=s1.toks) (fun b u e=>Heap.get?_push_of_some _ e) (Nat.le_refl _) ?_,rfl,q _ hf⟩
  exact ⟨z,us,0,r,Heap.get?_push_size _ rfl⟩
end
abbrev Sp:=List V → Hp → VK → XK → Prop
abbrev lH:=List Env → Hp → Shared → XK → Value → Shared → Prop
structure lF (P:Program) (w:World) (K:PySem.W.Frag) (mg:Str → Option Value) (base:Heap) (A:Around) (outer:List Env) (s:Shared) (H:Hp):Prop where
 frames:A.frames = some outer
 mod:Mod K mg base
 bs:∀ b o,base.get? b = some o → s.heap.get? b = some o ∧ H b = none
 bsz:base.objs.size ≤ s.heap.objs.size
 iD:s.heap.FunFrames base outer
 frf:∀ b ∈ eZ outer,H b = none
 hok:eJ P w H s.heap
 bare:AllBare s.gens
def CE (outer:List Env) (P:Program) (w:World) (H:Hp) (s:Shared) (Q:VK) (u:Value) (s':Shared):Prop :=
 ∃ v H',s'.os = s.os ∧ AllBare s'.gens ∧ Un (eZ outer) [] H H' s.heap s'.heap ∧ eJ P w H' s'.heap ∧ RelV v u ∧ Q v H'
def CR (CX:lH) (outer:List Env) (P:Program) (w:World) (H:Hp) (s:Shared) (Q:VK) (E:XK) (r:Result) (s':Shared):Prop :=
 match r with
 | .ok (.ret u)=>CE outer P w H s Q u s'
 | .ok _=>False
 | .error e=>CX outer H s E e s'
structure bF (P:Program) (w:World) (K:PySem.W.Frag) (mg:Str → Option Value) (base:Heap) (CX:lH) (k:Nat) (f:Addr) (fd:FuncData) (ps:List Str) (sp:Sp):Prop where
 len:∀ vs H Q E,sp vs H Q E → vs.length = ps.length
 run:∀ (A:Around) (outer:List Env) (s:Shared) (H:Hp) (args:Args) (us:List Value) (vs:List V) (Q:VK) (E:XK),cD k A → lF P w K mg base A outer s H → BindsTo s fd args (ps.zip us) → Vals vs us → sp vs H Q E →
  codeAny (model P w) A (.call (.ref f) args) (CR CX outer P w H s Q E) s
theorem bF.mono {P:Program} {w:World} {K:PySem.W.Frag} {mg:Str → Option Value} {base:Heap} {CX:lH} {j k:Nat} {f:Addr} {fd:FuncData} {ps:List Str} {sp:Sp} (F:bF P w K mg base CX j f fd ps sp) (h:j ≤ k) :
  bF P w K mg base CX k f fd ps sp:=⟨F.len,fun A outer s H args us vs Q E hr=>F.run A outer s H args us vs Q E (hr.mono h)⟩
theorem bF.imp {P:Program} {w:World} {K:PySem.W.Frag} {mg:Str → Option Value} {base:Heap} {CX:lH} {k:Nat} {f:Addr} {fd:FuncData} {ps:List Str} {sp sp':Sp} (F:bF P w K mg base CX k f fd ps sp)
  (h:∀ vs H Q E,sp' vs H Q E → sp vs H Q E):bF P w K mg base CX k f fd ps sp' :=
 ⟨fun vs H Q E q=>F.len vs H Q E (h _ _ _ _ q),fun A outer s H args us vs Q E hr he hb hv hs=>F.run A outer s H args us vs Q E hr he hb hv (h _ _ _ _ hs)⟩
theorem lF.make {P:Program} {w:World} {K:PySem.W.Frag} {mg:Str → Option Value} {base:Heap} {A:Around} {outer:List Env} {s:Shared} {H:Hp} (e:lF P w K mg base A outer s H) (C:Addr) (us:List Value) (kw:List (Str × Value)) :
  lF P w K mg base (A.under (.builtin "type.__call__" ⟨.ref C :: us,kw⟩)) outer s H:=⟨by first | exact e.frames | (simpa [Around.under,Code.envs,Code.isFrame,pushEnvs] using e.frames),e.mod,e.bs,e.bsz,e.iD,e.frf,e.hok,e.bare⟩
theorem lF.in1 {P:Program} {w:World} {K:PySem.W.Frag} {mg:Str → Option Value} {base:Heap} {A:Around} {outer:List Env} {s:Shared} {H:Hp} (e:lF P w K mg base A outer s H) :
  lF P w K mg base A.in1 outer s H:=⟨e.frames,e.mod,e.bs,e.bsz,e.iD,e.frf,e.hok,e.bare⟩
section
variable {X:Cx} {pins:List (Addr × Obj)} {σ:St} {H:Hp} {s s':Shared}
theorem Inv.uD (I:Inv X pins σ H s):lF X.prog X.w X.K X.mg X.base X.A X.stack s H :=
 ⟨I.ok.frames,I.ok.mod,I.bs,Nat.le_trans I.ok.bsz I.sz,I.stack,I.eh,I.hok,I.bare⟩
theorem Inv.after {Q:VK} {u:Value} (I:Inv X pins σ H s) (h:CE X.stack X.prog X.w H s Q u s'):EP X pins σ Q u s':=by
 obtain ⟨v,H',os,bare,un,hok,r,q⟩:=h
 obtain ⟨hh,g,d,t,os'⟩:=s'
 obtain rfl:os' = s.os:=os
 exact ⟨v,H',I.call (h':=hh) (g':=g) (d':=d) (t':=t) (ch:=[]) un hok bare (fun b z=>absurd z (by simp)),r,q⟩
end
def yF (sp:Sp) (dvs:List V) (E:XK) (t:TA):TE:=fun σ H Q=>t σ H fun vs H1=>sp (vs ++ dvs) H1 Q E
def yI (C:Addr) (m:Str) (sp:Sp) (dvs:List V) (E:XK) (ta:TE) (t:TA):TE:=fun σ H Q=>ta σ H fun x H1=>∃ a dx fs,x = .ref a ∧ H1 a = some (.ins C dx fs) ∧ fs.lookup m = none ∧
 t σ H1 fun vs H2=>sp (x :: (vs ++ dvs)) H2 Q E
def yJ (C:Addr) (sp:Sp) (dvs:List V) (E:XK) (t:TA):TE:=fun σ H Q=>t σ H fun vs H1=>∀ x dx,H1 x = none → H1 dx = none → dx ≠ x →
 sp (.ref x :: (vs ++ dvs)) (upd (upd H1 dx (.own x)) x (.ins C dx [])) (fun v H2=>v = .bA ∧ Q (.ref x) H2) E
def Binds (K:PySem.W.Frag) (fd:FuncData) (ps:List Str) (ds:List Value):Prop :=
 ∀ (s:Shared) (us:List Value),K.In s.heap → (us ++ ds).length = ps.length → BindsTo s fd ⟨us,[]⟩ (ps.zip (us ++ ds))
theorem Binds.all {K:PySem.W.Frag} {fd:FuncData} {ps:List Str} (h:∀ us:List Value,us.length = ps.length → bindArgs fd ⟨us,[]⟩ = pure (ps.zip us)):Binds K fd ps []:=fun s us _ hl=>by
 rw [List.append_nil] at hl ⊢
 exact .of_eq (h us hl)
def Passes (CX:lH) (X:Cx) (E:XK):Prop:=∀ (pins:List (Addr × Obj)) (σ:St) (H:Hp) (s:Shared) (e:Value) (s':Shared),Inv X pins σ H s → CX X.stack H s E e s' → X.xe e s'
section
variable {X:Cx} {CX:lH} {k:Nat} {f C:Addr} {fd:FuncData} {ps:List Str} {sp:Sp} {dvs:List V} {ds:List Value} {E:XK} {x m:Str} {p pos apos:Pos} {e o:Expr} {es:List Expr} {ta:TE} {t:TA}
theorem rS {pins:List (Addr × Obj)} {σ:St} {H:Hp} {s:Shared} {Q:VK} {us:List Value} {vs:List V} (F:bF X.prog X.w X.K X.mg X.base CX k f fd ps sp) (hr:cD k X.A) (hb:Binds X.K fd ps ds) (hd:Vals dvs ds) (hx:Passes CX X E)
  (I:Inv X pins σ H s) (r:Vals vs us) (h:sp (vs ++ dvs) H Q E):wpAny (model X.prog X.w) X.A (call (.ref f) us) (EP X pins σ Q) X.xe s:=by
 have r2:Vals (vs ++ dvs) (us ++ ds):=r.append hd
 have hl:(us ++ ds).length = ps.length:=by rw [← r2.length]; exact F.len _ _ _ _ h
 refine wpAny_call (codeAny_mono (F.run X.A X.stack s H ⟨us,[]⟩ (us ++ ds) (vs ++ dvs) Q E hr I.uD (hb s us I.du hl) r2 h) fun r s' hq=>?_)
 cases r with
 | error e=>exact hx pins σ H s e s' I hq
 | ok fl =>
  cases fl with
  | ret u=>exact I.after hq
  | next=>exact False.elim hq
  | brk=>exact False.elim hq
  | cont=>exact False.elim hq
theorem aT (F:bF X.prog X.w X.K X.mg X.base CX k f fd ps sp) (hr:cD k X.A) (hg:Gl X x) (hm:X.mg x = some (.ref f)) (hk:PySem.W.keepIn X.K (.ref f) = true) (hb:Binds X.K fd ps ds) (hd:Vals dvs ds) (hx:Passes CX X E)
  (ha:PA X (e :: es) t) (hdb:(x == ("__debug__" : Str)) = false:=by decide) (he:starEach (e :: es) X.env = (false,eval e X.env) :: starEach es X.env:=by rfl) (hpl:(backTo pos (starEach es X.env)).any (·.1) = false:=by rfl) :
  PE X (.Call (.Name x p) (e :: es) [] pos) (yF sp dvs E t):=by
 unfold PE at *; unfold PA at *
 exact by
  intro pins s σ H Q I h
  refine wpAny_Call_Name_kw (de I hg hm ?_ hdb)
  refine PySem.W.callWith_K (h₀:=X.base) I.ok.mod.kin hk (bX (ha pos pins s σ H _ I h) fun us s1 ⟨vs,H1,I1,r,q⟩=>⟨I1.du,?_⟩) he hpl
  exact rS F hr hb hd hx I1 r q
theorem mX {pl:Sem Bool} (he:PE X o ta) (c:qm X.K C) (hm:Meth X.K C m f) (F:bF X.prog X.w X.K X.mg X.base CX k f fd ps sp) (hr:cD k X.A) (hb:Binds X.K fd ps ds) (hd:Vals dvs ds) (hx:Passes CX X E) (ha:PA X (e :: es) t)
  (hst:starEach (e :: es) X.env = (false,eval e X.env) :: starEach es X.env:=by rfl) (hpl:(backTo pos (starEach es X.env)).any (·.1) = false:=by rfl)
  (ht:eval (.Call (.Attribute o m apos) (e :: es) [] pos) X.env = (do
   let ov ← eval o X.env
   standAt apos.atName
   let (f,first) ← holding [ov] (getMethod ov m pl)
   callWith pos f first (backTo pos (starEach (e :: es) X.env)) (backToKw pos (keywordEach [] X.env))):=by rfl) :
  PE X (.Call (.Attribute o m apos) (e :: es) [] pos) (yI C m sp dvs E ta t):=by
 unfold PE at *; unfold PA at *
 exact by
  intro pins s σ H Q I h
  refine PySem.W.methodCall_KW (pl:=pl) (bX (he pins s σ H _ I h) fun u s1 ⟨x,H1,I1,rx,a,dx,fs,ex,ea,l,q⟩=>?_) ht
  subst ex
  obtain rfl:u = Value.ref a:=rx
  refine pF I1 ea c hm l ?_
  refine PySem.W.callWith_K (first:=[.ref a]) (h₀:=X.base) I.ok.mod.kin hm.kp (bX (ha pos pins s1 σ H1 _ I1 q) fun us s2 ⟨vs,H2,I2,r,q2⟩=>⟨I2.du,?_⟩) hst hpl
  exact rS (us:=.ref a :: us) (vs:=.ref a :: vs) F hr hb hd hx I2 (.cons rfl r) q2
structure Mk (K:PySem.W.Frag) (C f:Addr):Prop where
 makes:PySem.W.makesIn K C = true
 init:PySem.W.findIn K (.ref C) "__init__" = some (some (.ref f))
 fn:PySem.W.isFn K (.ref f) = true
 kp:PySem.W.keepIn K (.ref C) = true
theorem tI {pins:List (Addr × Obj)} {σ:St} {H:Hp} {s:Shared} {Q:VK} {us:List Value} {vs:List V} (M:Mk X.K C f) (F:bF X.prog X.w X.K X.mg X.base CX k f fd ps sp) (hr:cD (k + 1) X.A) (hb:Binds X.K fd ps ds) (hd:Vals dvs ds)
  (hx:Passes CX X E) (I:Inv X pins σ H s) (r:Vals vs us)
  (h:∀ x dx,H x = none → H dx = none → dx ≠ x → sp (.ref x :: (vs ++ dvs)) (upd (upd H dx (.own x)) x (.ins C dx [])) (fun v H2=>v = .bA ∧ Q (.ref x) H2) E) :
  wpAny (model X.prog X.w) X.A (call (.ref C) us) (EP X pins σ Q) X.xe s:=by
 have hq:=h (s.heap.objs.size + 1) s.heap.objs.size (I.hok.fresh (Nat.le_succ _)) (I.hok.fresh (Nat.le_refl _)) (Nat.ne_of_lt (Nat.lt_succ_self _))
 have I2:=Inv.made (C:=C) I
 have r2:Vals (V.ref (s.heap.objs.size + 1) :: (vs ++ dvs)) (Value.ref (s.heap.objs.size + 1) :: (us ++ ds)):=.cons rfl (r.append hd)
 have hl:(Value.ref (s.heap.objs.size + 1) :: us ++ ds).length = ps.length:=by
  have e:=r2.length
  rw [F.len _ _ _ _ hq] at e
  exact e.symm
 refine wpAny_call (nV (f:=f) I.du M.makes M.init (beq_iff_eq.mp M.fn) (codeAny_mono (F.run _ X.stack _ _ ⟨Value.ref (s.heap.objs.size + 1) :: us,[]⟩ (Value.ref (s.heap.objs.size + 1) :: (us ++ ds)) _ _ E (hr.make C us [])
  (I2.uD.make C us []) (hb _ (Value.ref (s.heap.objs.size + 1) :: us) I2.du hl) r2 hq) fun r s' hq'=>?_))
 cases r with
 | error e=>exact hx pins σ _ _ e s' I2 hq'
 | ok fl =>
  cases fl with
  | ret u =>
   obtain ⟨v,H',I3,rv,ev,q3⟩:=I2.after hq'
   subst ev
   exact ⟨rv,⟨V.ref (s.heap.objs.size + 1),H',I3,rfl,q3⟩⟩
  | next=>exact False.elim hq'
  | brk=>exact False.elim hq'
  | cont=>exact False.elim hq'
theorem rm (M:Mk X.K C f) (F:bF X.prog X.w X.K X.mg X.base CX k f fd ps sp) (hr:cD (k + 1) X.A) (hg:Gl X x) (hm:X.mg x = some (.ref C)) (hb:Binds X.K fd ps ds) (hd:Vals dvs ds) (hx:Passes CX X E)
  (hdb:(x == ("__debug__" : Str)) = false:=by decide):PE X (.Call (.Name x p) [] [] pos) (yJ C sp dvs E wI):=by
 unfold PE at *
 exact by
  intro pins s σ H Q I h
  refine wpAny_Call_Name_kw (de I hg hm ?_ hdb)
  exact PySem.W.callWith_K0 I.du M.kp (tI (us:=[]) M F hr hb hd hx I .nil h)
end
@[irreducible] def PK (X:Cx) (kws:List Keyword) (t:TA):Prop :=
 ∀ (pos:Pos) (pins:List (Addr × Obj)) (s:Shared) (σ:St) (H:Hp) (Q:List V → Hp → Prop),Inv X pins σ H s → t σ H Q → wpAny (model X.prog X.w) X.A (evalAll ((backToKw pos (keywordEach kws X.env)).map (·.2))) (AP X pins σ Q) X.xe s
section
variable {X:Cx} {CX:lH} {k:Nat} {f C:Addr} {fd:FuncData} {ps ks:List Str} {sp:Sp} {E:XK} {x m:Str} {p pos apos kpos:Pos} {e o:Expr} {es:List Expr} {kws:List Keyword} {te ta:TE} {t tk:TA} {nm:Option Str}
theorem jP:PK X [] wI:=by
 first
 | exact (fun _ _ _ _ H Q I h=>wpAny_evalAll_nil ⟨[],H,I,.nil,h⟩)
 | (unfold PK at *; exact (fun _ _ _ _ H Q I h=>wpAny_evalAll_nil ⟨[],H,I,.nil,h⟩))
variable {g:List Value → List Value → List Value} {gV:List V → List V → List V}
end
structure aX (N P:List Str) (sc:Scope):Prop where
 kind:sc.kind = .function
 co:sc.isCoroutine = false
 gen:sc.isGenerator = false
 nd:N.Nodup
 pre:N.take P.length = P
 par:∀ x ∈ P,sc.names.lookup x = some .local ∨ sc.names.lookup x = some .cell
 nofree:∀ y ∈ sc.names,y.2 ≠ .free
theorem mJ {kindOf:Str → Option NameKind} {x:Str}:∀ {binds:List (Str × Value)} {m:Str → Option Value},(∀ v,(x,v) ∉ binds) → bindL kindOf binds m x = m x
 | [],_,_=>rfl
 | (n,v) :: r,m,h=>by
  unfold bindL
  rw [mJ fun w hw=>h w (List.mem_cons_of_mem _ hw)]
  split
  ·have:x ≠ n:=by rintro rfl; exact h v List.mem_cons_self
   simp [this]
  ·rfl
theorem lR {kindOf:Str → Option NameKind} {x:Str}:∀ {binds:List (Str × Value)} {m:Str → Option Value},(∀ v,(x,v) ∉ binds) → bindC kindOf binds m x = m x
 | [],_,_=>rfl
 | (n,v) :: r,m,h=>by
  unfold bindC
  rw [lR fun w hw=>h w (List.mem_cons_of_mem _ hw)]
  split
  ·rfl
  ·have:x ≠ n:=by rintro rfl; exact h v List.mem_cons_self
   simp [this]
theorem lj {kindOf:Str → Option NameKind} {x:Str} {v:Value}:∀ {P:List Str} {vs:List Value} {i:Nat} {m:Str → Option Value},P.Nodup → P[i]? = some x → vs[i]? = some v → kindOf x = some .local →
  bindL kindOf (P.zip vs) m x = some v
 | [],_,_,_,_,h,_,_=>by simp at h
 | _ :: _,[],_,_,_,_,h,_=>by simp at h
 | p :: P,w :: vs,0,m,nd,h1,h2,hk=>by
  simp at h1 h2; subst h1; subst h2
  show bindL kindOf ((p,w) :: P.zip vs) m p = _
  unfold bindL
  rw [mJ fun v hv=>(List.nodup_cons.mp nd).1 (List.of_mem_zip hv).1,if_pos hk]
  simp
 | p :: P,w :: vs,i + 1,m,nd,h1,h2,hk=>by
  show bindL kindOf ((p,w) :: P.zip vs) m x = _
  unfold bindL
  exact lj (i:=i) (List.nodup_cons.mp nd).2 (by simpa using h1) (by simpa using h2) hk
theorem lV {kindOf:Str → Option NameKind} {x:Str} {v:Value}:∀ {P:List Str} {vs:List Value} {i:Nat} {m:Str → Option Value},P.Nodup → P[i]? = some x → vs[i]? = some v → kindOf x ≠ some .local →
  bindC kindOf (P.zip vs) m x = some v
 | [],_,_,_,_,h,_,_=>by simp at h
 | _ :: _,[],_,_,_,_,h,_=>by simp at h
 | p :: P,w :: vs,0,m,nd,h1,h2,hk=>by
  simp at h1 h2; subst h1; subst h2
  show bindC kindOf ((p,w) :: P.zip vs) m p = _
  unfold bindC
  rw [lR fun v hv=>(List.nodup_cons.mp nd).1 (List.of_mem_zip hv).1,if_neg hk]
  simp
 | p :: P,w :: vs,i + 1,m,nd,h1,h2,hk=>by
  show bindC kindOf ((p,w) :: P.zip vs) m x = _
  unfold bindC
  exact lV (i:=i) (List.nodup_cons.mp nd).2 (by simpa using h1) (by simpa using h2) hk
def start (N:List Str) (vs:List V):St:=vs.map some ++ List.replicate (N.length - vs.length) none
def ie (CX:lH) (P:Program) (w:World) (K:PySem.W.Frag) (mg:Str → Option Value) (base:Heap) (N:List Str) (qual:Str) (scope:Scope) (f:Addr) (cd:Value) (A:Around) (outer:List Env) (s:Shared) (H:Hp) (E:XK):Cx where
 prog:=P
 w:=w
 K:=K
 mg:=mg
 base:=base
 A:=A.deeper (envOfC qual scope s.heap.objs.size f cd)
 N:=N
 s₀:=s
 H₀:=H
 env:=envOfC qual scope s.heap.objs.size f cd
 outer:=outer
 stack:=envOfC qual scope s.heap.objs.size f cd :: outer
 ex:=[]
 calm:=true
 fn:=fun _=>true
 pn:=[]
 xe:=fun e s'=>wpAny (model P w) (A.deeper (envOfC qual scope s.heap.objs.size f cd)) (leaving (envOfC qual scope s.heap.objs.size f cd) e) (fun _ s''=>CX outer H s E e s'') (fun e' s''=>CX outer H s E e' s'') s'
theorem nB {sc:Scope} {n:Nat} {x:Str} (h:sc.names.lookup x = some .cell):∃ c,(cellsFrom n sc.names []).lookup x = some c:=by
 have q:=PySem.W.cellsFrom_some sc.names n [] (.inl h)
 exact Option.isSome_iff_exists.mp q
theorem qk {CX:lH} {P:Program} {w:World} {K:PySem.W.Frag} {mg:Str → Option Value} {base:Heap} {N ps:List Str} {qual:Str} {scope:Scope} {f:Addr} {cd:Value} {A:Around} {outer:List Env} {s s1:Shared} {H:Hp} {E:XK} {us:List Value} {vs:List V}
  (S:aX N ps scope) (hd:A.handled = none) (e0:lF P w K mg base A outer s H) (hl:vs.length = ps.length) (r:Vals vs us)
  (x:InCallC s s.heap.objs.size (bindL (envOfC qual scope s.heap.objs.size f cd).kindOf (ps.zip us) fun _=>none) (cellsFrom (s.heap.objs.size + 1) scope.names []) (bindC (envOfC qual scope s.heap.objs.size f cd).kindOf (ps.zip us) fun _=>none) s1) :
  Inv (ie CX P w K mg base N qual scope f cd A outer s H E) [] (start N vs) H s1:=by
 have hpl:ps.length ≤ N.length:=by have:=congrArg List.length S.pre; rw [List.length_take] at this; omega
 obtain ⟨h1,tk,rfl,hk⟩:=x.done
 have noA:∀ b:Addr,b ∉ (ie CX P w K mg base N qual scope f cd A outer s H E).ex:=fun b z=>absurd (show b ∈ ([]:List Addr) from z) (by simp)
 refine ⟨⟨e0.mod,S.kind,rfl,rfl,Nat.le_refl _,fun y z c h1 h2=>?_,fun y hy=>?_,fun y c _ h=>?_,fun _=>hd,Around.frames_deeper e0.frames,.inr ⟨rfl,rfl⟩,fun b z=>absurd z (noA b),e0.bs,e0.bsz,fun b _ _=>noA b,fun b z=>absurd z (noA b),e0.iD,e0.frf⟩,
  rfl,e0.bare,Un.kept hk,⟨_,x.toInCall.ns,fun i y v h1 h2 h3=>?_⟩,fun y c h=>⟨_,x.cell y c h⟩,e0.hok.fresh (Nat.le_refl _),fun y c h=>?_,fun p hp=>absurd (show p ∈ ([]:List (Addr × Obj)) from hp) (by simp),e0.hok.kept hk,?_⟩
 ·exact name_of_addr x.apart (PySem.mem_of_lookup h1) (PySem.mem_of_lookup h2)
 ·have hy:scope.names.lookup y = some .cell ∨ scope.names.lookup y = some .free:=hy
  rcases hy with hy | hy
  ·exact nB hy
  ·exact absurd rfl (S.nofree _ (PySem.mem_of_lookup hy))
 ·exact Nat.le_of_lt (x.above y c (PySem.mem_of_lookup h))
 ·have hi:i < vs.length:=by
   unfold start at h2
   by_cases hi:i < vs.length
   ·exact hi
   ·rw [List.getElem?_append_right (by simpa using hi)] at h2
    rw [List.getElem?_replicate] at h2
    split at h2 <;> cases h2
  have ha:vs[i]? = some v:=by
   unfold start at h2
   rw [List.getElem?_append_left (by simpa using hi),List.getElem?_map] at h2
   cases e:vs[i]? with
   | none=>rw [e] at h2; cases h2
   | some a=>rw [e] at h2; cases h2; rfl
  obtain ⟨u,hu,rv⟩:=r.get ha
  have hp:ps[i]? = some y:=by
   rw [← S.pre,List.getElem?_take_of_lt (by omega)]; exact h1
  have ndP:ps.Nodup:=by rw [← S.pre]; exact S.nd.sublist (List.take_sublist _ _)
  refine ⟨u,rv,?_⟩
  rcases S.par y (List.mem_of_getElem? hp) with k | k
  ·exact .inl ⟨k,lj ndP hp hu k⟩
  ·obtain ⟨c,e⟩:=nB (n:=s.heap.objs.size + 1) k
   refine .inr ⟨.inl k,c,e,?_⟩
   have q:=x.cell y c e
   rw [lV ndP hp hu (by show scope.names.lookup y ≠ _; rw [k]; decide)] at q
   exact q
 ·exact e0.hok.fresh (Nat.le_of_lt (x.above y c (PySem.mem_of_lookup h)))
 ·unfold start
  show _ = N.length
  rw [List.length_append,List.length_map,List.length_replicate]
  omega
theorem tY {CX:lH} {P:Program} {w:World} {K:PySem.W.Frag} {mg:Str → Option Value} {base:Heap} {k:Nat} {f:Addr} {name qual:Str} {params:Arguments} {body:List Stmt} {scope:Scope} {dV kV doc pm cdv ct oc:Value} {an od:Option Addr}
  {osl:Array (Option Value)} {N ps:List Str} {sp:Sp} (lk:K.lookup f = some ⟨oc,od,.func (PySem.W.fnOf name qual params body scope dV kV doc pm an cdv ct),osl⟩) (hcd:PySem.W.codeIn K cdv qual = true) (S:aX N ps scope)
  (len:∀ vs H Q E,sp vs H Q E → vs.length = ps.length)
  (hbody:∀ (A:Around) (outer:List Env) (s:Shared) (H:Hp) (vs:List V) (Q:VK) (E:XK),cD k (A.deeper (envOfC qual scope s.heap.objs.size f cdv)) → sp vs H Q E →
   ∃ t,jJ (ie CX P w K mg base N qual scope f cdv A outer s H E) body t ∧ t { nx:=fun _ H'=>Q .bA H',rt:=Q } (start N vs) H) :
  bF P w K mg base CX (k + 1) f (PySem.W.fnOf name qual params body scope dV kV doc pm an cdv ct) ps sp:=by
 unfold jJ at *
 exact by
  refine ⟨len,fun A outer s H args us vs Q E hr e0 hb r hsp=>?_⟩
  have hl:=len _ _ _ _ hsp
  have KX:K.In s.heap:=e0.mod.kin.keeps fun b o e=>(e0.bs b o e).1
  have lim:s.heap.NoLimit:=e0.mod.nolimit.keeps fun b o e=>(e0.bs b o e).1
  have hkind:∀ y ∈ ps.zip us,scope.names.lookup y.1 = some .local ∨ (scope.names.lookup y.1 = some .cell ∧ ((cellsFrom (s.heap.objs.size + 1) scope.names []).lookup y.1).isSome = true):=fun ⟨n,v⟩ hy=>by
   rcases S.par n (List.of_mem_zip hy).1 with q | q
   ·exact .inl q
   ·exact .inr ⟨q,PySem.W.cellsFrom_some _ _ _ (.inl q)⟩
  refine codeAny_call_function hr.depth (KX _ _ lk) rfl S.co S.gen rfl (PySem.W.codeRec_of KX hcd) (hb _ _ _ _ ?_)
  refine wpAny_newFunctionEnv_cells S.kind hkind fun env he s1 x=>?_
  subst he
  refine ⟨lim.keeps x.toInCall.keep,codeAny_func ?_⟩
  obtain ⟨t,ht,hq⟩:=hbody A outer s H vs Q E (hr.deeper _) hsp
  have I:Inv (ie CX P w K mg base N qual scope f cdv A outer s H E) [] (start N vs) H s1:=qk S hr.hd e0 hl r x
  refine wpAny_mono (ht [] s1 (start N vs) H _ I hq) (fun fl s' hs=>?_) fun e s' hs=>hs
  have fin:∀ {σ':St} {H':Hp} {v:V} {u:Value},Inv (ie CX P w K mg base N qual scope f cdv A outer s H E) [] σ' H' s' → RelV v u → Q v H' → CE outer P w H s Q u s' :=
   fun {σ' H' v u} J rv q=>⟨v,H',J.os,J.bare,J.base,J.hok,rv,q⟩
  cases fl with
  | ret u =>
   obtain ⟨v,σ',H',J,rv,q⟩:=hs
   exact fin J rv q
  | next =>
   obtain ⟨σ',H',J,q⟩:=hs
   exact fin (v:=V.bA) (u:=Value.none) J rfl q
  | brk =>
   obtain ⟨_,_,_,q⟩:=hs
   exact False.elim q
  | cont =>
   obtain ⟨_,_,_,q⟩:=hs
   exact False.elim q
end L2
namespace L2
open PySem PySem.Spec PyProof.Rows
section
variable {X:Cx} {x:Str} {p pos:Pos} {e:Expr} {es:List Expr} {t:TA} {id T:String} {r:List V → Hp → VK → Prop}
def zk (r:List V → Hp → VK → Prop) (t:TA):TE:=fun σ H Q=>t σ H fun vs H1=>r vs H1 Q
theorem aZ (hc:bW X (.builtin id) r) (hg:Gl X x) (hm:X.mg x = none) (hv:bootBuiltins x = some (.builtin id)) (ha:PA X (e :: es) t) (hn:x ≠ "__name__" := by decide) (hdb:(x == ("__debug__" : Str)) = false:=by decide)
  (he:starEach (e :: es) X.env = (false,eval e X.env) :: starEach es X.env:=by rfl) (hpl:(backTo pos (starEach es X.env)).any (·.1) = false:=by rfl):PE X (.Call (.Name x p) (e :: es) [] pos) (zk r t):=by
 unfold PE at *; unfold PA at *; unfold bW at *
 exact by
  intro pins s σ H Q I h
  refine wpAny_Call_Name_kw (iJ I hg hm hv ?_ hn hdb)
  exact PyProof.Rows.callWith_builtin1 (bX (ha pos pins s σ H _ I h) fun us s1 ⟨vs,H1,I1,r1,q1⟩=>hc pins s1 σ H1 vs us Q I1 r1 q1) he hpl
theorem d4 (hc:bW X (.type T) r) (hg:Gl X x) (hm:X.mg x = none) (hv:bootBuiltins x = some (.type T)) (ha:PA X (e :: es) t) (hn:x ≠ "__name__" := by decide) (hdb:(x == ("__debug__" : Str)) = false:=by decide)
  (he:starEach (e :: es) X.env = (false,eval e X.env) :: starEach es X.env:=by rfl) (hpl:(backTo pos (starEach es X.env)).any (·.1) = false:=by rfl):PE X (.Call (.Name x p) (e :: es) [] pos) (zk r t):=by
 unfold PE at *; unfold PA at *; unfold bW at *
 exact by
  intro pins s σ H Q I h
  refine wpAny_Call_Name_kw (iJ I hg hm hv ?_ hn hdb)
  exact PyProof.Rows.callWith_type1 (bX (ha pos pins s σ H _ I h) fun us s1 ⟨vs,H1,I1,r1,q1⟩=>hc pins s1 σ H1 vs us Q I1 r1 q1) he hpl
end
end L2
namespace HT
open PySem PyProof.Rows
def lexLt:List Int → List Int → Bool
 | [],[]=>false
 | [],_ :: _=>true
 | _ :: _,[]=>false
 | x :: xs,y :: ys=>if x = y then lexLt xs ys else decide (x < y)
theorem oK (x y:Int) (xs ys:List Int):lexLt (x :: xs) (y :: ys) = if x = y then lexLt xs ys else decide (x < y):=rfl
theorem lK:lexLt [] [] = false:=rfl
theorem ke (y:Int) (ys:List Int):lexLt [] (y :: ys) = true:=rfl
theorem kB (x:Int) (xs:List Int):lexLt (x :: xs) [] = false:=rfl
theorem sj (A:Around) (s:Shared) (a:Int) (t:Tok) (c:Int) (u:Tok):∃ e,SeqAt.EqAt A s (.int a t) (.int c u) e ∧ (e = true ↔ a = c) :=
 ⟨(a == c),SeqAt.EqAt.int_int a t c u,by simp⟩
theorem tP (A:Around) (s:Shared) (a:Int) (t:Tok) (c:Int) (u:Tok) (prog:Program) (w:World) (E:Value → Shared → Prop) (Q:Value → Shared → Prop) (h:Q (.bool (decide (a < c))) s) :
  wpAny (model prog w) A (richCompare .Lt (.int a t) (.int c u)) Q E s :=
 (PyProof.Rows.lt_int h:wpAny (model prog w) A (compareOp .Lt (.int a t) (.int c u)) Q E s)
section
open PySem.SeqAt
open PySem.AutoSeq1 (wpAny_loadPart')
open PySem.MeetsSeq PySem.MeetsSeq2 PySem.MeetsSeq3
theorem lG (l b:Addr) (items items2:Array Value) (n n2:Nat) (dd dd2:Option Addr) (sl sl2:Array (Option Value)) (ns ms:List Int) (hi:IntsAre items.toList ns) (hj:IntsAre items2.toList ms) :
  Meets (Builtin.«tuple.__lt__» ⟨[.ref l,.ref b],[]⟩)
   (fun _ R s=>s.heap.get? l = some { cls:=.type "tuple",dict:=dd,data:=.seq items n,slots:=sl } ∧ s.heap.get? b = some { cls:=.type "tuple",dict:=dd2,data:=.seq items2 n2,slots:=sl2 } ∧
    R (.ok (.ret (.bool (lexLt ns ms)))) s) :=
 .of_wp fun prog w A R s h=>by
  obtain ⟨hp,g,d,tk,os⟩:=s; obtain ⟨hl,hb,h⟩:=h
  have f2:=AutoSeq1.sub_tuple_tuple
  have z1:items.size = ns.length:=by rw [← hi.length]; simp
  have z2:items2.size = ms.length:=by rw [← hj.length]; simp
  wp_walk using wpAny_loadPart' hl,wpAny_loadPart' hb,wpAny_forIn_list _ (fun rest b s'=>b.1 = none ∧ s' = ⟨hp,g,d,tk,os⟩ ∧ ∃ (vs ws:List Value) (ns' ms':List Int),rest = vs.zip ws ∧
   IntsAre vs ns' ∧ IntsAre ws ms' ∧ ns'.length + items2.size = ms'.length + items.size ∧ R (.ok (.ret (.bool (lexLt ns' ms')))) ⟨hp,g,d,tk,os⟩) _
  case turn =>
   rintro ⟨y,x⟩ rest b s' ⟨hb',rfl,vs,ws,ns',ms',hz,hvi,hwi,hlen,hR⟩
   cases hvi with
   | nil=>rw [List.zip_nil_left] at hz; cases hz
   | cons a t hvi' =>
    cases hwi with
    | nil=>rw [List.zip_nil_right] at hz; cases hz
    | cons c u hwi' =>
     rw [List.zip_cons_cons] at hz
     injection hz with hyx hrest
     injection hyx with hy hx
     subst hy hx
     rw [oK] at hR
     simp only [List.length_cons] at hlen
     obtain ⟨e,he,hiff⟩:=sj A.in1 ⟨hp,g,d,tk,os⟩ a t c u
     refine wpAny_bind (he prog w _ _ ?_)
     cases e with
     | true =>
      rw [if_pos (hiff.mp rfl)] at hR
      wp_walk
      exact ⟨rfl,rfl,_,_,_,_,hrest,hvi',hwi',by omega,hR⟩
     | false =>
      rw [if_neg (fun q=>absurd (hiff.mpr q) Bool.false_ne_true)] at hR
      have hri:=tP A.in1 ⟨hp,g,d,tk,os⟩ a t c u prog w
      wp_walk using hri
      exact ⟨_,rfl,by simpa using hR⟩
  case fin =>
   rintro ⟨b1,b2⟩ s' ⟨hb',rfl,vs,ws,ns',ms',hz,hvi,hwi,hlen,hR⟩
   simp only at hb'
   subst hb'
   have hv:lexLt ns' ms' = decide (items.size < items2.size):=by
    cases hvi with
    | nil =>
     cases hwi with
     | nil =>
      simp only [List.length_nil] at hlen
      rw [lK]
      exact (decide_eq_false (by omega)).symm
     | cons c u hw =>
      simp only [List.length_nil,List.length_cons] at hlen
      rw [ke]
      exact (decide_eq_true (by omega)).symm
    | cons a t hv =>
     cases hwi with
     | nil =>
      simp only [List.length_nil,List.length_cons] at hlen
      rw [kB]
      exact (decide_eq_false (by omega)).symm
     | cons c u hw =>
      rw [List.zip_cons_cons] at hz
      cases hz
   rw [hv] at hR
   wp_walk
   exact ⟨_,rfl,by simpa [Builtin.Tuple.tupleCompareSizes] using hR⟩
  case h =>
   exact ⟨rfl,rfl,items.toList,items2.toList,ns,ms,rfl,hi,hj,by omega,h⟩
end
section
variable {prog:Program} {w:World} {A:Around} {E:Value → Shared → Prop} {s:Shared}
theorem o5 {l b:Addr} {items items2:Array Value} {ns ms:List Int} {Q:Value → Shared → Prop} (hl:IsTup s.heap l items) (hb:IsTup s.heap b items2) (hi:IntsAre items.toList ns) (hj:IntsAre items2.toList ms)
  (hu:A.units < cLine) (h:Q (.bool (lexLt ns ms)) s):wpAny (model prog w) A (compareOp .Lt (.ref l) (.ref b)) Q E s:=by
 obtain ⟨⟨cls,dd,data,sl⟩,ho,hc,n,hd⟩:=id hl
 obtain ⟨⟨cls2,dd2,data2,sl2⟩,ho2,hc2,n2,hd2⟩:=id hb
 simp only at hc hd hc2 hd2
 subst hc hd hc2 hd2
 exact richCompare_meets_room (op:=.Lt) ⟨_,ho,rfl⟩ ⟨_,ho2,rfl⟩ PySem.F.slot_tuple_lt PySem.F.entry_tuple_lt (PySem.F.args_tuple_lt_2 _ _) (lG l b items items2 n n2 dd dd2 sl sl2 ns ms hi hj)
  ⟨ho,ho2,show Value.bool (lexLt ns ms) ≠ Value.notImplemented ∧ Q (.bool (lexLt ns ms)) s from ⟨(fun x=>nomatch x),h⟩⟩ hu
theorem vD {t b:Addr} {vs ws:List Value} {Q:Value → Shared → Prop} (ht:IsTup s.heap t vs.toArray) (hb:IsTup s.heap b ws.toArray) (hv:vs ≠ [])
  (h1:ws = [] → Q (.ref t) s) (h2:ws ≠ [] → Q (.ref s.heap.objs.size) { s with heap:=s.heap.push { cls:=.type "tuple",data:=.seq (vs ++ ws).toArray } })
  (hsz:vs.length + ws.length ≤ sizeLine):wpAny (model prog w) A (binaryOp .Add (.ref t) (.ref b)) Q E s:=by
 obtain ⟨⟨cls,dd,data,sl⟩,ho,hc,n,hd⟩:=id ht
 obtain ⟨⟨cls2,dd2,data2,sl2⟩,ho2,hc2,n2,hd2⟩:=id hb
 simp only at hc hd hc2 hd2
 subst hc hd hc2 hd2
 have e:vs.toArray ++ ws.toArray = (vs ++ ws).toArray:=by simp
 by_cases hw:ws = []
 ·exact concat_meets ⟨_,ho,rfl⟩ ⟨_,ho2,rfl⟩ noFill_tuple_add seq_tuple_add PySem.F.slot_tuple_add PySem.F.entry_tuple_add (PySem.F.args_tuple_add_2 _ _)
   (tuple_addW1 t b vs.toArray ws.toArray n n2 dd dd2 sl sl2 (by simpa using hv) (by simp [hw])) ⟨ho,ho2,h1 hw⟩
 ·refine concat_meets ⟨_,ho,rfl⟩ ⟨_,ho2,rfl⟩ noFill_tuple_add seq_tuple_add PySem.F.slot_tuple_add PySem.F.entry_tuple_add (PySem.F.args_tuple_add_2 _ _)
   (tuple_addW2 t b vs.toArray ws.toArray n n2 dd dd2 sl sl2 (by simpa using hv) (by simpa using hw) (by rw [List.size_toArray,List.size_toArray]; exact hsz)) ⟨ho,ho2,?_⟩
  rw [e]
  exact h2 hw
def dG (n d:Nat):Option Int → Nat
 | none=>d
 | some v=>if v < 0 then (v + (n:Int)).toNat else min v.toNat n
theorem rZ (n d:Nat):dG n d none = d:=rfl
theorem ml (n d k:Nat):dG n d (some (k:Int)) = min k n:=by
 show (if (k:Int) < 0 then ((k:Int) + (n:Int)).toNat else min (k:Int).toNat n) = min k n
 rw [if_neg (by omega),Int.toNat_natCast]
theorem xB (n d:Nat) (hd:d ≤ n) (o:Option Int):dG n d o ≤ n:=by
 cases o with
 | none=>exact hd
 | some v =>
  show (if v < 0 then (v + (n:Int)).toNat else min v.toNat n) ≤ n
  by_cases hv:v < 0
  ·rw [if_pos hv]; omega
  ·rw [if_neg hv]; exact Nat.min_le_right _ _
theorem p8 (v:Int) (n d:Nat):(if v < 0 then max (v + (n:Int)) 0 else min v (n:Int)) = ((dG n d (some v):Nat):Int):=by
 show (if v < 0 then max (v + (n:Int)) 0 else min v (n:Int)) = (((if v < 0 then (v + (n:Int)).toNat else min v.toNat n):Nat):Int)
 by_cases hv:v < 0
 ·simp only [if_pos hv]; omega
 ·simp only [if_neg hv]; omega
theorem oV (lo hi:Option Int) (n:Nat):Builtin.Slice.sliceAdjust lo hi 1 (n:Int) = (((dG n 0 lo:Nat):Int),((dG n n hi:Nat):Int)):=by
 have h1:¬ ((1:Int) < 0):=by omega
 unfold Builtin.Slice.sliceAdjust
 simp only [h1,if_false]
 refine Prod.ext ?_ ?_
 ·cases lo with
  | none=>rfl
  | some v=>exact p8 v n 0
 ·cases hi with
  | none=>rfl
  | some v=>exact p8 v n n
theorem o8 (i j:Nat):Builtin.Slice.slicePlaces (i:Int) (j:Int) 1 = j - i:=by
 unfold Builtin.Slice.slicePlaces
 have h1:(1:Int) > 0:=by omega
 simp only [h1,if_true,Int.ediv_one]
 split <;> omega
theorem jw {v:Value} {o:Option Int} {Q:Option Int → Shared → Prop} (p:IsPart v o) (h:Q o s):wpAny (model prog w) A (Builtin.Slice.slicePartIndex v) Q E s:=by
 cases p with
 | none=>exact slicePart_none h
 | int i t=>exact slicePart_int h
theorem jN {sl:Addr} {vl vu:Value} {lo hi:Option Int} {n:Nat} {Q:Int × Int × Nat → Shared → Prop} (hs:s.heap.IsSliceOf sl vl vu .none) (pl:IsPart vl lo) (pu:IsPart vu hi)
  (h:Q (((dG n 0 lo:Nat):Int),1,dG n n hi - dG n 0 lo) s):wpAny (model prog w) A (Builtin.Slice.sliceApplied (.ref sl) (pure (n:Int))) Q E s:=by
 obtain ⟨os,hos,hcs,hds⟩:=id hs
 unfold Builtin.Slice.sliceApplied Builtin.Slice.sliceFields
 refine wpAny_bind (wpAny_bind (wpAny_field hos hds (x:=vl) rfl (wpAny_bind (wpAny_field hos hds (x:=vu) rfl (wpAny_bind (wpAny_field hos hds (x:=.none) rfl (wpAny_pure ?_)))))))
 refine wpAny_bind (slicePart_none ?_)
 show wpAny _ _ (if ((1:Int) == 0) = true then _ else _) _ _ s
 rw [if_neg (by decide)]
 refine wpAny_bind (jw pl (wpAny_bind (jw pu (wpAny_bind (wpAny_pure ?_)))))
 show wpAny _ _ (match Builtin.Slice.sliceAdjust lo hi 1 (n:Int) with | (lo,hi)=>pure (lo,(1:Int),Builtin.Slice.slicePlaces lo hi 1)) _ _ s
 rw [oV lo hi n]
 show wpAny _ _ (pure (((dG n 0 lo:Nat):Int),(1:Int),Builtin.Slice.slicePlaces ((dG n 0 lo:Nat):Int) ((dG n n hi:Nat):Int) 1)) _ _ s
 rw [o8]
 exact wpAny_pure h
theorem tj (xs:Array Value) (i k:Nat):((List.range k).filterMap fun (m:Nat)=>xs[((i:Int) + (m:Int) * 1).toNat]?).toArray = ((xs.toList.drop i).take k).toArray:=by
 have e:(fun (m:Nat)=>xs[((i:Int) + (m:Int) * 1).toNat]?) = fun m=>xs[i + m]?:=by
  funext m
  have:((i:Int) + (m:Int) * 1).toNat = i + m:=by omega
  rw [this]
 rw [e]
 have:=pick_run xs i k
 rw [List.filterMap_map] at this
 have e2:((fun x=>xs[x]?) ∘ fun x=>i + x) = fun m=>xs[i + m]?:=rfl
 rw [e2] at this
 rw [this]
theorem ip {t sl:Addr} {items:Array Value} {vl vu:Value} {lo hi:Option Int} {Q:Value → Shared → Prop} (ht:IsTup s.heap t items) (hs:s.heap.IsSliceOf sl vl vu .none) (pl:IsPart vl lo) (pu:IsPart vu hi)
  (hw:¬ (dG items.size 0 lo = 0 ∧ dG items.size items.size hi = items.size))
  (h:Q (.ref s.heap.objs.size) { s with heap:=s.heap.push { cls:=.type "tuple",data:=.seq ((items.toList.drop (dG items.size 0 lo)).take (dG items.size items.size hi - dG items.size 0 lo)).toArray } })
  (hsz:items.size ≤ sizeLine):wpAny (model prog w) A (getItem (.ref t) (.ref sl)) Q E s:=by
 have htake:sizeOk (.seq ((items.toList.drop (dG items.size 0 lo)).take (dG items.size items.size hi - dG items.size 0 lo)).toArray):=by
  show ((items.toList.drop (dG items.size 0 lo)).take (dG items.size items.size hi - dG items.size 0 lo)).toArray.size ≤ sizeLine
  rw [List.size_toArray,List.length_take,List.length_drop,Array.length_toList]
  omega
 have hj:dG items.size items.size hi ≤ items.size:=xB _ _ (Nat.le_refl _) hi
 obtain ⟨os,hos,hcs,hds⟩:=id hs
 have hTs:s.TypeIs (.ref sl) "slice" := ⟨os,hos,hcs⟩
 unfold getItem
 try with_reducible refine wpAny_holding ?_
 first | refine wpAny_bind (wpAny_pure ?_) | skip
 refine wpAny_bind (wpAny_sequenceKey ht.typeIs (by decide) ?_)
 refine wpAny_bind (wpAny_callSpecial?_slot (name:=Str.ofString "__getitem__") ht.typeIs PyProof.Rows.slot_tuple_getitem
  (wpAny_call_entry PyProof.Rows.slot_tuple_getitem ht.typeIs entry_tuple_getitem ?_ (args_tuple_getitem _ _)))
 show wpAny _ _ (Builtin.Tuple.tupleItemsOf (.ref t) >>= _) _ _ s
 refine wpAny_bind (tupleItemsOf_ ht ?_)
 refine wpAny_bind (wpAny_typeOf hTs ?_)
 rw [if_pos (by decide)]
 refine wpAny_bind (jN hs pl pu ?_)
 have hno:¬ ((((dG items.size 0 lo:Nat):Int) == 0 && (1:Int) == 1 && (dG items.size items.size hi - dG items.size 0 lo) == items.size) = true):=by
  intro q
  rw [Bool.and_eq_true,Bool.and_eq_true] at q
  have q1:((dG items.size 0 lo:Nat):Int) = 0:=eq_of_beq q.1.1
  have q2:dG items.size items.size hi - dG items.size 0 lo = items.size:=eq_of_beq q.2
  exact hw ⟨by omega,by omega⟩
 show wpAny _ _ (if (((dG items.size 0 lo:Nat):Int) == 0 && (1:Int) == 1 && (dG items.size items.size hi - dG items.size 0 lo) == items.size) = true then _ else _) _ _ s
 rw [if_neg hno,tj]
 first
  | exact wpAny_bind (m:=Builtin.Tuple.tupleExact _) (wpAny_newObj_type (wpAny_pure ⟨_,rfl,wpAny_pure h⟩) htake)
  | exact wpAny_bind (m:=Builtin.Tuple.tupleExact _) (wpAny_newObj_type (wpAny_bind (wpAny_pure (wpAny_pure ⟨_,rfl,wpAny_pure h⟩))) htake)
  | exact wpAny_bind (wpAny_bind (m:=Builtin.Tuple.tupleExact _) (wpAny_newObj_type (wpAny_pure (wpAny_pure ⟨_,rfl,wpAny_pure h⟩)) htake))
  | exact wpAny_bind (wpAny_bind (m:=Builtin.Tuple.tupleExact _) (wpAny_newObj_type (wpAny_pure ⟨_,rfl,wpAny_pure h⟩) htake))
end
end HT
namespace L2
open PySem PySem.Spec PyProof.Rows
abbrev TO:=St → Hp → (Option Int → Hp → Prop) → Prop
@[irreducible] def PO (X:Cx) (e:Option Expr) (t:TO):Prop :=
 ∀ (pins:List (Addr × Obj)) (s:Shared) (σ:St) (H:Hp) (Q:Option Int → Hp → Prop),Inv X pins σ H s → t σ H Q →
  wpAny (model X.prog X.w) X.A (evalPart e X.env) (fun u s'=>∃ o H',Inv X pins σ H' s' ∧ IsPart u o ∧ Q o H') X.xe s
def uR:TO:=fun _ H Q=>Q none H
def yC (t:TE):TO:=fun σ H Q=>t σ H fun x H1=>∃ i,x = .int i ∧ Q (some i) H1
theorem intsAre_of {ns:List Int}:∀ {us:List Value},Vals (ns.map V.int) us → IntsAre us ns:=by
 induction ns with
 | nil=>intro us r; rw [List.map_nil] at r; cases r; exact .nil
 | cons n ns ih =>
  intro us r
  rw [List.map_cons] at r
  cases r with
  | cons r1 r2 =>
   obtain ⟨t,e⟩:=r1
   subst e
   exact .cons n t (ih r2)
section
variable {X:Cx} {e:Expr} {te:TE} {lo hi:Option Expr} {tl th:TO} {pos p2:Pos}
theorem jt:PO X none uR:=by
 unfold PO at *
 exact by
  intro pins s σ H Q I h
  rw [evalPart_none]
  exact wpAny_pure ⟨none,H,I,.none,h⟩
theorem ek (h:PE X e te):PO X (some e) (yC te):=by
 unfold PE at *; unfold PO at *
 exact by
  intro pins s σ H Q I hw
  rw [evalPart_some]
  refine bX (h pins s σ H _ I hw) fun u s1 ⟨x,H1,I1,r1,q1⟩=>?_
  obtain ⟨i,rfl,q⟩:=q1
  obtain ⟨t,rfl⟩:=r1
  exact ⟨some i,H1,I1,.int i t,q⟩
@[irreducible] def tm (X:Cx) (r:V → Option Int → Option Int → Hp → VK → Prop):Prop :=
 ∀ (pins:List (Addr × Obj)) (s:Shared) (σ:St) (H:Hp) (x:V) (v vl vu:Value) (lo hi:Option Int) (sl:Addr) (Q:VK),Inv X pins σ H s → RelV x v → s.heap.IsSliceOf sl vl vu .none → IsPart vl lo → IsPart vu hi → r x lo hi H Q →
  ∃ T id,typeLookup (.type T) "__getitem__" = pure (some (.builtin id)) ∧ s.TypeIs v T ∧ wpAny (model X.prog X.w) X.A (getItem v (.ref sl)) (EP X pins σ Q) X.xe s
theorem tm.or {r r':V → Option Int → Option Int → Hp → VK → Prop} (h:tm X r) (h':tm X r'):tm X (fun x lo hi H Q=>r x lo hi H Q ∨ r' x lo hi H Q):=by
 unfold tm at *
 exact by
  intro pins s σ H x v vl vu lo hi sl Q I rx hs pl pu q
  rcases q with q | q
  ·exact h pins s σ H x v vl vu lo hi sl Q I rx hs pl pu q
  ·exact h' pins s σ H x v vl vu lo hi sl Q I rx hs pl pu q
def AG (r:V → Option Int → Option Int → Hp → VK → Prop) (te:TE) (tl th:TO):TE:=fun σ H Q=>te σ H fun x H1=>tl σ H1 fun l H2=>th σ H2 fun u H3=>r x l u H3 Q
theorem fb {r:V → Option Int → Option Int → Hp → VK → Prop} (hr:tm X r) (he:PE X e te) (hl:PO X lo tl) (hu:PO X hi th):PE X (.Subscript e (.Slice lo hi none p2) pos) (AG r te tl th):=by
 unfold PE at *; unfold PO at *; unfold tm at *
 exact by
  intro pins s σ H Q I h
  refine Subscript_ (bX (he pins s σ H _ I h) fun v s1 ⟨x,H1,I1,r1,q1⟩=>?_)
  refine wpAny_Slice (bX (hl pins s1 σ H1 _ I1 q1) fun vl s2 ⟨l,H2,I2,pl,q2⟩=>bX (hu pins s2 σ H2 _ I2 q2) fun vu s3 ⟨u,H3,I3,pu,q3⟩=>?_)
  rw [evalPart_none]
  refine wpAny_pure ?_
  have I4:Inv X pins σ H3 { s3 with heap:=s3.heap.push { cls:=.type "slice",data:=.fields #[vl,vu,.none] } }:=I3.kept (t':=s3.toks) fun b ob q=>Heap.get?_push_of_some _ q
  obtain ⟨T,id,hT,ht,hg⟩:=hr pins { s3 with heap:=s3.heap.push { cls:=.type "slice",data:=.fields #[vl,vu,.none] } } σ H3 x v vl vu l u s3.heap.objs.size Q I4 r1 (Heap.IsSliceOf.new ..) pl pu q3
  show wpAny (model X.prog X.w) X.A (subscriptTail e (.Slice lo hi none p2) v (.ref s3.heap.objs.size)) (EP X pins σ Q) X.xe { s3 with heap:=s3.heap.push { cls:=.type "slice",data:=.fields #[vl,vu,.none] } }
  exact tail_any (ops:=[.ref s3.heap.objs.size,v]) ht hT hg (by with_unfolding_all rfl)
def iP (xs:List V) (lo hi:Option Int):List V:=(xs.drop (HT.dG xs.length 0 lo)).take (HT.dG xs.length xs.length hi - HT.dG xs.length 0 lo)
theorem jW (xs:List V) (lo hi:Option Int):(iP xs lo hi).length ≤ xs.length:=by
 unfold iP
 rw [List.length_take,List.length_drop]
 omega
def zd (K:PySem.W.Frag):V → Option Int → Option Int → Hp → VK → Prop:=fun x lo hi H Q=>∃ a xs,x = .ref a ∧ bz K H a xs ∧
 ¬ (HT.dG xs.length 0 lo = 0 ∧ HT.dG xs.length xs.length hi = xs.length) ∧ ∀ p,H p = none → Q (.ref p) (upd H p (.tup (iP xs lo hi)))
theorem oX:tm X (zd X.K):=by
 unfold tm at *
 exact by
  intro pins s σ H x v vl vu lo hi sl Q I rx hs pl pu h
  obtain ⟨a,xs,rfl,hx,hw,q⟩:=h
  cases rx
  obtain ⟨ai,r,ht,hz⟩:=I.tuple hx
  have hlen:ai.toArray.size = xs.length:=by rw [List.size_toArray]; exact r.length.symm
  refine ⟨"tuple",_,PyProof.Rows.slot_tuple_getitem.lookup,ht.typeIs,?_⟩
  refine HT.ip ht hs pl pu (by rw [hlen]; exact hw) ?_ (by rw [hlen]; exact hz)
  rw [hlen]
  refine ⟨.ref s.heap.objs.size,_,I.laid (t':=s.toks) (o:=.tup (iP xs lo hi)) (fun b ob q=>Heap.get?_push_of_some _ q) (Nat.le_refl _) ?_,rfl,q _ (I.hok.fresh (Nat.le_refl _))⟩
  exact ⟨Nat.le_trans (jW xs lo hi) hz,_,(r.drop (HT.dG xs.length 0 lo)).take (HT.dG xs.length xs.length hi - HT.dG xs.length 0 lo),IsTup.new _ _⟩
def zT (K:PySem.W.Frag):R2:=fun x y H Q=>∃ a b ns ms,x = .ref a ∧ y = .ref b ∧ bz K H a (ns.map V.int) ∧ bz K H b (ms.map V.int) ∧ Q (.bl (HT.lexLt ns ms)) H
theorem xM (hu:X.A.units < cLine):cY X (compareOp .Lt) (zT X.K):=by
 unfold cY at *
 exact by
  intro pins s σ H x y v u Q I rx ry h
  obtain ⟨a,b,ns,ms,rfl,rfl,ha,hb,q⟩:=h
  cases rx
  cases ry
  obtain ⟨ai,r1,p1,_⟩:=I.tuple ha
  obtain ⟨its2,r2,p2,_⟩:=I.tuple hb
  have i1:IntsAre ai.toArray.toList ns:=intsAre_of r1
  have i2:IntsAre its2.toArray.toList ms:=intsAre_of r2
  exact HT.o5 p1 p2 i1 i2 hu ⟨.bl (HT.lexLt ns ms),H,I,rfl,q⟩
def yP (K:PySem.W.Frag):R2:=fun x y H Q=>∃ a b xs ys,x = .ref a ∧ y = .ref b ∧ bz K H a xs ∧ bz K H b ys ∧ xs ≠ [] ∧ xs.length + ys.length ≤ sizeLine ∧
 (ys = [] → Q (.ref a) H) ∧ (ys ≠ [] → ∀ p,H p = none → Q (.ref p) (upd H p (.tup (xs ++ ys))))
theorem Vals.jj {xs:List V} {us:List Value} (r:Vals xs us):us = [] ↔ xs = []:=by
 cases r with
 | nil=>simp
 | cons _ _=>simp
theorem uL:cY X (binaryOp .Add) (yP X.K):=by
 unfold cY at *
 exact by
  intro pins s σ H x y v u Q I rx ry h
  obtain ⟨a,b,xs,ys,rfl,rfl,ha,hb,hx,hz,q1,q2⟩:=h
  cases rx
  cases ry
  obtain ⟨ai,r1,p1,_⟩:=I.tuple ha
  obtain ⟨its2,r2,p2,_⟩:=I.tuple hb
  refine HT.vD p1 p2 (fun z=>hx (r1.jj.mp z)) (fun z=>⟨.ref a,H,I,rfl,q1 (r2.jj.mp z)⟩) (fun z=>?_) (by rw [← r1.length,← r2.length]; exact hz)
  refine ⟨.ref s.heap.objs.size,_,I.laid (t':=s.toks) (o:=.tup (xs ++ ys)) (fun b ob q=>Heap.get?_push_of_some _ q) (Nat.le_refl _) ?_,rfl,q2 (fun w=>z (r2.jj.mpr w)) _ (I.hok.fresh (Nat.le_refl _))⟩
  exact ⟨by rw [List.length_append]; exact hz,_,r1.append r2,IsTup.new _ _⟩
end
end L2
namespace L2
open PySem PySem.Spec PyProof.Rows
def uG (n:Nat) (i:Int):Option Nat:=if 0 ≤ i then (if i < n then some i.toNat else none) else if -(n:Int) ≤ i then some (i + n).toNat else none
def fQ {α:Type} (xs:List α) (i:Int):Option α:=(uG xs.length i).bind fun j=>xs[j]?
theorem vB {n:Nat} {i:Int} {j:Nat} (h:uG n i = some j):seqIndex? i n = some j ∧ j < n ∧ -(n:Int) ≤ i ∧ i < n:=by
 unfold uG at h
 by_cases h0:0 ≤ i
 ·rw [if_pos h0] at h
  by_cases h1:i < n
  ·rw [if_pos h1] at h
   have e:i.toNat = j:=Option.some.inj h
   exact ⟨by rw [seqIndex_of h0 h1,e],by omega,by omega,h1⟩
  ·rw [if_neg h1] at h; cases h
 ·rw [if_neg h0] at h
  by_cases h1:-(n:Int) ≤ i
  ·rw [if_pos h1] at h
   have e:(i + n).toNat = j:=Option.some.inj h
   exact ⟨by rw [seqIndex_neg (by omega) h1,e],by omega,h1,by omega⟩
  ·rw [if_neg h1] at h; cases h
theorem mq {α:Type} {xs:List α} {i:Int} {v:α} (h:fQ xs i = some v):∃ j,seqIndex? i xs.length = some j ∧ xs[j]? = some v ∧ j < xs.length ∧ -(xs.length:Int) ≤ i ∧ i < xs.length:=by
 unfold fQ at h
 cases e:uG xs.length i with
 | none=>rw [e] at h; cases h
 | some j =>
  rw [e] at h
  obtain ⟨h1,h2,h3,h4⟩:=vB e
  exact ⟨j,h1,h,h2,h3,h4⟩
theorem ah {α:Type} {xs:List α} {j:Nat} {v:α} (h:xs[j]? = some v):fQ xs (j:Int) = some v:=by
 have hj:j < xs.length:=(List.getElem?_eq_some_iff.mp h).1
 have e:uG xs.length (j:Int) = some j:=by
  unfold uG
  rw [if_pos (by omega),if_pos (by omega)]; simp
 unfold fQ; rw [e]; exact h
theorem kY {α:Type} (xs:List α) (v:α):fQ (xs ++ [v]) (-1) = some v:=by
 have hl:(xs ++ [v]).length = xs.length + 1:=by simp
 have e:uG (xs ++ [v]).length (-1) = some xs.length:=by
  unfold uG
  rw [hl,if_neg (by decide),if_pos (by omega)]
  congr 1
  omega
 unfold fQ
 rw [e]
 show (xs ++ [v])[xs.length]? = some v
 simp
def uk (b:Expr):Prop:=∀ o i,subscripted b false o i = operate [o,i] (getItem o i)
@[irreducible] def pG (X:Cx) (r:R2):Prop :=
 ∀ (value slice:Expr) (pins:List (Addr × Obj)) (s:Shared) (σ:St) (H:Hp) (x y:V) (v u:Value) (Q:VK),Inv X pins σ H s → RelV x v → RelV y u → r x y H Q →
  subscripted slice false v u = operate [v,u] (getItem v u) → wpAny (model X.prog X.w) X.A (subscriptTail value slice v u) (EP X pins σ Q) X.xe s
@[irreducible] def uJ (X:Cx) (id:String) (r:V → List V → Hp → VK → Prop):Prop :=
 ∀ (pins:List (Addr × Obj)) (s:Shared) (σ:St) (H:Hp) (x:V) (xs:List V) (v:Value) (us:List Value) (Q:VK),Inv X pins σ H s → RelV x v → Vals xs us → r x xs H Q →
  wpAny (model X.prog X.w) X.A (call (.builtin id) (v :: us)) (EP X pins σ Q) X.xe s
section
variable {X:Cx} {a b:Expr} {ta tb:TE} {pos:Pos}
theorem pG.or {r r':R2} (h:pG X r) (h':pG X r'):pG X (fun x y H Q=>r x y H Q ∨ r' x y H Q):=by
 unfold pG at *
 exact by
  intro value slice pins s σ H x y v u Q I rx ry q hs
  rcases q with q | q
  ·exact h value slice pins s σ H x y v u Q I rx ry q hs
  ·exact h' value slice pins s σ H x y v u Q I rx ry q hs
theorem uJ.or {id:String} {r r':V → List V → Hp → VK → Prop} (h:uJ X id r) (h':uJ X id r'):uJ X id (fun x xs H Q=>r x xs H Q ∨ r' x xs H Q):=by
 unfold uJ at *
 exact by
  intro pins s σ H x xs v us Q I rx rs q
  rcases q with q | q
  ·exact h pins s σ H x xs v us Q I rx rs q
  ·exact h' pins s σ H x xs v us Q I rx rs q
theorem ae {r:R2} (hr:pG X r) (ha:PE X a ta) (hb:PE X b tb) (hs:uk b):PE X (.Subscript a b pos) (yj r ta tb):=by
 unfold PE; unfold pG at hr
 exact by
  intro pins s σ H Q I h
  exact Subscript_ (wu ha hb I h fun v u s2 x y H2 I2 rx ry q=>hr a b pins s2 σ H2 x y v u Q I2 rx ry q (hs _ _))
def zE (K:PySem.W.Frag):R2:=fun x y H Q=>∃ p xs i v,x = .ref p ∧ y = .int i ∧ ao K H p xs ∧ fQ xs i = some v ∧ Q v H
def zH (K:PySem.W.Frag):R2:=fun x y H Q=>∃ p xs i v,x = .ref p ∧ y = .int i ∧ bz K H p xs ∧ fQ xs i = some v ∧ Q v H
def zV:R2:=fun x y H Q=>∃ z i c,x = .str z ∧ y = .int i ∧ z.length ≤ sizeLine ∧ fQ z.cps.toList i = some c ∧ Q (.str ⟨#[c]⟩) H
theorem af:pG X (zE X.K):=by
 unfold pG at *
 exact by
  intro value slice pins s σ H x y v u Q I rx ry h hs
  obtain ⟨p,xs,i,z,rfl,rfl,hq,he,q⟩:=h
  cases rx
  obtain ⟨t,rfl⟩:=ry
  obtain ⟨ai,r,pl,hz⟩:=I.list hq
  obtain ⟨j,h1,h2,h3,h4,h5⟩:=mq he
  obtain ⟨w,ew,rw'⟩:=r.get h2
  have hl:=r.length
  have hn:=jH
  have fin:EP X pins σ Q w s:=⟨z,H,I,rw',q⟩
  by_cases h0:0 ≤ i
  ·have hj:i.toNat = j:=by
    rw [seqIndex_of h0 h5] at h1
    exact Option.some.inj h1
   exact item_listR pl.isList h0 (by omega) (by rw [hj]; simpa using ew) fin hs
  ·have hj:(i + (ai.toArray.size:Int)).toNat = j:=by
    rw [seqIndex_neg (by omega) h4] at h1
    rw [List.size_toArray,← hl]
    exact Option.some.inj h1
   exact subscriptTail_builtinR (x:=w) pl.isList.typeIs slot_list_getitem.lookup
    (wpAny_getItem_list_neg (Q:=fun r s'=>r = w ∧ EP X pins σ Q r s') pl.isList (by omega) (by rw [List.size_toArray] <;> omega) (by omega) (by rw [hj]; simpa using ew) ⟨rfl,fin⟩) hs
theorem bP:pG X (zH X.K):=by
 unfold pG at *
 exact by
  intro value slice pins s σ H x y v u Q I rx ry h hs
  obtain ⟨p,xs,i,z,rfl,rfl,hq,he,q⟩:=h
  cases rx
  obtain ⟨t,rfl⟩:=ry
  obtain ⟨ai,r,pl,hz⟩:=I.tuple hq
  obtain ⟨j,h1,h2,h3,h4,h5⟩:=mq he
  obtain ⟨w,ew,rw'⟩:=r.get h2
  have hl:=r.length
  have hn:=jH
  have fin:EP X pins σ Q w s:=⟨z,H,I,rw',q⟩
  exact subscriptTail_builtinR (x:=w) pl.typeIs slot_tuple_getitem.lookup
   (getItem_tuple (j:=j) (Q:=fun r s'=>r = w ∧ EP X pins σ Q r s') pl (by omega) (by omega) (by rw [List.size_toArray,← hl]; exact h1) (by simpa using ew) ⟨rfl,fin⟩) hs
theorem wR:pG X zV:=by
 unfold pG at *
 exact by
  intro value slice pins s σ H x y v u Q I rx ry h hs
  obtain ⟨z,i,c,rfl,rfl,hz,he,q⟩:=h
  obtain ⟨t,rfl⟩:=rx
  obtain ⟨t',rfl⟩:=ry
  obtain ⟨j,h1,h2,h3,h4,h5⟩:=mq he
  have hl:z.cps.toList.length = z.length:=by simp [Str.length]
  rw [hl] at h1 h4 h5
  have hn:=jH
  exact tail_any (typeIs_str s z t) slot_str_getitem.lookup (getItem_str (c:=c) (by
   have e1:decide (i < -(2 ^ 63:Int)) = false:=decide_eq_false (by omega)
   have e2:decide (i ≥ 2 ^ 63) = false:=decide_eq_false (by omega)
   rw [e1,e2,Bool.or_false]) (by rw [h1]; simpa using h2) ⟨.str ⟨#[c]⟩,H,I.tok _,⟨_,rfl⟩,q⟩) hs
theorem Inv.lst {pins:List (Addr × Obj)} {σ:St} {H:Hp} {s:Shared} {p:Addr} {xs:List V} (I:Inv X pins σ H s) (h:H p = some (.lst xs)) :
  ∃ (ai:List Value) (n:Nat),Vals xs ai ∧ s.heap.get? p = some { cls:=.type "list",data:=.seq ai.toArray n } ∧ xs.length ≤ sizeLine:=by
 obtain ⟨z,ai,n,r,e⟩:=I.hok p _ h
 exact ⟨ai,n,r,e,z⟩
theorem mZ (lo hi:Option Int) (n:Nat):(sliceBounds lo hi none n).1 = ((HT.dG n 0 lo:Nat):Int) ∧ (sliceBounds lo hi none n).2.1 = ((HT.dG n n hi:Nat):Int) ∧ (sliceBounds lo hi none n).2.2 = 1:=by
 refine ⟨?_,?_,rfl⟩
 ·cases lo with
  | none=>simp [sliceBounds,HT.dG]
  | some i =>
   simp only [sliceBounds,HT.dG,Option.getD_none,show (1:Int) > 0 by decide,if_true]
   by_cases h:i < 0
   ·simp only [h,if_true] <;> omega
   ·simp only [h,if_false] <;> omega
 ·cases hi with
  | none=>simp [sliceBounds,HT.dG]
  | some i =>
   simp only [sliceBounds,HT.dG,Option.getD_none,show (1:Int) > 0 by decide,if_true]
   by_cases h:i < 0
   ·simp only [h,if_true] <;> omega
   ·simp only [h,if_false] <;> omega
theorem lJ (ai:List Value) (lo hi:Option Int):slicePick ai.toArray lo hi none = ((ai.drop (HT.dG ai.length 0 lo)).take (HT.dG ai.length ai.length hi - HT.dG ai.length 0 lo)).toArray:=by
 obtain ⟨h1,h2,h3⟩:=mZ lo hi ai.toArray.size
 unfold slicePick
 rw [h1,h2,h3]
 simp only [sliceRange_one,pick_run,List.size_toArray] <;> rfl
def zc (K:PySem.W.Frag):V → Option Int → Option Int → Hp → VK → Prop:=fun x lo hi H Q=>∃ a xs,x = .ref a ∧ ao K H a xs ∧ ∀ p,H p = none → Q (.ref p) (upd H p (.lst (iP xs lo hi)))
theorem mr:tm X (zc X.K):=by
 unfold tm at *
 exact by
  intro pins s σ H x v vl vu lo hi sl Q I rx hs pl pu h
  obtain ⟨a,xs,rfl,hx,q⟩:=h
  cases rx
  obtain ⟨ai,r,ht,hz⟩:=I.list hx
  have hlen:=r.length
  refine ⟨"list",_,slot_list_getitem.lookup,ht.isList.typeIs,?_⟩
  refine wpAny_getItem_list_slice ht.isList hs pl pu .none (by simp) ?_ (by rw [List.size_toArray] <;> omega)
  rw [lJ,← hlen]
  refine ⟨.ref s.heap.objs.size,_,I.laid (t':=s.toks) (o:=.lst (iP xs lo hi)) (fun b ob q=>Heap.get?_push_of_some _ q) (Nat.le_refl _) ?_,rfl,q _ (I.hok.fresh (Nat.le_refl _))⟩
  exact ⟨Nat.le_trans (jW xs lo hi) hz,_,0,(r.drop (HT.dG xs.length 0 lo)).take (HT.dG xs.length xs.length hi - HT.dG xs.length 0 lo),Heap.get?_push_size _ rfl⟩
def bq:V → Bool
 | .bA=>true
 | .bl _=>true
 | .int _=>true
 | .str _=>true
 | _=>false
def iS:V → V → Bool
 | .bA,.bA=>true
 | .bl a,.bl b=>a == b
 | .bl a,.int b=>(if a then 1 else 0) == b
 | .int a,.bl b=>a == (if b then 1 else 0)
 | .int a,.int b=>a == b
 | .str a,.str b=>a == b
 | _,_=>false
theorem og {A:Around} {s:Shared} {y x:V} {u v:Value} (ry:RelV y u) (rx:RelV x v) (fy:bq y = true) (fx:bq x = true):SeqAt.EqAt A s u v (iS y x):=by
 cases y with
 | bA =>
  cases ry
  cases x with
  | bA=>cases rx; exact SeqAt.EqAt.same _
  | bl b=>cases rx; exact SeqAt.EqAt.none_bool b
  | int b=>obtain ⟨t,rfl⟩:=rx; exact SeqAt.EqAt.none_int b t
  | str b=>obtain ⟨t,rfl⟩:=rx; exact SeqAt.EqAt.none_str b t
  | _=>exact absurd (show false = true from fx) Bool.false_ne_true
 | bl a =>
  cases ry
  cases x with
  | bA=>cases rx; exact SeqAt.EqAt.bool_none a
  | bl b=>cases rx; exact SeqAt.EqAt.bool_bool a b
  | int b=>obtain ⟨t,rfl⟩:=rx; exact SeqAt.EqAt.bool_int a b t
  | str b=>obtain ⟨t,rfl⟩:=rx; exact SeqAt.EqAt.bool_str a b t
  | _=>exact absurd (show false = true from fx) Bool.false_ne_true
 | int a =>
  obtain ⟨t',rfl⟩:=ry
  cases x with
  | bA=>cases rx; exact SeqAt.EqAt.int_none a t'
  | bl b=>cases rx; exact SeqAt.EqAt.int_bool a t' b
  | int b=>obtain ⟨t,rfl⟩:=rx; exact SeqAt.EqAt.int_int a t' b t
  | str b=>obtain ⟨t,rfl⟩:=rx; exact SeqAt.EqAt.int_str a t' b t
  | _=>exact absurd (show false = true from fx) Bool.false_ne_true
 | str a =>
  obtain ⟨t',rfl⟩:=ry
  cases x with
  | bA=>cases rx; exact SeqAt.EqAt.str_none a t'
  | bl b=>cases rx; exact SeqAt.EqAt.str_bool a t' b
  | int b=>obtain ⟨t,rfl⟩:=rx; exact SeqAt.EqAt.str_int a t' b t
  | str b=>obtain ⟨t,rfl⟩:=rx; exact SeqAt.EqAt.str_str a t' b t
  | _=>exact absurd (show false = true from fx) Bool.false_ne_true
 | _=>exact absurd (show false = true from fy) Bool.false_ne_true
def pQ (x:V) (u:Value):Bool:=match u with
 | .none=>iS .bA x
 | .bool b=>iS (.bl b) x
 | .int i _=>iS (.int i) x
 | .str z _=>iS (.str z) x
 | _=>false
theorem si {x y:V} {u:Value} (r:RelV y u) (f:bq y = true):pQ x u = iS y x:=by
 cases y with
 | bA=>cases r; rfl
 | bl b=>cases r; rfl
 | int i=>obtain ⟨t,rfl⟩:=r; rfl
 | str z=>obtain ⟨t,rfl⟩:=r; rfl
 | _=>exact absurd (show false = true from f) Bool.false_ne_true
theorem iV {x:V}:∀ {xs:List V} {us:List Value},Vals xs us → xs.all bq = true → us.any (pQ x) = xs.any fun y=>iS y x
 | _,_,.nil,_=>rfl
 | y :: xs,u :: us,.cons r t,f=>by
  rw [List.all_cons,Bool.and_eq_true] at f
  rw [List.any_cons,List.any_cons,si r f.1,iV t f.2]
theorem gX {A:Around} {s:Shared} {x:V} {v:Value} (rx:RelV x v) (fx:bq x = true):∀ {xs:List V} {us:List Value},Vals xs us → xs.all bq = true → ∀ u ∈ us,SeqAt.EqAt A s u v (pQ x u)
 | _,_,.nil,_=>fun u hu=>by cases hu
 | y :: xs,u :: us,.cons r t,f=>fun u' hu=>by
  rw [List.all_cons,Bool.and_eq_true] at f
  rcases List.mem_cons.mp hu with rfl | hu
  ·rw [si r f.1]; exact og r rx f.1 fx
  ·exact gX rx fx t f.2 u' hu
def vo (x:V) (xs:List V):Bool:=xs.any fun y=>iS y x
def zq (K:PySem.W.Frag) (neg:Bool):R2:=fun x y H Q=>∃ p xs,y = .ref p ∧ (ao K H p xs ∨ bz K H p xs) ∧ bq x = true ∧ xs.all bq = true ∧ Q (.bl (if neg then !vo x xs else vo x xs)) H
theorem mH:cY X (compareOp .In) (zq X.K false):=by
 unfold cY at *
 exact by
  intro pins s σ H x y v u Q I rx ry h
  obtain ⟨p,xs,rfl,hq,fx,fs,q⟩:=h
  cases ry
  rcases hq with hq | hq
  ·obtain ⟨ai,r,pl,hz⟩:=I.list hq
   refine SeqAt.in_listAt (pQ x) pl.isList (fun w hw=>gX rx fx r fs w (by simpa using hw)) ⟨.bl _,H,I,rfl,?_⟩
   rw [show ai.toArray.any (pQ x) = ai.any (pQ x) by simp,iV r fs]
   exact q
  ·obtain ⟨ai,r,pl,hz⟩:=I.tuple hq
   refine SeqAt.in_tupleAt (pQ x) pl (fun w hw=>gX rx fx r fs w (by simpa using hw)) ⟨.bl _,H,I,rfl,?_⟩
   rw [show ai.toArray.any (pQ x) = ai.any (pQ x) by simp,iV r fs]
   exact q
theorem mQ:cY X (compareOp .NotIn) (zq X.K true):=by
 unfold cY at *
 exact by
  intro pins s σ H x y v u Q I rx ry h
  obtain ⟨p,xs,rfl,hq,fx,fs,q⟩:=h
  cases ry
  rcases hq with hq | hq
  ·obtain ⟨ai,r,pl,hz⟩:=I.list hq
   refine SeqAt.notIn_listAt (pQ x) pl.isList (fun w hw=>gX rx fx r fs w (by simpa using hw)) ⟨.bl _,H,I,rfl,?_⟩
   rw [show ai.toArray.any (pQ x) = ai.any (pQ x) by simp,iV r fs]
   exact q
  ·obtain ⟨ai,r,pl,hz⟩:=I.tuple hq
   refine SeqAt.notIn_tupleAt (pQ x) pl (fun w hw=>gX rx fx r fs w (by simpa using hw)) ⟨.bl _,H,I,rfl,?_⟩
   rw [show ai.toArray.any (pQ x) = ai.any (pQ x) by simp,iV r fs]
   exact q
theorem bD:bW X (.builtin "len") (fun xs H Q=>∃ p ys,xs = [.ref p] ∧ (ao X.K H p ys ∨ bz X.K H p ys) ∧ Q (.int ys.length) H):=by
 unfold bW at *
 exact by
  intro pins s σ H xs us Q I r h
  obtain ⟨p,ys,rfl,hq,q⟩:=h
  obtain ⟨u,rfl,rx⟩:=vals1 r
  cases rx
  have hn:=jH
  rcases hq with hq | hq
  ·obtain ⟨ai,r',pl,hz⟩:=I.list hq
   have hlen:=r'.length
   exact Calls.call_len_list pl.isList (by simp only [List.size_toArray] <;> omega) ⟨.int ys.length,H,I.tok _,⟨s.toks + 1,by rw [List.size_toArray,hlen]⟩,q⟩
  ·obtain ⟨ai,r',pl,hz⟩:=I.tuple hq
   have hlen:=r'.length
   exact len_tuple pl (by simp only [List.size_toArray] <;> omega) ⟨.int ys.length,H,I.tok _,⟨s.toks + 1,by rw [List.size_toArray,hlen]⟩,q⟩
theorem m5:bW X (.builtin "len") (fun xs H Q=>∃ z,xs = [.str z] ∧ z.length ≤ sizeLine ∧ Q (.int z.length) H):=by
 unfold bW at *
 exact by
  intro pins s σ H xs us Q I r h
  obtain ⟨z,rfl,hz,q⟩:=h
  obtain ⟨u,rfl,t,rfl⟩:=vals1 r
  have hn:=jH
  exact len_str (by omega) ⟨.int z.length,H,I.tok _,⟨_,rfl⟩,q⟩
theorem bW.or {f:Value} {r r':List V → Hp → VK → Prop} (h:bW X f r) (h':bW X f r'):bW X f (fun xs H Q=>r xs H Q ∨ r' xs H Q):=by
 unfold bW at *
 exact by
  intro pins s σ H xs us Q I rs q
  rcases q with q | q
  ·exact h pins s σ H xs us Q I rs q
  ·exact h' pins s σ H xs us Q I rs q
theorem i3:bW X (.type "list") (fun xs H Q=>∃ p ys,xs = [.ref p] ∧ (ao X.K H p ys ∨ bz X.K H p ys) ∧ ∀ l,H l = none → Q (.ref l) (upd H l (.lst ys))):=by
 unfold bW at *
 exact by
  intro pins s σ H xs us Q I r h
  obtain ⟨p,ys,rfl,hq,q⟩:=h
  obtain ⟨u,rfl,rx⟩:=vals1 r
  cases rx
  have fin:∀ (ai:List Value),Vals ys ai → ys.length ≤ sizeLine → ∀ (h':Heap) (c':Nat),(∀ b o',s.heap.get? b = some o' → h'.get? b = some o') →
    h'.get? s.heap.objs.size = some { cls:=.type "list",dict:=none,data:=.seq ai.toArray c',slots:=#[] } → EP X pins σ Q (.ref s.heap.objs.size) { s with heap:=h' }:=fun ai r' hz h' c' kp e =>
   ⟨.ref s.heap.objs.size,_,I.laid (t':=s.toks) kp (Nat.le_refl _) (show bL X.prog X.w _ h' _ (.lst ys) from ⟨hz,ai,c',r',e⟩),rfl,q _ (I.hok.fresh (Nat.le_refl _))⟩
  rcases hq with hq | hq
  ·obtain ⟨ai,r',pl,hz⟩:=I.list hq
   have hlen:=r'.length
   obtain ⟨o,ho,hc,n,hd⟩:=pl.isList
   exact call_list_seq p (.inl rfl) ho hc hd (fun h' c' kp e=>fin ai r' hz h' c' kp e) (by simp only [List.size_toArray] <;> omega)
  ·obtain ⟨ai,r',pl,hz⟩:=I.tuple hq
   have hlen:=r'.length
   obtain ⟨o,ho,hc,n,hd⟩:=pl
   exact call_list_seq p (.inr rfl) ho hc hd (fun h' c' kp e=>fin ai r' hz h' c' kp e) (by simp only [List.size_toArray] <;> omega)
theorem iH:bW X (.type "tuple") (fun xs H Q=>∃ p ys,xs = [.ref p] ∧ ((ao X.K H p ys ∧ ∀ l,H l = none → Q (.ref l) (upd H l (.tup ys))) ∨ (bz X.K H p ys ∧ Q (.ref p) H))):=by
 unfold bW at *
 exact by
  intro pins s σ H xs us Q I r h
  obtain ⟨p,ys,rfl,h⟩:=h
  obtain ⟨u,rfl,rx⟩:=vals1 r
  cases rx
  rcases h with ⟨hq,q⟩ | ⟨hq,q⟩
  ·obtain ⟨ai,r',pl,hz⟩:=I.list hq
   have hlen:=r'.length
   refine call_tuple_list pl.isList (fun h' kp=>?_) (by simp only [List.size_toArray] <;> omega)
   have I1:Inv X pins σ H { s with heap:=h' }:=I.kept (t':=s.toks) kp
   have I2:Inv X pins σ (upd H h'.objs.size (.tup ys)) { s with heap:=h'.push { cls:=.type "tuple",data:=.seq ai.toArray } } :=
    I1.laid (t':=s.toks) (fun b o e=>Heap.get?_push_of_some _ e) (Nat.le_refl _) (show bL X.prog X.w _ _ _ (.tup ys) from ⟨hz,ai,r',IsTup.new _ _⟩)
   exact ⟨.ref h'.objs.size,_,I2,rfl,q _ (I1.hok.fresh (Nat.le_refl _))⟩
  ·obtain ⟨ai,r',pl,hz⟩:=I.tuple hq
   exact call_tuple_same pl ⟨.ref p,H,I,rfl,q⟩
def zw (K:PySem.W.Frag) (T:String) (x:V) (H:Hp):Prop:=match x with
 | .str _=>T = "str"
 | .int _=>T = "int"
 | .ref p=>(T = "list" ∧ ∃ xs,ao K H p xs) ∨ (T = "tuple" ∧ ∃ o,K.lookup p = some o ∧ o.cls = .type "tuple" ∧ o.dict = none) ∨
   (T = "dict" ∧ ((∃ kvs,H p = some (.dK kvs)) ∨ ∃ kvs,H p = some (.dT kvs))) ∨ (T = "set" ∧ ∃ S n,H p = some (.set S n))
 | _=>False
theorem wL {pins:List (Addr × Obj)} {σ:St} {H:Hp} {s:Shared} {T:String} {x:V} {v:Value} (I:Inv X pins σ H s) (r:RelV x v) (ty:zw X.K T x H) :
  s.TypeIs v T ∧ ∀ a,v = .ref a → ∃ ob,s.heap.get? a = some ob ∧ ob.dict = none:=by
 cases x with
 | str z =>
  obtain ⟨t,rfl⟩:=r
  cases (show T = "str" from ty)
  exact ⟨typeIs_str s z t,fun _ e=>nomatch e⟩
 | int i =>
  obtain ⟨t,rfl⟩:=r
  cases (show T = "int" from ty)
  exact ⟨typeIs_int s i t,fun _ e=>nomatch e⟩
 | ref p =>
  cases r
  rcases ty with ⟨rfl,xs,hq⟩ | ⟨rfl,o,hk,hc,hd⟩ | ⟨rfl,hk⟩ | ⟨rfl,S,n,hk⟩
  ·obtain ⟨ai,_,pl,_⟩:=I.list hq
   refine ⟨pl.isList.typeIs,fun a e=>?_⟩
   cases e
   obtain ⟨o,n,e,c,hd,_⟩:=pl
   exact ⟨o,e,hd⟩
  ·refine ⟨⟨o,I.du p o hk,hc⟩,fun a e=>?_⟩
   cases e
   exact ⟨o,I.du _ o hk,hd⟩
  ·have z:∃ o,s.heap.get? p = some o ∧ o.ExactDict:=by
    rcases hk with ⟨kvs,hk⟩ | ⟨kvs,hk⟩
    ·obtain ⟨_,_,_,_,o,_,_,e,ex,_⟩:=I.hok p _ hk
     exact ⟨o,e,ex⟩
    ·obtain ⟨_,_,_,_,o,_,_,e,ex,_⟩:=I.hok p _ hk
     exact ⟨o,e,ex⟩
   obtain ⟨o,e,ex⟩:=z
   refine ⟨⟨o,e,ex.1⟩,fun a e2=>?_⟩
   cases e2
   exact ⟨o,e,ex.2.1⟩
  ·obtain ⟨o,_,_,_,e,ex,_⟩:=I.hok p _ hk
   refine ⟨⟨o,e,ex.1⟩,fun a e2=>?_⟩
   cases e2
   exact ⟨o,e,ex.2.1⟩
 | _=>exact False.elim ty
def AE (K:PySem.W.Frag) (T:String) (r:V → List V → Hp → VK → Prop) (to:TE) (t:TA):TE:=fun σ H Q=>to σ H fun x H1=>zw K T x H1 ∧ t σ H1 fun xs H2=>r x xs H2 Q
variable {o e:Expr} {es:List Expr} {to:TE} {t:TA} {name:Str} {apos cpos:Pos} {T id:String} {r:V → List V → Hp → VK → Prop}
theorem iU (pa:PlainAttrs T) (slot:Slot T name id) (hty:typeOf (.builtin id) = pure (.type "method_descriptor")) (hm:uJ X id r) (ho:PE X o to) (ha:PA X (e :: es) t)
  (hbase:attributeBase o name X.env (eval o X.env) = eval o X.env:=by rfl)
  (hfew:((backTo cpos (starEach (e :: es) X.env)).all (fun x=>!x.1) && (backToKw cpos (keywordEach [] X.env)).all (fun x=>x.1.isSome)
   && decide ((e :: es).length + ([]:List Keyword).length + (if ([]:List Keyword).isEmpty then 0 else 1) < 30)) = true:=by rfl)
  (hline:(apos.endLine == cpos.line) = true:=by rfl) (hs:starEach (e :: es) X.env = (false,eval e X.env) :: starEach es X.env:=by rfl) (hplain:(backTo cpos (starEach es X.env)).any (·.1) = false:=by rfl) :
  PE X (.Call (.Attribute o name apos) (e :: es) [] cpos) (AE X.K T r to t):=by
 unfold PE at *; unfold PA at *; unfold uJ at *
 exact by
  intro pins s σ H Q I h
  refine wpAny_Call_method_late hbase hfew hline rfl (bX (ho pins s σ H _ I h) fun v s1 ⟨x,H1,I1,r1,ty,q1⟩=>?_)
  obtain ⟨h1,h2⟩:=wL I1 r1 ty
  refine ⟨T,id,pa,slot,hty,h1,h2,?_⟩
  have hA:=ha cpos pins s1 σ H1 _ I1 q1
  rw [hs] at hA ⊢
  refine Calls.callWith_builtin (by show (false || (backTo cpos (starEach es X.env)).any (·.1)) = false; rw [hplain] <;> rfl) (Calls.evalArgs_plain ?_)
  exact bX hA fun us s2 ⟨vs,H2,I2,r2,q2⟩=>hm pins s2 σ H2 x vs v us Q I2 r1 r2 q2
/- xs.append(e),list.index on a module's tuple .. are uJ facts of 06m -/
end
end L2
namespace L2
open PySem PySem.Spec PyProof.Rows
@[irreducible] def mR (X:Cx) (id:String) (r:V → List V → Hp → VK → Prop):Prop :=
 ∀ (pins:List (Addr × Obj)) (s:Shared) (σ:St) (H:Hp) (x:V) (xs:List V) (v:Value) (us:List Value) (Q:VK),Inv X pins σ H s → RelV x v → Vals xs us → r x xs H Q →
  wpAny (model X.prog X.w) X.A (call (.builtin id) (v :: us)) (EP X pins σ Q) X.xe s
theorem Vals.one:∀ {x:V} {us:List Value},Vals [x] us → ∃ u,us = [u] ∧ RelV x u
 | _,_,.cons r .nil=>⟨_,rfl,r⟩
theorem Vals.two:∀ {x y:V} {us:List Value},Vals [x,y] us → ∃ u v,us = [u,v] ∧ RelV x u ∧ RelV y v
 | _,_,_,.cons r (.cons q .nil)=>⟨_,_,rfl,r,q⟩
theorem Vals.eraseIdx:∀ {xs:List V} {us:List Value} (i:Nat),Vals xs us → Vals (xs.eraseIdx i) (us.eraseIdx i)
 | _,_,_,.nil=>.nil
 | _,_,0,.cons _ t=>t
 | _,_,i + 1,.cons r t=>.cons r (Vals.eraseIdx i t)
theorem Vals.reverse {xs:List V} {us:List Value} (h:Vals xs us):Vals xs.reverse us.reverse:=by
 induction h with
 | nil=>exact .nil
 | cons r t ih=>rw [List.reverse_cons,List.reverse_cons]; exact Vals.append ih (.cons r .nil)
theorem Vals.rep {xs:List V} {us:List Value} (h:Vals xs us):∀ k:Nat,Vals (List.replicate k xs).flatten (List.replicate k us).flatten
 | 0=>.nil
 | k + 1=>by
  rw [List.replicate_succ,List.replicate_succ,List.flatten_cons,List.flatten_cons]
  exact Vals.append h (Vals.rep h k)
theorem lQ {α:Type}:∀ (l:List α) (i:Nat),(l.eraseIdx i).length ≤ l.length
 | [],_=>Nat.le_refl _
 | _ :: _,0=>Nat.le_succ _
 | _ :: r,i + 1=>Nat.succ_le_succ (lQ r i)
theorem foldl_rep (ai:List Value):∀ (k:Nat) (acc:List Value),
  List.foldl (fun x1 x2=>x1 ++ x2) acc.toArray (List.replicate k ai.toArray) = (acc ++ (List.replicate k ai).flatten).toArray
 | 0,acc=>by simp
 | k + 1,acc=>by
  have e:acc.toArray ++ ai.toArray = (acc ++ ai).toArray:=by simp
  have e2:(acc ++ ai) ++ (List.replicate k ai).flatten = acc ++ (List.replicate (k + 1) ai).flatten:=by
   rw [List.replicate_succ,List.flatten_cons,List.append_assoc]
  rw [← e2,← foldl_rep ai k (acc ++ ai),← e,List.replicate_succ,List.foldl_cons]
section
variable {X:Cx} {pins:List (Addr × Obj)} {σ:St} {H:Hp} {s:Shared} {l b:Addr} {xs ys zs:List V}
theorem Inv.wA {ai its':List Value} {n:Nat} {f:Array Value → Array Value} {t':Nat} (I:Inv X pins σ H s) (hH:H l = some (.lst xs))
  (e:s.heap.get? l = some { cls:=.type "list",data:=.seq ai.toArray n }) (hf:f ai.toArray = its'.toArray) (hv:Vals ys its') (hz:ys.length ≤ sizeLine) :
  Inv X pins σ (upd H l (.lst ys)) { s with heap:=s.heap.update l (Obj.mapSeq f),toks:=t' }:=by
 have q:=PySem.IsL.update e f
 rw [hf] at q
 refine I.write (x:=l) (e:=l) (by rw [hH]; exact trivial) (.inl rfl) (fun b' u hb hu=>(Heap.get?_update_other s.heap (Obj.mapSeq f) (Ne.symm hb)).trans hu) ⟨_,q⟩ ?_
 exact ⟨hz,its',_,hv,q⟩
theorem Inv.wC {ai:List Value} {t':Nat} (I:Inv X pins σ H s) (hv:Vals ys ai) (hz:ys.length ≤ sizeLine) :
  Inv X pins σ (upd H s.heap.objs.size (.lst ys)) { s with heap:=s.heap.push { cls:=.type "list",data:=.seq ai.toArray },toks:=t' } :=
 I.laid (fun _ _ q=>Heap.get?_push_of_some _ q) (Nat.le_refl _) ⟨hz,ai,0,hv,Heap.get?_push_size _ rfl⟩
theorem Inv.fresh (I:Inv X pins σ H s):H s.heap.objs.size = none:=I.hok.fresh (Nat.le_refl _)
theorem Inv.ql (I:Inv X pins σ H s) (hH:H l = some (.lst xs)):xs.length ≤ sizeLine ∧ ∃ (ai:List Value) (n:Nat),Vals xs ai ∧ xs.length = ai.length ∧ s.heap.get? l = some { cls:=.type "list",data:=.seq ai.toArray n }:=by
 obtain ⟨z,ai,n,r,e⟩:=I.hok l _ hH
 exact ⟨z,ai,n,r,r.length,e⟩
theorem tX {n:Nat} (h:n ≤ sizeLine):Builtin.List.listTooLong n = false:=by
 unfold Builtin.List.listTooLong
 exact decide_eq_false (by omega)
end
section
variable {X:Cx}
def uN:V → List V → Hp → VK → Prop:=fun x vs H Q=>∃ l xs y,x = .ref l ∧ vs = [y] ∧ H l = some (.lst xs) ∧ xs.length < sizeLine ∧ Q .bA (upd H l (.lst (xs ++ [y])))
theorem dC:mR X "list.append" uN:=by
 unfold mR at *
 exact by
  intro pins s σ H x vs v us Q I rx rv h
  obtain ⟨l,xs,y,rfl,rfl,hH,hz,q⟩:=h
  cases rx
  obtain ⟨u,rfl,ru⟩:=rv.one
  obtain ⟨z,ai,n,r,hl,e⟩:=I.ql hH
  refine call_meets F.slot_list_append ⟨_,e,rfl⟩ F.entry_list_append (F.args_list_append_2 _ _) (PySem.list_append l ai.toArray n u (by rw [List.size_toArray]; omega)) ⟨e,?_⟩
  refine ⟨.bA,_,I.wA (its':=ai ++ [u]) hH e (by simp) (r.append (.cons ru .nil)) ?_,rfl,q⟩
  rw [List.length_append,List.length_singleton]
  omega
def xW:V → List V → Hp → VK → Prop:=fun x vs H Q=>∃ l xs i k y,x = .ref l ∧ vs = [.int i] ∧ H l = some (.lst xs) ∧ -(2 ^ 63) ≤ i ∧ i < 2 ^ 63 ∧ seqIndex? i xs.length = some k ∧ xs[k]? = some y ∧ Q y (upd H l (.lst (xs.eraseIdx k)))
theorem sM:mR X "list.pop" xW:=by
 unfold mR at *
 exact by
  intro pins s σ H x vs v us Q I rx rv h
  obtain ⟨l,xs,i,k,y,rfl,rfl,hH,h1,h2,hk,hy,q⟩:=h
  cases rx
  obtain ⟨u,rfl,ru⟩:=rv.one
  obtain ⟨t,rfl⟩:=ru
  obtain ⟨z,ai,n,r,hl,e⟩:=I.ql hH
  obtain ⟨w,hw,rw'⟩:=r.get hy
  refine call_meets F.slot_list_pop ⟨_,e,rfl⟩ F.entry_list_pop (F.args_list_pop_2 _ _)
   (MeetsSeq.list_pop_at l ai.toArray n i t k w (fitsIndex_both h1 h2) (by rw [List.size_toArray,← hl]; exact hk) (by rw [← Array.getElem?_toList]; exact hw) (by rw [List.size_toArray]; omega)) ⟨e,?_⟩
  refine ⟨y,_,I.wA (its':=ai.eraseIdx k) hH e ?_ (r.eraseIdx k) ?_,rw',q⟩
  ·show ai.toArray.eraseIdxIfInBounds k = (ai.eraseIdx k).toArray
   rw [List.eraseIdxIfInBounds_toArray]
  ·have:=lQ xs k
   omega
def zh:R2:=fun x y H Q=>∃ l b xs zs,x = .ref l ∧ y = .ref b ∧ H l = some (.lst xs) ∧ H b = some (.lst zs) ∧ xs.length + zs.length ≤ sizeLine ∧ ∀ p,H p = none → Q (.ref p) (upd H p (.lst (xs ++ zs)))
theorem jR:cY X (binaryOp .Add) zh:=by
 unfold cY at *
 exact by
  intro pins s σ H x y v u Q I rx ry h
  obtain ⟨l,b,xs,zs,rfl,rfl,hH,hB,hz,q⟩:=h
  cases rx
  cases ry
  obtain ⟨z,ai,n,r,hl,e⟩:=I.ql hH
  obtain ⟨z2,its2,n2,r2,hl2,e2⟩:=I.ql hB
  refine PySem.P.add_list e e2 ?_ (by rw [List.size_toArray,List.size_toArray]; omega)
  have ea:ai.toArray ++ its2.toArray = (ai ++ its2).toArray:=by simp
  rw [ea]
  exact ⟨.ref _,_,I.wC (t':=s.toks) (r.append r2) (by rw [List.length_append]; omega),rfl,q _ I.fresh⟩
def zA:R2:=fun x y H Q=>∃ l k xs,x = .ref l ∧ y = .int k ∧ H l = some (.lst xs) ∧ -(2 ^ 63) ≤ k ∧ k < 2 ^ 63 ∧ xs.length * k.toNat ≤ sizeLine ∧
 ∀ p,H p = none → Q (.ref p) (upd H p (.lst (List.replicate k.toNat xs).flatten))
theorem len_rep {α:Type} (xs:List α) (k:Nat):(List.replicate k xs).flatten.length = k * xs.length:=by
 induction k with
 | zero=>simp
 | succ k ih=>rw [List.replicate_succ,List.flatten_cons,List.length_append,ih,Nat.succ_mul,Nat.add_comm]
theorem wq:cY X (binaryOp .Mult) zA:=by
 unfold cY at *
 exact by
  intro pins s σ H x y v u Q I rx ry h
  obtain ⟨l,k,xs,rfl,rfl,hH,h1,h2,hz,q⟩:=h
  cases rx
  obtain ⟨t,rfl⟩:=ry
  obtain ⟨z,ai,n,r,hl,e⟩:=I.ql hH
  have hlen:ai.toArray.size * k.toNat ≤ sizeLine:=by rw [List.size_toArray,← hl]; exact hz
  have hcap:¬ ai.toArray.size * k.toNat > (2 ^ 63 - 1) / 8:=by
   have:(sizeLine:Nat) ≤ (2 ^ 63 - 1) / 8:=by decide
   omega
  have hfit:¬ (!Builtin.List.listFitsIndex k) = true:=by
   rw [fitsIndex_both h1 h2]
   exact Bool.false_ne_true
  have hlong:¬ Builtin.List.listTooLong (ai.toArray.size * k.toNat) = true:=by
   rw [tX hlen]
   exact Bool.false_ne_true
  have hnew:List.foldl (fun x1 x2=>x1 ++ x2) #[] (List.replicate (if ai.toArray.isEmpty = true then 0 else k.toNat) ai.toArray) = (List.replicate k.toNat ai).flatten.toArray:=by
   have f0:∀ m:Nat,List.foldl (fun x1 x2=>x1 ++ x2) #[] (List.replicate m ai.toArray) = (List.replicate m ai).flatten.toArray:=fun m=>by
    have:=foldl_rep ai m []
    rw [List.nil_append] at this
    exact this
   rw [f0]
   cases ai with
   | nil=>simp
   | cons a r'=>rw [if_neg (by simp)]
  refine wpAny_binaryOp_repeat_ref (T := "list") (U := "int") (by decide) ⟨_,e,rfl⟩ (fun s'=>typeIs_int s' k t) noFill_list_mul F.fills_int_mul F.slot_int_rmul repeat_list F.slot_int_index.lookup
   (call_meets F.slot_int_rmul (typeIs_int s k t) F.entry_int_rmul (F.args_int_rmul_2 _ _) (int___rmul___int_list k t l ai.toArray n)
    ⟨e,rfl,⟨_,e,rfl⟩,call_meets F.slot_list_mul ⟨_,e,rfl⟩ F.entry_list_mul (F.args_list_mul_2 _ _) (AutoListH.list___mul___list_int_3 l ai.toArray n k t hfit hcap hlong) ⟨e,?_⟩⟩)
  rw [hnew]
  exact ⟨.ref _,_,I.wC (t':=s.toks) (r.rep k.toNat) (by rw [len_rep,Nat.mul_comm]; exact hz),rfl,q _ I.fresh⟩
end
section
variable {prog:Program} {w:World} {A:Around} {E:Value → Shared → Prop} {s:Shared}
set_option maxRecDepth 100000 in
end
section
variable {X:Cx}
end
end L2
namespace L2
open PySem PySem.Spec PyProof.Rows
section
variable {κ:Type} [DecidableEq κ]
def bS (kvs:List (κ × V)) (k:κ):Option V:=(kvs.find? fun kv=>decide (kv.1 = k)).map (·.2)
def putK (kvs:List (κ × V)) (k:κ) (v:V):List (κ × V) :=
 if (kvs.any fun kv=>decide (kv.1 = k)) = true then kvs.map (fun kv=>if kv.1 = k then (kv.1,v) else kv) else kvs ++ [(k,v)]
def vZ (kvs:List (κ × V)) (k:κ):List (κ × V):=kvs.filter fun kv=>decide (kv.1 ≠ k)
theorem bQ {p:κ × V} {r:List (κ × V)} {k:κ} (e:p.1 = k):bS (p :: r) k = some p.2:=by simp [bS,List.find?_cons,e]
theorem bI {p:κ × V} {r:List (κ × V)} {k:κ} (e:¬ p.1 = k):bS (p :: r) k = bS r k:=by simp [bS,List.find?_cons,e]
theorem eQ (k:κ):∀ kvs:List (κ × V),(kvs.any fun kv=>decide (kv.1 = k)) = (bS kvs k).isSome
 | []=>rfl
 | p :: r=>by
  rw [List.any_cons]
  by_cases e:p.1 = k
  ·simp only [bQ e,decide_eq_true e,Bool.true_or,Option.isSome_some]
  ·rw [bI e,decide_eq_false e,Bool.false_or]; exact eQ k r
theorem nZ (k j:κ) (y:V):∀ kvs:List (κ × V),bS (kvs.map fun kv=>if kv.1 = k then (kv.1,y) else kv) j = (bS kvs j).map fun x=>if j = k then y else x
 | []=>rfl
 | p :: r=>by
  have ih:=nZ k j y r
  rw [List.map_cons]
  by_cases h:p.1 = k
  ·rw [if_pos h]
   by_cases e:p.1 = j
   ·rw [bQ (p:=(p.1,y)) e,bQ e,Option.map_some,if_pos (e.symm.trans h)]
   ·rw [bI (p:=(p.1,y)) e,bI e,ih]
  ·rw [if_neg h]
   by_cases e:p.1 = j
   ·rw [bQ (p:=p) e,bQ e,Option.map_some,if_neg (fun z=>h (e.trans z))]
   ·rw [bI (p:=p) e,bI e,ih]
theorem mO (k j:κ) (y:V):∀ kvs:List (κ × V),bS kvs k = none → bS (kvs ++ [(k,y)]) j = if j = k then some y else bS kvs j
 | [],_=>by
  by_cases e:k = j
  ·rw [if_pos e.symm]; exact bQ (p:=(k,y)) e
  ·rw [if_neg (fun z=>e z.symm)]; exact bI (p:=(k,y)) e
 | p :: r,hn=>by
  rw [List.cons_append]
  have hk:¬ p.1 = k:=fun z=>by rw [bQ z] at hn; cases hn
  rw [bI hk] at hn
  have ih:=mO k j y r hn
  by_cases e:p.1 = j
  ·rw [bQ e,bQ e,if_neg (fun z=>hk (e.trans z))]
  ·rw [bI e,bI e,ih]
theorem sE (kvs:List (κ × V)) (k j:κ) (y:V):bS (putK kvs k y) j = if j = k then some y else bS kvs j:=by
 unfold putK
 by_cases a:(kvs.any fun kv=>decide (kv.1 = k)) = true
 ·rw [if_pos a,nZ]
  rw [eQ] at a
  by_cases e:j = k
  ·obtain ⟨x,hx⟩:=Option.isSome_iff_exists.mp a
   rw [if_pos e,e,hx,Option.map_some,if_pos rfl]
  ·rw [if_neg e]
   cases bS kvs j with
   | none=>rfl
   | some x=>rw [Option.map_some,if_neg e]
 ·rw [if_neg a]
  refine mO k j y kvs ?_
  rw [eQ] at a
  cases q:bS kvs k with
  | none=>rfl
  | some x=>rw [q] at a; exact (a rfl).elim
theorem j6 (kvs:List (κ × V)) (k:κ) (v:V):(putK kvs k v).length ≤ kvs.length + 1:=by
 unfold putK
 split
 ·rw [List.length_map]; omega
 ·rw [List.length_append,List.length_cons,List.length_nil]; omega
theorem fj {kvs:List (κ × V)} {k:κ} (v:V) (h:bS kvs k = none):putK kvs k v = kvs ++ [(k,v)]:=by
 unfold putK
 rw [eQ,h]
 exact if_neg (by decide)
theorem eP.iu {o:Option V} {u:Option Value} (r:eP o u):o.isSome = u.isSome:=by
 cases o with
 | none=>cases u with
  | none=>rfl
  | some _=>exact (show False from r).elim
 | some _=>cases u with
  | none=>exact (show False from r).elim
  | some _=>rfl
theorem eP.getD {o:Option V} {u:Option Value} {d:V} {d':Value} (r:eP o u) (rd:RelV d d'):RelV (o.getD d) (u.getD d'):=by
 cases o with
 | none=>cases u with
  | none=>exact rd
  | some _=>exact (show False from r).elim
 | some _=>cases u with
  | none=>exact (show False from r).elim
  | some _=>exact r
theorem KV.val {kvs:List (κ × V)} {vs:List (κ × Value)} (r:KV kvs vs) (k:κ):eP (bS kvs k) (valueAt vs k):=by
 unfold KV at r
 induction r with
 | nil=>exact True.intro
 | @cons p q ps qs h t ih =>
  obtain ⟨h1,h2⟩:=h
  by_cases e:p.1 = k
  ·have e':q.1 = k:=h1.symm.trans e
   have b:valueAt (q :: qs) k = some q.2:=by simp [valueAt,List.find?_cons,e']
   rw [bQ e,b]; exact h2
  ·have e':¬ q.1 = k:=fun z=>e (h1.trans z)
   have b:valueAt (q :: qs) k = valueAt qs k:=by simp [valueAt,List.find?_cons,e']
   rw [bI e,b]; exact ih
theorem KV.any {kvs:List (κ × V)} {vs:List (κ × Value)} (r:KV kvs vs) (k:κ):(kvs.any fun kv=>decide (kv.1 = k)) = vs.any fun kv=>decide (kv.1 = k):=by
 unfold KV at r
 induction r with
 | nil=>rfl
 | cons h t ih=>rw [List.any_cons,List.any_cons,ih,h.1]
theorem KV.wa {kvs:List (κ × V)} {vs:List (κ × Value)} (r:KV kvs vs) (k:κ) {y:V} {u:Value} (ry:RelV y u) :
  KV (kvs.map fun kv=>if kv.1 = k then (kv.1,y) else kv) (vs.map fun kv=>if kv.1 = k then (kv.1,u) else kv):=by
 unfold KV at r ⊢
 induction r with
 | nil=>exact .nil
 | @cons p q ps qs h t ih =>
  rw [List.map_cons,List.map_cons]
  refine .cons ?_ ih
  obtain ⟨h1,h2⟩:=h
  by_cases e:p.1 = k
  ·rw [if_pos e,if_pos (h1.symm.trans e)]; exact ⟨h1,ry⟩
  ·rw [if_neg e,if_neg (fun z=>e (h1.trans z))]; exact ⟨h1,h2⟩
theorem KV.put {kvs:List (κ × V)} {vs:List (κ × Value)} (r:KV kvs vs) (k:κ) {y:V} {u:Value} (ry:RelV y u):KV (putK kvs k y) (stored vs k u):=by
 unfold putK stored
 rw [r.any k]
 by_cases e:(vs.any fun kv=>decide (kv.1 = k)) = true
 ·rw [if_pos e,if_pos e]; exact r.wa k ry
 ·rw [if_neg e,if_neg e]; exact Paired.snoc r ⟨rfl,ry⟩
theorem KV.drop {kvs:List (κ × V)} {vs:List (κ × Value)} (r:KV kvs vs) (k:κ):KV (vZ kvs k) (without vs k):=by
 unfold KV at r ⊢
 unfold vZ without
 induction r with
 | nil=>exact .nil
 | @cons p q ps qs h t ih =>
  obtain ⟨h1,h2⟩:=h
  rw [List.filter_cons,List.filter_cons]
  by_cases e:p.1 = k
  ·have a:¬ decide (p.1 ≠ k) = true:=by simp [e]
   have b:¬ decide (q.1 ≠ k) = true:=by simp [h1.symm.trans e]
   rw [if_neg a,if_neg b]; exact ih
  ·have e':¬ q.1 = k:=fun z=>e (h1.trans z)
   have a:decide (p.1 ≠ k) = true:=by simp [e]
   have b:decide (q.1 ≠ k) = true:=by simp [e']
   rw [if_pos a,if_pos b]; exact .cons ⟨h1,h2⟩ ih
theorem KV.length {kvs:List (κ × V)} {vs:List (κ × Value)} (r:KV kvs vs):kvs.length = vs.length:=Paired.length r
end
theorem jT {P:Program} {w:World} {k:Key} {u:Value} (r:RelV (kV k) u):(aU P w).is k u = true:=by
 cases k with
 | inl i=>obtain ⟨t,e⟩:=(show ∃ t,u = Value.int i t from r); subst e; exact nS P w i t
 | inr x=>obtain ⟨t,e⟩:=(show ∃ t,u = Value.str x t from r); subst e; exact nY P w x t
theorem lS {P:Program} {w:World}:∀ {ks:List Key} {us:List Value},Vals (ks.map kV) us → ItemsAre (aU P w) ks us
 | [],_,r=>by rw [List.map_nil] at r; cases r; exact .nil
 | k :: ks,_,r=>by
  rw [List.map_cons] at r
  cases r with
  | cons h t=>exact .cons (jT h) (lS t)
abbrev KT (H:Hp):List (List Key × V) → List (List Key × Addr × Value) → Prop:=Paired fun p q=>p.1 = q.1 ∧ H q.2.1 = some (.tup (p.1.map kV)) ∧ RelV p.2 q.2.2
theorem KT.val {H:Hp} {kvs:List (List Key × V)} {xs:List (List Key × Addr × Value)} (r:KT H kvs xs) (k:List Key):eP (bS kvs k) ((atKey xs k).map (·.2)):=by
 induction r with
 | nil=>exact True.intro
 | @cons p q ps qs h t ih =>
  obtain ⟨h1,_,h2⟩:=h
  by_cases e:p.1 = k
  ·have e':q.1 = k:=h1.symm.trans e
   have b:atKey (q :: qs) k = some q.2:=by simp [atKey,List.find?_cons,e']
   rw [bQ e,b]; exact h2
  ·have e':¬ q.1 = k:=fun z=>e (h1.trans z)
   have b:atKey (q :: qs) k = atKey qs k:=by simp [atKey,List.find?_cons,e']
   rw [bI e,b]; exact ih
theorem KT.wa {H:Hp} {kvs:List (List Key × V)} {xs:List (List Key × Addr × Value)} (r:KT H kvs xs) (k:List Key) {y:V} {u:Value} (ry:RelV y u) :
  KT H (kvs.map fun kv=>if kv.1 = k then (kv.1,y) else kv) (xs.map (putAt k u)):=by
 induction r with
 | nil=>exact .nil
 | @cons p q ps qs h t ih =>
  rw [List.map_cons,List.map_cons]
  refine .cons ?_ ih
  obtain ⟨h1,h2,h3⟩:=h
  unfold putAt
  by_cases e:p.1 = k
  ·rw [if_pos e,if_pos (h1.symm.trans e)]; exact ⟨h1,h2,ry⟩
  ·rw [if_neg e,if_neg (fun z=>e (h1.trans z))]; exact ⟨h1,h2,h3⟩
theorem KT.put {H:Hp} {kvs:List (List Key × V)} {xs:List (List Key × Addr × Value)} (r:KT H kvs xs) (k:List Key) {b:Addr} {y:V} {u:Value} (hb:H b = some (.tup (k.map kV))) (ry:RelV y u) :
  KT H (putK kvs k y) (storedH xs k b u):=by
 have e:(kvs.any fun kv=>decide (kv.1 = k)) = (atKey xs k).isSome:=by
  rw [eQ,(r.val k).iu,Option.isSome_map]
 unfold putK storedH
 rw [e]
 by_cases q:(atKey xs k).isSome = true
 ·rw [if_pos q,if_pos q]; exact r.wa k ry
 ·rw [if_neg q,if_neg q]; exact Paired.snoc r ⟨rfl,hb,ry⟩
theorem KT.keeps {H H':Hp} {kvs:List (List Key × V)} {xs:List (List Key × Addr × Value)} (r:KT H kvs xs) (ht:∀ b ys,H b = some (.tup ys) → H' b = some (.tup ys)):KT H' kvs xs :=
 Paired.fG r fun _ _ z=>⟨z.1,ht _ _ z.2.1,z.2.2⟩
section
variable {P:Program} {w:World} {H:Hp} {h:Heap} {a:Addr}
theorem vh {u:HO} (ok:eJ P w H h) (e:Rd H a u):bL P w H h a u:=e.ok ok
theorem ig {kvs:List (Key × V)} (ok:eJ P w H h) (e:Rd H a (.dK kvs)):kvs.length ≤ sizeLine ∧ (a == sysModules) = false ∧ ∃ vs,KV kvs vs ∧ h.DictOf (aU P w) a vs :=
 show bL P w H h a (.dK kvs) from vh ok e
theorem vj {kvs:List (Key × V)} (ok:eJ P w H h) (e:H a = some (.dK kvs)):kvs.length ≤ sizeLine ∧ (a == sysModules) = false ∧ ∃ vs,KV kvs vs ∧ h.DictOf (aU P w) a vs:=ig ok (.inl e)
theorem iK {ks:List Key} (ok:eJ P w H h) (e:H a = some (.tup (ks.map kV))):(tupleKind (aU P w)).is h ks a:=by
 obtain ⟨_,ai,r,o,h1,h2,n,h3⟩:=(show bL P w H h a (.tup (ks.map kV)) from ok a _ e)
 exact ⟨o,ai.toArray,n,h1,h2,h3,by simpa using lS r⟩
theorem kH {kvs:List (List Key × V)} (ok:eJ P w H h) (e:Rd H a (.dT kvs)):kvs.length ≤ sizeLine ∧ (a == sysModules) = false ∧
  ∃ xs,KT H kvs xs ∧ h.DictOfH (tupleKind (aU P w)) a xs:=by
 obtain ⟨z,y,xs,r,o,es,ep,h1,h2,h3,h4,h5⟩:=(show bL P w H h a (.dT kvs) from vh ok e)
 refine ⟨z,y,xs,r,o,es,ep,h1,h2,h3,h4,fun x hx=>?_,h5⟩
 have all:∀ {l:List (List Key × V)} {m:List (List Key × Addr × Value)},KT H l m → ∀ x ∈ m,(tupleKind (aU P w)).is h x.1 x.2.1:=by
  intro l m q
  induction q with
  | nil=>intro x hx; exact nomatch hx
  | @cons p q ps qs hq t ih =>
   intro x hx
   rcases List.mem_cons.mp hx with e | hx
   ·subst e
    exact iK ok (by rw [← hq.1]; exact hq.2.1)
   ·exact ih x hx
 exact all r x hx
theorem yb {kvs:List (List Key × V)} (ok:eJ P w H h) (e:H a = some (.dT kvs)):kvs.length ≤ sizeLine ∧ (a == sysModules) = false ∧
  ∃ xs,KT H kvs xs ∧ h.DictOfH (tupleKind (aU P w)) a xs:=kH ok (.inl e)
end
def di (H:Hp) (a:Addr) (y:V) (r:Option V):Prop :=
 (∃ kvs k,Rd H a (.dK kvs) ∧ y = kV k ∧ r = bS kvs k) ∨ ∃ kvs k b,Rd H a (.dT kvs) ∧ y = .ref b ∧ H b = some (.tup (k.map kV)) ∧ r = bS kvs k
def jf (H:Hp) (a:Addr) (y v:V) (H':Hp):Prop :=
 (∃ kvs k,H a = some (.dK kvs) ∧ y = kV k ∧ kvs.length < sizeLine ∧ H' = upd H a (.dK (putK kvs k v))) ∨
 ∃ kvs k b,H a = some (.dT kvs) ∧ y = .ref b ∧ H b = some (.tup (k.map kV)) ∧ kvs.length < sizeLine ∧ H' = upd H a (.dT (putK kvs k v))
theorem di.k {H:Hp} {a:Addr} {kvs:List (Key × V)} {k:Key} (e:H a = some (.dK kvs)):di H a (kV k) (bS kvs k):=.inl ⟨kvs,k,.inl e,rfl,rfl⟩
theorem di.t {H:Hp} {a b:Addr} {kvs:List (List Key × V)} {k:List Key} (e:H a = some (.dT kvs)) (eb:H b = some (.tup (k.map kV))):di H a (.ref b) (bS kvs k):=.inr ⟨kvs,k,b,.inl e,rfl,eb,rfl⟩
theorem jf.k {H:Hp} {a:Addr} {kvs:List (Key × V)} {k:Key} {v:V} (e:H a = some (.dK kvs)) (hl:kvs.length < sizeLine):jf H a (kV k) v (upd H a (.dK (putK kvs k v))):=.inl ⟨kvs,k,e,rfl,hl,rfl⟩
theorem jf.t {H:Hp} {a b:Addr} {kvs:List (List Key × V)} {k:List Key} {v:V} (e:H a = some (.dT kvs)) (eb:H b = some (.tup (k.map kV))) (hl:kvs.length < sizeLine) :
  jf H a (.ref b) v (upd H a (.dT (putK kvs k v))):=.inr ⟨kvs,k,b,e,rfl,eb,hl,rfl⟩
section
variable {X:Cx} {pins:List (Addr × Obj)} {σ:St} {H:Hp} {s:Shared} {a:Addr} {y v:V} {u r:Value} {o:Option V} {A:Around} {E:Value → Shared → Prop}
theorem Inv.big (I:Inv X pins σ H s):sysModules < s.heap.objs.size:=by
 have h:mainGlobals < s.heap.objs.size:=(I.mod.glob.keeps I.bk).lt
 exact Nat.lt_trans (by decide) h
theorem qF {Q:Value → Shared → Prop} (hu:A.units + 1 < cLine) (I:Inv X pins σ H s) (g:di H a y (some v)) (ry:RelV y u) (h:∀ w' s',Inv X pins σ H s' → RelV v w' → Q w' s') :
  wpAny (model X.prog X.w) A (getItem (.ref a) u) Q E s:=by
 rcases g with ⟨kvs,k,e,ey,l⟩ | ⟨kvs,k,b,e,ey,eb,l⟩
 ·subst ey
  obtain ⟨z,hd,vs,rel,dd⟩:=ig I.hok e
  obtain ⟨w',hw,rw'⟩:=eP.some_of (v:=v) (o:=valueAt vs k) (by rw [l]; exact rel.val k)
  exact wpAny_getItem_of (jT ry) dd.mapOf hw (h w' _ (I.tok _) rw')
 ·subst ey
  cases (show u = Value.ref b from ry)
  obtain ⟨z,hd,xs,rel,dd⟩:=kH I.hok e
  obtain ⟨w',hw,rw'⟩:=eP.some_of (v:=v) (o:=(atKey xs k).map (·.2)) (by rw [l]; exact rel.val k)
  obtain ⟨p,hp,hp2⟩:=Option.map_eq_some_iff.mp hw
  refine wpAny_getItem_heap (tupleKind_room_in1 hu) (iK I.hok eb) dd hp ?_
  rw [hp2]
  exact h w' _ (I.tok _) rw'
theorem zB {Q:Value → Shared → Prop} (hu:A.units + 1 < cLine) (I:Inv X pins σ H s) (g:di H a y o) (ry:RelV y u) (h:∀ s',Inv X pins σ H s' → Q (.bool o.isSome) s') :
  wpAny (model X.prog X.w) A (compareOp .In u (.ref a)) Q E s:=by
 rcases g with ⟨kvs,k,e,ey,l⟩ | ⟨kvs,k,b,e,ey,eb,l⟩
 ·subst ey
  obtain ⟨z,hd,vs,rel,dd⟩:=ig I.hok e
  refine wpAny_in_of (jT ry) hd dd.mapOf ?_
  rw [← (rel.val k).iu,← l]
  exact h _ (I.tok _)
 ·subst ey
  cases (show u = Value.ref b from ry)
  obtain ⟨z,hd,xs,rel,dd⟩:=kH I.hok e
  refine wpAny_in_heap (tupleKind_room_in1 hu) (iK I.hok eb) hd dd ?_
  have q:=(rel.val k).iu
  rw [Option.isSome_map] at q
  rw [← q,← l]
  exact h _ (I.tok _)
theorem pW {h':Heap} {t':Nat} {ob:HO} (I:Inv X pins σ H s) (mu:y9 (H a)) (hs:Heap.SameBut a s.heap h') (he:∃ q,h'.get? a = some q) (new:bL X.prog X.w (upd H a ob) h' a ob) :
  Inv X pins σ (upd H a ob) { s with heap:=h',toks:=t' } :=
 I.write (x:=a) (e:=a) mu (.inl rfl) (fun b q hb z=>(hs.2 b hb).trans z) he new
theorem wk {P:Program} {w:World} {H':Hp} {h':Heap} {kvs:List (Key × V)} {vs:List (Key × Value)} (z:kvs.length ≤ sizeLine) (hd:(a == sysModules) = false) (rel:KV kvs vs) (dd:h'.DictOf (aU P w) a vs) :
  bL P w H' h' a (.dK kvs):=⟨z,hd,vs,rel,dd⟩
theorem qY {H':Hp} {Q:Unit → Shared → Prop} (hu:A.units + 1 < cLine) (I:Inv X pins σ H s) (g:jf H a y v H') (ry:RelV y u) (rv:RelV v r) (h:∀ s',Inv X pins σ H' s' → Q () s') :
  wpAny (model X.prog X.w) A (setItem (.ref a) u r) Q E s:=by
 rcases g with ⟨kvs,k,e,ey,l,eH⟩ | ⟨kvs,k,b,e,ey,eb,l,eH⟩
 ·subst ey eH
  obtain ⟨z,hd,vs,rel,dd⟩:=vj I.hok e
  have hz:vs.length ≤ sizeLine:=by rw [← rel.length]; exact z
  have hl:(putK kvs k v).length ≤ sizeLine:=by have:=j6 kvs k v; omega
  refine wpAny_setItem_pairs (hsz:=hz) (jT ry) dd fun h' dd' hs=>h _ ?_
  have he:∃ q,h'.get? a = some q:=let ⟨q,_,_,hq,_⟩:=dd'; ⟨q,hq⟩
  exact pW I (by rw [e]; exact True.intro) hs he (wk hl hd (rel.put k rv) dd')
 ·subst ey eH
  cases (show u = Value.ref b from ry)
  obtain ⟨z,hd,xs,rel,dd⟩:=yb I.hok e
  have hz:xs.length ≤ sizeLine:=by rw [← Paired.length rel]; exact z
  have hl:(putK kvs k v).length ≤ sizeLine:=by have:=j6 kvs k v; omega
  refine wpAny_setItem_heap (hsz:=hz) (tupleKind_room_in1 hu) (iK I.hok eb) dd fun h' dd' hs=>h _ ?_
  obtain ⟨q,es,ep,hq,h2,h3,h4,_,h5⟩:=dd'
  refine pW I (by rw [e]; exact True.intro) hs ⟨q,hq⟩ ⟨hl,hd,_,(rel.put k eb rv).keeps fun c ys ec=>?_,q,es,ep,hq,h2,h3,h4,h5⟩
  rw [aK (bT ec e (fun z=>nomatch z))]
  exact ec
end
section
variable {X:Cx} {pins:List (Addr × Obj)} {σ:St} {H:Hp} {s:Shared} {a:Addr} {kvs:List (Key × V)} {k:Key} {u:Value} {A:Around} {E:Value → Shared → Prop}
end
def yL (i:Expr):Prop:=∀ ov iv,subscripted i false ov iv = operate [ov,iv] (getItem ov iv)
theorem uz {prog:Program} {w:World} {A:Around} {E:Value → Shared → Prop} {s:Shared} {env:Env} {value slice:Expr} {pos:Pos} {T id:String} {Q:Value → Shared → Prop}
  (hl:typeLookup (.type T) "__getitem__" = pure (some (.builtin id))) (hs:yL slice)
  (h:wpAny (model prog w) A (eval value env) (fun o s₁=>wpAny (model prog w) A (eval slice env) (fun i s₂=>s₂.TypeIs o T ∧ wpAny (model prog w) A (getItem o i) Q E s₂) E s₁) E s) :
  wpAny (model prog w) A (eval (.Subscript value slice pos) env) Q E s:=by
 refine Subscript_ (wpAny_mono h (fun o s₁ h₁=>wpAny_mono h₁ (fun i s₂ h₂=>?_) fun _ _ x=>x) fun _ _ x=>x)
 obtain ⟨hT,h₂⟩:=h₂
 unfold subscriptTail
 refine wpAny_bind ?_
 rw [getitemInPython_of_ne hT.not_modules]
 refine wpAny_bind (wpAny_specialOf hT hl ?_)
 have fin:wpAny (model prog w) A (subscripted slice false o i) (fun r s₃=>wpAny (model prog w) A (letTemporaryGo value o r >>= fun _=>pure r) Q E s₃) E s₂:=by
  rw [hs o i]
  exact wpAny_operating (wpAny_mono h₂ (fun r s₃ h₃=>wpAny_bind (wpAny_letTemporaryGo (wpAny_pure h₃))) fun _ _ x=>x)
 first
  | exact wpAny_pure (wpAny_bind fin)
  | exact wpAny_bind (wpAny_pure (wpAny_bind fin))
  | exact wpAny_bind fin
theorem oH {X:Cx} {pins:List (Addr × Obj)} {σ:St} {H:Hp} {s:Shared} {a:Addr} {y:V} {o:Option V} (I:Inv X pins σ H s) (g:di H a y o):s.TypeIs (.ref a) "dict" := by
 rcases g with ⟨kvs,k,e,_,_⟩ | ⟨kvs,k,b,e,_,_,_⟩
 ·obtain ⟨_,_,vs,_,dd⟩:=ig I.hok e
  exact dd.typeIs
 ·obtain ⟨_,_,xs,_,dd⟩:=kH I.hok e
  exact dd.typeIs
def yD (td ty:TE):TE:=fun σ H Q=>td σ H fun x H1=>ty σ H1 fun y H2=>∃ a v,x = .ref a ∧ di H2 a y (some v) ∧ Q v H2
def yl (ty td:TE):TE:=fun σ H Q=>ty σ H fun y H1=>td σ H1 fun x H2=>∃ a o,x = .ref a ∧ di H2 a y o ∧ Q (.bl o.isSome) H2
def xk (td ty tv:TE):TS:=fun D σ H=>tv σ H fun v H1=>td σ H1 fun x H2=>ty σ H2 fun y H3=>∃ a H4,x = .ref a ∧ jf H3 a y v H4 ∧ D.nx σ H4
section
variable {X:Cx} {o i e value:Expr} {pos pos' tpos:Pos} {td ty tv:TE}
theorem i9 (hu:X.A.units + 1 < cLine) (ho:PE X o td) (hi:PE X i ty) (hs:yL i):PE X (.Subscript o i pos) (yD td ty):=by
 unfold PE at *
 exact by
  intro pins s σ H Q I h
  refine uz PySem.F.slot_dict_getitem.lookup hs (bX (ho pins s σ H _ I h) fun u s1 ⟨x,H1,I1,rx,q1⟩=>bX (hi pins s1 σ H1 _ I1 q1) fun iv s2 ⟨y,H2,I2,ry,a,v,ex,g,q2⟩=>?_)
  subst ex
  obtain rfl:u = Value.ref a:=rx
  exact ⟨oH I2 g,qF hu I2 g ry fun w' s3 I3 rw'=>⟨v,H2,I3,rw',q2⟩⟩
theorem rX (hu:X.A.units + 1 < cLine) (hi:PE X i ty) (ho:PE X o td):PC X .In i o (yl ty td):=by
 unfold PE at *; unfold PC at *
 exact by
  intro pins s σ H Q I h
  refine bX (hi pins s σ H _ I h) fun iv s1 ⟨y,H1,I1,ry,q1⟩=>bX (ho pins s1 σ H1 _ I1 q1) fun u s2 ⟨x,H2,I2,rx,a,ov,ex,g,q2⟩=>?_
  subst ex
  obtain rfl:u = Value.ref a:=rx
  exact zB hu I2 g ry fun s3 I3=>⟨.bl ov.isSome,H2,I3,rfl,q2⟩
theorem gx (hu:X.A.units + 1 < cLine) (ho:PE X o td) (hi:PE X i ty) (hv:PE X value tv) (hs:swapsWith value (some (.Subscript o i pos')) pos.line X.env = pure false) :
  PS X (.Assign [.Subscript o i pos'] value pos) (xk td ty tv):=by
 unfold PE at *; unfold PS at *
 exact by
  intro pins s σ H D I h
  refine wpAny_Assign_Subscript (bX (hv pins s σ H _ I h) fun r s1 ⟨v,H1,I1,rv,q1⟩=>bX (ho pins s1 σ H1 _ I1 q1) fun u s2 ⟨x,H2,I2,rx,q2⟩=>bX (hi pins s2 σ H2 _ I2 q2) fun iv s3 ⟨y,H3,I3,ry,a,H4,ex,g,q3⟩=>?_) hs
  subst ex
  obtain rfl:u = Value.ref a:=rx
  exact qY hu I3 g ry rv fun s4 I4=>⟨σ,H4,I4,q3⟩
end
theorem sW {P:Program} {w:World} {H:Hp} (h:Heap) (hb:sysModules < h.objs.size):bL P w H (h.push { cls:=.type "dict",data:=.dict #[] }) h.objs.size (.dK []) :=
 ⟨Nat.zero_le _,beq_eq_false_iff_ne.mpr (Ne.symm (Nat.ne_of_lt hb)),[],.nil,Heap.DictOf.new h⟩
theorem tf {P:Program} {w:World} {H:Hp} (h:Heap) (hb:sysModules < h.objs.size):bL P w H (h.push { cls:=.type "dict",data:=.dict #[] }) h.objs.size (.dT []) :=
 ⟨Nat.zero_le _,beq_eq_false_iff_ne.mpr (Ne.symm (Nat.ne_of_lt hb)),[],.nil,_,#[],0,Heap.get?_push_size _ rfl,⟨rfl,rfl,rfl⟩,rfl,rfl,List.nodup_nil⟩
def xI:TE:=fun _ H Q=>∀ p,H p = none → Q (.ref p) (upd H p (.dK []))
def wM:TE:=fun _ H Q=>∀ p,H p = none → Q (.ref p) (upd H p (.dT []))
section
variable {X:Cx} {pos:Pos}
theorem fg:PE X (.Dict [] [] pos) xI:=by
 unfold PE at *
 exact (fun pins s σ H Q I h =>
  wpAny_Dict_empty ⟨.ref s.heap.objs.size,_,I.laid (a:=s.heap.objs.size) (o:=.dK []) (t':=s.toks) (fun _ _ q=>Heap.get?_push_of_some _ q) (Nat.le_refl _) (sW s.heap I.big),rfl,h _ (I.hok.fresh (Nat.le_refl _))⟩)
theorem uB:PE X (.Dict [] [] pos) wM:=by
 unfold PE at *
 exact (fun pins s σ H Q I h =>
  wpAny_Dict_empty ⟨.ref s.heap.objs.size,_,I.laid (a:=s.heap.objs.size) (o:=.dT []) (t':=s.toks) (fun _ _ q=>Heap.get?_push_of_some _ q) (Nat.le_refl _) (tf s.heap I.big),rfl,h _ (I.hok.fresh (Nat.le_refl _))⟩)
end
structure M1 (X:Cx) (o:Expr) (m:Str) (apos:Pos) (e:Expr) (cpos:Pos):Prop where
 base:attributeBase o m X.env (eval o X.env) = eval o X.env
 few:((backTo cpos (starEach [e] X.env)).all (fun x=>!x.1) && (backToKw cpos (keywordEach [] X.env)).all (fun x=>x.1.isSome)
  && decide (([e]:List Expr).length + ([]:List Keyword).length + (if ([]:List Keyword).isEmpty then 0 else 1) < 30)) = true
 line:(apos.endLine == cpos.line) = true
 trees:backTo cpos (starEach [e] X.env) = [(false,eval e X.env)]
structure M2 (X:Cx) (o:Expr) (m:Str) (apos:Pos) (e f:Expr) (cpos:Pos):Prop where
 base:attributeBase o m X.env (eval o X.env) = eval o X.env
 few:((backTo cpos (starEach [e,f] X.env)).all (fun x=>!x.1) && (backToKw cpos (keywordEach [] X.env)).all (fun x=>x.1.isSome)
  && decide (([e,f]:List Expr).length + ([]:List Keyword).length + (if ([]:List Keyword).isEmpty then 0 else 1) < 30)) = true
 line:(apos.endLine == cpos.line) = true
 trees:backTo cpos (starEach [e,f] X.env) = [(false,eval e X.env),(false,eval f X.env)]
def zR (H:Hp) (a:Addr):Prop:=(∃ kvs,Rd H a (.dK kvs)) ∨ ∃ kvs,Rd H a (.dT kvs)
theorem sV {X:Cx} {pins:List (Addr × Obj)} {σ:St} {H:Hp} {s:Shared} {a:Addr} (I:Inv X pins σ H s) (d:zR H a) :
  s.TypeIs (.ref a) "dict" ∧ (∀ b,Value.ref a = .ref b → ∃ ob,s.heap.get? b = some ob ∧ ob.dict = none) ∧ (a == sysModules) = false:=by
 rcases d with ⟨kvs,e⟩ | ⟨kvs,e⟩
 ·obtain ⟨_,hd,vs,_,dd⟩:=ig I.hok e
  refine ⟨dd.typeIs,fun b q=>?_,hd⟩
  cases q
  obtain ⟨ob,_,_,h1,h2,_⟩:=dd
  exact ⟨ob,h1,h2.2.1⟩
 ·obtain ⟨_,hd,xs,_,dd⟩:=kH I.hok e
  refine ⟨dd.typeIs,fun b q=>?_,hd⟩
  cases q
  obtain ⟨ob,_,_,h1,h2,_⟩:=dd
  exact ⟨ob,h1,h2.2.1⟩
section
variable {X:Cx} {pins:List (Addr × Obj)} {σ:St} {H:Hp} {s:Shared} {a:Addr} {y d:V} {u r:Value} {o:Option V} {A:Around} {E:Value → Shared → Prop}
theorem wQ {Q:Value → Shared → Prop} (hu:A.units + 1 < cLine) (I:Inv X pins σ H s) (g:di H a y o) (ry:RelV y u) (h:∀ w' s',Inv X pins σ H s' → RelV (o.getD .bA) w' → Q w' s') :
  wpAny (model X.prog X.w) A (call (.builtin "dict.get") [.ref a,u]) Q E s:=by
 rcases g with ⟨kvs,k,e,ey,l⟩ | ⟨kvs,k,b,e,ey,eb,l⟩
 ·subst ey
  obtain ⟨z,hd,vs,rel,dd⟩:=ig I.hok e
  refine call_meetsIn PySem.F.slot_dict_get dd.typeIs PySem.F.entry_dict_get (PySem.F.args_dict_get_2 _ _) (meets_dict_get (aU X.prog X.w) a (jT ry) hd) ⟨_,dd.mapOf,h _ _ (I.tok _) ?_⟩
  rw [l]
  exact (rel.val k).getD rfl
 ·subst ey
  cases (show u = Value.ref b from ry)
  obtain ⟨z,hd,xs,rel,dd⟩:=kH I.hok e
  refine call_meetsIn PySem.F.slot_dict_get dd.typeIs PySem.F.entry_dict_get (PySem.F.args_dict_get_2 _ _) (meetsH_dict_get (tupleKind (aU X.prog X.w)) a b hd) ⟨tupleKind_room_in1 hu,k,xs,iK I.hok eb,dd,h _ _ (I.tok _) ?_⟩
  rw [l]
  exact (rel.val k).getD rfl
theorem x9 {Q:Value → Shared → Prop} (hu:A.units + 1 < cLine) (I:Inv X pins σ H s) (g:di H a y o) (ry:RelV y u) (rd:RelV d r) (h:∀ w' s',Inv X pins σ H s' → RelV (o.getD d) w' → Q w' s') :
  wpAny (model X.prog X.w) A (call (.builtin "dict.get") [.ref a,u,r]) Q E s:=by
 rcases g with ⟨kvs,k,e,ey,l⟩ | ⟨kvs,k,b,e,ey,eb,l⟩
 ·subst ey
  obtain ⟨z,hd,vs,rel,dd⟩:=ig I.hok e
  refine call_meetsIn PySem.F.slot_dict_get dd.typeIs PySem.F.entry_dict_get (PySem.F.args_dict_get_3 _ _ _) (meets_dict_get_default (aU X.prog X.w) a (jT ry) hd r) ⟨_,dd.mapOf,h _ _ (I.tok _) ?_⟩
  rw [l]
  exact (rel.val k).getD rd
 ·subst ey
  cases (show u = Value.ref b from ry)
  obtain ⟨z,hd,xs,rel,dd⟩:=kH I.hok e
  refine call_meetsIn PySem.F.slot_dict_get dd.typeIs PySem.F.entry_dict_get (PySem.F.args_dict_get_3 _ _ _) (meetsH_dict_get_default (tupleKind (aU X.prog X.w)) a b hd r) ⟨tupleKind_room_in1 hu,k,xs,iK I.hok eb,dd,h _ _ (I.tok _) ?_⟩
  rw [l]
  exact (rel.val k).getD rd
end
def wg (td ty:TE):TE:=fun σ H Q=>td σ H fun x H1=>∃ a,x = .ref a ∧ zR H1 a ∧ ty σ H1 fun y H2=>∃ o,di H2 a y o ∧ Q (o.getD .bA) H2
def xG (td ty tx:TE):TE:=fun σ H Q=>td σ H fun x H1=>∃ a,x = .ref a ∧ zR H1 a ∧ ty σ H1 fun y H2=>tx σ H2 fun z H3=>∃ o,di H3 a y o ∧ Q (o.getD z) H3
section
variable {X:Cx} {o e f:Expr} {apos cpos:Pos} {td ty tx:TE}
theorem km (hu:X.A.units + 1 < cLine) (ho:PE X o td) (he:PE X e ty) (m:M1 X o "get" apos e cpos):PE X (.Call (.Attribute o "get" apos) [e] [] cpos) (wg td ty):=by
 unfold PE at *
 exact by
  intro pins s σ H Q I h
  refine wpAny_Call_method m.base m.few m.line PySem.F.plainAttrs_dict PySem.F.slot_dict_get PySem.F.type_dict_get (bX (ho pins s σ H _ I h) fun u s1 ⟨x,H1,I1,rx,a,ex,d,q1⟩=>?_)
  subst ex
  obtain rfl:u = Value.ref a:=rx
  obtain ⟨t1,t2,_⟩:=sV I1 d
  refine ⟨t1,t2,?_⟩
  rw [m.trees]
  refine Calls.callWith_builtin rfl (Calls.evalArgs_plain (Calls.spliced_cons (bX (he pins s1 σ H1 _ I1 q1) fun iv s2 ⟨y,H2,I2,ry,ov,g,q2⟩=>Calls.spliced_nil ?_)))
  exact wQ hu I2 g ry fun w' s3 I3 rw'=>⟨_,H2,I3,rw',q2⟩
theorem n6 (hu:X.A.units + 1 < cLine) (ho:PE X o td) (he:PE X e ty) (hf:PE X f tx) (m:M2 X o "get" apos e f cpos):PE X (.Call (.Attribute o "get" apos) [e,f] [] cpos) (xG td ty tx):=by
 unfold PE at *
 exact by
  intro pins s σ H Q I h
  refine wpAny_Call_method m.base m.few m.line PySem.F.plainAttrs_dict PySem.F.slot_dict_get PySem.F.type_dict_get (bX (ho pins s σ H _ I h) fun u s1 ⟨x,H1,I1,rx,a,ex,d,q1⟩=>?_)
  subst ex
  obtain rfl:u = Value.ref a:=rx
  obtain ⟨t1,t2,_⟩:=sV I1 d
  refine ⟨t1,t2,?_⟩
  rw [m.trees]
  refine Calls.callWith_builtin rfl (Calls.evalArgs_plain (Calls.spliced_cons (bX (he pins s1 σ H1 _ I1 q1) fun iv s2 ⟨y,H2,I2,ry,q2⟩ =>
   Calls.spliced_cons (bX (hf pins s2 σ H2 _ I2 q2) fun fv s3 ⟨z,H3,I3,rz,ov,g,q3⟩=>Calls.spliced_nil ?_))))
  exact x9 hu I3 g ry rz fun w' s4 I4 rw'=>⟨_,H3,I4,rw',q3⟩
end
section
variable {X:Cx} {pins:List (Addr × Obj)} {σ:St} {H:Hp} {s:Shared} {a:Addr} {kvs:List (Key × V)} {A:Around} {E:Value → Shared → Prop}
end
section
variable {X:Cx} {pins:List (Addr × Obj)} {σ:St} {H:Hp} {s:Shared} {a:Addr} {y:V} {u:Value} {A:Around} {E:Value → Shared → Prop}
end
end L2
namespace Att
open PySem PySem.W PySem.Calls PyProof.Rows
theorem jc {P:Params} {h:Heap}:∀ (ns:List Int) (vs:List Value),WellAll P h vs (ns.map WData.int) → IntsAre vs ns:=by
 intro ns
 induction ns with
 | nil =>
  intro vs w
  rw [List.map_nil] at w
  cases w
  exact .nil
 | cons n ns ih =>
  intro vs w
  rw [List.map_cons] at w
  cases w with
  | cons a b =>
   cases a
   exact .cons _ _ (ih _ b)
theorem qL {l:OpenLaw} {n:Nat} (hn:l.most = some n) {P:Params} {h:Heap} {args:List WData} {vals:List Value}
  (hpre:l.row.toRowW.claim.pre args = true) (hwl:WellAll P h vals args) :
  ∃ a vs ns,vals = [Value.ref a] ∧ args = [WData.list (ns.map WData.int)] ∧ h.get? a = some { cls:=.type "list",data:=.seq vs.toArray } ∧ IntsAre vs ns ∧ ns.length ≤ n:=by
 have hsh:WShape.hasAll [] args [.list .int] = true:=(pre_splitW hpre).1
 have hc:l.pre.holds [] { args:=args } = true:=(pre_splitW hpre).2
 obtain ⟨d,r,rfl,h1,h2⟩:=hasAllW_cons hsh
 obtain rfl:=hasAllW_nil h2
 obtain ⟨xs,rfl,h3⟩:=hasW_list h1
 obtain ⟨ns,rfl⟩:=items_int h3
 have hlen:ns.length ≤ n:=by
  unfold OpenLaw.pre at hc
  have h4:(WTm.not (.lt (.lit (.int (n:Int))) (.len (.arg 0)))).holds [] { args:=[.list (ns.map .int)] } = true:=by
   have h4:=(holds_andW hc).1
   rw [hn] at h4
   exact h4
  have h5:=condW_of h4 (w_not (w_lt w_lit (w_len_list (w_arg rfl))))
  rw [List.length_map] at h5
  refine Nat.le_of_not_lt fun q=>?_
  have q':(n:Int) < ((ns.length:Nat):Int):=by omega
  first
   | (rw [decide_eq_true q'] at h5; exact absurd h5 (by decide))
   | (simp at h5; omega)
 cases hwl with
 | cons w1 w2 =>
  cases w2
  cases w1 with
  | list ho hall=>exact ⟨_,_,ns,rfl,rfl,ho,jc ns _ hall,hlen⟩
theorem qH (l:OpenLaw) (args:List WData):l.row.toRowW.claim.post args (.bool true) args = true :=
 postW_of (r:=l.row.toRowW) (X:=(true == true))
  (show WShape.has [] (.bool true) .bool = true by first | rfl | decide | simp [WShape.has,WShape.arms,WShape.armsAll])
  (show (WTm.eq .res (.lit (.bool true))).value [] { args:=args,res:=some (.bool true),after:=args } = some (.bool (true == true)) from w_eq_bool (w_res rfl) w_lit) rfl
theorem oC {l:OpenLaw} {n:Nat} {q:Program} {loose:List Str} {XP:(Str → Option Value) → Heap → Prop} {YP:World → Heap → Prop} {d:DefRec}
  (hn:l.most = some n) (hdf:d.params.defaults = [])
  (call:∀ (w:World) (s₀ s₁:Shared) (mg mb:Str → Option Value) (fa:Addr) (o:Obj) (pm cd doc:Value) (a:Addr) (vs:List Value) (ns:List Int),
   Ground q loose [] XP w s₀ mg mb s₁.heap → YP w s₁.heap →
   s₁.heap.get? fa = some o → o.data = .func (docDef d.name d.params d.body d.scope pm cd doc) → s₁.heap.CodeRec cd d.name → mg d.name = some (.ref fa) →
   s₁.heap.get? a = some { cls:=.type "list",data:=.seq vs.toArray } → IntsAre vs ns → ns.length ≤ n → s₁.gens = #[] →
   codeAny (model l.prog w) callerA (.call (.ref fa) ⟨[.ref a],[]⟩) (fun r s'=>r = .ok (.ret (.bool true)) ∧ OldK s₁.heap s'.heap ∧ s'.os = s₁.os ∧ AllBare s'.gens) s₁) :
  WalkO q loose XP YP l.row.toRowW d [] (fun f vs=>PySem.call f vs):=by
 intro w s₀ s₁ mg mb G Y fa o pm cd doc dV kV ho hd hcd hD hmg hg args vals as hpre hlay hrd hwl hlo
 obtain rfl:dV = .none:=Dflts.none hD hdf
 obtain rfl:kV = .none:=Dflts.noKw hD
 obtain ⟨a,vs,ns,rfl,rfl,hobj,hints,hlen⟩:=qL hn hpre hwl
 refine enter_call (codeAny_mono (call w s₀ s₁ mg mb fa o pm cd doc a vs ns G Y ho (fd_plain hd) hcd hmg hobj hints hlen hg) fun r s' hq=>?_)
 obtain ⟨rfl,h2,h3,h4⟩:=hq
 exact ⟨.inl ⟨.bool true,.bool true,[],rfl,fun _=>rfl,.bool true,qH l _,fun _=>⟨List.Pairwise.nil,fun _ hm=>(nomatch hm)⟩⟩,h2,h3,h4⟩
section
variable {prog:Program} {w:World} {A:Around} {E:Value → Shared → Prop} {s:Shared} {K:Frag}
def ledger (h:Heap) (L d:Addr):List (Addr × Obj):=(List.range h.objs.size).filterMap fun a=>if a = L ∨ a = d then none else (h.get? a).map fun o=>(a,o)
end
end Att
namespace L2
open PySem PySem.Spec PyProof.Rows
theorem mI:∀ {vs:List Value} {ns:List Int},IntsAre vs ns → Vals (ns.map V.int) vs
 | _,_,.nil=>.nil
 | _,_,.cons n t h=>.cons ⟨t,rfl⟩ (mI h)
def vQ (H:Hp):Prop:=∀ b,H b = none ∨ ∃ o xs,H b = some (.frz o (.lst xs))
theorem sU {P:Program} {w:World} {K:PySem.W.Frag} {mg mb:Str → Option Value} {CX:lH} {k:Nat} {fa a:Addr} {fd:FuncData} {x:Str} {sp:Sp} {s₁:Shared} {vs:List Value} {ns:List Int}
  (KX:K.In s₁.heap) (hns:s₁.heap.Ns mainGlobals mg) (hb:s₁.heap.Ns builtinsNs mb) (hbb:∀ x:Str,x ≠ "__name__" → mb x = bootBuiltins x) (hlim:s₁.heap.NoLimit) (hg:s₁.gens = #[])
  (ha:s₁.heap.get? a = some { cls:=.type "list",data:=.seq vs.toArray }) (hi:IntsAre vs ns) (hl:ns.length ≤ sizeLine) (hr:cD k callerA)
  (F:∀ base:Heap,K.In base → base.Ns mainGlobals mg → bF P w K mg base CX k fa fd [x] sp) (hbind:∀ (s:Shared) (u:Value),BindsTo s fd ⟨[u],[]⟩ [(x,u)])
  (hsp:∀ H:Hp,vQ H → ao K H a (ns.map V.int) → sp [.ref a] H (fun v _=>v = .bl true) fun _ _ _=>False)
  (hCX:∀ H e s',CX [] H s₁ (fun _ _ _=>False) e s' → False) :
  codeAny (model P w) callerA (.call (.ref fa) ⟨[.ref a],[]⟩) (fun r s'=>r = .ok (.ret (.bool true)) ∧ OldK s₁.heap s'.heap ∧ s'.os = s₁.os ∧ AllBare s'.gens) s₁:=by
 have rv:=mI hi
 have lenV:=hi.length
 -- from an abstract heap in which nothing but the script may be tracked
 have core:∀ H:Hp,vQ H → ao K H a (ns.map V.int) → eJ P w H s₁.heap → (∀ b,H b ≠ none → b = a) → (H a ≠ none → K.lookup a = none) →
   codeAny (model P w) callerA (.call (.ref fa) ⟨[.ref a],[]⟩) (fun r s'=>r = .ok (.ret (.bool true)) ∧ OldK s₁.heap s'.heap ∧ s'.os = s₁.os ∧ AllBare s'.gens) s₁:=by
  intro H hO hS hok hA hK
  have base_of:∀ {b:Addr} {o:Obj},s₁.heap.get? b = some o → H b = none → (mV s₁.heap H).get? b = some o:=fun e n=>sD e n
  have noA:∀ {b:Addr} {o:Obj} {es:Array DictEntry} {ep:Nat},s₁.heap.get? b = some o → o.data = .dict es ep → H b = none:=fun {b o es ep} e d=>by
   cases q:H b with
   | none=>rfl
   | some u =>
    have e':b = a:=hA b (by rw [q]; simp)
    subst e'
    rw [ha] at e; cases e
    have d':Data.seq vs.toArray _ = Data.dict es ep:=d
    cases d'
  have nsK:∀ {b:Addr} {m:Str → Option Value},s₁.heap.Ns b m → (mV s₁.heap H).Ns b m:=fun {b m} ⟨o,es,ep,e,d,r⟩=>⟨o,es,ep,base_of e (noA e d),d,r⟩
  have hKb:K.In (mV s₁.heap H):=fun b o e=>base_of (KX b o e) (by
   cases q:H b with
   | none=>rfl
   | some u =>
    have e':b = a:=hA b (by rw [q]; simp)
    subst e'
    rw [hK (by rw [q]; simp)] at e; cases e)
  have hM:Mod K mg (mV s₁.heap H):=⟨hKb,nsK hns,⟨mb,nsK hb,hbb⟩,let ⟨mc,h1,h2⟩:=hlim; ⟨mc,nsK h1,h2⟩⟩
  have e0:lF P w K mg (mV s₁.heap H) callerA [] s₁ H:=⟨rfl,hM,fun b o e=>u7 e,Nat.le_of_eq (qP _ _),trivial,fun b hb=>absurd (show b ∈ ([]:List Addr) from hb) (by simp),hok,.of_eq hg⟩
  refine codeAny_mono ((F _ hKb (nsK hns)).run callerA [] s₁ H ⟨[.ref a],[]⟩ [.ref a] [.ref a] _ _ hr e0 (hbind s₁ (.ref a)) (.cons rfl .nil) (hsp H hO hS)) fun r s' h=>?_
  cases r with
  | error e=>exact (hCX H e s' h).elim
  | ok fl =>
   cases fl with
   | next=>exact False.elim h
   | brk=>exact False.elim h
   | cont=>exact False.elim h
   | ret u =>
    obtain ⟨v,H',os,bare,un,hok',r',q⟩:=h
    have q':v = .bl true:=q
    subst q'
    obtain rfl:u = Value.bool true:=r'
    refine ⟨rfl,OldK.of_keep fun b o e=>?_,os,bare⟩
    cases q:H b with
    | none=>exact un.keep b o e q (by intro z; exact absurd (show b ∈ ([]:List Addr) from z) (by simp)) (by simp)
    | some u =>
     rcases hO b with z | ⟨ob,xs,z⟩
     ·rw [q] at z; cases z
     ·have z2:=un.frzs b ob _ z
      obtain ⟨e1,_⟩:=hok b _ z
      obtain ⟨e2,_⟩:=hok' b _ z2
      rw [e] at e1; cases e1
      exact e2
 cases hk:K.lookup a with
 | some o =>
  -- the script is one of the module's own objects
  have e:=KX a o hk
  rw [ha] at e
  cases e
  refine core (fun _=>none) (fun _=>.inl rfl) (.inr ⟨_,vs.toArray,_,hk,rfl,rfl,rfl,by rw [List.size_toArray,lenV]; exact hl,by simpa using rv⟩) (fun b u z=>by have z':(none:Option HO) = some u:=z; cases z') (fun b z=>absurd rfl z) fun z=>absurd rfl z
 | none =>
  refine core (fun b=>if b = a then some (.frz { cls:=.type "list",data:=.seq vs.toArray } (.lst (ns.map V.int))) else none) (fun b=>?_) (.inl (.inr ⟨{ cls:=.type "list",data:=.seq vs.toArray },if_pos rfl⟩)) (fun b u z=>?_) (fun b z=>?_) fun _=>hk
  ·by_cases hb:b = a
   ·exact .inr ⟨_,_,if_pos hb⟩
   ·exact .inl (if_neg hb)
  ·by_cases hb:b = a
   ·have z':=(if_pos hb).symm.trans z
    cases z'
    subst hb
    exact ⟨ha,by rw [List.length_map]; exact hl,vs,_,rv,ha⟩
   ·have z':=(if_neg hb).symm.trans z
    cases z'
  ·by_cases hb:b = a
   ·exact hb
   ·exact absurd (if_neg hb) z
end L2
namespace L2
open PySem PySem.Spec PyProof.Rows
theorem ue {l:PySem.W.OpenLaw} {n k:Nat} {q:Program} {loose:List Str} {XP:(Str → Option Value) → Heap → Prop} {YP:World → Heap → Prop} {d:DefRec} {K:Params → PySem.W.Frag} {CX:World → lH} {sp:World → Sp} {x:Str}
  (hn:l.most = some n) (hn2:n ≤ sizeLine) (hdf:d.params.defaults = []) (hr:cD k callerA)
  (hY:∀ (w:World) (h:Heap),YP w h → (K w.params).In h)
  (F:∀ (w:World) (mg:Str → Option Value) (fa:Addr) (h:Heap),(K w.params).In h → h.Ns mainGlobals mg → mg d.name = some (.ref fa) →
   ∃ fd:FuncData,(∀ (s:Shared) (u:Value),BindsTo s fd ⟨[u],[]⟩ [(x,u)]) ∧
    ∀ base:Heap,(K w.params).In base → base.Ns mainGlobals mg → bF l.prog w (K w.params) mg base (CX w) k fa fd [x] (sp w))
  (hsp:∀ (w:World) (H:Hp) (a:Addr) (ns:List Int),ns.length ≤ n → vQ H → ao (K w.params) H a (ns.map V.int) → sp w [.ref a] H (fun v _=>v = .bl true) fun _ _ _=>False)
  (hCX:∀ (w:World) (H:Hp) (s:Shared) (e:Value) (s':Shared),CX w [] H s (fun _ _ _=>False) e s' → False) :
  PySem.W.WalkO q loose XP YP l.row.toRowW d [] (fun f vs=>PySem.call f vs):=by
 refine Att.oC hn hdf fun w s₀ s₁ mg mb fa o pm cd doc a vs ns G Y ho hd hcd hmg hobj hints hlen hg=>?_
 have KX:=hY w _ Y
 obtain ⟨fd,hb,hF⟩:=F w mg fa _ KX G.T.g hmg
 exact sU KX G.T.g G.T.b G.T.builtins G.T.nolimit hg hobj hints (Nat.le_trans hlen hn2) hr hF hb (fun H hO hS=>hsp w H a ns hlen hO hS) fun H e s'=>hCX w H s₁ e s'
theorem rg {l:PySem.W.OpenLaw} {n k:Nat} {q:Program} {loose:List Str} {XP:(Str → Option Value) → Heap → Prop} {YP:World → Heap → Prop} {d:DefRec} {K:Params → PySem.W.Frag} {CX:lH} {sp:PySem.W.Frag → Sp} {x:Str}
  (hn:l.most = some n) (hn2:n ≤ sizeLine) (hdf:d.params.defaults = []) (hr:cD k callerA)
  (hY:∀ (w:World) (h:Heap),YP w h → (K w.params).In h)
  (F:∀ (w:World) (mg:Str → Option Value) (fa:Addr) (h:Heap),(K w.params).In h → h.Ns mainGlobals mg → mg d.name = some (.ref fa) →
   ∃ fd:FuncData,(∀ (s:Shared) (u:Value),BindsTo s fd ⟨[u],[]⟩ [(x,u)]) ∧
    ∀ base:Heap,(K w.params).In base → base.Ns mainGlobals mg → bF l.prog w (K w.params) mg base CX k fa fd [x] (sp (K w.params)))
  (hsp:∀ (K:PySem.W.Frag) (H:Hp) (a:Addr) (ns:List Int),ns.length ≤ n → vQ H → ao K H a (ns.map V.int) → sp K [.ref a] H (fun v _=>v = .bl true) fun _ _ _=>False)
  (hCX:∀ (H:Hp) (s:Shared) (e:Value) (s':Shared),CX [] H s (fun _ _ _=>False) e s' → False) :
  PySem.W.WalkO q loose XP YP l.row.toRowW d [] (fun f vs=>PySem.call f vs) :=
 ue (K:=K) (CX:=fun _=>CX) (sp:=fun w=>sp (K w.params)) hn hn2 hdf hr hY F (fun w H a ns h1 h2 h3=>hsp (K w.params) H a ns h1 h2 h3) fun _ H s e s'=>hCX H s e s'
end L2
/- THE LAST THEOREM (shape; LID, My.* are yours):
   My.Adr: a structure of the addresses that your layer names (classes, functions); My.Txt K t: a structure (Prop) of the equations over K;
   My.txt_mk : {K} {implicit addresses ..} (e1 : nsIn K mainGlobals "law" = some (some (.ref f))) (e2 : K.lookup f = some ⟨oc, od, .func (fnOf "law" "law" params body scope dV kV doc pm an cdv ct), sl⟩) (e3 : codeIn K cdv "law" = true) .. : ∃ t, My.Txt K t
set_option maxRecDepth 100000 in
set_option maxHeartbeats 0 in
(the tactic k_is has no namespace: write k_is) -/
namespace L2
open PySem PySem.Spec PyProof.Rows
def inClass (s:Stmt) (j:Nat):Stmt:=match s with
 | .ClassDef _ _ _ body _ _ _ _ _ _ _=>body.getD j (.Pass ⟨0,0,0,0⟩)
 | _=>.Pass ⟨0,0,0,0⟩
def aS (s:Stmt):Arguments:=match s with
 | .FunctionDef _ a _ _ _ _ _ _ _ _=>a
 | _=>{ posonlyargs:=[],args:=[],vararg:=none,kwonlyargs:=[],kw_defaults:=[],kwarg:=none,defaults:=[] }
def aP (s:Stmt):List Stmt:=match s with
 | .FunctionDef _ _ b _ _ _ _ _ _ _=>b
 | _=>[]
def aG (s:Stmt):Scope:=match s with
 | .FunctionDef _ _ _ _ _ _ sc _ _ _=>sc
 | _=>{ kind:=.function,names:=[],isGenerator:=false,isCoroutine:=false }
abbrev gK:lH:=fun _ _ _ _ _ _=>False
abbrev E0:XK:=fun _ _ _=>False
theorem ax {X:Cx}:Passes gK X E0:=fun _ _ _ _ _ _ _ h=>h.elim
structure qz (K:PySem.W.Frag) (x qual:Str) (st:Stmt) (f:Addr) (fd:FuncData):Prop where
 ex:∃ (oc:Value) (od:Option Addr) (kV doc pm:Value) (an:Option Addr) (cdv ct:Value) (osl:Array (Option Value)),
  fd = PySem.W.fnOf x qual (aS st) (aP st) (aG st) .none kV doc pm an cdv ct ∧ K.lookup f = some ⟨oc,od,.func fd,osl⟩ ∧ PySem.W.codeIn K cdv qual = true
 kp:PySem.W.keepIn K (.ref f) = true
section
variable {P:Program} {w:World} {K:PySem.W.Frag} {mg:Str → Option Value} {base:Heap}
theorem qz.ok {x qual:Str} {st:Stmt} {f:Addr} {fd:FuncData} {N ps:List Str} {k:Nat} {sp:Sp} (F:qz K x qual st f fd) (S:aX N ps (aG st)) (len:∀ vs H Q E,sp vs H Q E → vs.length = ps.length)
  (hbody:∀ (cdv:Value) (A:Around) (outer:List Env) (s:Shared) (H:Hp) (vs:List V) (Q:VK) (E:XK),cD k (A.deeper (envOfC qual (aG st) s.heap.objs.size f cdv)) → sp vs H Q E →
   ∃ t,jJ (ie gK P w K mg base N qual (aG st) f cdv A outer s H E).v5 (aP st) t ∧ t { nx:=fun _ H'=>Q .bA H',rt:=Q } (start N vs) H):bF P w K mg base gK (k + 1) f fd ps sp:=by
 obtain ⟨oc,od,kV,doc,pm,an,cdv,ct,osl,rfl,lk,hcd⟩:=F.ex
 refine tY lk hcd S len fun A outer s H vs Q E hr hsp=>?_
 obtain ⟨t,h,q⟩:=hbody cdv A outer s H vs Q E hr hsp
 exact ⟨t,h.v5,q⟩
theorem qz.binds {x qual:Str} {st:Stmt} {f:Addr} {fd:FuncData} {ps:List Str} (F:qz K x qual st f fd)
  (h:∀ (kV doc pm:Value) (an:Option Addr) (cdv ct:Value) (us:List Value),us.length = ps.length → bindArgs (PySem.W.fnOf x qual (aS st) (aP st) (aG st) .none kV doc pm an cdv ct) ⟨us,[]⟩ = pure (ps.zip us)):Binds K fd ps []:=by
 obtain ⟨oc,od,kV,doc,pm,an,cdv,ct,osl,rfl,lk,hcd⟩:=F.ex
 exact .all (h kV doc pm an cdv ct)
theorem av {x qual:Str} {st:Stmt} {f:Addr} {oc:Value} {od an:Option Addr} {osl:Array (Option Value)} {kV doc pm cdv ct:Value} (l:K.lookup f = some ⟨oc,od,.func (PySem.W.fnOf x qual (aS st) (aP st) (aG st) .none kV doc pm an cdv ct),osl⟩)
  (c:PySem.W.codeIn K cdv qual = true) (k:PySem.W.keepIn K (.ref f) = true):qz K x qual st f (PySem.W.fnOf x qual (aS st) (aP st) (aG st) .none kV doc pm an cdv ct):=⟨⟨oc,od,kV,doc,pm,an,cdv,ct,osl,rfl,l,c⟩,k⟩
end
theorem dU {A:Around} {k:Nat} (hr:cD k A):A.units + 1 < cLine:=Nat.lt_of_le_of_lt (Nat.add_le_add_left (by decide:1 ≤ 64) _) hr.units
section
variable {X:Cx}
theorem pv (i:Nat) {x:Str} {pos:Pos} (hN:X.N[i]? = some x:=by rfl) (hv:ze X.env.scope x:=by first | exact Or.inl rfl | exact Or.inr (Or.inl rfl) | exact Or.inr (Or.inr rfl)) (hd:(x == ("__debug__" : Str)) = false:=by decide)
  (hcd:(x == ("__classdict__" : Str)) = false:=by decide):PE X (.Name x pos) (yS i):=by
 first
 | exact (t9 hN hv hd hcd)
 | (unfold PE at *; exact (t9 hN hv hd hcd))
end
theorem bE {A B:Prop} (h:B):if false = true then A else B:=by
 rw [if_neg Bool.false_ne_true]
 exact h
theorem bR {A B:Prop} (h:A):if true = true then A else B:=by
 rw [if_pos rfl]
 exact h
theorem cE {c A B:Prop} [Decidable c] (h1:c → A) (h2:¬ c → B):if c then A else B:=by
 by_cases h:c
 ·rw [if_pos h]
  exact h1 h
 ·rw [if_neg h]
  exact h2 h
def aH (H H':Hp):Prop:=∀ b o,H b = some o → H' b = some o
theorem aH.refl (H:Hp):aH H H:=fun _ _ h=>h
theorem aH.trans {H H1 H2:Hp} (a:aH H H1) (b:aH H1 H2):aH H H2:=fun c o h=>b c o (a c o h)
theorem aH.free {H H':Hp} (e:aH H H') {l:Addr} (h:H' l = Option.none):H l = Option.none:=by
 cases q:H l with
 | none=>rfl
 | some o =>
  rw [e l o q] at h
  cases h
theorem aH.seq {K:PySem.W.Frag} {H H':Hp} {a:Addr} {xs:List V} (e:aH H H') (h:ao K H a xs):ao K H' a xs:=by
 rcases h with (h | ⟨o,h⟩) | h
 ·exact .inl (.inl (e _ _ h))
 ·exact .inl (.inr ⟨o,e _ _ h⟩)
 ·exact .inr h
section
variable {κ:Type} [DecidableEq κ]
end
end L2
set_option maxHeartbeats 4000000
namespace L2
open PySem PySem.Spec PyProof.Rows
section
variable {X:Cx} {a b c:Expr} {ta tb tc:TE} {pos:Pos}
inductive sr:V → Value → Prop where
 | ty (n:String):sr (.ty n) (.type n)
 | own (C:Addr):sr (.ref C) (.ref C)
def xy (K:PySem.W.Frag):List V → Hp → VK → Prop:=fun xs H Q=>∃ x c cv t b,xs = [x,c] ∧ sr c cv ∧ dQ K H x t ∧ PySem.W.kitOne K t cv = some b ∧ Q (.bl b) H
theorem nQ:bW X (.builtin "isinstance") (xy X.K):=by
 unfold bW at *
 exact by
  intro pins s σ H xs us Q I rv h
  obtain ⟨x,c,cv,t,b,rfl,hc,ty,e,q⟩:=h
  obtain ⟨u,cu,rfl,ru,rc⟩:=rv.two
  have ec:cu = cv:=by cases hc <;> exact rc
  subst ec
  exact q8 I ru ty e fun tk=>⟨.bl b,H,I.tok tk,rfl,q⟩
end
end L2
namespace L2
open PySem PySem.Spec PyProof.Rows
/- what a block's context hangs on: the closure's cells,the state and abstract heap ahead of the block,the iterator's records -/
set_option genInjectivity false in
set_option genSizeOfSpec false in
set_option genSizeOf false in
structure Bk where
 cl:List (Str × Addr)
 s2:Shared
 H2:Hp
 fp:List Addr
def bx (X:Cx) (scope:Scope) (N':List Str) (B:Bk):Cx :=
 { X with N:=N',s₀:=B.s2,H₀:=B.H2,env:=compEnvC scope B.cl B.s2.heap.objs.size X.env,outer:=X.stack,stack:=X.stack,ex:=B.fp,fn:=fun _=>false,pn:=[],xe:=fun _ _=>False }
def xC (js:List (Option Nat)) (σ:St):St:=js.map fun o=>o.bind fun j=>(σ[j]?).join
structure xi (X:Cx) (scope:Scope) (N':List Str) (js:List (Option Nat)):Prop where
 len:js.length = N'.length
 ok:∀ (i j:Nat) (x:Str),js[i]? = some (some j) → N'[i]? = some x → X.N[j]? = some x ∧ scope.names.lookup x = some .free ∧ (X.env.kindOf x = some .cell ∨ X.env.kindOf x = some .free)
theorem oh {env : Env} : ∀ (names : List (Str × NameKind)) (cs : List (Str × Addr)), (∀ x ∈ names, x.2 = .free → ∃ c, env.cells.lookup x.1 = some c) → (∀ x c, cs.lookup x = some c → env.cells.lookup x = some c) →
    ∃ cl, (forIn names cs (fun (x : Str × NameKind) (r : List (Str × Addr)) => match x with
      | (name, kind) => if (kind == NameKind.free) = true then (do let y ← cellOf env name; pure (ForInStep.yield ((name, y) :: r))) else pure (ForInStep.yield r)) : Sem (List (Str × Addr))) = pure cl ∧
      (∀ x c, cl.lookup x = some c → env.cells.lookup x = some c) ∧ (∀ x c, cs.lookup x = some c → ∃ c', cl.lookup x = some c') ∧ ∀ x, (x, NameKind.free) ∈ names → ∃ c, cl.lookup x = some c := by
  intro names
  induction names with
  | nil => intro cs _ h2; exact ⟨cs, rfl, h2, fun x c e => ⟨c, e⟩, fun x hx => absurd hx (by simp)⟩
  | cons y r ih =>
    intro cs h1 h2
    obtain ⟨n, k⟩ := y
    have h1r : ∀ x ∈ r, x.2 = .free → ∃ c, env.cells.lookup x.1 = some c := fun x hx => h1 x (List.mem_cons_of_mem _ hx)
    by_cases hk : k = .free
    · subst hk
      obtain ⟨c, hc⟩ := h1 (n, .free) List.mem_cons_self rfl
      have h2' : ∀ x d, List.lookup x ((n, c) :: cs) = some d → env.cells.lookup x = some d := fun x d e => by
        by_cases hx : x = n
        · subst hx
          simp only [List.lookup_cons, beq_self_eq_true] at e
          rw [hc]; exact e
        · have hb : (x == n) = false := by simpa using hx
          simp only [List.lookup_cons, hb] at e
          exact h2 x d e
      obtain ⟨cl, e1, e2, e3, e4⟩ := ih ((n, c) :: cs) h1r h2'
      refine ⟨cl, ?_, e2, fun x d e => ?_, fun x hx => ?_⟩
      · rw [List.forIn_cons]
        have q : cellOf env n = pure c := by unfold cellOf; rw [hc]
        show ((if (NameKind.free == NameKind.free) = true then (do let y ← cellOf env n; pure (ForInStep.yield ((n, y) :: cs))) else pure (ForInStep.yield cs)) >>= _) = _
        rw [if_pos (by decide), q]
        exact e1
      · by_cases hx : x = n
        · exact e3 x c (by subst hx; simp [List.lookup_cons])
        · exact e3 x d (by have hb : (x == n) = false := by simpa using hx
                           simp only [List.lookup_cons, hb]; exact e)
      · rcases List.mem_cons.mp hx with z | z
        · injection z with z1 _
          exact e3 x c (by subst z1; simp [List.lookup_cons])
        · exact e4 x z
    · obtain ⟨cl, e1, e2, e3, e4⟩ := ih cs h1r h2
      refine ⟨cl, ?_, e2, e3, fun x hx => ?_⟩
      · rw [List.forIn_cons]
        have hb : (k == NameKind.free) = false := by simpa using hk
        show ((if (k == NameKind.free) = true then _ else pure (ForInStep.yield cs)) >>= _) = _
        rw [if_neg (by rw [hb]; decide)]
        exact e1
      · rcases List.mem_cons.mp hx with z | z
        · injection z with _ z2
          exact absurd z2.symm hk
        · exact e4 x z
theorem kf {scope:Scope} {env:Env} (h:∀ x ∈ scope.names,x.2 = .free → ∃ c,env.cells.lookup x.1 = some c) :
  ∃ cl,closureFor scope env = pure cl ∧ (∀ x c,cl.lookup x = some c → env.cells.lookup x = some c) ∧ ∀ x,(x,NameKind.free) ∈ scope.names → ∃ c,cl.lookup x = some c:=by
 obtain ⟨cl,e1,e2,_,e4⟩:=oh (env:=env) scope.names [] h (fun x c e=>by simp at e)
 refine ⟨cl,?_,e2,e4⟩
 have q:closureFor scope env = (forIn scope.names [] (fun (x:Str × NameKind) (r:List (Str × Addr))=>match x with
   | (name,kind)=>if (kind == NameKind.free) = true then (do let y ← cellOf env name; pure (ForInStep.yield ((name,y) :: r))) else pure (ForInStep.yield r)):Sem (List (Str × Addr))) >>= fun r=>pure r:=rfl
 rw [q,e1]
 rfl
theorem iZ {env:Env}:∀ {names:List (Str × NameKind)} {x:Str},names.lookup x = some .free →
  (names.map fun (n,k)=>if (k == NameKind.free && env.scope.kind == .function && env.kindOf n == some .cell) then (n,NameKind.cell) else (n,k)).lookup x = some .cell ∨
  (names.map fun (n,k)=>if (k == NameKind.free && env.scope.kind == .function && env.kindOf n == some .cell) then (n,NameKind.cell) else (n,k)).lookup x = some .free
 | [],_,h=>by simp at h
 | (n,k) :: r,x,h=>by
  have ih:=@iZ env r x
  simp only [List.map_cons]
  cases hx:x == n with
  | true =>
   simp only [List.lookup_cons,hx] at h
   cases h
   by_cases hc:(NameKind.free == NameKind.free && env.scope.kind == .function && env.kindOf n == some .cell) = true
   ·rw [if_pos hc]; left; simp only [List.lookup_cons,hx]
   ·rw [if_neg hc]; right; simp only [List.lookup_cons,hx]
  | false =>
   simp only [List.lookup_cons,hx] at h
   by_cases hc:(k == NameKind.free && env.scope.kind == .function && env.kindOf n == some .cell) = true
   ·rw [if_pos hc]; simp only [List.lookup_cons,hx]; exact ih h
   ·rw [if_neg hc]; simp only [List.lookup_cons,hx]; exact ih h
theorem jY {env:Env}:∀ {names:List (Str × NameKind)} {x:Str},
  ((names.map fun (n,k)=>if (k == NameKind.free && env.scope.kind == .function && env.kindOf n == some .cell) then (n,NameKind.cell) else (n,k)).lookup x = some .cell ∨
  (names.map fun (n,k)=>if (k == NameKind.free && env.scope.kind == .function && env.kindOf n == some .cell) then (n,NameKind.cell) else (n,k)).lookup x = some .free) →
  names.lookup x = some .cell ∨ names.lookup x = some .free
 | [],_,h=>by simp at h
 | (n,k) :: r,x,h=>by
  have ih:=@jY env r x
  simp only [List.map_cons] at h
  cases hx:x == n with
  | true =>
   simp only [List.lookup_cons,hx]
   by_cases hc:(k == NameKind.free && env.scope.kind == .function && env.kindOf n == some .cell) = true
   ·right
    have:k = .free:=by
     simp only [Bool.and_eq_true] at hc
     simpa using hc.1.1
    rw [this]
   ·rw [if_neg hc] at h
    simp only [List.lookup_cons,hx] at h
    exact h
  | false =>
   simp only [List.lookup_cons,hx]
   apply ih
   by_cases hc:(k == NameKind.free && env.scope.kind == .function && env.kindOf n == some .cell) = true
   ·rw [if_pos hc] at h; simp only [List.lookup_cons,hx] at h; exact h
   ·rw [if_neg hc] at h; simp only [List.lookup_cons,hx] at h; exact h
theorem oM {X:Cx} {pins:List (Addr × Obj)} {σ:St} {H2:Hp} {s2:Shared} {scope:Scope} {cl:List (Str × Addr)} {N':List Str} {js:List (Option Nat)} {fp:List Addr} {h':Heap} {t':Nat} {m0:Str → Option Value}
  (I:Inv X pins σ H2 s2) (hk:scope.kind = .function) (hcell:∀ y ∈ scope.names,y.2 ≠ .cell)
  (hf:∀ b ∈ fp,ja X pins H2 b) (ho:∀ b ∈ fp,∃ o,s2.heap.get? b = some o)
  (c1:∀ x c,cl.lookup x = some c → X.env.cells.lookup x = some c) (c2:∀ x,(x,NameKind.free) ∈ scope.names → ∃ c,cl.lookup x = some c)
  (cap:xi X scope N' js) (ns:h'.Ns s2.heap.objs.size m0) (sb:∀ b o,s2.heap.get? b = some o → h'.get? b = some o) :
  Inv (bx X scope N' ⟨cl,s2,H2,fp⟩) [] (xC js σ) H2 { s2 with heap:=h',toks:=t' }:=by
 have isc:∀ c v,s2.heap.IsCell c v → h'.IsCell c v:=fun c v ⟨o,e,d⟩=>⟨o,sb _ _ e,d⟩
 refine ⟨⟨I.ok.mod,hk,I.ok.glob,I.ok.blt,Nat.le_refl _,fun x y c h1 h2=>I.ok.inj x y c (c1 x c h1) (c1 y c h2),fun x hx=>?_,fun x c h=>absurd h (by simp [bx]),I.ok.hd,I.ok.frames,.inl rfl,fun b hb=>⟨?_,fun x c e=>?_⟩,I.bs,Nat.le_trans I.ok.bsz I.sz,
  fun b o e hb=>?_,fun b hb hs=>?_,I.stack,I.eh⟩,rfl,I.bare,Un.kept sb,⟨m0,ns,fun i x v e1 e2 e3=>?_⟩,fun x c e=>?_,I.hok.fresh (Nat.le_refl _),fun x c e=>I.freeC x c (c1 x c e),fun p hp=>absurd hp (by simp [bx]),I.hok.kept sb,?_⟩
 ·have hx':=jY (env:=X.env) (names:=scope.names) (x:=x) hx
  rcases hx' with z | z
  ·exact absurd rfl (hcell _ (PySem.mem_of_lookup z))
  ·exact c2 x (PySem.mem_of_lookup z)
 ·obtain ⟨o,e⟩:=ho b hb
  exact Nat.ne_of_lt (Heap.lt_size e)
 ·exact (hf b hb).2.2.2.2.1 x c (c1 x c e)
 ·rcases (hf b hb).2.2.2.1 with z | z
  ·exact I.ok.noex b o e z
  ·exact absurd (Nat.lt_of_lt_of_le (Heap.lt_size e) (Nat.le_trans I.ok.bsz z)) (Nat.lt_irrefl _)
 ·rcases List.mem_cons.mp (I.oj b hs) with z | z
  ·exact (hf b hb).2.1 z
  ·exact (hf b hb).2.2.1 z
 ·have e2':((js.map fun o=>o.bind fun j=>(σ[j]?).join):St)[i]? = some (some v):=e2
  rw [List.getElem?_map] at e2'
  cases q:js[i]? with
  | none=>rw [q] at e2'; cases e2'
  | some o =>
   rw [q] at e2'
   cases o with
   | none=>simp at e2'
   | some j =>
    have q2:(σ[j]?).join = some v:=by simpa using e2'
    have q3:σ[j]? = some (some v):=by
     cases z:σ[j]? with
     | none=>rw [z] at q2; cases q2
     | some w=>rw [z] at q2; exact congrArg some q2
    obtain ⟨n1,n2,n3⟩:=cap.ok i j x q e1
    obtain ⟨m,hm,hl⟩:=I.loc
    obtain ⟨u,r,l⟩:=hl j x v n1 q3 (.inr n3)
    refine ⟨u,r,.inr ⟨iZ (env:=X.env) n2,?_⟩⟩
    obtain ⟨c,hc⟩:=c2 x (PySem.mem_of_lookup n2)
    refine ⟨c,hc,?_⟩
    rcases l with ⟨l,_⟩ | ⟨_,c',e',z'⟩
    ·rcases n3 with n3 | n3 <;> (rw [n3] at l; cases l)
    ·have:=c1 x c hc
     rw [e'] at this; cases this
     exact isc _ _ z'
 ·obtain ⟨v,z⟩:=I.cell x c (c1 x c e)
  exact ⟨v,isc _ _ z⟩
 ·show (js.map _).length = N'.length
  rw [List.length_map]; exact cap.len
@[irreducible] def oI (X:Cx) (ifs:List Expr) (t:TT):Prop :=
 ∀ (pins:List (Addr × Obj)) (s:Shared) (σ:St) (H:Hp) (Q:Bool → Hp → Prop),Inv X pins σ H s → t σ H Q →
  wpAny (model X.prog X.w) X.A (forIn ifs true fun c r=>if r = true then do let ok ← isTrue c X.env (eval c X.env); pure (ForInStep.yield ok) else pure (ForInStep.yield r)) (TP X pins σ Q) X.xe s
def we:TT:=fun _ H Q=>Q true H
theorem gU {X:Cx}:oI X [] we:=by
 first
 | exact (fun _ _ _ H _ I h=>wpAny_tests_nil ⟨H,I,h⟩)
 | (unfold oI at *; exact (fun _ _ _ H _ I h=>wpAny_tests_nil ⟨H,I,h⟩))
theorem eT {X:Cx} {c:Expr} {t:TT} (hc:PT X c t):oI X [c] t:=by
 first
 | exact (fun pins s σ H Q I h=>wpAny_tests_one (hc pins s σ H Q I h))
 | (unfold PT at *; unfold oI at *; exact (fun pins s σ H Q I h=>wpAny_tests_one (hc pins s σ H Q I h)))
section
variable {prog:Program} {w:World} {A:Around} {R:Result → Shared → Prop} {s:Shared}
theorem ny {elt target iter:Expr} {ifs:List Expr} {scope:Scope} {pos:Pos} {it acc:Value} {env:Env} (I:Nat → Shared → Prop)
  (turn:∀ n s,I n s → wpAny (model prog w) A (pyNext it) (fun r s₁=>match r with
   | none=>R (.ok .next) s₁
   | some v=>wpAny (model prog w) A (letOwnedTupleGo target it v) (fun _ s₁=>wpAny (model prog w) A (assign target env v) (fun _ s₂ =>
     wpAny (model prog w) A (forIn ifs true fun c r=>if r = true then do let ok ← isTrue c env (eval c env); pure (ForInStep.yield ok) else pure (ForInStep.yield r)) (fun ok s₃ =>
      if ok = true then wpAny (model prog w) A (eval elt env) (fun x s₄ =>
       wpAny (model prog w) A (call (.builtin "list.append") [acc,x]) (fun _ s₅=>∃ m,m < n ∧ I m s₅) (fun _ _=>False) s₄) (fun _ _=>False) s₃
      else ∃ m,m < n ∧ I m s₃) (fun _ _=>False) s₂) (fun _ _=>False) s₁) (fun _ _=>False) s₁) (fun _ _=>False) s)
  (n:Nat) (h:I n s) :
  codeAny (model prog w) A (.compLoop (.ListComp elt [⟨target,iter,ifs,0⟩] scope pos) 0 it acc env) R s:=by
 refine codeAny_loop rfl I (fun n s hI=>?_) n h
 show wpAny _ A ((compTurn (.ListComp elt [⟨target,iter,ifs,0⟩] scope pos) 0 it acc env).onRaise (fun x=>do noteFrame x env; theTreesLotGoes x)) _ _ s
 refine wpAny_noted ?_
 rw [compTurn_list]
 refine wpAny_bind (wpAny_standAt (wpAny_bind (wpAny_mono (turn n s hI) (fun r s₁ h₁=>?_) fun _ _ h'=>h'.elim)))
 cases r with
 | none=>exact wpAny_pure h₁
 | some v =>
  refine wpAny_bind (wpAny_mono h₁ (fun _ s₁ h₁=>?_) fun _ _ h'=>h'.elim)
  refine wpAny_bind (wpAny_mono h₁ (fun _ s₂ h₂=>wpAny_bind (wpAny_mono h₂ (fun ok s₃ h₃=>?_) fun _ _ h'=>h'.elim)) fun _ _ h'=>h'.elim)
  cases ok with
  | false=>exact wpAny_pure ⟨rfl,h₃⟩
  | true =>
   exact wpAny_bind (wpAny_bind (wpAny_mono h₃ (fun x s₄ h₄=>wpAny_bind (wpAny_mono h₄ (fun _ s₅ h₅=>wpAny_pure (wpAny_pure ⟨rfl,h₅⟩)) fun _ _ h'=>h'.elim)) fun _ _ h'=>h'.elim))
end
def jU (J:It) (l:Addr) (g:TG) (tc:TT) (te:TE) (σ:St) (H:Hp) (Q:VK):Prop :=
 ∃ W:Nat → Nat → St → List V → Hp → Prop,(∃ m,W 0 m σ [] H) ∧ ∀ i m σ acc H,W i m σ acc H → H l = some (.lst acc) ∧ ((J.stop i H ∧ Q (.ref l) H) ∨
  (J.go i H ∧ acc.length < sizeLine ∧ ∀ x H',J.yld i H x H' → g x σ H' fun σ2 H2=>tc σ2 H2 fun b H3=>if b = true then
   te σ2 H3 fun v H4=>H4 l = some (.lst acc) ∧ ∃ m',m' < m ∧ W (i + 1) m' σ2 (acc ++ [v]) (upd H4 l (.lst (acc ++ [v])))
   else ∃ m',m' < m ∧ W (i + 1) m' σ2 acc H3))
def vg (js:List (Option Nat)) (wi:TI) (g:Bk → TG) (tc:Bk → TT) (te:Bk → TE):TE:=fun σ H Q=>wi σ H fun J H1=>∀ l B,H1 l = none → jU J l (g B) (tc B) (te B) (xC js σ) (upd H1 l (.lst [])) Q
section
variable {X:Cx} {elt tg iter:Expr} {ifs:List Expr} {scope:Scope} {pos:Pos} {N':List Str} {js:List (Option Nat)} {wi:TI} {g:Bk → TG} {tc:Bk → TT} {te:Bk → TE}
theorem ku {pins:List (Addr × Obj)} {σ:St} {H1:Hp} {s1:Shared} {it:Addr} {fp:List Addr} {tn:Nat → Heap → Prop} {J:It} {cl:List (Str × Addr)} {Q:VK} {RR:Value → Addr → Result → Shared → Prop}
  (hc:X.calm = true) (hk:scope.kind = .function) (hcell:∀ y ∈ scope.names,y.2 ≠ .cell) (cap:xi X scope N' js)
  (blk:∀ B,PG (bx X scope N' B) tg (g B) ∧ oI (bx X scope N' B) ifs (tc B) ∧ PE (bx X scope N' B) elt (te B))
  (c1:∀ x c,cl.lookup x = some c → X.env.cells.lookup x = some c) (c2:∀ x,(x,NameKind.free) ∈ scope.names → ∃ c,cl.lookup x = some c)
  (I:Inv X pins σ H1 s1) (T:Turn X.prog X.w X.K tg J fp it tn) (st:tn 0 s1.heap) (hf:∀ b ∈ fp,ja X pins H1 b)
  (h:∀ l B,H1 l = none → jU J l (g B) (tc B) (te B) (xC js σ) (upd H1 l (.lst [])) Q)
  (hRR:∀ l C H' s' (m':Str → Option Value),Inv X pins σ H' s' → Q (.ref l) H' → s'.heap.Ns C m' → H' C = none → C ≠ X.env.locals → (∀ x c,X.env.cells.lookup x = some c → c ≠ C) → C ∉ X.fs → X.s₀.heap.objs.size ≤ C → (∀ p ∈ X.pn ++ pins,p.1 ≠ C) →
   RR (.ref l) C (.ok .next) s') :
  wpAny (model X.prog X.w) X.A (newList []) (fun acc s₃=>wpAny (model X.prog X.w) X.A (newFunctionEnv scope X.env.globals cl [] X.env.qual none .none (some X.env)) (fun cenv s₄ =>
   codeAny (model X.prog X.w) X.A (.compStart (.ListComp elt [⟨tg,iter,ifs,0⟩] scope pos) 0 (.ref it) acc { cenv with scope:=relabel scope X.env }) (RR acc cenv.locals) s₄) X.xe s₃) X.xe s1:=by
 unfold PE at *; unfold PG at *; unfold oI at *
 exact by
  refine wpAny_newObj_type ?_
  have I2:Inv X pins σ (upd H1 s1.heap.objs.size (.lst [])) { s1 with heap:=s1.heap.push { cls:=.type "list",data:=.seq ([]:List Value).toArray } }:=I.wC (t':=s1.toks) .nil (Nat.zero_le _)
  have hl:H1 s1.heap.objs.size = none:=I.fresh
  generalize es2:({ s1 with heap:=s1.heap.push { cls:=.type "list",data:=.seq ([]:List Value).toArray } }:Shared) = s2 at I2 ⊢
  generalize el:s1.heap.objs.size = l at *
  have ne_fp:∀ b ∈ fp,b ≠ l:=fun b hb=>by
   obtain ⟨o,e,_⟩:=T.obj _ _ st b hb
   rw [← el]
   exact Nat.ne_of_lt (Heap.lt_size e)
  have hf2:∀ b ∈ fp,ja X pins (upd H1 l (.lst [])) b:=fun b hb=>⟨by rw [aK (ne_fp b hb)]; exact (hf b hb).1,(hf b hb).2⟩
  have kp:∀ b o,s1.heap.get? b = some o → s2.heap.get? b = some o:=fun b o e=>by rw [← es2]; exact Heap.get?_push_of_some _ e
  have st2:tn 0 s2.heap:=T.keep _ _ _ st fun b _ o e=>kp b o e
  refine wpAny_newFunctionEnv hcell (by intro y hy; simp at hy) (fun h' ns sb=>?_) hk
  have kp2:∀ b o,s2.heap.get? b = some o → h'.get? b = some o:=fun b o e=>(sb.2 b (Nat.ne_of_lt (Heap.lt_size e))).trans (Heap.get?_push_of_some _ e)
  have st3:tn 0 h':=T.keep _ _ _ st2 fun b _ o e=>kp2 b o e
  have I3:=oM (t':=s2.toks + ([]:List (Str × Value)).length) (m0:=fun x=>([]:List (Str × Value)).reverse.lookup x) I2 hk hcell hf2 (fun b hb=>by obtain ⟨o,e,_⟩:=T.obj _ _ st2 b hb; exact ⟨o,e⟩) c1 c2 cap ns kp2
  obtain ⟨pg,pif,pel⟩:=blk ⟨cl,s2,upd H1 l (.lst []),fp⟩
  obtain ⟨W,⟨m0,w0⟩,turn⟩:=h l ⟨cl,s2,upd H1 l (.lst []),fp⟩ hl
  have fpY:∀ {H':Hp},(∀ b ∈ fp,H' b = none) → ∀ b ∈ fp,ja (bx X scope N' ⟨cl,s2,upd H1 l (.lst []),fp⟩) [] H' b:=fun {H'} hn b hb =>
   ⟨hn b hb,(I3.ok.exf b hb).1,I3.ok.exfs b hb,.inl hb,(I3.ok.exf b hb).2,fun p hp=>absurd hp (by simp [bx])⟩
  have loop:codeAny (model X.prog X.w) X.A (.compLoop (.ListComp elt [⟨tg,iter,ifs,0⟩] scope pos) 0 (.ref it) (.ref l) (compEnvC scope cl s2.heap.objs.size X.env)) (RR (.ref l) s2.heap.objs.size) { s2 with heap:=h',toks:=s2.toks + ([]:List (Str × Value)).length }:=by
   refine ny (fun n s'=>∃ i σ' acc H',Inv (bx X scope N' ⟨cl,s2,upd H1 l (.lst []),fp⟩) [] σ' H' s' ∧ tn i s'.heap ∧ (∀ b ∈ fp,H' b = none) ∧ W i n σ' acc H') ?_ m0 ⟨0,_,_,_,I3,st3,fun b hb=>(hf2 b hb).1,w0⟩
   rintro n s3 ⟨i,σ3,acc,H3,J3,t3,f3,w3⟩
   obtain ⟨hacc,alt⟩:=turn i n σ3 acc H3 w3
   rcases alt with ⟨stop,q⟩ | ⟨go,hz,step⟩
   ·refine bX (T.done (bx X scope N' ⟨cl,s2,upd H1 l (.lst []),fp⟩) rfl rfl rfl hc i [] s3 σ3 H3 (fun _ _=>False) J3 (fpY f3) t3 stop) fun r s4 ⟨hr,J4⟩=>?_
    subst hr
    have IX:Inv X pins σ H3 s4:=I2.vd (ch:=fp) J4.os J4.base J4.hok J4.bare fun b hb=>⟨(hf2 b hb).2.2.2.1,(hf2 b hb).2.1,(hf2 b hb).2.2.2.2.1,(hf2 b hb).2.2.2.2.2⟩
    obtain ⟨m',hn',_⟩:=J4.loc
    refine hRR l s2.heap.objs.size H3 s4 m' IX q hn' J4.free (Nat.ne_of_gt I2.lt) (fun x c e=>?_) (I2.y0 (Nat.le_refl _)) I2.sz fun p hp=>Nat.ne_of_lt (Heap.lt_size (I2.pin p hp).1)
    obtain ⟨v,z⟩:=I2.cell x c e
    exact Nat.ne_of_lt z.lt
   ·refine bX (T.item (bx X scope N' ⟨cl,s2,upd H1 l (.lst []),fp⟩) rfl rfl rfl hc i [] s3 σ3 H3 (fun _ _=>False) J3 (fpY f3) t3 go) fun r s4 ⟨u,hr,h4⟩=>?_
    subst hr
    refine bX h4 fun _ s5 ⟨x,H5,J5,r5,y5,t5,f5⟩=>?_
    have J5':=J5.pinned (fpY f5) (T.obj _ _ t5)
    refine bX (pg _ s5 σ3 H5 x u _ J5' r5 (step x H5 y5)) fun _ s6 ⟨σ6,H6,J6,q6⟩=>?_
    refine bX (pif _ s6 σ6 H6 _ J6 q6) fun ok s7 ⟨H7,J7,q7⟩=>?_
    have again:∀ {σ8:St} {H8:Hp} {s8:Shared} {acc8:List V},Inv (bx X scope N' ⟨cl,s2,upd H1 l (.lst []),fp⟩) ([] ++ kE fp s5.heap) σ8 H8 s8 → (∃ m',m' < n ∧ W (i + 1) m' σ8 acc8 H8) →
      ∃ m,m < n ∧ ∃ i σ' acc H',Inv (bx X scope N' ⟨cl,s2,upd H1 l (.lst []),fp⟩) [] σ' H' s8 ∧ tn i s8.heap ∧ (∀ b ∈ fp,H' b = none) ∧ W i m σ' acc H':=fun {σ8 H8 s8 acc8} J8 hw=>by
     obtain ⟨m',hm,w8⟩:=hw
     refine ⟨m',hm,i + 1,σ8,acc8,H8,J8.ic,T.keep _ _ _ t5 fun b hb o e=>(J8.pin (b,o) (List.mem_append_right _ (List.mem_append_right _ (gD hb e)))).1,fun b hb=>?_,w8⟩
     obtain ⟨o,e,d⟩:=T.obj _ _ t5 b hb
     exact (J8.pin (b,o) (List.mem_append_right _ (List.mem_append_right _ (gD hb e)))).2.1
    cases ok with
    | false=>exact again J7 q7
    | true =>
     refine bX (pel _ s7 σ6 H7 _ J7 q7) fun xv s8 ⟨v,H8,J8,r8,hl8,m',hm,w8⟩=>?_
     have mtq:=dC (X:=bx X scope N' ⟨cl,s2,upd H1 l (.lst []),fp⟩)
     unfold mR at mtq
     refine bX (mtq _ s8 σ6 H8 (.ref l) [v] (.ref l) [xv] (fun _ H9=>H9 = upd H8 l (.lst (acc ++ [v]))) J8 rfl (.cons r8 .nil) ⟨l,acc,v,rfl,rfl,hl8,hz,rfl⟩) fun _ s9 ⟨v9,H9,J9,_,e9⟩=>?_
     subst e9
     exact again J9 ⟨m',hm,w8⟩
  exact codeAny_compStart_list loop (T.self X.A 0 _ _ _ st3 loop)
theorem e7 (hc:X.calm = true) (hk:scope.kind = .function) (hcell:∀ y ∈ scope.names,y.2 ≠ .cell) (hnames:∀ y ∈ scope.names,y.2 = .local → scope.names.lookup y.1 = some .local)
  (hfree:∀ y ∈ scope.names,y.2 = .free → (X.env.kindOf y.1 = some .cell ∨ X.env.kindOf y.1 = some .free)) (cap:xi X scope N' js) (hi:PI X tg iter wi)
  (blk:∀ B,PG (bx X scope N' B) tg (g B) ∧ oI (bx X scope N' B) ifs (tc B) ∧ PE (bx X scope N' B) elt (te B))
  (hs:∀ x,foldedSetIterable iter X.env x = pure x:=by intro _; rfl):PE X (.ListComp elt [⟨tg,iter,ifs,0⟩] scope pos) (vg js wi g tc te):=by
 unfold PE; unfold PI at hi
 exact by
  intro pins s σ H Q I h
  obtain ⟨cl,hcl,c1,c2⟩:=kf (scope:=scope) (env:=X.env) fun x hx hxf=>I.ok.has x.1 (hfree x hx hxf)
  rw [eval_ListComp]
  refine wpAny_comprehension_free (use:=none) rfl hs hcl hk hnames (bX (hi pins s σ H _ I h) fun v s1 h1=>bX h1 fun itv s2 h2=>?_)
  obtain ⟨it,fp,tn,J,H2,e,I2,T,st2,f2,hloop⟩:=h2
  subst e
  refine ku (RR:=fun acc C=>compPost (model X.prog X.w) X.A X.xe none (EP X pins σ Q) acc C) hc hk hcell cap blk c1 c2 I2 T st2 f2 hloop ?_
  intro l C H' s' m' I' q ns fC hL hcl' hfs hs0 hpin
  exact ⟨m',ns,fun h'' sb=>⟨.ref l,H',I'.turned (t':=s'.toks) (fun b o hb e=>(sb.2 b hb).trans e) fC hL (.inr hs0) hcl' hpin,rfl,q⟩⟩
theorem gG {i:Nat} {y:Str} {py spos:Pos} (hN:X.N.Nodup) (hy:X.N[i]? = some y) (hyk:X.env.kindOf y = some .local) (hc:X.calm = true) (hk:scope.kind = .function) (hcell:∀ y ∈ scope.names,y.2 ≠ .cell)
  (hnames:∀ y ∈ scope.names,y.2 = .local → scope.names.lookup y.1 = some .local)
  (hfree:∀ y ∈ scope.names,y.2 = .free → (X.env.kindOf y.1 = some .cell ∨ X.env.kindOf y.1 = some .free)) (cap:xi X scope N' js) (hi:PI X tg iter wi)
  (blk:∀ B,PG (bx X scope N' B) tg (g B) ∧ oI (bx X scope N' B) ifs (tc B) ∧ PE (bx X scope N' B) elt (te B))
  (hsw:swapsWith (.ListComp elt [⟨tg,iter,ifs,0⟩] scope pos) (some (.Name y py)) spos.line X.env = pure true:=by rfl)
  (hs:∀ x,foldedSetIterable iter X.env x = pure x:=by intro _; rfl):PS X (.Assign [.Name y py] (.ListComp elt [⟨tg,iter,ifs,0⟩] scope pos) spos) (xN (vg js wi g tc te) (tG i)):=by
 unfold PS; unfold PI at hi
 exact by
  intro pins s σ H D I h
  obtain ⟨cl,hcl,c1,c2⟩:=kf (scope:=scope) (env:=X.env) fun x hx hxf=>I.ok.has x.1 (hfree x hx hxf)
  rw [exec_Assign_Name_used _ _ _ _ hsw]
  refine wpAny_bind (wpAny_standAt (wpAny_bind ?_))
  show wpAny _ X.A (do let _ ← comprehension (.ListComp elt [⟨tg,iter,ifs,0⟩] scope pos) scope X.env _ (newList []) false (eval iter X.env) (some (assign (.Name y py) X.env))) _ _ s
  refine wpAny_bind (wpAny_mono (wpAny_comprehension_free (use:=some (assign (.Name y py) X.env)) (Q:=fun _ s'=>SP X pins D .next s') rfl hs hcl hk hnames
   (bX (hi pins s σ H _ I h) fun v s1 h1=>bX h1 fun itv s2 h2=>?_)) (fun _ s' hq=>wpAny_pure (wpAny_pure hq)) fun _ _ e=>e)
  obtain ⟨it,fp,tn,J,H2,e,I2,T,st2,f2,hloop⟩:=h2
  subst e
  refine ku (RR:=fun acc C=>compPost (model X.prog X.w) X.A X.xe (some (assign (.Name y py) X.env)) (fun _ s'=>SP X pins D .next s') acc C) hc hk hcell cap blk c1 c2 I2 T st2 f2 hloop ?_
  intro l C H' s' m' I' q ns fC hL hcl' hfs hs0 hpin
  show wpAny _ X.A (assign (.Name y py) X.env (.ref l)) _ _ _
  refine wpAny_assign_Name (mC (v:=.ref l) I' hN hy (.inl hyk) rfl (fun s'' I'' sb=>?_) (.inr hyk))
  obtain ⟨a,sb,ha⟩:=sb
  have hCa:C ≠ a:=by
   rcases ha with z | z
   ·rw [z]; exact hL
   ·exact fun z'=>hcl' y a z z'.symm
  refine ⟨m',ns.sameBut sb hCa,fun h'' sb2=>?_⟩
  exact ⟨σ.set i (some (.ref l)),H',I''.turned (t':=s''.toks) (fun b o hb e=>(sb2.2 b hb).trans e) fC hL (.inr hs0) hcl' hpin,q⟩
end
end L2
namespace L2
open PySem PySem.Spec PyProof.Rows
theorem bL.there {P:Program} {w:World} {H:Hp} {h:Heap} {a:Addr} {o:HO} (x:bL P w H h a o):∃ ob,h.get? a = some ob:=by
 cases o with
 | lst xs=>obtain ⟨_,_,_,_,e⟩:=x; exact ⟨_,e⟩
 | tup xs=>obtain ⟨_,_,_,ob,e,_⟩:=x; exact ⟨_,e⟩
 | dK kvs=>obtain ⟨_,_,_,_,o,_,_,e,_⟩:=x; exact ⟨_,e⟩
 | dT kvs=>obtain ⟨_,_,_,_,o,_,_,e,_⟩:=x; exact ⟨_,e⟩
 | set S n=>obtain ⟨o,_,_,_,e,_⟩:=x; exact ⟨_,e⟩
 | ins C dx fs=>obtain ⟨_,_,_,e,_⟩:=x; exact ⟨_,e⟩
 | own y=>obtain ⟨_,e⟩:=x; exact ⟨_,e⟩
 | xd fs=>obtain ⟨_,⟨_,_,_,e,_⟩,_⟩:=x; exact ⟨_,e⟩
 | rng lo hi=>obtain ⟨_,_,_,e⟩:=x; exact ⟨_,e⟩
 | frz ob u=>obtain ⟨e,_⟩:=x; exact ⟨_,e⟩
 | tbl ps=>exact ⟨_,(show h.get? a = some _ from x)⟩
 | met f y=>exact ⟨_,(show h.get? a = some _ from x)⟩
 | ext φ=>obtain ⟨_,⟨_,e⟩,_⟩:=x; exact ⟨_,e⟩
theorem eJ.nO {P:Program} {w:World} {H:Hp} {h h':Heap} (x:eJ P w H h) (k:∀ b u o,H b = some u → h.get? b = some o → h'.get? b = some o):eJ P w H h':=fun a o e =>
 (x a o e).jL (fun b u hb q=>by
  rcases hb with z | z
  ·subst z; exact k _ _ _ e q
  ·exact k _ _ _ z q) (fun _ q=>q) fun _ _ q=>q
theorem mM (o:Obj) (f:Array Value → Array Value):(Obj.mapFields f o).dict = o.dict:=by
 obtain ⟨c,d,dt,sl⟩:=o
 cases dt <;> rfl
def lL (h:Heap) (e:Addr) (C:Value) (dd:Option Addr) (t1:Value):Prop:=∃ oe vs,h.get? e = some oe ∧ oe.cls = C ∧ oe.dict = dd ∧ oe.data = .fields vs ∧ vs[1]? = some t1
def nH (h:Heap) (T:Addr) (fl:Value):Prop:=∃ oT ts,h.get? T = some oT ∧ oT.data = .fields ts ∧ ts[3]? = some fl
structure Moved (fs:List Addr) (e:Addr) (T0:Option Addr) (h h':Heap):Prop where
 keep:∀ b o,b ≠ e → some b ≠ T0 → b ∉ fs → h.get? b = some o → h'.get? b = some o
 slot:∀ b o,b ∈ fs → h.get? b = some o → ∃ sl,h'.get? b = some { o with slots:=sl }
 there:∀ b o,h.get? b = some o → ∃ o',h'.get? b = some o'
section
variable {M:Model} {A:Around} {E:Value → Shared → Prop} {s:Shared}
theorem h9 {h:Heap} {a:Addr} {o:Obj} {vs:Array Value} {f:Array Value → Array Value} (e:h.get? a = some o) (hd:o.data = .fields vs):(h.update a (Obj.mapFields f)).get? a = some (Obj.mapFields f o) :=
 Heap.get?_update_self _ e (Obj.isFreed_of_fields (Obj.data_mapFields hd _))
theorem nP {base:Heap} {env:Env} {outer:List Env} {L e:Addr} {C:Value} {dd:Option Addr} {t1 head:Value} {hadNext:Bool} {Q:Unit → Shared → Prop}
  (hfr:A.frames = some (env :: outer)) (hl:s.heap.FunFrames base (env :: outer)) (hf:env.frame = some L) (X:lL s.heap e C dd t1)
  (h:∀ h' T,lL h' e C dd (.ref T) → nH h' T (rawInt L) → s.heap.objs.size ≤ T → T ≠ e → Moved (eZ (env :: outer)) e none s.heap h' → Q () { s with heap:=h' }) :
  wpAny M A (do let a ← frameOf env; let pl ← entryPlaceOf L hadNext; let b ← EntryCells.newEntry head a .none (rawInt L) .none pl; setField (.ref e) 1 b) Q E s:=by
 obtain ⟨oe,vs,he,hC,hdd,hd,h1⟩:=X
 have ne:e ∉ eZ (env :: outer):=fun hm=>by
  obtain ⟨_,o,ho,hnf⟩:=hl.mem hm
  rw [he] at ho; cases ho
  exact hnf vs hd
 refine wpAny_bind (wpAny_frameOf_fun hfr hl hf fun g so=>?_)
 refine wpAny_bind (wpAny_entryPlaceOf fun pl hpl=>?_)
 unfold EntryCells.newEntry newFields
 refine wpAny_bind (wpAny_newObj_type ?_ (hpl.sizeOk5 _ _ _ _ _))
 have hg:g.get? e = some oe:=(so.2.1 e ne).trans he
 have hsz:=(Array.getElem?_eq_some_iff.mp h1).1
 refine wpAny_setField (Heap.get?_push_of_some _ hg) hd hsz ?_
 have nT:g.objs.size ≠ e:=Nat.ne_of_gt (Heap.lt_size hg)
 refine h _ g.objs.size ⟨_,_,h9 (Heap.get?_push_of_some _ hg) hd,(Obj.cls_mapFields _ _).trans hC,(mM _ _).trans hdd,Obj.data_mapFields hd _,by simp [hsz]⟩
  ⟨_,_,(Heap.get?_update_other _ _ (Ne.symm nT)).trans (Heap.get?_push_size g rfl),rfl,?_⟩ (Nat.le_of_eq so.1.symm) nT ⟨fun b o h1 _ h3 q=>?_,fun b o hb q=>?_,fun b o q=>?_⟩
 ·rcases hpl with rfl | ⟨_,_,_,_,_,_,_,rfl⟩ <;> simp
 ·rw [Heap.get?_update_other _ _ (Ne.symm h1)]
  exact Heap.get?_push_of_some _ ((so.2.1 b h3).trans q)
 ·obtain ⟨sl,z⟩:=so.2.2 b o q
  refine ⟨sl,?_⟩
  rw [Heap.get?_update_other _ _ (fun k=>ne (by rw [k]; exact hb))]
  exact Heap.get?_push_of_some _ z
 ·by_cases k:b = e
  ·rw [k]; exact ⟨_,h9 (Heap.get?_push_of_some _ hg) hd⟩
  ·obtain ⟨sl,z⟩:=so.2.2 b o q
   exact ⟨_,by rw [Heap.get?_update_other _ _ (Ne.symm k)]; exact Heap.get?_push_of_some _ z⟩
theorem rV {base:Heap} {env:Env} {outer:List Env} {L e:Addr} {C:Value} {dd:Option Addr} {T0:Option Addr} {Q:Unit → Shared → Prop}
  (hfr:A.frames = some (env :: outer)) (hl:s.heap.FunFrames base (env :: outer)) (hf:env.frame = some L) (X:lL s.heap e C dd (T0.elim .none Value.ref)) (hT:∀ T,T0 = some T → nH s.heap T .none ∧ T ≠ e)
  (h:∀ h' T,lL h' e C dd (.ref T) → nH h' T (rawInt L) → s.heap.objs.size ≤ T → T ≠ e → Moved (eZ (env :: outer)) e T0 s.heap h' → Q () { s with heap:=h' }) :
  wpAny M A (noteFrame (.ref e) env) Q E s:=by
 obtain ⟨oe,vs,he,hC,hdd,hd,h1⟩:=id X
 unfold noteFrame
 simp only [hf]
 refine wpAny_bind (wpAny_field he hd h1 ?_)
 cases T0 with
 | none =>
  rw [if_neg (by decide)]
  exact nP hfr hl hf X h
 | some T =>
  obtain ⟨⟨oT,ts,hT,hdT,h3⟩,hne⟩:=hT T rfl
  show wpAny M A (if (Value.ref T != Value.none) = true then _ else _) Q E s
  rw [if_pos (by simp)]
  refine wpAny_bind (wpAny_field hT hdT h3 ?_)
  rw [if_neg (by simp [rawInt])]
  refine wpAny_bind (wpAny_setField hT hdT (Array.getElem?_eq_some_iff.mp h3).1 ?_)
  have oth:∀ b,b ≠ T → (s.heap.update T (Obj.mapFields (·.setIfInBounds 3 Value.none))).get? b = s.heap.get? b:=fun b hb=>Heap.get?_update_other _ _ (Ne.symm hb)
  have nfr:∀ b o,b ∈ eZ (env :: outer) → s.heap.get? b = some o → b ≠ T:=fun b o hb q z=>by
   obtain ⟨_,o',ho',hnf⟩:=hl.mem hb
   rw [z,hT] at ho'; cases ho'
   exact hnf _ hdT
  have hl2:(s.heap.update T (Obj.mapFields (·.setIfInBounds 3 Value.none))).FunFrames base (env :: outer):=hl.of_keeps fun b o hb hnf=>⟨o,(oth b fun z=>by rw [z,hT] at hb; cases hb; exact hnf _ hdT).trans hb,rfl⟩
  refine nP (s:={ s with heap:=s.heap.update T (Obj.mapFields (·.setIfInBounds 3 Value.none)) }) hfr hl2 hf ⟨oe,vs,(oth e (Ne.symm hne)).trans he,hC,hdd,hd,h1⟩ fun h' T2 x1 x2 x3 x4 mv=>?_
  have goneT:s.heap.objs.size ≤ T2:=Nat.le_trans (Nat.le_of_eq (Heap.size_after_update ..).symm) x3
  refine h h' T2 x1 x2 goneT x4 ⟨fun b o k1 k2 k3 q=>mv.keep b o k1 (by simp) k3 ((oth b fun z=>k2 (by rw [z])).trans q),fun b o hb q=>mv.slot b o hb ((oth b (nfr b o hb q)).trans q),fun b o q=>?_⟩
  by_cases k:b = T
  ·exact mv.there b _ (by rw [k]; exact h9 hT hdT)
  ·exact mv.there b o ((oth b k).trans q)
theorem nM {e T:Addr} {C:Value} {dd:Option Addr} {fl:Value} {Q:Unit → Shared → Prop} (X:lL s.heap e C dd (.ref T)) (hT:nH s.heap T fl) (hne:T ≠ e)
  (h:∀ h',lL h' e C dd (.ref T) → nH h' T .none → (∀ b o,b ≠ T → s.heap.get? b = some o → h'.get? b = some o) → (∀ b o,s.heap.get? b = some o → ∃ o',h'.get? b = some o') → Q () { s with heap:=h' }) :
  wpAny M A (setFlight (.ref e) none) Q E s:=by
 obtain ⟨oe,vs,he,hC,hdd,hd,h1⟩:=X
 obtain ⟨oT,ts,hT,hdT,h3⟩:=hT
 have hsz:=(Array.getElem?_eq_some_iff.mp h3).1
 unfold setFlight
 refine wpAny_bind (wpAny_field he hd h1 ?_)
 rw [if_pos (by simp)]
 have oth:∀ b,b ≠ T → (s.heap.update T (Obj.mapFields (·.setIfInBounds 3 ((none:Option Addr).elim Value.none fun f=>rawInt f)))).get? b = s.heap.get? b:=fun b hb=>Heap.get?_update_other _ _ (Ne.symm hb)
 refine wpAny_setField hT hdT hsz (h _ ⟨oe,vs,(oth e (Ne.symm hne)).trans he,hC,hdd,hd,h1⟩ ⟨_,_,h9 hT hdT,Obj.data_mapFields hdT _,by simp [hsz]⟩ (fun b o k q=>(oth b k).trans q) fun b o q=>?_)
 by_cases k:b = T
 ·rw [k]; exact ⟨_,h9 hT hdT⟩
 ·exact ⟨o,(oth b k).trans q⟩
end
def jr (P:Program) (w:World):lH:=fun outer H s E u s'=>∃ (e:Addr) (C:Value) (dd:Option Addr) (T:Addr) (H':Hp),u = .ref e ∧ s'.os = s.os ∧ AllBare s'.gens ∧ Un (eZ outer) [] H H' s.heap s'.heap ∧ eJ P w H' s'.heap ∧
 lL s'.heap e C dd (.ref T) ∧ nH s'.heap T .none ∧ T ≠ e ∧ H' e = none ∧ H' T = none ∧ s.heap.get? e = none ∧ s.heap.get? T = none ∧ E C dd H'
def e8 (CX:lH) (X:Cx) (Ez:St → XK):Prop:=∀ (pins:List (Addr × Obj)) (σ:St) (H:Hp) (s:Shared) (e:Value) (s':Shared),Inv X pins σ H s → CX X.stack H s (Ez σ) e s' → X.xe e s'
theorem i4 {l l':List Env} {H H':Hp} {h g h':Heap} {e:Addr} {T0:Option Addr} (u:Un (eZ l') [] H H' h g) (mv:Moved (eZ l) e T0 g h') (hsub:∀ b ∈ eZ l',b ∈ eZ l) (hnew:∀ b o,h.get? b = some o → b ∈ eZ l → b ∈ eZ l')
  (he:h.get? e = none) (hT:∀ T,T0 = some T → h.get? T = none):Un (eZ l') [] H H' h h':=by
 have k1:∀ b o,h.get? b = some o → b ≠ e:=fun b o q z=>by rw [z,he] at q; cases q
 have k2:∀ b o,h.get? b = some o → some b ≠ T0:=fun b o q z=>by rw [hT b z.symm] at q; cases q
 refine ⟨fun b o q n hb hx=>?_,fun b o q n hb hx=>?_,u.free,fun b o q hx=>?_,u.tups,u.frzs,u.tbls⟩
 ·exact mv.keep b o (k1 b o q) (k2 b o q) (fun z=>hb (hnew b o q z)) (u.keep b o q n hb hx)
 ·obtain ⟨sl,q1⟩:=u.slot b o q n hb hx
  obtain ⟨sl2,q2⟩:=mv.slot b _ (hsub b hb) q1
  exact ⟨sl2,q2⟩
 ·obtain ⟨o1,q1⟩:=u.there b o q hx
  exact mv.there b o1 q1
section
variable {P:Program} {w:World} {K:PySem.W.Frag} {mg:Str → Option Value} {base:Heap} {N:List Str} {qual:Str} {scope:Scope} {f:Addr} {cd:Value} {A:Around} {outer:List Env} {s₀:Shared} {H₀:Hp} {E:XK}
theorem ik {env:Env} {outer:List Env} {L:Addr} (h:env.frame = some L):eZ (env :: outer) = L :: eZ outer:=by
 unfold eZ
 rw [List.filterMap_cons,h]
theorem iB {M:Model} {A:Around} {E:Value → Shared → Prop} {s:Shared} {base:Heap} {env:Env} {outer:List Env} {L e:Addr} {C:Value} {dd:Option Addr} {T0:Option Addr} {Q:Unit → Shared → Prop}
  (hfr:A.frames = some (env :: outer)) (hl:s.heap.FunFrames base (env :: outer)) (hf:env.frame = some L) (X:lL s.heap e C dd (T0.elim .none Value.ref)) (hT:∀ T,T0 = some T → nH s.heap T .none ∧ T ≠ e)
  (h:∀ h' T,lL h' e C dd (.ref T) → nH h' T .none → s.heap.objs.size ≤ T → T ≠ e → Moved (eZ (env :: outer)) e T0 s.heap h' → Q () { s with heap:=h' }) :
  wpAny M A (noteFrame (.ref e) env) (fun _ s2=>wpAny M A (setFlight (.ref e) none) Q E s2) E s:=by
 refine rV hfr hl hf X hT fun h1 T x1 x2 x3 x4 mv=>?_
 refine nM (s:={ s with heap:=h1 }) x1 x2 x4 fun h2 y1 y2 k1 k2=>h h2 T y1 y2 x3 x4 ?_
 have nT:∀ b o,s.heap.get? b = some o → b ≠ T:=fun b o q z=>absurd (Heap.lt_size q) (by rw [z]; exact Nat.not_lt.mpr x3)
 refine ⟨fun b o z1 z2 z3 q=>k1 b o (nT b o q) (mv.keep b o z1 z2 z3 q),fun b o hb q=>?_,fun b o q=>?_⟩
 ·obtain ⟨sl,q1⟩:=mv.slot b o hb q
  exact ⟨sl,k1 b _ (nT b o q) q1⟩
 ·obtain ⟨o1,q1⟩:=mv.there b o q
  exact k2 b o1 q1
theorem eB {base h h':Heap}:∀ {l:List Env},h.FunFrames base l → (∀ b o,b ∈ eZ l → h.get? b = some o → ∃ sl,h'.get? b = some { o with slots:=sl }) → h'.FunFrames base l
 | [],_,_=>trivial
 | env :: r,hl,k=>by
  obtain ⟨hk,⟨L,o,hf,hn,ho,hd⟩,hr⟩:=hl
  have e:=ik (outer:=r) hf
  obtain ⟨sl,z⟩:=k L o (by rw [e]; exact List.mem_cons_self) ho
  exact ⟨hk,⟨L,_,hf,hn,z,hd⟩,eB hr fun b o' hb q=>k b o' (by rw [e]; exact List.mem_cons_of_mem _ hb) q⟩
theorem rj {fs:List Addr} {L:Addr} {H H1 H2:Hp} {h h1 h2:Heap} (a:Un fs [] H H1 h h1) (b:Un (L :: fs) [] H1 H2 h1 h2) (hL:h.get? L = none):Un fs [] H H2 h h2 where
 keep:=fun c o q n hc hx=>b.keep c o (a.keep c o q n hc hx) (a.free c o q n hx) (fun z=>(List.mem_cons.mp z).elim (fun y=>by rw [y,hL] at q; cases q) hc) (by simp)
 slot:=fun c o q n hc hx=>by
  obtain ⟨sl,q1⟩:=a.slot c o q n hc hx
  obtain ⟨sl2,q2⟩:=b.slot c _ q1 (a.free c o q n hx) (List.mem_cons_of_mem _ hc) (by simp)
  exact ⟨sl2,q2⟩
 free:=fun c o q n hx=>by
  obtain ⟨o1,q1⟩:=a.there c o q hx
  exact b.free c o1 q1 (a.free c o q n hx) (by simp)
 there:=fun c o q hx=>by
  obtain ⟨o1,q1⟩:=a.there c o q hx
  exact b.there c o1 q1 (by simp)
 tups:=fun c xs q=>b.tups c xs (a.tups c xs q)
 frzs:=fun c o xs q=>b.frzs c o xs (a.frzs c o xs q)
 tbls:=fun c ps q=>by
  obtain ⟨m1,e1⟩:=a.tbls c ps q
  obtain ⟨m2,e2⟩:=b.tbls c _ e1
  exact ⟨m1 ++ m2,by rw [e2,Array.append_assoc]⟩
theorem iX:e8 (jr P w) (ie (jr P w) P w K mg base N qual scope f cd A outer s₀ H₀ E) (fun _=>E):=by
 intro pins σ H s u s' I h
 obtain ⟨e,C,dd,T,H',rfl,os,bare,un,hok,x1,x2,x3,f1,f2,n1,n2,hE⟩:=h
 have fe:eZ (envOfC qual scope s₀.heap.objs.size f cd :: outer) = s₀.heap.objs.size :: eZ outer:=ik rfl
 have un':Un (s₀.heap.objs.size :: eZ outer) [] H H' s.heap s'.heap:=by rw [← fe]; exact un
 have ib:Un (eZ outer) [] H₀ H s₀.heap s.heap:=I.base
 have nL:s₀.heap.get? s₀.heap.objs.size = none:=Heap.get?_none_of_le (Nat.le_refl _)
 have um:=rj ib un' nL
 have hfun:s'.heap.FunFrames base (envOfC qual scope s₀.heap.objs.size f cd :: outer):=eB I.stack fun b o hb q=>un.slot b o q (I.eh b hb) hb (by simp)
 have ntr:∀ b u,H' b = some u → b ∉ eZ (envOfC qual scope s₀.heap.objs.size f cd :: outer):=fun b u q hb=>by
  obtain ⟨_,o,ho,_⟩:=I.stack.mem hb
  have:=un.free b o ho (I.eh b hb) (by simp)
  rw [q] at this; cases this
 show wpAny _ _ (leaving _ (.ref e)) _ _ s'
 unfold leaving
 refine wpAny_bind (iB (T0:=some T) (L:=s₀.heap.objs.size) I.ok.frames hfun rfl x1 (fun T' z=>by cases z; exact ⟨x2,x3⟩) fun h' T2 y1 y2 y3 y4 mv=>?_)
 have none_of:∀ b,s.heap.get? b = none → s₀.heap.get? b = none:=fun b hb=>by
  cases q:s₀.heap.get? b with
  | none=>rfl
  | some o=>obtain ⟨o1,q1⟩:=ib.there b o q (by simp); rw [hb] at q1; cases q1
 refine ⟨e,C,dd,T2,H',rfl,os.trans I.os,bare,i4 (l:=envOfC qual scope s₀.heap.objs.size f cd :: outer) um mv (fun b hb=>by rw [fe]; exact List.mem_cons_of_mem _ hb) (fun b o q hb=>?_) (none_of e n1) (fun T' z=>by cases z; exact none_of T n2),
  hok.nO fun b u o q1 q2=>mv.keep b o (fun z=>by rw [z,f1] at q1; cases q1) (fun z=>by cases z; rw [f2] at q1; cases q1) (ntr b u q1) q2,y1,y2,y4,f1,?_,none_of e n1,?_,hE⟩
 ·rw [fe] at hb
  rcases List.mem_cons.mp hb with z | z
  ·rw [z,nL] at q; cases q
  ·exact z
 ·cases q:H' T2 with
  | none=>rfl
  | some u=>obtain ⟨ob,hob⟩:=(hok T2 u q).there; exact absurd (Heap.lt_size hob) (Nat.not_lt.mpr y3)
 ·cases q:s₀.heap.get? T2 with
  | none=>rfl
  | some o=>obtain ⟨o1,q1⟩:=um.there T2 o q (by simp); exact absurd (Heap.lt_size q1) (Nat.not_lt.mpr y3)
def Rz (X:Cx) (E:XK):Prop:=∀ (pins:List (Addr × Obj)) (σ:St) (H:Hp) (s:Shared) (h':Heap) (e:Addr) (C:Value) (vs:List Value),Inv X pins σ H s → Heap.MadeExcOf s.heap h' e C vs → E C none H → X.xe (.ref e) { s with heap:=h' }
theorem dr:Rz (ie (jr P w) P w K mg base N qual scope f cd A outer s₀ H₀ E) E:=by
 intro pins σ H s h1 e C vs I mx hE
 obtain ⟨t,he,htn,ht⟩:=mx.there
 have fe:eZ (envOfC qual scope s₀.heap.objs.size f cd :: outer) = s₀.heap.objs.size :: eZ outer:=ik rfl
 have ib:Un (eZ outer) [] H₀ H s₀.heap s.heap:=I.base
 have nL:s₀.heap.get? s₀.heap.objs.size = none:=Heap.get?_none_of_le (Nat.le_refl _)
 have um:Un (eZ outer) [] H₀ H s₀.heap h1:=ib.trans (Un.kept mx.keeps)
 have hfun:h1.FunFrames base (envOfC qual scope s₀.heap.objs.size f cd :: outer):=eB I.stack fun b o hb q=>⟨o.slots,mx.keeps b o q⟩
 have ntr:∀ b u,H b = some u → b ∉ eZ (envOfC qual scope s₀.heap.objs.size f cd :: outer):=fun b u q hb=>by
  have:=I.eh b hb
  rw [q] at this; cases this
 have hok1:eJ P w H h1:=I.hok.kept mx.keeps
 have fE:H e = none:=by
  cases q:H e with
  | none=>rfl
  | some u=>obtain ⟨ob,hob⟩:=(I.hok e u q).there; rw [mx.new] at hob; cases hob
 have none_of:∀ b,s.heap.get? b = none → s₀.heap.get? b = none:=fun b hb=>by
  cases q:s₀.heap.get? b with
  | none=>rfl
  | some o=>obtain ⟨o1,q1⟩:=ib.there b o q (by simp); rw [hb] at q1; cases q1
 show wpAny _ _ (leaving _ (.ref e)) _ _ { s with heap:=h1 }
 unfold leaving
 refine wpAny_bind (iB (s:={ s with heap:=h1 }) (T0:=none) (L:=s₀.heap.objs.size) (C:=C) (dd:=none) I.ok.frames hfun rfl ⟨_,_,he,rfl,rfl,rfl,rfl⟩ (fun T' z=>by cases z) fun h' T2 y1 y2 y3 y4 mv=>?_)
 refine ⟨e,C,none,T2,H,rfl,I.os,I.bare,i4 (l:=envOfC qual scope s₀.heap.objs.size f cd :: outer) um mv (fun b hb=>by rw [fe]; exact List.mem_cons_of_mem _ hb) (fun b o q hb=>?_) (none_of e mx.new) (fun T' z=>by cases z),
  hok1.nO fun b u o q1 q2=>mv.keep b o (fun z=>by rw [z,fE] at q1; cases q1) (by simp) (ntr b u q1) q2,y1,y2,y4,fE,?_,none_of e mx.new,?_,hE⟩
 ·rw [fe] at hb
  rcases List.mem_cons.mp hb with z | z
  ·rw [z,nL] at q; cases q
  ·exact z
 ·cases q:H T2 with
  | none=>rfl
  | some u=>obtain ⟨ob,hob⟩:=(hok1 T2 u q).there; exact absurd (Heap.lt_size hob) (Nat.not_lt.mpr y3)
 ·cases q:s₀.heap.get? T2 with
  | none=>rfl
  | some o=>obtain ⟨o1,q1⟩:=um.there T2 o q (by simp); exact absurd (Heap.lt_size q1) (Nat.not_lt.mpr y3)
end
def wW (sp:Sp) (dvs:List V) (Ez:St → XK) (t:TA):TE:=fun σ H Q=>t σ H fun vs H1=>sp (vs ++ dvs) H1 Q (Ez σ)
section
variable {X:Cx} {CX:lH} {k:Nat} {f C:Addr} {fd:FuncData} {ps:List Str} {sp:Sp} {dvs:List V} {ds:List Value} {Ez:St → XK} {x m:Str} {p pos apos:Pos} {e o:Expr} {es:List Expr} {ta:TE} {t:TA}
theorem uP {pins:List (Addr × Obj)} {σ:St} {H:Hp} {s:Shared} {Q:VK} {us:List Value} {vs:List V} (F:bF X.prog X.w X.K X.mg X.base CX k f fd ps sp) (hr:cD k X.A) (hb:Binds X.K fd ps ds) (hd:Vals dvs ds) (hx:e8 CX X Ez)
  (I:Inv X pins σ H s) (r:Vals vs us) (h:sp (vs ++ dvs) H Q (Ez σ)):wpAny (model X.prog X.w) X.A (call (.ref f) us) (EP X pins σ Q) X.xe s:=by
 have r2:Vals (vs ++ dvs) (us ++ ds):=r.append hd
 have hl:(us ++ ds).length = ps.length:=by rw [← r2.length]; exact F.len _ _ _ _ h
 refine wpAny_call (codeAny_mono (F.run X.A X.stack s H ⟨us,[]⟩ (us ++ ds) (vs ++ dvs) Q (Ez σ) hr I.uD (hb s us I.du hl) r2 h) fun r s' hq=>?_)
 cases r with
 | error e=>exact hx pins σ H s e s' I hq
 | ok fl =>
  cases fl with
  | ret u=>exact I.after hq
  | next=>exact False.elim hq
  | brk=>exact False.elim hq
  | cont=>exact False.elim hq
theorem dk (F:bF X.prog X.w X.K X.mg X.base CX k f fd ps sp) (hr:cD k X.A) (hg:Gl X x) (hm:X.mg x = some (.ref f)) (hk:PySem.W.keepIn X.K (.ref f) = true) (hb:Binds X.K fd ps ds) (hd:Vals dvs ds) (hx:e8 CX X Ez)
  (ha:PA X (e :: es) t) (hdb:(x == ("__debug__" : Str)) = false:=by decide) (he:starEach (e :: es) X.env = (false,eval e X.env) :: starEach es X.env:=by rfl) (hpl:(backTo pos (starEach es X.env)).any (·.1) = false:=by rfl) :
  PE X (.Call (.Name x p) (e :: es) [] pos) (wW sp dvs Ez t):=by
 unfold PE at *; unfold PA at *
 exact by
  intro pins s σ H Q I h
  refine wpAny_Call_Name_kw (de I hg hm ?_ hdb)
  refine PySem.W.callWith_K (h₀:=X.base) I.ok.mod.kin hk (bX (ha pos pins s σ H _ I h) fun us s1 ⟨vs,H1,I1,r,q⟩=>⟨I1.du,?_⟩) he hpl
  exact uP F hr hb hd hx I1 r q
end
end L2
namespace L2
open PySem PySem.Spec PyProof.Rows
def i6:List Value:=[.type "ValueError",.type "Exception",.type "BaseException",.type "object"]
def xn (K:PySem.W.Frag) (N:Addr) (es:Array DictEntry):Prop:=∃ c d ep sl,K.lookup N = some ⟨c,d,.dict es ep,sl⟩ ∧ StrKeys es
theorem xn.ns {K:PySem.W.Frag} {N:Addr} {es:Array DictEntry} {h:Heap} (x:xn K N es) (X:K.In h):h.Ns N (nsFind es):=by
 obtain ⟨c,d,ep,sl,lk,sk⟩:=x
 exact ⟨_,es,ep,X _ _ lk,rfl,sk,fun _=>rfl⟩
inductive jS (K:PySem.W.Frag):List Value → Prop
 | base:jS K i6
 | own {A:Addr} {c0:Value} {dd:Option Addr} {cd:ClassData} {sl:Array (Option Value)} {tl:List Value} {es:Array DictEntry} :
   K.lookup A = some { cls:=c0,dict:=dd,data:=.cls cd,slots:=sl } → xn K cd.ns es → nsFind es "__init__" = none → jS K tl → jS K (.ref A :: tl)
theorem jS.uE {K:PySem.W.Frag} {h:Heap} {bm:List Value} (t:jS K bm) (X:K.In h):OwnTail h i6 bm:=by
 induction t with
 | base=>exact .base
 | own l n i _ ih=>exact .own (X _ _ l) (n.ns X) i ih
structure iN (K:PySem.W.Frag) (C:Addr):Prop where
 ex:∃ nm q N bs bm hdct sn sub ab col dd k0 k1 k2 k3 k5 es,K.lookup C = some (excClassObj nm q C N bs bm hdct sn sub ab col dd k0 k1 k2 k3 k5 "ValueError.__new__") ∧ xn K N es ∧ nsFind es "__init__" = none ∧ jS K bm
def wV (t:TA) (C:Value) (E:XK):TS:=fun _ σ H=>t σ H fun vs H1=>vs.length ≤ sizeLine ∧ E C none H1
theorem cP {X:Cx} {C:Addr} {x:Str} {np cpos pos:Pos} {e₀:Expr} {rest:List Expr} {t:TA} {E:XK} (xc:iN X.K C) (hc:X.calm = true) (hg:Gl X x) (hm:X.mg x = some (.ref C)) (hz:Rz X E) (ha:PA X (e₀ :: rest) t)
  (hdb:(x == ("__debug__" : Str)) = false:=by decide) (he:starEach (e₀ :: rest) X.env = (false,eval e₀ X.env) :: starEach rest X.env:=by rfl) (hpl:(backTo cpos (starEach rest X.env)).any (·.1) = false:=by rfl) :
  PS X (.Raise (some (.Call (.Name x np) (e₀ :: rest) [] cpos)) none pos) (wV t (.ref C) E):=by
 unfold PA at *; unfold PS at *
 exact by
  intro pins s σ H D I h
  obtain ⟨nm,q,N,bs,bm,hdct,sn,sub,ab,col,dd,k0,k1,k2,k3,k5,es,lk,nk,ni,tl⟩:=xc.ex
  refine wpAny_Raise_call_subT (C:=C) (nm:=nm) (q:=q) (N:=N) (bs:=bs) (bm:=bm) (hdct:=hdct) (sn:=sn) (sub:=sub) (ab:=ab) (col:=col) (dd:=dd) (k0:=k0) (k1:=k1) (k2:=k2) (k3:=k3) (k5:=k5)
   F.excBase_ValueError (mN:=nsFind es) ((tl.uE I.du).hasType F.excBase_ValueError.hasBase) (I.ok.hd hc) ?_ ni (de I hg hm ⟨rfl,?_⟩ hdb)
  ·rw [he]
   show (false || (backTo cpos (starEach rest X.env)).any (·.1)) = false
   rw [hpl]; rfl
  ·have hA:=ha cpos pins s σ H _ I h
   rw [he] at hA ⊢
   refine Calls.evalArgs_plain (wpAny_mono hA (fun us s2 ⟨vs,H1,I1,r,z,hE⟩=>?_) fun _ _ y=>y)
   exact ⟨rfl,by rw [← r.length]; exact z,I1.du _ _ lk,nk.ns I1.du,tl.uE I1.du,fun h' e mx=>hz pins σ H1 s2 h' e (.ref C) us I1 mx hE⟩
theorem qz.uI {P:Program} {w:World} {K:PySem.W.Frag} {mg:Str → Option Value} {base:Heap} {x qual:Str} {st:Stmt} {f:Addr} {fd:FuncData} {N ps:List Str} {k:Nat} {sp:Sp} (F:qz K x qual st f fd) (S:aX N ps (aG st)) (len:∀ vs H Q E,sp vs H Q E → vs.length = ps.length)
  (hbody:∀ (cdv:Value) (A:Around) (outer:List Env) (s:Shared) (H:Hp) (vs:List V) (Q:VK) (E:XK),cD k (A.deeper (envOfC qual (aG st) s.heap.objs.size f cdv)) → sp vs H Q E →
   ∃ t,jJ (ie (jr P w) P w K mg base N qual (aG st) f cdv A outer s H E) (aP st) t ∧ t { nx:=fun _ H'=>Q .bA H',rt:=Q } (start N vs) H):bF P w K mg base (jr P w) (k + 1) f fd ps sp:=by
 obtain ⟨oc,od,kV,doc,pm,an,cdv,ct,osl,rfl,lk,hcd⟩:=F.ex
 exact tY lk hcd S len fun A outer s H vs Q E hr hsp=>hbody cdv A outer s H vs Q E hr hsp
section
variable {X:Cx} {pins pins':List (Addr × Obj)} {σ:St} {H:Hp} {s:Shared} {W:Value → Shared → Prop}
def Cx.tr (X:Cx) (pins:List (Addr × Obj)) (W:Value → Shared → Prop):Cx:={ X with xe:=W,pn:=X.pn ++ pins }
theorem Cx.Ok.tr (ok:X.Ok):(X.tr pins W).Ok:=⟨ok.mod,ok.kind,ok.glob,ok.blt,ok.above,ok.inj,ok.has,ok.cab,ok.hd,ok.frames,ok.stk,ok.exf,ok.bs,ok.bsz,ok.noex,ok.exfs,ok.iD,ok.frf⟩
theorem Cx.Ok.mn (ok:(X.tr pins W).Ok):X.Ok:=⟨ok.mod,ok.kind,ok.glob,ok.blt,ok.above,ok.inj,ok.has,ok.cab,ok.hd,ok.frames,ok.stk,ok.exf,ok.bs,ok.bsz,ok.noex,ok.exfs,ok.iD,ok.frf⟩
theorem Inv.tr (I:Inv X pins σ H s):Inv (X.tr pins W) [] σ H s:=⟨I.ok.tr,I.os,I.bare,I.base,I.loc,I.cell,I.free,I.freeC,fun p hp=>I.pin p (by simpa [Cx.tr] using hp),I.hok,I.len⟩
theorem Inv.mn (I:Inv (X.tr pins W) pins' σ H s):Inv X pins σ H s:=⟨I.ok.mn,I.os,I.bare,I.base,I.loc,I.cell,I.free,I.freeC,fun p hp=>I.pin p (List.mem_append_left _ hp),I.hok,I.len⟩
theorem SP.mn {D:Ends} {f:Flow} (h:SP (X.tr pins W) pins' D f s):SP X pins D f s:=by
 cases f with
 | next=>obtain ⟨a,b,I,q⟩:=h; exact ⟨a,b,I.mn,q⟩
 | brk=>obtain ⟨a,b,I,q⟩:=h; exact ⟨a,b,I.mn,q⟩
 | cont=>obtain ⟨a,b,I,q⟩:=h; exact ⟨a,b,I.mn,q⟩
 | ret u=>obtain ⟨v,a,b,I,r,q⟩:=h; exact ⟨v,a,b,I.mn,r,q⟩
def Cx.tD (X:Cx) (e:Addr):Cx:={ X with A:=X.A.mark (some (.ref e)),calm:=false,xe:=fun _ _=>False }
theorem Cx.Ok.tD (ok:X.Ok) (e:Addr):(X.tD e).Ok:=⟨ok.mod,ok.kind,ok.glob,ok.blt,ok.above,ok.inj,ok.has,ok.cab,fun z=>Bool.noConfusion z,ok.frames,ok.stk,ok.exf,ok.bs,ok.bsz,ok.noex,ok.exfs,ok.iD,ok.frf⟩
theorem Inv.tD (I:Inv X pins σ H s) (e:Addr):Inv (X.tD e) pins σ H s:=⟨I.ok.tD e,I.os,I.bare,I.base,I.loc,I.cell,I.free,I.freeC,I.pin,I.hok,I.len⟩
theorem Inv.qB {e:Addr} (ok:X.Ok) (I:Inv (X.tD e) pins σ H s):Inv X pins σ H s:=⟨ok,I.os,I.bare,I.base,I.loc,I.cell,I.free,I.freeC,I.pin,I.hok,I.len⟩
theorem Inv.adopt {e:Addr} {o:HO} (I:Inv X pins σ H s) (hn:H e = none) (h0:X.s₀.heap.get? e = none) (hL:e ≠ X.env.locals) (hc:∀ x c,X.env.cells.lookup x = some c → c ≠ e) (hp:∀ p ∈ X.pn ++ pins,p.1 ≠ e)
  (new:bL X.prog X.w (upd H e o) s.heap e o):Inv X pins σ (upd H e o) s:=by
 have ne:∀ b u,H b = some u → b ≠ e:=fun b u q z=>by rw [z,hn] at q; cases q
 refine ⟨I.ok,I.os,I.bare,⟨I.base.keep,I.base.slot,fun b ob q n hx=>?_,I.base.there,fun b xs q=>?_,fun b ob u q=>?_,fun b ps q=>?_⟩,I.loc,I.cell,?_,fun x c q=>?_,fun p hq=>?_,fun b u q=>?_,I.len⟩
 ·rw [aK (fun z=>by rw [z,h0] at q; cases q)]
  exact I.base.free b ob q n hx
 ·have q1:=I.base.tups b xs q
  rw [aK (ne b _ q1)]; exact q1
 ·have q1:=I.base.frzs b ob u q
  rw [aK (ne b _ q1)]; exact q1
 ·obtain ⟨m,q1⟩:=I.base.tbls b ps q
  exact ⟨m,by rw [aK (ne b _ q1)]; exact q1⟩
 ·rw [aK (Ne.symm hL)]; exact I.free
 ·rw [aK (hc x c q)]; exact I.freeC x c q
 ·obtain ⟨a1,a2,a3,a4,a5⟩:=I.pin p hq
  exact ⟨a1,by rw [aK (hp p hq)]; exact a2,a3,a4,a5⟩
 ·by_cases hb:b = e
  ·subst hb; rw [aB] at q; cases q; exact new
  ·rw [aK hb] at q
   exact (I.hok b u q).jL (fun _ _ _ z=>z) (fun c z=>by rw [aK (ne c _ z)]; exact z) fun c xs z=>by rw [aK (ne c _ z)]; exact z
theorem jq {M:Model} {A:Around} {E:Value → Shared → Prop} {i:Nat} {n:Str} {pos:Pos} {Q:Unit → Shared → Prop} (I:Inv X pins σ H s) (hN:X.N.Nodup) (hi:X.N[i]? = some n) (hk:X.env.kindOf n = some .local)
  (h:∀ s',Inv X pins (σ.set i none) H s' → Q () s'):wpAny M A (do bindName X.env n .none; unbindBehindTheSuite X.env n pos) Q E s:=by
 obtain ⟨m,hn,hl⟩:=id I.loc
 have hcls:(X.env.scope.kind == .class || (X.env.scope.kind == .module && X.env.locals != X.env.globals)) = false:=by rw [I.ok.kind]; rfl
 refine wpAny_nameGoes_keeps hk hn hcls fun h' v hn' hs=>h _ ?_
 obtain ⟨oL,_,_,hoL,_⟩:=id hn
 have kb:∀ b o,b ≠ X.env.locals → s.heap.get? b = some o → h'.get? b = some o:=fun b o hb e=>(hs.2 b hb).trans e
 have nL:∀ b o,X.s₀.heap.get? b = some o → b ≠ X.env.locals:=fun b o e=>Nat.ne_of_lt (Nat.lt_of_lt_of_le (Heap.lt_size e) I.ok.above)
 refine ⟨I.ok,I.os,I.bare,⟨fun b o e n hb hx=>kb b o (nL b o e) (I.base.keep b o e n hb hx),fun b o e n hb hx=>?_,I.base.free,fun b o e hx=>?_,I.base.tups,I.base.frzs,I.base.tbls⟩,⟨_,hn',fun j y v' e1 e2 e3=>?_⟩,fun y c e=>?_,I.free,I.freeC,fun p hp=>?_,
  I.hok.nO fun b u o q1 q2=>kb b o (fun z=>by rw [z,I.free] at q1; cases q1) q2,by simpa using I.len⟩
 ·obtain ⟨sl,e1⟩:=I.base.slot b o e n hb hx
  exact ⟨sl,kb b _ (nL b o e) e1⟩
 ·obtain ⟨o',e1⟩:=I.base.there b o e hx
  exact ⟨o',kb b o' (nL b o e) e1⟩
 ·by_cases hj:j = i
  ·subst hj
   have hj':j < σ.length:=by rw [I.len]; exact (List.getElem?_eq_some_iff.mp e1).1
   rw [List.getElem?_set_self hj'] at e2
   cases e2
  ·rw [List.getElem?_set_ne (Ne.symm hj)] at e2
   obtain ⟨u',r',q⟩:=hl j y v' e1 e2 e3
   refine ⟨u',r',?_⟩
   rcases q with ⟨k,e⟩ | ⟨k,c,e,z⟩
   ·refine .inl ⟨k,?_⟩
    have:y ≠ n:=fun e=>hj (jx hN e1 (e ▸ hi))
    simp [this,e]
   ·exact .inr ⟨k,c,e,z.sameBut hs (I.vN y c e)⟩
 ·obtain ⟨w',z⟩:=I.cell y c e
  exact ⟨w',z.sameBut hs (I.vN y c e)⟩
 ·obtain ⟨e,n',ne,nf,d⟩:=I.pin p hp
  exact ⟨kb _ _ ne e,n',ne,nf,d⟩
end
def mh (C:Value) (dd:Option Addr) (e:Addr):HO:=.ext fun h=>∃ oe vs,h.get? e = some oe ∧ oe.cls = C ∧ oe.dict = dd ∧ oe.data = .fields vs
theorem xE {P:Program} {w:World} {H:Hp} {h:Heap} {e:Addr} {C t1:Value} {dd:Option Addr} (x:lL h e C dd t1):bL P w H h e (mh C dd e):=by
 obtain ⟨oe,vs,he,hC,hdd,hd,_⟩:=x
 exact ⟨⟨oe,vs,he,hC,hdd,hd⟩,⟨oe,he⟩,fun h1 h2 ⟨o,v,q,r⟩ k=>⟨o,v,k o q,r⟩⟩
def zI (K:PySem.W.Frag) (Cv:Value) (i:Nat) (tb:(St → XK) → List (Addr × Obj) → (Value → Shared → Prop) → TS) (th:Addr → TS):TS:=fun D σ H=>∃ Ez:St → XK,(∀ pins W,tb Ez pins W D σ H) ∧
 ∀ σ1 C dd H1,Ez σ1 C dd H1 → PySem.W.exmOne K C Cv = some true ∧ ∀ e,H1 e = none →
  th e { nx:=fun σ2 H2=>D.nx (σ2.set i none) H2,rt:=D.rt,bk:=fun σ2 H2=>D.bk (σ2.set i none) H2,ct:=fun σ2 H2=>D.ct (σ2.set i none) H2 } (σ1.set i (some (.ref e))) (upd H1 e (mh C dd e))
section
variable {X:Cx}
theorem xO {body suite:List Stmt} {b₀:Stmt} {tx n:Str} {i:Nat} {np hpos pos:Pos} {Cv:Value} {tb:(St → XK) → List (Addr × Obj) → (Value → Shared → Prop) → TS} {th:Addr → TS}
  (hst:X.stack = X.env :: X.outer) (hfr:X.env.frame = some X.env.locals) (hex:X.ex = []) (hN:X.N.Nodup) (hi:X.N[i]? = some n) (hk:X.env.kindOf n = some .local) (hg:Gl X tx) (hm:X.mg tx = some Cv)
  (hb:∀ Ez pins W,e8 (jr X.prog X.w) (X.tr pins W) Ez → jJ (X.tr pins W) body (tb Ez pins W)) (hs:∀ e,jJ (X.tD e) (b₀ :: suite) (th e)) (hdb:(tx == ("__debug__" : Str)) = false:=by decide) :
  PS X (.Try body [.ExceptHandler (some (.Name tx np)) (some n) (b₀ :: suite) hpos] [] [] pos) (zI X.K Cv i tb th):=by
 unfold PS at *; unfold jJ at *
 exact by
  intro pins s σ H D I h
  obtain ⟨Ez,hb1,hh⟩:=h
  let W:Value → Shared → Prop:=fun u s'=>∃ σ1 H1 s1,Inv X pins σ1 H1 s1 ∧ jr X.prog X.w X.stack H1 s1 (Ez σ1) u s'
  have hp:e8 (jr X.prog X.w) (X.tr pins W) Ez:=fun pins' σ1 H1 s1 u s' I1 hx=>⟨σ1,H1,s1,I1.mn,hx⟩
  refine wpAny_Try_except (wpAny_mono ((hb Ez pins W hp) [] s σ H D I.tr (hb1 pins W)) (fun f s1 q=>?_) (fun u s' q=>?_))
  ·have q':=q.mn
   cases f with
   | next=>exact wpAny_execs_nil q'
   | brk=>exact q'
   | cont=>exact q'
   | ret v=>exact q'
  ·obtain ⟨σ1,H1,s1,I1,e,C,dd,T,H',rfl,os,bare,un,hok,x1,x2,x3,f1,f2,n1,n2,hE⟩:=q
   have hfun:s'.heap.FunFrames X.base (X.env :: X.outer):=by
    rw [← hst]
    exact eB I1.stack fun b o hb q=>un.slot b o q (I1.eh b hb) hb (by simp)
   refine iB (T0:=some T) (L:=X.env.locals) (by rw [← hst]; exact I1.ok.frames) hfun hfr x1 (fun T' z=>by cases z; exact ⟨x2,x3⟩) fun h' T2 y1 y2 y3 y4 mv=>?_
   rw [← hst] at mv
   have ntr:∀ b u,H' b = some u → b ∉ eZ X.stack:=fun b u q hb=>by
    obtain ⟨_,o,ho,_⟩:=I1.stack.mem hb
    have:=un.free b o ho (I1.eh b hb) (by simp)
    rw [q] at this; cases this
   have hU:Un (eZ X.stack) [] H1 H' s1.heap h':=i4 (l:=X.stack) un mv (fun _ z=>z) (fun _ _ _ z=>z) n1 fun T' z=>by cases z; exact n2
   have hO:eJ X.prog X.w H' h':=hok.nO fun b u o q1 q2=>mv.keep b o (fun z=>by rw [z,f1] at q1; cases q1) (fun z=>by cases z; rw [f2] at q1; cases q1) (ntr b u q1) q2
   have I2:Inv X pins σ1 H' { s' with heap:=h' }:=I1.vd (s':={ s' with heap:=h' }) (ch:=[]) os hU hO bare fun _ z=>absurd z (by simp)
   -- the exception becomes an object of ours
   have he0:X.s₀.heap.get? e = none:=by
    cases q:X.s₀.heap.get? e with
    | none=>rfl
    | some o =>
     obtain ⟨o1,q1⟩:=I1.base.there e o q (by rw [hex]; simp)
     rw [n1] at q1; cases q1
   have live:∀ b o,s1.heap.get? b = some o → b ≠ e:=fun b o q z=>by rw [z,n1] at q; cases q
   have heL:e ≠ X.env.locals:=by
    obtain ⟨m,⟨o,_,_,ho,_⟩,_⟩:=I1.loc
    exact Ne.symm (live _ _ ho)
   have heC:∀ x c,X.env.cells.lookup x = some c → c ≠ e:=fun x c q=>by
    obtain ⟨v,o,ho,_⟩:=I1.cell x c q
    exact live _ _ ho
   have heP:∀ p ∈ X.pn ++ pins,p.1 ≠ e:=fun p hp=>live _ _ (I1.pin p hp).1
   have I3:Inv X pins σ1 (upd H' e (mh C dd e)) { s' with heap:=h' }:=I2.adopt f1 he0 heL heC heP (xE y1)
   -- the trace's record is nobody's
   have szT:∀ b o,s'.heap.get? b = some o → b ≠ T2:=fun b o q=>Nat.ne_of_lt (Nat.lt_of_lt_of_le (Heap.lt_size q) y3)
   have liveT:∀ b o,s1.heap.get? b = some o → b ≠ T2:=fun b o q=>by
    obtain ⟨o',q'⟩:=un.there b o q (by simp)
    exact szT b o' q'
   have hTL:T2 ≠ X.env.locals:=by
    obtain ⟨m,⟨o,_,_,ho,_⟩,_⟩:=I1.loc
    exact Ne.symm (liveT _ _ ho)
   have hT0:X.s₀.heap.objs.size ≤ T2:=by
    obtain ⟨m,⟨o,_,_,ho,_⟩,_⟩:=I1.loc
    obtain ⟨o',q'⟩:=un.there _ o ho (by simp)
    exact Nat.le_trans I1.ok.above (Nat.le_trans (Nat.le_of_lt (Heap.lt_size q')) y3)
   have hTC:∀ x c,X.env.cells.lookup x = some c → c ≠ T2:=fun x c q=>by
    obtain ⟨v,o,ho,_⟩:=I1.cell x c q
    exact liveT _ _ ho
   have hTP:∀ p ∈ X.pn ++ pins,p.1 ≠ T2:=fun p hp=>liveT _ _ (I1.pin p hp).1
   have hTn:upd H' e (mh C dd e) T2 = none:=by
    rw [aK y4]
    cases q:H' T2 with
    | none=>rfl
    | some u=>obtain ⟨ob,hob⟩:=(hok T2 u q).there; exact absurd rfl (szT T2 ob hob)
   obtain ⟨hmt,hsu⟩:=hh σ1 C dd H' hE
   obtain ⟨oe,vs,hoe,hcls,_⟩:=id y1
   have LT:PySem.W.Looks (model X.prog X.w) h' (typeOf (.ref e)) C:=by
    subst hcls
    exact (PySem.W.Looks.ld hoe).andThen .now
   have ok:X.Ok:=I.ok
   refine wpAny_handleBy_cons (codeAny_handlers_test (de (X:=X.tD e) (I3.tD e) hg hm ?_ hdb)) (by intro q; cases q)
   refine PySem.W.Looks.here (PySem.W.exm_one I3.du LT hmt) ?_
   show codeAny _ _ (.handlers (.ref e) [.ExceptHandler none (some n) (b₀ :: suite) hpos] X.env) _ _
   refine codeAny_handlers_suite_as ?_
   refine nM y1 y2 y4 fun h2 z1 z2 k1 k2=>?_
   have I4:Inv X pins σ1 (upd H' e (mh C dd e)) { s' with heap:=h2 }:=I3.turned (t':=s'.toks) (fun b o hb q=>k1 b o hb q) hTn hTL (.inr hT0) hTC hTP
   refine kW (X:=X.tD e) (v:=.ref e) (I4.tD e) hN hi (.inl hk) rfl (fun s5 I5=>?_) (.inr hk)
   refine wpAny_mono ((hs e) pins s5 _ _ _ I5 (hsu e f1)) (fun f s6 q=>?_) fun _ _ z=>z.elim
   show wpAny _ _ (do bindName X.env n .none; unbindBehindTheSuite X.env n hpos) _ _ s6
   cases f with
   | next=>obtain ⟨σ6,H6,I6,q6⟩:=q; exact jq (I6.qB ok) hN hi hk fun s7 I7=>⟨_,_,I7,q6⟩
   | brk=>obtain ⟨σ6,H6,I6,q6⟩:=q; exact jq (I6.qB ok) hN hi hk fun s7 I7=>⟨_,_,I7,q6⟩
   | cont=>obtain ⟨σ6,H6,I6,q6⟩:=q; exact jq (I6.qB ok) hN hi hk fun s7 I7=>⟨_,_,I7,q6⟩
   | ret v=>obtain ⟨x6,σ6,H6,I6,r6,q6⟩:=q; exact jq (I6.qB ok) hN hi hk fun s7 I7=>⟨_,_,_,I7,r6,q6⟩
end
end L2
namespace L2
open PySem PySem.Spec PyProof.Rows PySem.W
section
variable {prog:Program} {w:World} {A:Around} {E:Value → Shared → Prop} {s:Shared} {K:Frag} {e C:Addr} {oe:Obj}
theorem v3 {a g:Value} {name:Str} (hc:(clsIn K C).isSome = true) (ha:findIn K (.ref C) name = some (some a)) (hg:specialIn K a "__get__" = some (some g)) (ht:takesIn K a = some true):findObj K C none name = some (.bind g a):=by
 obtain ⟨cd,hc⟩:=Option.isSome_iff_exists.mp hc
 unfold findObj
 rw [hc,Option.bind_some,ha,Option.bind_some]
 simp [hg,ht]
structure dn (K:Frag) (C:Addr):Prop where
 cs:(clsIn K C).isSome = true
 ga:findIn K (.ref C) "__getattribute__" = some (some (.builtin "BaseException.__getattribute__"))
 gt:findIn K (.ref C) "__getattr__" = some none
 ca:findIn K (.ref C) "__class__" = some (some (.builtin "object.__class__"))
 gg:specialIn K (.builtin "object.__class__") "__get__" = some (some (.builtin "getset_descriptor.__get__"))
 tk:takesIn K (.builtin "object.__class__") = some true
 mo:mroIn K C (.type "object") = some true
 sb:subIn K (.ref C) (.type "BaseException") = some true
theorem wy {nameV:Value} {Q:Unit → Shared → Prop} (U:dn K C) (X:K.In s.heap) (I:InstAt s.heap e oe C none) (hq:Q () s) :
  wpAny (model prog w) A (checkBuiltinCall "BaseException.__getattribute__" ⟨[.ref e,nameV],[]⟩) Q E s:=by
 have hk:builtinKind "BaseException.__getattribute__" = some .slot:=by decide +kernel
 have hsplit:splitId "BaseException.__getattribute__" = some ("BaseException", "__getattribute__"):=by decide +kernel
 have L0:=I.type (M:=model prog w)
 have L1:=looks_subIn (M:=model prog w) X U.sb
 have LI:Looks (model prog w) s.heap (isInstance (.ref e) (.type "BaseException")) true:=L0.andThen L1
 have ha:=F.args_bexc_ga (.ref e) nameV
 simp only [checkBuiltinCall,hk,hsplit]
 refine wpAny_bind (LI.at ?_)
 rw [if_neg (by decide)]
 exact wpAny_of_eq ha hq
theorem xX {tk:Tok} {Q:Fin → Shared → Prop} (U:dn K C) (X:K.In s.heap) (I:InstAt s.heap e oe C none) (hq:Q (.done (.ret (.ref C))) s) :
  wpAny (model prog w) A (Builtin.«object.__getattribute__» ⟨[.ref e,.str "__class__" tk],[]⟩) Q E s:=by
 obtain ⟨hh,g,d,t,os⟩:=s
 have L0:=I.type (M:=model prog w)
 have L3:=looks_find (M:=model prog w) X I (v3 U.cs U.ca U.gg U.tk)
 unfold Builtin.«object.__getattribute__»
 refine wpAny_bind (wpAny_of_eq (show slotArgs "__getattribute__" 1 ⟨[.ref e,.str "__class__" tk],[]⟩ = pure (.ref e,[.str "__class__" tk]) from rfl) ?_)
 refine wpAny_bind (wpAny_of_eq (show Builtin.ObjectAttr.attrName (.str "__class__" tk) = pure ("__class__" : Str) from rfl) ?_)
 refine wpAny_bind (L0.at (wpAny_bind (L3.at ?_)))
 show wpAny _ _ (Builtin.ObjectAttr.bindTo (.builtin "getset_descriptor.__get__") (.builtin "object.__class__") (.ref e) (.ref C)) _ _ _
 show wpAny _ _ (holding [.builtin "object.__class__"] (call (.builtin "getset_descriptor.__get__") [.builtin "object.__class__",.ref e,.ref C]) >>= ret) _ _ _
 exact wpAny_bind (wpAny_holding (wpAny_call (class_get X I U.mo (wpAny_pure hq))))
theorem xU {Q:Option Value → Shared → Prop} (U:dn K C) (X:K.In s.heap) (I:InstAt s.heap e oe C none) (h:Q (some (.ref C)) { s with toks:=s.toks + 1 }):wpAny (model prog w) A (getAttr? (.ref e) "__class__") Q E s:=by
 obtain ⟨hh,g,d,t,os⟩:=s
 have L0:=I.type (M:=model prog w)
 have L1:=looks_findIn (M:=model prog w) X U.ga
 have L2:=looks_findIn (M:=model prog w) X U.gt
 have L3:=looks_find (M:=model prog w) X I (v3 U.cs U.ca U.gg U.tk)
 unfold getAttr? getAttrBy? getAttrBy
 refine wpAny_bind (wpAny_mkText (wpAny_bind (wpAny_attempt (wpAny_holding (wpAny_bind (L0.at (wpAny_bind (L1.at ?_))))))))
 show wpAny _ _ (getAttrByItsOwn (.ref e) _ (.ref C) (.builtin "BaseException.__getattribute__") false false) _ _ _
 unfold getAttrByItsOwn
 refine wpAny_bind ?_
 show wpAny _ _ (typeLookup (.ref C) "__getattr__") _ _ _
 refine L2.at ?_
 refine wpAny_bind (wpAny_attempt (wpAny_holding ?_))
 show wpAny _ _ (boundAndCalled (.builtin "BaseException.__getattribute__") (.ref e) _) _ _ _
 unfold boundAndCalled
 refine wpAny_bind (wpAny_of_eq (F.attr_ValueError.ga.bind (.ref e)) ?_)
 refine wpAny_call (codeAny_call_builtin F.attr_ValueError.ga.plain F.entry_bexc_ga (wy U X I (xX U X I ?_)))
 exact wpAny_pure (wpAny_pure h)
theorem rP (U:dn K C):KitX K (.ref e) (.ref C) (fun h=>∃ oe,InstAt h e oe C none) where
 ty:=fun M h _ ⟨_,I⟩=>I.type
 it:=fun _ _ X _=>by
  obtain ⟨cd,hc⟩:=Option.isSome_iff_exists.mp U.cs
  unfold clsIn at hc
  split at hc
  ·rename_i c' d' cd' sl' ho
   intro A' Q' E' s' k q
   unfold isType loadHead
   exact wpAny_bind (wpAny_loadPart (k _ _ (X _ _ ho)) (wpAny_pure q))
  ·cases hc
 ne:=fun h tp dd ai n sl X htp=>by
  obtain ⟨cd,hc⟩:=Option.isSome_iff_exists.mp U.cs
  refine Bool.eq_false_iff.mpr fun q=>?_
  have z:C = tp:=Value.ref.inj (beq_iff_eq.mp q)
  subst z
  unfold clsIn at hc
  split at hc
  ·rename_i c' d' cd' sl' ho
   have z:=(X _ _ ho).symm.trans htp
   cases z
  ·cases hc
 ca:=fun X ⟨_,I⟩ k=>xU U X I k
end
theorem rG {P:Program} {w:World} {H:Hp} {h:Heap} {e C:Addr} (ok:eJ P w H h) (q:H e = some (mh (.ref C) none e)):∃ oe,InstAt h e oe C none:=by
 obtain ⟨⟨oe,vs,he,hC,hdd,hd⟩,_⟩:=ok e _ q
 refine ⟨oe,he,hC,?_,?_⟩
 ·obtain ⟨a,b,c,d⟩:=oe
  have hd':c = .fields vs:=hd
  subst hd'
  rfl
 ·rw [hdd]
  trivial
section
variable {X:Cx}
def v8 (K:Frag):List V → Hp → VK → Prop:=fun xs H Q=>∃ e c cv C b,xs = [.ref e,c] ∧ sr c cv ∧ H e = some (mh (.ref C) none e) ∧ dn K C ∧ kitOne K (.ref C) cv = some b ∧ Q (.bl b) H
theorem lX:bW X (.builtin "isinstance") (v8 X.K):=by
 unfold bW at *
 exact by
  intro pins s σ H xs us Q I rv h
  obtain ⟨e,c,cv,C,b,rfl,hc,he,U,k,q⟩:=h
  obtain ⟨u,cu,rfl,ru,rc⟩:=rv.two
  have ec:cu = cv:=by cases hc <;> exact rc
  subst ec
  cases (show u = Value.ref e from ru)
  exact kia_one (rP U) I.du (rG I.hok he) k (fun z=>nomatch z) fun tk=>⟨.bl b,H,I.tok tk,rfl,q⟩
def bH (K:Frag):List V → Hp → VK → Prop:=fun xs H Q=>xy K xs H Q ∨ v8 K xs H Q
theorem bf:bW X (.builtin "isinstance") (bH X.K):=by
 first
 | exact (nQ.or lX)
 | (unfold bW at *; exact (nQ.or lX))
end
end L2
namespace L2
open PySem PySem.Spec PyProof.Rows
theorem dN:bootBuiltins "len" = some (.builtin "len"):=by decide +kernel
theorem aa:bootBuiltins "isinstance" = some (.builtin "isinstance"):=by decide +kernel
theorem mf:bootBuiltins "int" = some (.type "int"):=by decide +kernel
theorem vH:bootBuiltins "bool" = some (.type "bool"):=by decide +kernel
theorem ox:bootBuiltins "str" = some (.type "str"):=by decide +kernel
theorem i5:bootBuiltins "list" = some (.type "list"):=by decide +kernel
theorem nC:bootBuiltins "tuple" = some (.type "tuple"):=by decide +kernel
theorem lO:bootBuiltins "ValueError" = some (.type "ValueError"):=by decide +kernel
theorem wB:bootBuiltins "all" = some (.builtin "all"):=by decide +kernel
theorem xQ:bootBuiltins "max" = some (.builtin "max"):=by decide +kernel
theorem m6 {n:Int} {t:Tok}:RelV (.int n) (.int n t):=⟨_,rfl⟩
theorem mU {n:Str} {t:Tok}:RelV (.str n) (.str n t):=⟨_,rfl⟩
theorem aH.new {H:Hp} {p:Addr} {o:HO} (h:H p = none):aH H (upd H p o):=fun b u q=>by
 rw [aK (aM q h)]
 exact q
theorem cM {α:Type} {xs:List α} {i:Int} (h0:0 ≤ i) (h1:i < xs.length):∃ v,fQ xs i = some v ∧ v ∈ xs:=by
 have e:((i.toNat:Nat):Int) = i:=Int.toNat_of_nonneg h0
 have hl:i.toNat < xs.length:=by omega
 refine ⟨xs[i.toNat],?_,List.getElem_mem hl⟩
 have q:=ah (xs:=xs) (List.getElem?_eq_getElem hl)
 rw [e] at q
 exact q
theorem qS {α:Type} {xs:List α} {i:Int} {v:α} (h0:0 ≤ i) (h:xs[i.toNat]? = some v):fQ xs i = some v:=by
 have q:=ah (xs:=xs) h
 rw [Int.toNat_of_nonneg h0] at q
 exact q
theorem dQ.same {K:PySem.W.Frag} {H H':Hp} {x:V} {t:Value} (e:aH H H') (h:dQ K H x t):dQ K H' x t:=by
 cases h with
 | bA=>exact .bA
 | bl b=>exact .bl b
 | int i=>exact .int i
 | str x=>exact .str x
 | flt x=>exact .flt x
 | lst q=>exact .lst (e _ _ q)
 | frz q=>exact .frz (e _ _ q)
 | tup q=>exact .tup (e _ _ q)
 | dK q=>exact .dK (e _ _ q)
 | dT q=>exact .dT (e _ _ q)
 | ins q a b c d f=>exact .ins (e _ _ q) a b c d f
def Own (K:PySem.W.Frag) (H:Hp) (x:V):Prop:=∃ n,dQ K H x (.type n)
theorem Own.same {K:PySem.W.Frag} {H H':Hp} {x:V} (e:aH H H') (h:Own K H x):Own K H' x:=let ⟨n,t⟩:=h; ⟨n,t.same e⟩
theorem Own.bA {K:PySem.W.Frag} {H:Hp}:Own K H .bA:=⟨_,.bA⟩
theorem Own.bl {K:PySem.W.Frag} {H:Hp} {b:Bool}:Own K H (.bl b):=⟨_,.bl b⟩
theorem Own.int {K:PySem.W.Frag} {H:Hp} {i:Int}:Own K H (.int i):=⟨_,.int i⟩
theorem Own.str {K:PySem.W.Frag} {H:Hp} {x:Str}:Own K H (.str x):=⟨_,.str x⟩
theorem Own.lst {K:PySem.W.Frag} {H:Hp} {a:Addr} {xs:List V} (h:H a = some (.lst xs)):Own K H (.ref a):=⟨_,.lst h⟩
theorem Own.tup {K:PySem.W.Frag} {H:Hp} {a:Addr} {xs:List V} (h:H a = some (.tup xs)):Own K H (.ref a):=⟨_,.tup h⟩
theorem Own.dK {K:PySem.W.Frag} {H:Hp} {a:Addr} {xs:List (Key × V)} (h:H a = some (.dK xs)):Own K H (.ref a):=⟨_,.dK h⟩
def isInt:V → Bool
 | .int _=>true
 | .bl _=>true
 | _=>false
def isBool:V → Bool
 | .bl _=>true
 | _=>false
def isStr:V → Bool
 | .str _=>true
 | _=>false
theorem vL {K:PySem.W.Frag} {H:Hp} {x:V} {n:String} (ty:dQ K H x (.type n)):PySem.W.kitOne K (.type n) (.type "int") = some (isInt x):=by
 cases ty <;> rfl
theorem sQ {K:PySem.W.Frag} {H:Hp} {x:V} {n:String} (ty:dQ K H x (.type n)):PySem.W.kitOne K (.type n) (.type "bool") = some (isBool x):=by
 cases ty <;> rfl
theorem vM {K:PySem.W.Frag} {H:Hp} {x:V} {n:String} (ty:dQ K H x (.type n)):PySem.W.kitOne K (.type n) (.type "str") = some (isStr x):=by
 cases ty <;> rfl
theorem bH.own {K:PySem.W.Frag} {H:Hp} {x:V} {c:String} {Q:VK} {b:Bool} (h:Own K H x) (k:∀ n,dQ K H x (.type n) → PySem.W.kitOne K (.type n) (.type c) = some b) (q:Q (.bl b) H):bH K [x,.ty c] H Q:=by
 obtain ⟨n,t⟩:=h
 exact .inl ⟨x,.ty c,_,_,_,rfl,.ty c,t,k n t,q⟩
theorem bH.int {K:PySem.W.Frag} {H:Hp} {x:V} {Q:VK} (h:Own K H x) (q:Q (.bl (isInt x)) H):bH K [x,.ty "int"] H Q:=bH.own h (fun _=>vL) q
theorem bH.bool {K:PySem.W.Frag} {H:Hp} {x:V} {Q:VK} (h:Own K H x) (q:Q (.bl (isBool x)) H):bH K [x,.ty "bool"] H Q:=bH.own h (fun _=>sQ) q
theorem bH.str {K:PySem.W.Frag} {H:Hp} {x:V} {Q:VK} (h:Own K H x) (q:Q (.bl (isStr x)) H):bH K [x,.ty "str"] H Q:=bH.own h (fun _=>vM) q
theorem m9 {b:Bool} {A B:Prop} (h1:b = true → A) (h2:b = false → B):if b = true then A else B:=by
 cases b
 ·exact bE (h2 rfl)
 ·exact bR (h1 rfl)
theorem aJ {a b:Nat} (h:Nat.ble a b = true):a ≤ b:=Nat.le_of_ble_eq_true h
end L2
namespace L2
open PySem PySem.Spec PyProof.Rows
section
variable {X:Cx} {pins:List (Addr × Obj)} {σ:St} {H H':Hp} {s:Shared} {h':Heap}
theorem Inv.turns {t':Nat} {wr:List Addr} (I:Inv X pins σ H s) (k:∀ b o,b ∉ wr → s.heap.get? b = some o → h'.get? b = some o) (hw:∀ b ∈ wr,ja X pins H b):Inv X pins σ H { s with heap:=h',toks:=t' }:=by
 have nit:∀ b u,H b = some u → b ∉ wr:=fun b u e z=>by rw [(hw b z).1] at e; cases e
 refine I.step (g':=s.gens) (d':=s.drawn) (ch:=wr) (fun b hb=>?_) (fun b o _ _ hc e _=>k b o hc e) (fun b o _ _ hc e _=>⟨o.slots,k b o hc e⟩) (fun _ _ _ _ n=>n)
  (fun b o hc e=>⟨o,k b o hc e⟩) (fun _ _ e=>e) (fun _ _ _ e=>e) (fun b ps e=>⟨#[],by rw [e]; simp⟩) (fun m hm=>?_) (fun b u e=>?_) I.bare
 ·obtain ⟨_,f1,_,f3,f4,f5⟩:=hw b hb
  exact ⟨f3,f1,f4,f5⟩
 ·obtain ⟨o,es,ep,ho,r⟩:=hm
  exact ⟨o,es,ep,k _ o (fun z=>(hw _ z).2.1 rfl) ho,r⟩
 ·refine (I.hok b u e).jL (fun c v hc q=>k c v ?_ q) (fun _ q=>q) fun _ _ q=>q
  rcases hc with z | z
  ·rw [z]; exact nit b u e
  ·exact nit c _ z
end
def zv (x:Str):It:=⟨fun i _=>i < x.cps.size,fun i H v H'=>H' = H ∧ ∃ c,x.cps[i]? = some c ∧ v = .str ⟨#[c]⟩,fun i _=>i = x.cps.size⟩
theorem tJ {P:Program} {w:World} {K:PySem.W.Frag} {tg:Expr} (x:Str) (t:Tok) (it:Addr) (kind:String) (hk:kind = "str_ascii_iterator" ∨ kind = "str_iterator") :
  Turn P w K tg (zv x) [it] it (fun i h=>h.IsStrIter it kind x t i) where
 mem:=by simp
 obj:=fun i h st b hb=>by
  have e:b = it:=by simpa using hb
  subst e
  obtain ⟨o,e,c,d⟩:=st
  exact ⟨o,e,fun v z=>by rw [d] at z; cases z⟩
 keep:=fun i h h' st k=>by
  obtain ⟨o,e,r⟩:=st
  exact ⟨o,k it (by simp) o e,r⟩
 item:=by
  intro X hP hw hK hc i pins s σ H E I hf st hg
  subst hP hw hK
  have W:Walks X.prog X.w X.A it [it] [it] x.cps.size (SignAt x) (fun i h=>h.IsStrIter it kind x t i):=by
   rcases hk with rfl | rfl
   ·exact Walks.strAscii (I.ok.hd hc) it x t
   ·exact Walks.strWide (I.ok.hd hc) it x t
  refine W.item i s _ _ hg st fun v h' tk hv st' hk'=>?_
  obtain ⟨c,u,hc',rfl⟩:=hv
  have I1:Inv X pins σ H { s with heap:=h',toks:=tk }:=I.turns (t':=tk) hk' hf
  obtain ⟨o,e,hcl,d⟩:=id st'
  refine ⟨_,rfl,qC (s:={ s with heap:=h',toks:=tk }) e hcl d ?_ ⟨.str ⟨#[c]⟩,H,I1,⟨u,rfl⟩,⟨rfl,c,hc',rfl⟩,st',fun b hb=>(hf b hb).1⟩⟩
  rcases hk with rfl | rfl <;> decide
 done:=by
  intro X hP hw hK hc i pins s σ H E I hf st hg
  subst hP hw hK
  have W:Walks X.prog X.w X.A it [it] [it] x.cps.size (SignAt x) (fun i h=>h.IsStrIter it kind x t i):=by
   rcases hk with rfl | rfl
   ·exact Walks.strAscii (I.ok.hd hc) it x t
   ·exact Walks.strWide (I.ok.hd hc) it x t
  have e:i = x.cps.size:=hg
  subst e
  exact W.done s _ _ st fun h' tk hk'=>⟨rfl,I.turns (t':=tk) hk' hf⟩
 self:=fun A i s Q E st h=>by
  rcases hk with rfl | rfl
  ·exact wpAny_pyIter_striter_ascii st h
  ·exact wpAny_pyIter_striter_wide st h
def yx (tl:TE):TI:=fun σ H R=>tl σ H fun x H1=>∃ z,x = .str z ∧ R (zv z) H1
theorem wF {X:Cx} {tg l:Expr} {tl:TE} (hl:PE X l tl):PI X tg l (yx tl):=by
 unfold PE at *; unfold PI at *
 exact by
  intro pins s σ H R I h
  refine bX (hl pins s σ H _ I h) fun v s1 ⟨x,H1,I1,r1,q1⟩=>?_
  obtain ⟨z,rfl,q⟩:=q1
  obtain ⟨t,rfl⟩:=r1
  refine wpAny_pyIter_strU ?_
  refine ⟨s1.heap.objs.size,[s1.heap.objs.size],_,_,H1,rfl,I1.kept (t':=s1.toks) fun b o e=>Heap.get?_push_of_some _ e,tJ z t _ (strIterType z) (by unfold strIterType; split <;> simp),⟨_,Heap.get?_push_size _ rfl,rfl,rfl⟩,fun b hb=>?_,q⟩
  have e:b = s1.heap.objs.size:=by simpa using hb
  subst e
  exact I1.qM (Nat.le_refl _) (I1.hok.fresh (Nat.le_refl _))
def xw (K:PySem.W.Frag) (a:Addr):It :=
 ⟨fun i H=>∃ xs x,ao K H a xs ∧ xs[i]? = some x,fun i H v H'=>∃ T x,v = .ref T ∧ H T = none ∧ H' = upd H T (.tup [.int i,x]) ∧ ∀ xs,ao K H a xs → xs[i]? = some x,fun i H=>∃ xs,ao K H a xs ∧ xs.length = i⟩
theorem qj {P:Program} {w:World} {K:PySem.W.Frag} {es:List Expr} {k:Nat} {pos:Pos} (a e it:Addr) (hei:e ≠ it) :
  Turn P w K (.Tuple es k pos) (xw K a) [e,it] e (fun i h=>(∃ old,IsEnum h e it i old) ∧ h.IsListIter it a i) where
 mem:=by simp
 obj:=fun i h st b hb=>by
  obtain ⟨⟨old,he⟩,o,ho,hc,hd⟩:=st
  rcases List.mem_cons.mp hb with rfl | hb
  ·exact ⟨_,he,fun v z=>by cases z⟩
  ·have e:b = it:=by simpa using hb
   subst e
   exact ⟨o,ho,fun v z=>by rw [hd] at z; cases z⟩
 keep:=fun i h h' st k=>by
  obtain ⟨⟨old,he⟩,hi⟩:=st
  exact ⟨⟨old,k e (by simp) _ he⟩,hi.at fun o x=>k it (by simp) o x⟩
 item:=by
  intro X hP hw hK hc i pins s σ H E I hf st hg
  subst hP hw hK
  obtain ⟨xs,x,hq,hx⟩:=hg
  obtain ⟨ai,rv,p,hz⟩:=I.list hq
  obtain ⟨u,hu,ru⟩:=rv.get hx
  obtain ⟨he,hi⟩:=st
  have hlt:i < ai.toArray.size:=by
   obtain ⟨hl,_⟩:=List.getElem?_eq_some_iff.mp hu
   simpa using hl
  have na:∀ b ∈ [e,it],a ≠ b:=fun b hb z=>by
   obtain ⟨o,ho,_⟩:=id p.isList
   subst z
   rcases List.mem_cons.mp hb with rfl | hb
   ·obtain ⟨old,he⟩:=he
    have l1:=p.isList
    obtain ⟨o,ho,hc,n,hd⟩:=l1
    rw [he] at ho; cases ho; exact absurd (show Value.type "enumerate" = Value.type "list" from hc) (by decide)
   ·have e':a = it:=by simpa using hb
    subst e'
    obtain ⟨o,ho,hc,n,hd⟩:=p.isList
    obtain ⟨o',ho',hc',hd'⟩:=hi
    rw [ho] at ho'; cases ho'
    rw [hc] at hc'; exact absurd hc' (by decide)
  have W:=WalksT.enumerate (prog:=X.prog) (w:=X.w) (I.ok.hd hc) e it a hei (na e (by simp)) (na it (by simp)) ai.toArray
  refine W.item i s _ _ hlt ⟨he,hi,p.isList⟩ fun T vals h1 tk hp hT hIs hm hk=>?_
  obtain ⟨t,y,hy,rfl⟩:=hp
  have ey:y = u:=by
   have:ai.toArray[i]? = some u:=by simpa using hu
   rw [this] at hy
   exact (Option.some.inj hy).symm
  subst ey
  refine ⟨_,rfl,W.go es k pos i T _ _ _ hm fun h2 st2 hk2=>?_⟩
  have hTn:H T = none:=I.hok.fresh hT
  have hap:=W.apart i T h1 hm
  have I1:Inv X pins σ H { s with heap:=h2,toks:=tk }:=I.turns (t':=tk) (fun b o hb e=>hk2 b o hb (hk b o hb e)) hf
  have hT2:h2.IsTuple T #[.int i t,y]:=by
   obtain ⟨o,ho,r⟩:=hIs
   exact ⟨o,hk2 T o hap ho,r⟩
  have fT:∀ b ∈ [e,it],upd H T (.tup [.int i,x]) b = none:=fun b hb=>by
   rw [aK (fun z=>hap (by rw [← z]; exact hb))]
   exact (hf b hb).1
  have hs0:X.s₀.heap.objs.size ≤ T:=Nat.le_trans I.sz hT
  have I2:Inv X pins σ (upd H T (.tup [.int i,x])) { s with heap:=h2,toks:=tk }:=by
   refine I1.adopt hTn (Heap.get?_none_of_le hs0) (Nat.ne_of_gt (Nat.lt_of_lt_of_le I.lt hT)) (fun z c e q=>?_) (fun p hp q=>?_) ⟨aJ rfl,[.int i t,y],.cons ⟨t,rfl⟩ (.cons ru .nil),hT2⟩
   ·obtain ⟨v,q1⟩:=I.cell z c e
    exact absurd (Nat.lt_of_lt_of_le q1.lt (by rw [q]; exact hT)) (Nat.lt_irrefl _)
   ·exact absurd (Nat.lt_of_lt_of_le (Heap.lt_size (I.pin p hp).1) (by rw [q]; exact hT)) (Nat.lt_irrefl _)
  exact ⟨.ref T,_,I2,rfl,⟨T,x,rfl,hTn,rfl,fun ys hy=>by rw [I.fV hy hq]; exact hx⟩,⟨st2.1,st2.2.1⟩,fT⟩
 done:=by
  intro X hP hw hK hc i pins s σ H E I hf st hg
  subst hP hw hK
  obtain ⟨xs,hq,hx⟩:=hg
  obtain ⟨ai,rv,p,hz⟩:=I.list hq
  obtain ⟨⟨old,he⟩,hi⟩:=st
  have D:=Draws.list (prog:=X.prog) (w:=X.w) (A:=X.A.in1) (I.ok.hd hc) it a (fun z=>by
   subst z
   obtain ⟨o,ho,hc,n,hd⟩:=p.isList
   obtain ⟨o',ho',hc',hd'⟩:=hi
   rw [ho] at ho'; cases ho'
   rw [hc] at hc'; exact absurd hc' (by decide)) ai.toArray
  have en:ai.toArray.size = i:=by rw [List.size_toArray,← rv.length]; exact hx
  refine wpAny_pyNext_enum_endD D he (by rw [en]; exact ⟨hi,p.isList⟩) fun h' hx'=>⟨rfl,?_⟩
  exact I.turns (t':=s.toks) (wr:=[e,it]) (fun b o hb q=>hx' b o (fun z=>hb (by simp [z])) q) hf
 self:=fun A i s Q E st h=>by
  obtain ⟨⟨old,he⟩,_⟩:=st
  exact wpAny_pyIter_enum he h
theorem mW:bootBuiltins "enumerate" = some (.type "enumerate"):=by decide +kernel
def yN (K:PySem.W.Frag) (ta:TA):TI:=fun σ H R=>ta σ H fun vs H1=>∃ a,vs = [.ref a] ∧ (∃ xs,ao K H1 a xs) ∧ R (xw K a) H1
theorem vV {X:Cx} {es:List Expr} {k:Nat} {tpos p pos:Pos} {a:Expr} {ta:TA} (hg:Gl X "enumerate") (hm:X.mg "enumerate" = none) (ha:PA X [a] ta)
  (he:starEach [a] X.env = [(false,eval a X.env)]:=by rfl):PI X (.Tuple es k tpos) (.Call (.Name "enumerate" p) [a] [] pos) (yN X.K ta):=by
 unfold PA at *; unfold PI at *
 exact by
  intro pins s σ H R I h
  refine wpAny_Call_Name_kw (iJ I hg hm mW ?_ (by decide) (by decide))
  refine PyProof.Rows.callWith_type1 (bX (ha pos pins s σ H _ I h) fun us s1 ⟨vs,H1,I1,r,q⟩=>?_) he (by rfl)
  obtain ⟨b,rfl,⟨xs,hq⟩,q⟩:=q
  obtain ⟨u,rfl,ru⟩:=vals1 r
  cases ru
  obtain ⟨ai,rv,pl,hz⟩:=I1.list hq
  refine call_enumerate_list pl.isList fun h' he hi hsz hk=>?_
  refine wpAny_pyIter_enum he ?_
  have I2:Inv X pins σ H1 { s1 with heap:=h' }:=I1.kept (t':=s1.toks) hk
  refine ⟨s1.heap.objs.size + 1,[s1.heap.objs.size + 1,s1.heap.objs.size],_,_,H1,rfl,I2,qj b _ _ (Nat.succ_ne_self _),⟨⟨_,he⟩,hi⟩,fun c hc=>?_,q⟩
  have hle:s1.heap.objs.size ≤ c:=by
   rcases List.mem_cons.mp hc with e | hc
   ·rw [e]; exact Nat.le_succ _
   ·have e:c = s1.heap.objs.size:=by simpa using hc
    rw [e]; exact Nat.le_refl _
  exact I1.qM hle (I1.hok.fresh hle)
def Nx (n i:Nat) (P:Prop):Prop:=∃ m',m' < n - i ∧ m' = n - (i + 1) ∧ i + 1 ≤ n ∧ P
theorem Nx.mk {n i:Nat} {P:Prop} (hi:i < n) (p:P):Nx n i P:=⟨n - (i + 1),by omega,rfl,hi,p⟩
theorem jn {J:It} {l:Addr} {g:TG} {tc:TT} {te:TE} {σ:St} {H:Hp} {Q:VK} (n:Nat) (Pv:Nat → St → List V → Hp → Prop) (hsz:n ≤ sizeLine) (h0:Pv 0 σ [] H)
  (hl:∀ i σ acc H,i ≤ n → Pv i σ acc H → H l = some (.lst acc) ∧ acc.length ≤ i)
  (hgo:∀ i σ acc H,i < n → Pv i σ acc H → J.go i H)
  (hs:∀ i x σ acc H H',i < n → Pv i σ acc H → J.yld i H x H' → g x σ H' fun σ2 H2=>tc σ2 H2 fun b H3=>if b = true then
   te σ2 H3 fun v H4=>H4 l = some (.lst acc) ∧ Nx n i (Pv (i + 1) σ2 (acc ++ [v]) (upd H4 l (.lst (acc ++ [v])))) else Nx n i (Pv (i + 1) σ2 acc H3))
  (hd:∀ σ acc H,Pv n σ acc H → J.stop n H ∧ Q (.ref l) H):jU J l g tc te σ H Q:=by
 refine ⟨fun i m σ acc H=>m = n - i ∧ i ≤ n ∧ Pv i σ acc H,⟨n,by simp,Nat.zero_le _,h0⟩,?_⟩
 rintro i m σ acc H ⟨rfl,hi,p⟩
 obtain ⟨q1,q2⟩:=hl i σ acc H hi p
 refine ⟨q1,?_⟩
 by_cases hlt:i < n
 ·exact .inr ⟨hgo i σ acc H hlt p,by omega,fun x H' y=>hs i x σ acc H H' hlt p y⟩
 ·have e:i = n:=by omega
  subst e
  exact .inl (hd σ acc H p)
theorem sg {K:PySem.W.Frag} {a:Addr} {xs:List V} {g:TG} {tb:TS} {D:Ends} {σ:St} {H:Hp} (Pv:Nat → St → Hp → Prop) (h0:Pv 0 σ H) (hl:∀ i σ H,i ≤ xs.length → Pv i σ H → ao K H a xs)
  (hs:∀ (i:Nat) x σ H T,xs[i]? = some x → Pv i σ H → H T = none → g (.ref T) σ (upd H T (.tup [.int i,x])) fun σ2 H2=>tb { D with nx:=Pv (i + 1),ct:=Pv (i + 1),bk:=D.nx } σ2 H2) (hd:∀ σ H,Pv xs.length σ H → D.nx σ H) :
  ∃ W:Nat → Nat → St → Hp → Prop,(∃ m,W 0 m σ H) ∧ ∀ i m σ H,W i m σ H →
   ((xw K a).stop i H ∧ D.nx σ H) ∨ ((xw K a).go i H ∧ ∃ N:St → Hp → Prop,(∀ σ' H',N σ' H' → ∃ m',m' < m ∧ W (i + 1) m' σ' H') ∧ ∀ v H',(xw K a).yld i H v H' → g v σ H' fun σ2 H2=>tb { D with nx:=N,ct:=N,bk:=D.nx } σ2 H2):=by
 refine ⟨fun i m σ H=>m = xs.length - i ∧ i ≤ xs.length ∧ Pv i σ H,⟨xs.length,by simp,Nat.zero_le _,h0⟩,?_⟩
 rintro i m σ H ⟨rfl,hi,p⟩
 have q:=hl i σ H hi p
 by_cases hlt:i < xs.length
 ·refine .inr ⟨⟨xs,xs[i],q,by simp [hlt]⟩,Pv (i + 1),fun σ' H' p'=>⟨xs.length - (i + 1),by omega,rfl,hlt,p'⟩,fun v H' y=>?_⟩
  obtain ⟨T,x,rfl,hT,rfl,hx⟩:=y
  exact hs i x σ H T (hx xs q) p hT
 ·have e:i = xs.length:=by omega
  subst e
  exact .inl ⟨⟨xs,q,rfl⟩,hd σ H p⟩
theorem j5:∀ {bs:List Bool} {us:List Value},Vals (bs.map V.bl) us → LSm.BoolsAre us bs
 | [],_,.nil=>.nil
 | b :: r,_,.cons h t=>by
  cases h
  exact .cons b (j5 t)
theorem vJ {s:Shared} {h':Heap} {o:Obj} (hk:∀ b x,b ∉ [s.heap.objs.size] → (s.heap.push o).get? b = some x → h'.get? b = some x):∀ b x,s.heap.get? b = some x → h'.get? b = some x :=
 fun b x e=>hk b x (fun hm=>by rw [List.mem_singleton.mp hm] at e; exact Nat.lt_irrefl _ (Heap.lt_size e)) (Heap.get?_push_of_some _ e)
theorem sF {X:Cx} (hc:X.calm = true):bW X (.builtin "all") (fun xs H Q=>∃ (a:Addr) (bs:List Bool),xs = [.ref a] ∧ ao X.K H a (bs.map V.bl) ∧ Q (.bl (bs.all id)) H):=by
 unfold bW at *
 exact by
  intro pins s σ H xs us Q I r h
  obtain ⟨a,bs,rfl,hq,q⟩:=h
  obtain ⟨u,rfl,ru⟩:=vals1 r
  cases ru
  obtain ⟨ai,rv,pl,hz⟩:=I.list hq
  have hb:=j5 rv
  have hl:=pl.isList
  have hlt:a < s.heap.objs.size:=by obtain ⟨_,e,_⟩:=hl; exact Heap.lt_size e
  refine call_all_walk (wpAny_pyIter_list hl ?_)
  refine ⟨s.heap.objs.size,[s.heap.objs.size,a],[s.heap.objs.size],ai.toArray.size,_,_,fun i=>(bs[i]?).getD true,rfl,Walks.list (A:=X.A.in1) (I.ok.hd hc) _ a (Nat.ne_of_lt hlt) ai.toArray,
   ⟨⟨_,Heap.get?_push_size _ rfl,rfl,rfl⟩,hl.push _⟩,fun i v s' Q' E' hP hQ=>?_,fun h' tk hk=>?_⟩
  ·obtain ⟨b,e,rfl⟩:=hb.get i v (by simpa using hP)
   simp only [e,Option.getD_some] at hQ
   exact wpAny_truthy_bool hQ
  ·have e:((List.range ai.toArray.size).all fun i=>(bs[i]?).getD true) = bs.all id:=by
    rw [List.size_toArray,hb.length]; exact LSm.range_all bs
   rw [e]
   exact ⟨.bl (bs.all id),H,I.kept (t':=tk) (vJ hk),rfl,q⟩
end L2
namespace L2
open PySem PySem.Spec PyProof.Rows
section
variable {X:Cx}
theorem mF:cY X (compareOp .LtE) (fun x y H Q=>∃ i j,x = .str i ∧ y = .str j ∧ Q (.bl (!decide (j.cps.toList < i.cps.toList))) H):=by
 unfold cY at *
 exact by
  intro pins s σ H x y v u Q I rx ry h
  obtain ⟨i,j,rfl,rfl,q⟩:=h
  obtain ⟨t,rfl⟩:=rx
  obtain ⟨t',rfl⟩:=ry
  exact PySem.P.le_str (bG I q (by simp))
end
inductive bt (K:PySem.W.Frag) (H:Hp) (R:V → V → Bool → Prop):V → V → Bool → Prop where
 | list {a b:Addr} {xs ys:List V} {e:Nat → Bool} (ha:ao K H a xs) (hb:ao K H b ys) (hl:xs.length = ys.length) (he:∀ i x y,xs[i]? = some x → ys[i]? = some y → R x y (e i)):bt K H R (.ref a) (.ref b) ((List.range xs.length).all e)
 | listN {a b:Addr} {xs ys:List V} (ha:ao K H a xs) (hb:ao K H b ys) (hl:xs.length ≠ ys.length):bt K H R (.ref a) (.ref b) false
 | tup {a b:Addr} {xs ys:List V} {e:Nat → Bool} (ha:bz K H a xs) (hb:bz K H b ys) (he:∀ i x y,xs[i]? = some x → ys[i]? = some y → R x y (e i)):bt K H R (.ref a) (.ref b) ((List.range (min xs.length ys.length)).all e && xs.length == ys.length)
def jO (K:PySem.W.Frag) (H:Hp):Nat → V → V → Bool → Prop
 | 0,x,y,b=>(bq x = true ∧ bq y = true ∧ b = iS x y) ∨ ∃ a,x = .ref a ∧ y = .ref a ∧ b = true
 | n + 1,x,y,b=>((bq x = true ∧ bq y = true ∧ b = iS x y) ∨ ∃ a,x = .ref a ∧ y = .ref a ∧ b = true) ∨ bt K H (jO K H n) x y b
theorem fW {x:V} (h:bq x = true):iS x x = true:=by
 cases x <;> simp_all [bq,iS]
section
variable {X:Cx} {pins:List (Addr × Obj)} {σ:St} {H:Hp} {s:Shared}
theorem all_range {n:Nat} {e:Nat → Bool} (h:∀ i,i < n → e i = true):(List.range n).all e = true:=by
 rw [List.all_eq_true]
 exact fun i hi=>h i (List.mem_range.mp hi)
theorem jO.self (I:Inv X pins σ H s):∀ {n:Nat} {x:V} {b:Bool},jO X.K H n x x b → b = true:=by
 intro n
 induction n with
 | zero =>
  intro x b h
  rcases h with ⟨h1,_,h2⟩ | ⟨_,_,_,h⟩
  ·rw [h2]; exact fW h1
  ·exact h
 | succ n ih =>
  intro x b h
  rcases h with (⟨h1,_,h2⟩ | ⟨_,_,_,h⟩) | h
  ·rw [h2]; exact fW h1
  ·exact h
  ·cases h with
   | @list a _ xs ys e ha hb hl he =>
    have q:=I.fV ha hb
    subst q
    exact all_range fun i hi=>ih (he i xs[i] xs[i] (by simp [hi]) (by simp [hi]))
   | listN ha hb hl=>exact absurd (congrArg List.length (I.fV ha hb)) hl
   | @tup a _ xs ys e ha hb he =>
    have q:=I.qq ha hb
    subst q
    rw [Nat.min_self,all_range fun i hi=>ih (he i xs[i] xs[i] (by simp [hi]) (by simp [hi]))]
    simp
theorem bt.rc {A:Around} {R:V → V → Bool → Prop} {x y:V} {b:Bool} {u v:Value} (I:Inv X pins σ H s) (h:bt X.K H R x y b) (rx:RelV x u) (ry:RelV y v) (hu:A.units < cLine)
  (hR:∀ x y b u v,R x y b → RelV x u → RelV y v → SeqAt.EqAt A.in1 s u v b):SeqAt.RcAt A s u v b:=by
 cases h with
 | @list a c xs ys e ha hb hl he =>
  cases rx; cases ry
  obtain ⟨ai,r1,p1,z1⟩:=I.list ha
  obtain ⟨jts,r2,p2,z2⟩:=I.list hb
  have l1:=r1.length
  have l2:=r2.length
  have q:=SeqAt.RcAt.lists (A:=A) (s:=s) (e:=e) p1.isList p2.isList (by simp only [List.size_toArray]; omega) hu fun j h1 h2=>?_
  ·rw [List.size_toArray,← l1] at q
   exact q
  ·simp only [List.size_toArray] at h1 h2
   have g1:xs[j]? = some xs[j]:=by simp
   have g2:ys[j]? = some ys[j]:=by simp
   obtain ⟨w1,k1,rr1⟩:=r1.get g1
   obtain ⟨w2,k2,rr2⟩:=r2.get g2
   have e1:ai.toArray[j] = w1:=by
    have:=List.getElem?_eq_some_iff.mp k1
    obtain ⟨_,this⟩:=this
    simpa using this
   have e2:jts.toArray[j] = w2:=by
    have:=List.getElem?_eq_some_iff.mp k2
    obtain ⟨_,this⟩:=this
    simpa using this
   rw [e1,e2]
   exact hR _ _ _ _ _ (he j _ _ g1 g2) rr1 rr2
 | @listN a c xs ys ha hb hl =>
  cases rx; cases ry
  obtain ⟨ai,r1,p1,z1⟩:=I.list ha
  obtain ⟨jts,r2,p2,z2⟩:=I.list hb
  have l1:=r1.length
  have l2:=r2.length
  exact SeqAt.RcAt.lists_lengths p1.isList p2.isList (by simp only [List.size_toArray,bne_iff_ne]; omega) hu
 | @tup a c xs ys e ha hb he =>
  cases rx; cases ry
  obtain ⟨ai,r1,p1,z1⟩:=I.tuple ha
  obtain ⟨jts,r2,p2,z2⟩:=I.tuple hb
  have l1:=r1.length
  have l2:=r2.length
  have q:=SeqAt.RcAt.tuples (A:=A) (s:=s) (e:=e) p1 p2 hu fun j h1 h2=>?_
  ·rw [List.size_toArray,List.size_toArray,← l1,← l2] at q
   exact q
  ·simp only [List.size_toArray] at h1 h2
   have g1:xs[j]? = some xs[j]:=by simp
   have g2:ys[j]? = some ys[j]:=by simp
   obtain ⟨w1,k1,rr1⟩:=r1.get g1
   obtain ⟨w2,k2,rr2⟩:=r2.get g2
   have e1:ai.toArray[j] = w1:=by
    have:=List.getElem?_eq_some_iff.mp k1
    obtain ⟨_,this⟩:=this
    simpa using this
   have e2:jts.toArray[j] = w2:=by
    have:=List.getElem?_eq_some_iff.mp k2
    obtain ⟨_,this⟩:=this
    simpa using this
   rw [e1,e2]
   exact hR _ _ _ _ _ (he j _ _ g1 g2) rr1 rr2
theorem bt.zQ {A:Around} {R:V → V → Bool → Prop} {x y:V} {b:Bool} {u v:Value} (I:Inv X pins σ H s) (h:bt X.K H R x y b) (rx:RelV x u) (ry:RelV y v) (hu:A.units < cLine)
  (hR:∀ x y b u v,R x y b → RelV x u → RelV y v → SeqAt.EqAt A.in1 s u v b):SeqAt.RcNeAt A s u v (!b):=by
 cases h with
 | @list a c xs ys e ha hb hl he =>
  cases rx; cases ry
  obtain ⟨ai,r1,p1,z1⟩:=I.list ha
  obtain ⟨jts,r2,p2,z2⟩:=I.list hb
  have l1:=r1.length
  have l2:=r2.length
  have q:=SeqAt.RcNeAt.lists (A:=A) (s:=s) (e:=e) p1.isList p2.isList (by simp only [List.size_toArray]; omega) hu fun j h1 h2=>?_
  ·rw [List.size_toArray,← l1] at q
   exact q
  ·simp only [List.size_toArray] at h1 h2
   have g1:xs[j]? = some xs[j]:=by simp
   have g2:ys[j]? = some ys[j]:=by simp
   obtain ⟨w1,k1,rr1⟩:=r1.get g1
   obtain ⟨w2,k2,rr2⟩:=r2.get g2
   have e1:ai.toArray[j] = w1:=by
    have:=List.getElem?_eq_some_iff.mp k1
    obtain ⟨_,this⟩:=this
    simpa using this
   have e2:jts.toArray[j] = w2:=by
    have:=List.getElem?_eq_some_iff.mp k2
    obtain ⟨_,this⟩:=this
    simpa using this
   rw [e1,e2]
   exact hR _ _ _ _ _ (he j _ _ g1 g2) rr1 rr2
 | @listN a c xs ys ha hb hl =>
  cases rx; cases ry
  obtain ⟨ai,r1,p1,z1⟩:=I.list ha
  obtain ⟨jts,r2,p2,z2⟩:=I.list hb
  have l1:=r1.length
  have l2:=r2.length
  exact SeqAt.RcNeAt.lists_lengths p1.isList p2.isList (by simp only [List.size_toArray,bne_iff_ne]; omega) hu
 | @tup a c xs ys e ha hb he =>
  cases rx; cases ry
  obtain ⟨ai,r1,p1,z1⟩:=I.tuple ha
  obtain ⟨jts,r2,p2,z2⟩:=I.tuple hb
  have l1:=r1.length
  have l2:=r2.length
  have q:=SeqAt.RcNeAt.tuples (A:=A) (s:=s) (e:=e) p1 p2 hu fun j h1 h2=>?_
  ·rw [List.size_toArray,List.size_toArray,← l1,← l2] at q
   exact q
  ·simp only [List.size_toArray] at h1 h2
   have g1:xs[j]? = some xs[j]:=by simp
   have g2:ys[j]? = some ys[j]:=by simp
   obtain ⟨w1,k1,rr1⟩:=r1.get g1
   obtain ⟨w2,k2,rr2⟩:=r2.get g2
   have e1:ai.toArray[j] = w1:=by
    have:=List.getElem?_eq_some_iff.mp k1
    obtain ⟨_,this⟩:=this
    simpa using this
   have e2:jts.toArray[j] = w2:=by
    have:=List.getElem?_eq_some_iff.mp k2
    obtain ⟨_,this⟩:=this
    simpa using this
   rw [e1,e2]
   exact hR _ _ _ _ _ (he j _ _ g1 g2) rr1 rr2
theorem jO.at (I:Inv X pins σ H s):∀ (n:Nat) (A:Around) (x y:V) (b:Bool) (u v:Value),A.units + n < cLine → jO X.K H n x y b → RelV x u → RelV y v → SeqAt.EqAt A s u v b:=by
 intro n
 induction n with
 | zero =>
  intro A x y b u v hu h rx ry
  rcases h with ⟨h1,h2,rfl⟩ | ⟨a,rfl,rfl,rfl⟩
  ·exact og rx ry h1 h2
  ·cases rx; cases ry
   exact SeqAt.EqAt.same _
 | succ n ih =>
  intro A x y b u v hu h rx ry
  rcases h with (⟨h1,h2,rfl⟩ | ⟨a,rfl,rfl,rfl⟩) | h
  ·exact og rx ry h1 h2
  ·cases rx; cases ry
   exact SeqAt.EqAt.same _
  ·have rc:=bt.rc (A:=A) I h rx ry (by omega) fun x y b u v hd r1 r2=>ih A.in1 x y b u v (by show A.units + 1 + n < cLine; omega) hd r1 r2
   have refs:∃ a c,x = .ref a ∧ y = .ref c:=by cases h <;> exact ⟨_,_,rfl,rfl⟩
   obtain ⟨a,c,rfl,rfl⟩:=refs
   cases rx; cases ry
   by_cases hac:a = c
   ·subst hac
    have hb:b = true:=jO.self (n:=n + 1) I (.inr h)
    subst hb
    exact SeqAt.EqAt.same _
   ·exact SeqAt.EqAt.of_refs hac rc
def yK (K:PySem.W.Frag) (neg:Bool):R2:=fun x y H Q=>∃ n b,n ≤ 60 ∧ bt K H (jO K H n) x y b ∧ Q (.bl (if neg then !b else b)) H
theorem kq (hu:X.A.units + 62 < cLine):cY X (compareOp .Eq) (yK X.K false):=by
 unfold cY at *
 exact by
  intro pins s σ H x y v u Q I rx ry h
  obtain ⟨n,b,hn,he,q⟩:=h
  exact bt.rc (A:=X.A) I he rx ry (by omega) (fun x y b u v hd r1 r2=>jO.at I n X.A.in1 x y b u v (by show X.A.units + 1 + n < cLine; omega) hd r1 r2) X.prog X.w _ _ (bG I q rfl)
theorem gY (hu:X.A.units + 62 < cLine):cY X (compareOp .NotEq) (yK X.K true):=by
 unfold cY at *
 exact by
  intro pins s σ H x y v u Q I rx ry h
  obtain ⟨n,b,hn,he,q⟩:=h
  exact bt.zQ (A:=X.A) I he rx ry (by omega) (fun x y b u v hd r1 r2=>jO.at I n X.A.in1 x y b u v (by show X.A.units + 1 + n < cLine; omega) hd r1 r2) X.prog X.w _ _ (bG I q rfl)
def rp:List V → List V → Bool
 | [],[]=>true
 | x :: xs,y :: ys=>iS x y && rp xs ys
 | _,_=>false
end
theorem jG:∀ {xs ys:List V},xs.length = ys.length → (List.range xs.length).all (fun i=>iS (xs.getD i .bA) (ys.getD i .bA)) = rp xs ys
 | [],[],_=>rfl
 | x :: xs,y :: ys,h=>by
  have h':xs.length = ys.length:=by simpa using h
  rw [List.length_cons,List.range_succ_eq_map,List.all_cons,List.all_map,rp,← jG h']
  rfl
 | [],_ :: _,h=>by simp at h
 | _ :: _,[],h=>by simp at h
theorem pX:∀ {xs ys:List V},xs.length ≠ ys.length → rp xs ys = false
 | [],[],h=>absurd rfl h
 | x :: xs,y :: ys,h=>by
  rw [rp,pX (xs:=xs) (ys:=ys) (by simpa using h),Bool.and_false]
 | [],_ :: _,_=>rfl
 | _ :: _,[],_=>rfl
theorem bt.xu {K:PySem.W.Frag} {H:Hp} {n:Nat} {a b:Addr} {xs ys:List V} (ha:ao K H a xs) (hb:ao K H b ys) (fx:xs.all bq = true) (fy:ys.all bq = true):bt K H (jO K H n) (.ref a) (.ref b) (rp xs ys):=by
 by_cases hl:xs.length = ys.length
 ·rw [← jG hl]
  refine .list ha hb hl fun i x y hx hy=>?_
  have q:(bq x = true ∧ bq y = true ∧ iS (xs.getD i .bA) (ys.getD i .bA) = iS x y):=by
   refine ⟨List.all_eq_true.mp fx x (List.mem_of_getElem? hx),List.all_eq_true.mp fy y (List.mem_of_getElem? hy),?_⟩
   rw [List.getD_eq_getElem?_getD,List.getD_eq_getElem?_getD,hx,hy]
   rfl
  cases n with
  | zero=>exact .inl q
  | succ n=>exact .inl (.inl q)
 ·rw [pX hl]
  exact .listN ha hb hl
theorem bt.yf {K:PySem.W.Frag} {H:Hp} {n:Nat} {a b:Addr} {xs ys:List V} (ha:bz K H a xs) (hb:bz K H b ys) (hl:xs.length = ys.length) (fx:xs.all bq = true) (fy:ys.all bq = true):bt K H (jO K H n) (.ref a) (.ref b) (rp xs ys):=by
 have q:=bt.tup (K:=K) (H:=H) (R:=jO K H n) (e:=fun i=>iS (xs.getD i .bA) (ys.getD i .bA)) ha hb fun i x y hx hy=>?_
 ·rw [← hl,Nat.min_self,jG hl] at q
  simpa using q
 ·have q:(bq x = true ∧ bq y = true ∧ iS (xs.getD i .bA) (ys.getD i .bA) = iS x y):=by
   refine ⟨List.all_eq_true.mp fx x (List.mem_of_getElem? hx),List.all_eq_true.mp fy y (List.mem_of_getElem? hy),?_⟩
   rw [List.getD_eq_getElem?_getD,List.getD_eq_getElem?_getD,hx,hy]
   rfl
  cases n with
  | zero=>exact .inl q
  | succ n=>exact .inl (.inl q)
end L2
namespace L2
open PySem PySem.Spec PyProof.Rows
theorem tF {K:PySem.W.Frag} {H:Hp} {a:Addr} {o:Obj} {xs:List V} {ai:Array Value} {n:Nat} (hk:K.lookup a = some o) (hc:o.cls = .type "tuple") (ho:o.data = .seq ai n) (hz:ai.size ≤ sizeLine) (hv:Vals xs ai.toList):bz K H a xs :=
 .inr ⟨o,ai,n,hk,hc,ho,hz,hv⟩
def jo (w:World) (p:Str × V) (e:DictEntry):Prop:=e.hash = PyData.keyHash w.params p.1 ∧ (∃ t,e.key = .str p.1 t) ∧ RelV p.2 e.val
structure iG (w:World) (K:PySem.W.Frag) (a:Addr) (kvs:List (Str × V)):Prop where
 ex:∃ (es:List DictEntry) (ep:Nat),K.lookup a = some ⟨.type "dict",none,.dict es.toArray ep,#[]⟩ ∧ Paired (jo w) kvs es
 nd:(kvs.map (·.1)).Nodup
theorem iG.pairs {P:Program} {w:World}:∀ {kvs:List (Str × V)} {es:List DictEntry},Paired (jo w) kvs es → ∃ vs:List (Key × Value),Pairs (aU P w) es vs ∧ KV (kvs.map fun p=>((Sum.inr p.1:Key),p.2)) vs ∧ vs.map (·.1) = kvs.map fun p=>(Sum.inr p.1:Key)
 | _,_,.nil=>⟨[],.nil,.nil,rfl⟩
 | (x,v) :: r,e :: es,.cons ⟨h1,⟨t,h2⟩,h3⟩ hr=>by
  obtain ⟨vs,p1,p2,p3⟩:=iG.pairs (P:=P) hr
  refine ⟨((Sum.inr x:Key),e.val) :: vs,?_,.cons ⟨rfl,h3⟩ p2,by rw [List.map_cons,p3]; rfl⟩
  refine .cons ?_ rfl p1
  show iF (.inr x) e.key = true
  rw [h2]
  exact iy x t
theorem iG.keysOf {P:Program} {w:World}:∀ {kvs:List (Str × V)} {es:List DictEntry},Paired (jo w) kvs es → ∀ e ∈ es,∃ k,(aU P w).is k e.key = true ∧ e.hash = (aU P w).hash k
 | _,_,.nil,e,h=>by simp at h
 | (x,v) :: r,e :: es,.cons ⟨h1,⟨t,h2⟩,h3⟩ hr,e',h=>by
  rcases List.mem_cons.mp h with q | q
  ·subst q
   refine ⟨.inr x,?_,h1⟩
   show iF (.inr x) e'.key = true
   rw [h2]
   exact iy x t
  ·exact iG.keysOf hr e' q
theorem iG.dictOf {P:Program} {w:World} {K:PySem.W.Frag} {a:Addr} {kvs:List (Str × V)} {h:Heap} (D:iG w K a kvs) (X:K.In h):∃ vs,KV (kvs.map fun p=>((Sum.inr p.1:Key),p.2)) vs ∧ h.DictOf (aU P w) a vs:=by
 obtain ⟨es,ep,hk,hp⟩:=D.ex
 obtain ⟨vs,p1,p2,p3⟩:=iG.pairs (P:=P) hp
 refine ⟨vs,p2,_,es.toArray,ep,X _ _ hk,⟨rfl,rfl,rfl⟩,rfl,fun e he=>iG.keysOf hp e (by simpa using he),by simpa using p1,?_⟩
 rw [p3]
 have nd:=D.nd
 rw [List.nodup_iff_pairwise_ne,List.pairwise_map] at nd ⊢
 exact nd.imp fun h e=>h (Sum.inr.inj e)
def yV (w:World) (K:PySem.W.Frag):R2:=fun x y H Q=>∃ a kvs z v,x = .ref a ∧ y = .str z ∧ iG w K a kvs ∧ kvs.lookup z = some v ∧ Q v H
theorem sR {kvs:List (Str × V)} {z:Str}:bS (kvs.map fun p=>((Sum.inr p.1:Key),p.2)) (Sum.inr z) = kvs.lookup z:=by
 unfold bS
 induction kvs with
 | nil=>rfl
 | cons p r ih =>
  obtain ⟨k,v⟩:=p
  rw [List.map_cons,List.find?_cons,List.lookup_cons]
  by_cases e:k = z
  ·subst e
   simp
  ·have h1:decide ((Sum.inr k:Key) = Sum.inr z) = false:=by simpa using e
   have h2:(z == k) = false:=by simpa using fun q=>e q.symm
   rw [h1,h2]
   exact ih
theorem rO {X:Cx}:pG X (yV X.w X.K):=by
 unfold pG at *
 exact by
  intro value slice pins s σ H x y v u Q I rx ry h hs
  obtain ⟨a,kvs,z,r,rfl,rfl,D,hl,q⟩:=h
  cases rx
  have ry':RelV (kV (Sum.inr z)) u:=ry
  obtain ⟨vs,rel,dd⟩:=D.dictOf (P:=X.prog) I.du
  obtain ⟨w',hw,rw'⟩:=eP.some_of (v:=r) (o:=valueAt vs (Sum.inr z)) (by
   have q:=rel.val (Sum.inr z)
   rw [sR,hl] at q
   exact q)
  refine tail_any dd.mapOf.typeIs PySem.F.slot_dict_getitem.lookup ?_ hs
  exact wpAny_getItem_of (jT ry') dd.mapOf hw ⟨r,H,I.tok _,rw',q⟩
end L2
namespace L2
open PySem PySem.Spec PyProof.Rows
def bM (es:Array DictEntry):Bool:=es.all fun e=>match e.key with | .str _ _=>true | _=>false
theorem ft {es:Array DictEntry} (h:bM es = true):StrKeys es:=by
 intro e he
 have q:=Array.all_eq_true_iff_forall_mem.mp h e he
 split at q
 ·rename_i n t hk
  exact ⟨n,t,hk⟩
 ·cases q
theorem iN.vk {K:PySem.W.Frag} {C N A:Addr} {nm q:Str} {bs:List Value} {hdct:Bool} {sn:List Str} {sub:List Value} {ab:Bool} {col:Option Bool} {dd:Option Addr} {k0 k1 k2 k3 k5:Option Value} {es:Array DictEntry} {c d ep sl}
  {c0:Value} {dd':Option Addr} {cd:ClassData} {sl0:Array (Option Value)} {es':Array DictEntry} {c' d' ep' sl'}
  (l:K.lookup C = some (excClassObj nm q C N bs (.ref A :: i6) hdct sn sub ab col dd k0 k1 k2 k3 k5 "ValueError.__new__")) (ln:K.lookup N = some ⟨c,d,.dict es ep,sl⟩) (sk:bM es = true) (ni:nsFind es "__init__" = none)
  (la:K.lookup A = some { cls:=c0,dict:=dd',data:=.cls cd,slots:=sl0 }) (lna:K.lookup cd.ns = some ⟨c',d',.dict es' ep',sl'⟩) (ska:bM es' = true) (nia:nsFind es' "__init__" = none):iN K C :=
 ⟨nm,q,N,bs,_,hdct,sn,sub,ab,col,dd,k0,k1,k2,k3,k5,es,l,⟨c,d,ep,sl,ln,ft sk⟩,ni,.own la ⟨c',d',ep',sl',lna,ft ska⟩ nia .base⟩
theorem iO {A:Around} {k:Nat} (hr:cD k A):A.units + 62 < cLine:=by have:=hr.un; omega
theorem jm {X:Cx} {scope:Scope} {N':List Str} {js:List (Option Nat)} (hl:js.length = N'.length) (h:js.all Option.isNone = true):xi X scope N' js :=
 ⟨hl,fun i j x h1 _=>by
  have q:=List.all_eq_true.mp h _ (List.mem_of_getElem? h1)
  cases q⟩
theorem iW {X:Cx} {scope:Scope} (h:(scope.names.all fun y=>match y.2 with | .free=>false | _=>true) = true):∀ y ∈ scope.names,y.2 = .free → (X.env.kindOf y.1 = some .cell ∨ X.env.kindOf y.1 = some .free):=fun y hy e=>by
 have q:=List.all_eq_true.mp h y hy
 rw [e] at q
 cases q
theorem bH.exc {K:PySem.W.Frag} {H:Hp} {e C c:Addr} {b:Bool} {Q:VK} (h:H e = some (mh (.ref C) none e)) (q:dn K C) (k:PySem.W.kitOne K (.ref C) (.ref c) = some b) (hQ:Q (.bl b) H):bH K [.ref e,.ref c] H Q :=
 .inr ⟨e,.ref c,.ref c,C,b,rfl,.own c,h,q,k,hQ⟩
theorem bH.zX {K:PySem.W.Frag} {H:Hp} {e C:Addr} {c:String} {b:Bool} {Q:VK} (h:H e = some (mh (.ref C) none e)) (q:dn K C) (k:PySem.W.kitOne K (.ref C) (.type c) = some b) (hQ:Q (.bl b) H):bH K [.ref e,.ty c] H Q :=
 .inr ⟨e,.ty c,.type c,C,b,rfl,.ty c,h,q,k,hQ⟩
theorem fD {P:Program} {w:World} {X:Cx}:e8 (jr P w) X (fun _=>E0):=by
 intro pins σ H s e s' I h
 obtain ⟨_,_,_,_,_,_,_,_,_,_,_,_,_,_,_,_,_,h⟩:=h
 exact h.elim
end L2
namespace L2
open PySem PySem.Spec PyProof.Rows
structure jg (K:PySem.W.Frag) (x qual:Str) (st:Stmt) (dV:Value) (f:Addr) (fd:FuncData):Prop where
 ex:∃ (oc:Value) (od:Option Addr) (kV doc pm:Value) (an:Option Addr) (cdv ct:Value) (osl:Array (Option Value)),
  fd = PySem.W.fnOf x qual (aS st) (aP st) (aG st) dV kV doc pm an cdv ct ∧ K.lookup f = some ⟨oc,od,.func fd,osl⟩ ∧ PySem.W.codeIn K cdv qual = true
 kp:PySem.W.keepIn K (.ref f) = true
theorem jg.uI {P:Program} {w:World} {K:PySem.W.Frag} {mg:Str → Option Value} {base:Heap} {x qual:Str} {st:Stmt} {dV:Value} {f:Addr} {fd:FuncData} {N ps:List Str} {k:Nat} {sp:Sp} (F:jg K x qual st dV f fd) (S:aX N ps (aG st)) (len:∀ vs H Q E,sp vs H Q E → vs.length = ps.length)
  (hbody:∀ (cdv:Value) (A:Around) (outer:List Env) (s:Shared) (H:Hp) (vs:List V) (Q:VK) (E:XK),cD k (A.deeper (envOfC qual (aG st) s.heap.objs.size f cdv)) → sp vs H Q E →
   ∃ t,jJ (ie (jr P w) P w K mg base N qual (aG st) f cdv A outer s H E) (aP st) t ∧ t { nx:=fun _ H'=>Q .bA H',rt:=Q } (start N vs) H):bF P w K mg base (jr P w) (k + 1) f fd ps sp:=by
 obtain ⟨oc,od,kV,doc,pm,an,cdv,ct,osl,rfl,lk,hcd⟩:=F.ex
 exact tY lk hcd S len fun A outer s H vs Q E hr hsp=>hbody cdv A outer s H vs Q E hr hsp
theorem gE {K:PySem.W.Frag} {x qual:Str} {st:Stmt} {dV:Value} {f:Addr} {oc:Value} {od an:Option Addr} {osl:Array (Option Value)} {kV doc pm cdv ct:Value} (l:K.lookup f = some ⟨oc,od,.func (PySem.W.fnOf x qual (aS st) (aP st) (aG st) dV kV doc pm an cdv ct),osl⟩)
  (hc:PySem.W.codeIn K cdv qual = true) (kp:PySem.W.keepIn K (.ref f) = true):jg K x qual st dV f (PySem.W.fnOf x qual (aS st) (aP st) (aG st) dV kV doc pm an cdv ct):=⟨⟨oc,od,kV,doc,pm,an,cdv,ct,osl,rfl,l,hc⟩,kp⟩
structure bj (K:PySem.W.Frag) (fd:FuncData) (ps ks:List Str) (na:Nat) (g:List Value → List Value → List Value) (gV:List V → List V → List V):Prop where
 to:∀ (s:Shared) (x:Value) (us ws:List Value),K.In s.heap → us.length = na → ws.length = ks.length → BindsTo s fd ⟨x :: us,ks.zip ws⟩ (ps.zip (x :: g us ws)) ∧ (x :: g us ws).length = ps.length
 rel:∀ {vs:List V} {us:List Value} {zs:List V} {ws:List Value},Vals vs us → Vals zs ws → Vals (gV vs zs) (g us ws)
theorem bj.ofD {K:PySem.W.Frag} {x qual:Str} {st:Stmt} {T f:Addr} {fd:FuncData} {ps ks:List Str} {na:Nat} {g:List Value → List Value → List Value} {gV:List V → List V → List V} {o:Obj} {items:Array Value} {n:Nat}
  (F:jg K x qual st (.ref T) f fd) (hT:K.lookup T = some o) (hs:o.data = .seq items n) (hrel:∀ {vs:List V} {us:List Value} {zs:List V} {ws:List Value},Vals vs us → Vals zs ws → Vals (gV vs zs) (g us ws))
  (h:∀ (kV doc pm:Value) (an:Option Addr) (cdv ct:Value) (y:Value) (us ws:List Value),us.length = na → ws.length = ks.length →
   (∃ k,bindArgs (PySem.W.fnOf x qual (aS st) (aP st) (aG st) (.ref T) kV doc pm an cdv ct) ⟨y :: us,ks.zip ws⟩ = seqItems? (.ref T) >>= k ∧ k (some items) = pure (ps.zip (y :: g us ws))) ∧ (y :: g us ws).length = ps.length):bj K fd ps ks na g gV:=by
 obtain ⟨oc,od,kV,doc,pm,an,cdv,ct,osl,rfl,lk,hcd⟩:=F.ex
 refine ⟨fun s y us ws X h1 h2=>?_,hrel⟩
 obtain ⟨⟨k,e1,e2⟩,e3⟩:=h kV doc pm an cdv ct y us ws h1 h2
 exact ⟨.of_defaults rfl (X _ _ hT) hs e1 e2,e3⟩
def vz (C:Addr) (sp:Sp) (na nk:Nat) (gV:List V → List V → List V) (Ez:St → XK) (t tk:TA):TE:=fun σ H Q=>t σ H fun vs H1=>tk σ H1 fun zs H2=>vs.length = na ∧ zs.length = nk ∧
 ∀ x dx,H2 x = none → H2 dx = none → dx ≠ x → sp (.ref x :: gV vs zs) (upd (upd H2 dx (.own x)) x (.ins C dx [])) (fun v H3=>v = .bA ∧ Q (.ref x) H3) (Ez σ)
section
variable {X:Cx} {CX:lH} {k:Nat} {f C:Addr} {fd:FuncData} {ps ks:List Str} {sp:Sp} {Ez:St → XK} {x:Str} {p pos:Pos} {e:Expr} {es:List Expr} {kws:List Keyword} {t tk:TA} {na:Nat} {g:List Value → List Value → List Value} {gV:List V → List V → List V}
theorem qx {pins:List (Addr × Obj)} {σ:St} {H:Hp} {s:Shared} {Q:VK} {us ws:List Value} {vs zs:List V} (M:Mk X.K C f) (F:bF X.prog X.w X.K X.mg X.base CX k f fd ps sp) (hr:cD (k + 1) X.A) (hb:bj X.K fd ps ks na g gV)
  (hx:e8 CX X Ez) (I:Inv X pins σ H s) (r:Vals vs us) (rz:Vals zs ws) (hna:vs.length = na) (hnk:zs.length = ks.length)
  (h:∀ x dx,H x = none → H dx = none → dx ≠ x → sp (.ref x :: gV vs zs) (upd (upd H dx (.own x)) x (.ins C dx [])) (fun v H2=>v = .bA ∧ Q (.ref x) H2) (Ez σ)) :
  wpAny (model X.prog X.w) X.A (call (.ref C) us (ks.zip ws)) (EP X pins σ Q) X.xe s:=by
 have hq:=h (s.heap.objs.size + 1) s.heap.objs.size (I.hok.fresh (Nat.le_succ _)) (I.hok.fresh (Nat.le_refl _)) (Nat.ne_of_lt (Nat.lt_succ_self _))
 have I2:=Inv.made (C:=C) I
 have r2:Vals (V.ref (s.heap.objs.size + 1) :: gV vs zs) (Value.ref (s.heap.objs.size + 1) :: g us ws):=.cons rfl (hb.rel r rz)
 obtain ⟨hto,hl⟩:=hb.to { s with heap:=(s.heap.push PySem.W.emptyDict).push (PySem.W.instObj C s.heap.objs.size) } (Value.ref (s.heap.objs.size + 1)) us ws I2.du (by rw [← r.length]; exact hna) (by rw [← rz.length]; exact hnk)
 refine wpAny_call (nV (f:=f) I.du M.makes M.init (beq_iff_eq.mp M.fn) (codeAny_mono (F.run _ X.stack _ _ ⟨Value.ref (s.heap.objs.size + 1) :: us,ks.zip ws⟩ (Value.ref (s.heap.objs.size + 1) :: g us ws) _ _ (Ez σ) (hr.make C us (ks.zip ws))
  (I2.uD.make C us (ks.zip ws)) hto r2 hq) fun r s' hq'=>?_))
 cases r with
 | error e=>exact hx pins σ _ _ e s' I2 hq'
 | ok fl =>
  cases fl with
  | ret u =>
   obtain ⟨v,H',I3,rv,ev,q3⟩:=I2.after hq'
   subst ev
   exact ⟨rv,⟨V.ref (s.heap.objs.size + 1),H',I3,rfl,q3⟩⟩
  | next=>exact False.elim hq'
  | brk=>exact False.elim hq'
  | cont=>exact False.elim hq'
theorem fU (M:Mk X.K C f) (F:bF X.prog X.w X.K X.mg X.base CX k f fd ps sp) (hr:cD (k + 1) X.A) (hg:Gl X x) (hm:X.mg x = some (.ref C)) (hb:bj X.K fd ps ks na g gV) (hx:e8 CX X Ez)
  (ha:PA X (e :: es) t) (hkw:PK X kws tk) (hall:(backToKw pos (keywordEach kws X.env)).all (·.1.isSome) = true:=by rfl) (hks:(backToKw pos (keywordEach kws X.env)).filterMap (·.1) = ks:=by rfl)
  (hdb:(x == ("__debug__" : Str)) = false:=by decide) (he:starEach (e :: es) X.env = (false,eval e X.env) :: starEach es X.env:=by rfl)
  (hpl:((backTo pos (starEach (e :: es) X.env)).any (·.1) || (backToKw pos (keywordEach kws X.env)).any (·.1.isNone)) = false:=by rfl) :
  PE X (.Call (.Name x p) (e :: es) kws pos) (vz C sp na ks.length gV Ez t tk):=by
 unfold PE at *; unfold PA at *; unfold PK at *
 exact by
  intro pins s σ H Q I h
  refine wpAny_Call_Name_kw (de I hg hm ?_ hdb)
  refine PySem.W.callWith_KW (h₀:=X.base) I.ok.mod.kin M.kp hall (bX (ha pos pins s σ H _ I h) fun us s1 ⟨vs,H1,I1,r,q⟩=>?_) hpl he
  refine bX (hkw pos pins s1 σ H1 _ I1 q) fun ws s2 ⟨zs,H2,I2,rz,hna,hnk,q2⟩=>⟨I2.du,?_⟩
  rw [hks]
  exact qx M F hr hb hx I2 r rz hna hnk q2
end
theorem ez {X:Cx} {scope:Scope} (l:List Str) (h:(scope.names.all fun y=>match y.2 with | .free=>l.contains y.1 | _=>true) = true) (hl:∀ x ∈ l,X.env.kindOf x = some .cell ∨ X.env.kindOf x = some .free) :
  ∀ y ∈ scope.names,y.2 = .free → (X.env.kindOf y.1 = some .cell ∨ X.env.kindOf y.1 = some .free):=fun y hy e=>by
 have q:=List.all_eq_true.mp h y hy
 rw [e] at q
 exact hl _ (List.contains_iff_mem.mp q)
def yw (t u:TS):TS:=fun D σ H=>∃ Mid:St → Hp → Prop,t { D with nx:=Mid } σ H ∧ ∀ σ' H',Mid σ' H' → u D σ' H'
theorem aY {X:Cx} {st:Stmt} {rest:List Stmt} {t u:TS} (h1:PS X st t) (h2:jJ X rest u):jJ X (st :: rest) (yw t u):=by
 unfold PS at *; unfold jJ at *
 exact by
  intro pins s σ H D I h
  obtain ⟨Mid,h,hm⟩:=h
  refine wpAny_execs_cons (bX (h1 pins s σ H { D with nx:=Mid } I h) fun f s1 q=>?_)
  cases f with
  | next =>
   obtain ⟨σ',H',I',q⟩:=q
   exact h2 pins s1 σ' H' D I' (hm σ' H' q)
  | ret v=>exact q
  | brk=>exact q
  | cont=>exact q
theorem ak {α:Type} {n:Nat}:∀ {us:List α},us.length = n + 1 → ∃ a r,us = a :: r ∧ r.length = n
 | a :: r,h=>⟨a,r,rfl,by simpa using h⟩
theorem len0 {α:Type}:∀ {us:List α},us.length = 0 → us = []
 | [],_=>rfl
theorem cm {α:Type} {p:α → Prop}:∀ x ∈ ([]:List α),p x:=fun _ h=>nomatch h
theorem ay {α:Type} {p:α → Prop} {a:α} {l:List α} (h:p a) (r:∀ x ∈ l,p x):∀ x ∈ a :: l,p x:=fun x hx=>by
 rcases List.mem_cons.mp hx with e | e
 ·subst e; exact h
 ·exact r x e
theorem gZ {X:Cx} {scope:Scope} {N':List Str} {js:List (Option Nat)} (hl:js.length = N'.length)
  (h:∀ p ∈ js.zip N',∀ j,p.1 = some j → X.N[j]? = some p.2 ∧ scope.names.lookup p.2 = some .free ∧ (X.env.kindOf p.2 = some .cell ∨ X.env.kindOf p.2 = some .free)):xi X scope N' js :=
 ⟨hl,fun i j x h1 h2=>h (some j,x) (List.mem_of_getElem? (i:=i) (by rw [List.getElem?_zip_eq_some]; exact ⟨h1,h2⟩)) j rfl⟩
end L2
namespace L2
open PySem PySem.Spec PyProof.Rows
section
variable {X:Cx}
end
end L2
namespace L2
open PySem PySem.Spec PyProof.Rows
section
variable {X:Cx}
end
structure yd (i j:Int):Prop where
 lo:0 < j
 hi:j < 2 ^ 200
theorem pZ {P:Program} {w:World} {K:PySem.W.Frag} {mg:Str → Option Value} {base:Heap} {N:List Str} {qual:Str} {scope:Scope} {f:Addr} {cd:Value} {A:Around} {outer:List Env} {s₀:Shared} {H₀:Hp} {E:XK} {CX:lH} :
  PassesOwn (model P w) (ie CX P w K mg base N qual scope f cd A outer s₀ H₀ E).A (ie CX P w K mg base N qual scope f cd A outer s₀ H₀ E).env (ie CX P w K mg base N qual scope f cd A outer s₀ H₀ E).xe:=PassesOwn.leaving
theorem mR.r {X:Cx} {id:String} {r:V → List V → Hp → VK → Prop} (h:mR X id r):uJ X id r:=by
 first
 | exact (h)
 | (unfold uJ at *; unfold mR at *; exact (h))
end L2
namespace L2
open PySem PySem.Spec PyProof.Rows
theorem dj {K:PySem.W.Frag} {a l:Addr} {xs:List V} {g:TG} {tc:TT} {te:TE} {σ:St} {H:Hp} {Q:VK} (Pv:Nat → St → List V → Hp → Prop) (hsz:xs.length ≤ sizeLine) (h0:Pv 0 σ [] H)
  (hl:∀ i σ acc H,i ≤ xs.length → Pv i σ acc H → H l = some (.lst acc) ∧ ao K H a xs ∧ acc.length ≤ i)
  (hs:∀ i x σ acc H,xs[i]? = some x → Pv i σ acc H → g x σ H fun σ2 H2=>tc σ2 H2 fun b H3=>if b = true then
   te σ2 H3 fun v H4=>H4 l = some (.lst acc) ∧ Nx xs.length i (Pv (i + 1) σ2 (acc ++ [v]) (upd H4 l (.lst (acc ++ [v])))) else Nx xs.length i (Pv (i + 1) σ2 acc H3))
  (hd:∀ σ acc H,Pv xs.length σ acc H → Q (.ref l) H):jU (vi K a) l g tc te σ H Q :=
 jn xs.length Pv hsz h0 (fun i σ acc H hi p=>⟨(hl i σ acc H hi p).1,(hl i σ acc H hi p).2.2⟩)
  (fun i σ acc H hi p=>⟨xs,xs[i],(hl i σ acc H (Nat.le_of_lt hi) p).2.1,List.getElem?_eq_getElem hi⟩)
  (fun i x σ acc H H' hi p y=>by
   obtain ⟨e,y⟩:=y
   subst e
   exact hs i x σ acc _ (y xs (hl i σ acc _ (Nat.le_of_lt hi) p).2.1) p)
  (fun σ acc H p=>⟨⟨xs,(hl _ σ acc H (Nat.le_refl _) p).2.1,Nat.le_refl _⟩,hd σ acc H p⟩)
def Tr:Nat → Type
 | 0=>Int
 | n + 1=>List (Tr n)
abbrev ls {n:Nat} (ts:Tr (n + 1)):List (Tr n):=ts
abbrev Ow:=Addr → Option (List Nat)
def kQ (H:Hp):(n:Nat) → V → Tr n → Prop
 | 0,v,i=>v = .int i
 | n + 1,v,ts=>∃ a vs,v = .ref a ∧ H a = some (.lst vs) ∧ vs.length = (ls ts).length ∧ ∀ (j:Nat) w t,vs[j]? = some w → (ls ts)[j]? = some t → kQ H n w t
def At (o:Ow) (H:Hp):(n:Nat) → List Nat → V → Tr n → Prop
 | 0,_,v,i=>v = .int i
 | n + 1,p,v,ts=>∃ a vs,v = .ref a ∧ o a = some p ∧ H a = some (.lst vs) ∧ vs.length = (ls ts).length ∧ ∀ (j:Nat) w t,vs[j]? = some w → (ls ts)[j]? = some t → At o H n (j :: p) w t
theorem At.r {o:Ow} {H:Hp}:∀ {n:Nat} {p:List Nat} {v:V} {t:Tr n},At o H n p v t → kQ H n v t
 | 0,_,_,_,h=>h
 | n + 1,_,_,_,⟨a,vs,e,_,h,l,k⟩=>⟨a,vs,e,h,l,fun j w t hw ht=>(k j w t hw ht).r⟩
theorem kQ.keep {H H':Hp} (s:∀ a xs,H a = some (.lst xs) → H' a = some (.lst xs)):∀ {n:Nat} {v:V} {t:Tr n},kQ H n v t → kQ H' n v t
 | 0,_,_,h=>h
 | n + 1,_,_,⟨a,vs,e,h,l,k⟩=>⟨a,vs,e,s _ _ h,l,fun j w t hw ht=>(k j w t hw ht).keep s⟩
theorem kQ.same {H H':Hp} (s:aH H H') {n:Nat} {v:V} {t:Tr n} (h:kQ H n v t):kQ H' n v t:=h.keep fun a xs e=>s a _ e
theorem At.frame {o o':Ow} {H H':Hp}:∀ {n:Nat} {p:List Nat} {v:V} {t:Tr n},At o H n p v t → (∀ a r xs,o a = some r → p <:+ r → H a = some (.lst xs) → H' a = some (.lst xs) ∧ o' a = some r) → At o' H' n p v t
 | 0,_,_,_,h,_=>h
 | n + 1,p,_,_,⟨a,vs,e,ho,h,l,k⟩,f =>
  have q:=f a p vs ho (List.suffix_refl p) h
  ⟨a,vs,e,q.2,q.1,l,fun j w t hw ht=>(k j w t hw ht).frame fun b r xs hb hs hx=>f b r xs hb ((List.suffix_cons j p).trans hs) hx⟩
theorem At.under {o:Ow} {H:Hp} (q:List Nat):∀ {n:Nat} {p:List Nat} {v:V} {t:Tr n},At o H n p v t → At (fun a=>(o a).map (· ++ q)) H n (p ++ q) v t
 | 0,_,_,_,h=>h
 | n + 1,p,_,_,⟨a,vs,e,ho,h,l,k⟩=>⟨a,vs,e,(by show (o a).map (· ++ q) = _; rw [ho]; rfl),h,l,fun j w t hw ht=>(k j w t hw ht).under q⟩
theorem gI {j:Nat} {p:List Nat}:¬ (j :: p) <:+ p:=fun h=>by
 have:=h.length_le
 rw [List.length_cons] at this
 omega
theorem kI {j i:Nat} {p r:List Nat} (h:(j :: p) <:+ r) (h':(i :: p) <:+ r):j = i:=by
 have e1:(j :: p) = r.drop (r.length - (j :: p).length):=List.suffix_iff_eq_drop.mp h
 have e2:(i :: p) = r.drop (r.length - (i :: p).length):=List.suffix_iff_eq_drop.mp h'
 rw [List.length_cons] at e1 e2
 rw [← e2] at e1
 exact (List.cons.inj e1).1
theorem At.put {o o':Ow} {H H':Hp} {n:Nat} {p:List Nat} {a:Addr} {ts:Tr (n + 1)} {vs:List V} {i:Nat} {w:V} {t:Tr n} (h:At o H (n + 1) p (.ref a) ts) (hv:H a = some (.lst vs)) (hi:i < vs.length)
  (hf:∀ b r xs,o b = some r → b ≠ a → ¬ (i :: p) <:+ r → H b = some (.lst xs) → H' b = some (.lst xs)) (ho:∀ b r,o b = some r → ¬ (i :: p) <:+ r → o' b = some r)
  (e:H' a = some (.lst (vs.set i w))) (hw:At o' H' n (i :: p) w t):At o' H' (n + 1) p (.ref a) ((ls ts).set i t:List (Tr n)):=by
 obtain ⟨a',vs',ea,ho',h',l,k⟩:=h
 cases ea
 rw [hv] at h'
 cases h'
 refine ⟨a,_,rfl,ho _ _ ho' gI,e,by show (vs.set i w).length = ((ls ts).set i t).length; rw [List.length_set,List.length_set,l],fun j x u hx hu=>?_⟩
 have hu:((ls ts).set i t)[j]? = some u:=hu
 by_cases q:i = j
 ·subst q
  rw [List.getElem?_set_self (by omega)] at hx
  rw [List.getElem?_set_self (by omega)] at hu
  cases hx
  cases hu
  exact hw
 ·rw [List.getElem?_set_ne q] at hx hu
  refine (k j x u hx hu).frame fun b r xs hb hs hx=>?_
  have hne:b ≠ a:=fun z=>by
   subst z
   rw [ho'] at hb
   cases hb
   exact gI hs
  have hni:¬ (i :: p) <:+ r:=fun z=>q (kI z hs)
  exact ⟨hf b r xs hb hne hni hx,ho b r hb hni⟩
theorem At.lst {o:Ow} {H:Hp} {n:Nat} {p:List Nat} {v:V} {ts:Tr (n + 1)} (h:At o H (n + 1) p v ts):∃ a vs,v = .ref a ∧ o a = some p ∧ H a = some (.lst vs) ∧ vs.length = (ls ts).length :=
 let ⟨a,vs,e,ho,h,l,_⟩:=h
 ⟨a,vs,e,ho,h,l⟩
theorem At.yg {o:Ow} {H:Hp} {n:Nat} {p:List Nat} {a:Addr} {ts:Tr (n + 1)} {vs:List V} {j:Nat} (h:At o H (n + 1) p (.ref a) ts) (hv:H a = some (.lst vs)) (hj:j < vs.length):∃ w t,vs[j]? = some w ∧ (ls ts)[j]? = some t ∧ At o H n (j :: p) w t:=by
 obtain ⟨a',vs',ea,ho',h',l,k⟩:=h
 cases ea
 rw [hv] at h'
 cases h'
 have h1:vs[j]? = some vs[j]:=List.getElem?_eq_getElem hj
 have hj':j < (ls ts).length:=by omega
 have h2:(ls ts)[j]? = some (ls ts)[j]:=List.getElem?_eq_getElem hj'
 exact ⟨_,_,h1,h2,k j _ _ h1 h2⟩
theorem kQ.yg {H:Hp} {n:Nat} {a:Addr} {ts:Tr (n + 1)} {vs:List V} {j:Nat} (h:kQ H (n + 1) (.ref a) ts) (hv:H a = some (.lst vs)) (hj:j < vs.length):∃ w t,vs[j]? = some w ∧ (ls ts)[j]? = some t ∧ kQ H n w t:=by
 obtain ⟨a',vs',ea,h',l,k⟩:=h
 cases ea
 rw [hv] at h'
 cases h'
 have h1:vs[j]? = some vs[j]:=List.getElem?_eq_getElem hj
 have hj':j < (ls ts).length:=by omega
 have h2:(ls ts)[j]? = some (ls ts)[j]:=List.getElem?_eq_getElem hj'
 exact ⟨_,_,h1,h2,k j _ _ h1 h2⟩
theorem kQ.lst {H:Hp} {n:Nat} {v:V} {ts:Tr (n + 1)} (h:kQ H (n + 1) v ts):∃ a vs,v = .ref a ∧ H a = some (.lst vs) ∧ vs.length = (ls ts).length :=
 let ⟨a,vs,e,h,l,_⟩:=h
 ⟨a,vs,e,h,l⟩
def ph (H H':Hp) (n:Nat) (w:V) (t:Tr n):Prop:=∃ o,At o H' n [] w t ∧ ∀ a r,o a = some r → H a = none ∧ H' a ≠ none
def lI (H H':Hp) (l:Addr) (n:Nat) (ws:List V) (ts:List (Tr n)):Prop :=
 ws.length = ts.length ∧ ∃ o:Ow,(∀ (j:Nat) w t,ws[j]? = some w → ts[j]? = some t → At o H' n [j] w t) ∧ ∀ a r,o a = some r → H a = none ∧ H' a ≠ none ∧ a ≠ l ∧ r ≠ []
theorem ph.r {H H':Hp} {n:Nat} {w:V} {t:Tr n} (h:ph H H' n w t):kQ H' n w t:=let ⟨_,h,_⟩:=h; h.r
theorem lI.nil {H H':Hp} {l:Addr} {n:Nat}:lI H H' l n [] []:=⟨rfl,fun _=>none,fun j w t h=>(by rw [List.getElem?_nil] at h; cases h),fun a r h=>nomatch h⟩
theorem lI.frame {H H' H'':Hp} {l:Addr} {n:Nat} {ws:List V} {ts:List (Tr n)} (h:lI H H' l n ws ts) (f:∀ a xs,a ≠ l → H a = none → H' a = some (.lst xs) → H'' a = some (.lst xs)) (g:∀ a,H' a ≠ none → H'' a ≠ none):lI H H'' l n ws ts:=by
 obtain ⟨e,o,k,d⟩:=h
 exact ⟨e,o,fun j w t hw ht=>(k j w t hw ht).frame fun a r xs ho _ hx=>⟨f a xs (d a r ho).2.2.1 (d a r ho).1 hx,ho⟩,fun a r ho=>⟨(d a r ho).1,g a (d a r ho).2.1,(d a r ho).2.2⟩⟩
theorem ph.frame {H H' H'':Hp} {n:Nat} {w:V} {t:Tr n} (h:ph H H' n w t) (f:∀ a xs,H a = none → H' a = some (.lst xs) → H'' a = some (.lst xs)) (g:∀ a,H' a ≠ none → H'' a ≠ none):ph H H'' n w t:=by
 obtain ⟨o,k,d⟩:=h
 exact ⟨o,k.frame fun a r xs ho _ hx=>⟨f a xs (d a r ho).1 hx,ho⟩,fun a r ho=>⟨(d a r ho).1,g a (d a r ho).2⟩⟩
theorem ph.same {H H' H'':Hp} {n:Nat} {w:V} {t:Tr n} (h:ph H H' n w t) (s:aH H' H''):ph H H'' n w t:=h.frame (fun a xs _ e=>s a _ e) fun a e=>by
 cases q:H' a with
 | none=>exact absurd q e
 | some u=>rw [s a u q]; intro z; cases z
theorem ph.int {H H':Hp} {i:Int}:ph H H' 0 (.int i) i:=⟨fun _=>none,rfl,fun a r h=>nomatch h⟩
theorem lI.snoc {H H' H'':Hp} {l:Addr} {n:Nat} {ws:List V} {ts:List (Tr n)} {w:V} {t:Tr n} (h:lI H H' l n ws ts) (hl:H' l ≠ none) (fr:∀ a,H' a = none → H a = none) (f:∀ a xs,a ≠ l → H a = none → H' a = some (.lst xs) → H'' a = some (.lst xs)) (g:∀ a,H' a ≠ none → H'' a ≠ none)
  (hn:ph H' H'' n w t):lI H H'' l n (ws ++ [w]) (ts ++ [t]):=by
 obtain ⟨e,o,k,d⟩:=h
 obtain ⟨o2,k2,d2⟩:=hn
 have old:∀ a r,o a = some r → o2 a = none:=fun a r ho=>by
  cases q:o2 a with
  | none=>rfl
  | some r2=>exact absurd (d2 a r2 q).1 (d a r ho).2.1
 refine ⟨by rw [List.length_append,List.length_append,e]; rfl,fun a=>match o2 a with | some r=>some (r ++ [ws.length]) | none=>o a,fun j x u hx hu=>?_,fun a r hr=>?_⟩
 ·rcases Nat.lt_trichotomy j ws.length with q | q | q
  ·rw [List.getElem?_append_left q] at hx
   rw [List.getElem?_append_left (by omega)] at hu
   refine (k j x u hx hu).frame fun a r xs ho _ hx=>⟨f a xs (d a r ho).2.2.1 (d a r ho).1 hx,?_⟩
   show (match o2 a with | some r=>some (r ++ [ws.length]) | none=>o a) = some r
   rw [old a r ho]
   exact ho
  ·subst q
   rw [List.getElem?_append_right (Nat.le_refl _),Nat.sub_self] at hx
   rw [List.getElem?_append_right (by omega),show ws.length - ts.length = 0 by omega] at hu
   cases hx
   cases hu
   refine (k2.under [ws.length]).frame fun a r xs ho _ hx=>⟨hx,?_⟩
   show (match o2 a with | some r=>some (r ++ [ws.length]) | none=>o a) = some r
   cases q:o2 a with
   | none=>rw [q] at ho; cases ho
   | some r2=>rw [q] at ho; exact ho
  ·rw [List.getElem?_append_right (by omega)] at hx
   have:[w].length ≤ j - ws.length:=by rw [List.length_singleton]; omega
   rw [List.getElem?_eq_none this] at hx
   cases hx
 ·have hr:(match o2 a with | some r=>some (r ++ [ws.length]) | none=>o a) = some r:=hr
  cases q:o2 a with
  | none =>
   rw [q] at hr
   exact ⟨(d a r hr).1,g a (d a r hr).2.1,(d a r hr).2.2⟩
  | some r2 =>
   rw [q] at hr
   cases hr
   refine ⟨fr a (d2 a r2 q).1,(d2 a r2 q).2,fun z=>?_,fun z=>?_⟩
   ·subst z
    exact hl (d2 a r2 q).1
   ·have:=congrArg List.length z
    rw [List.length_append] at this
    simp at this
theorem lI.done {H H':Hp} {l:Addr} {n:Nat} {ws:List V} {ts:List (Tr n)} (h:lI H H' l n ws ts) (hl:H l = none) (e:H' l = some (.lst ws)):ph H H' (n + 1) (.ref l) ts:=by
 obtain ⟨el,o,k,d⟩:=h
 have nl:o l = none:=by
  cases q:o l with
  | none=>rfl
  | some r=>exact absurd rfl (d l r q).2.2.1
 refine ⟨fun a=>if a = l then some [] else o a,⟨l,ws,rfl,if_pos rfl,e,el,fun j w t hw ht=>(k j w t hw ht).frame fun a r xs ho _ hx=>⟨hx,?_⟩⟩,fun a r hr=>?_⟩
 ·show (if a = l then some [] else o a) = some r
  rw [if_neg (d a r ho).2.2.1]
  exact ho
 ·have hr:(if a = l then some [] else o a) = some r:=hr
  by_cases q:a = l
  ·subst q
   exact ⟨hl,by rw [e]; intro z; cases z⟩
  ·rw [if_neg q] at hr
   exact ⟨(d a r hr).1,(d a r hr).2.1⟩
def flat:(n:Nat) → Tr n → List Int
 | 0,i=>[i]
 | n + 1,ts=>(ls ts).flatMap (flat n)
def full:(n:Nat) → Tr n → Prop
 | 0,_=>True
 | n + 1,ts=>ls ts ≠ [] ∧ ∀ t ∈ ls ts,full n t
theorem bH.ty {K:PySem.W.Frag} {H:Hp} {x:V} {n c:String} {b:Bool} {Q:VK} (t:dQ K H x (.type n)) (k:PySem.W.kitOne K (.type n) (.type c) = some b) (q:Q (.bl b) H):bH K [x,.ty c] H Q:=.inl ⟨x,.ty c,_,_,_,rfl,.ty c,t,k,q⟩
def zo (o:Ow) (H:Hp):Prop:=∀ b r,o b = some r → H b ≠ none
structure Ext (o o':Ow) (H H1:Hp):Prop where
 old:∀ b,H b ≠ none → o' b = o b
 new:∀ b r,o' b = some r → H b = none → H1 b ≠ none
def yk (H:Hp) (o oN:Ow) (q:List Nat):Ow:=fun b=>match H b with | none=>(oN b).map (· ++ q) | some _=>o b
theorem ph.put {o:Ow} {H H1:Hp} {n:Nat} {w:V} {t:Tr n} (nw:ph H H1 n w t) (q:List Nat):∃ o',Ext o o' H H1 ∧ ∀ H2,(∀ b xs,H b = none → H1 b = some (.lst xs) → H2 b = some (.lst xs)) → At o' H2 n q w t:=by
 obtain ⟨oN,k,d⟩:=nw
 refine ⟨yk H o oN q,⟨fun b hb=>?_,fun b r hr hb=>?_⟩,fun H2 f=>?_⟩
 ·unfold yk
  cases e:H b with
  | none=>exact absurd e hb
  | some u=>rfl
 ·unfold yk at hr
  rw [hb] at hr
  cases e:oN b with
  | none =>
   have hr:(oN b).map (· ++ q) = some r:=hr
   rw [e] at hr
   cases hr
  | some r'=>exact (d b r' e).2
 ·refine (k.under q).frame fun b r xs hr _ hx=>?_
  have hr:(oN b).map (· ++ q) = some r:=hr
  cases e:oN b with
  | none=>rw [e] at hr; cases hr
  | some r' =>
   refine ⟨f b xs (d b r' e).1 hx,?_⟩
   unfold yk
   rw [(d b r' e).1]
   exact hr
theorem Ext.after {o o':Ow} {H H1:Hp} {c:Addr} {u:HO} (x:Ext o o' H H1) (dm:zo o H) (s:aH H H1):zo o' (upd H1 c u):=fun b r hr=>by
 by_cases q:b = c
 ·rw [q,aB]; intro z; cases z
 ·rw [aK q]
  cases e:H b with
  | none=>exact x.new b r hr e
  | some v=>rw [s b v e]; intro z; cases z
end L2
namespace L2
open PySem PySem.Spec PyProof.Rows
def xo (K : PySem.W.Frag) (a b : Addr) : It :=
  ⟨fun i H => ∃ xs ys x y, ao K H a xs ∧ ao K H b ys ∧ xs[i]? = some x ∧ ys[i]? = some y,
   fun i H v H' => ∃ T x y, v = .ref T ∧ H T = none ∧ H' = upd H T (.tup [x, y]) ∧ (∀ xs, ao K H a xs → xs[i]? = some x) ∧ ∀ ys, ao K H b ys → ys[i]? = some y,
   fun i H => ∃ xs ys, ao K H a xs ∧ ao K H b ys ∧ min xs.length ys.length = i⟩
theorem sJ {P:Program} {w:World} {K:PySem.W.Frag} {es:List Expr} {k:Nat} {pos:Pos} (a b z TI TO i1 i2:Addr) (D:ZipApart z TI TO i1 i2 a b) :
  Turn P w K (.Tuple es k pos) (xo K a b) [z,TI,TO,i1,i2] z (fun i h=>IsZip h z TI TO .none ∧ IsPair h TI (.ref i1) (.ref i2) ∧ (∃ x y,IsPair h TO x y) ∧ h.IsListIter i1 a i ∧ h.IsListIter i2 b i) where
 mem:=by simp
 obj:=fun i h st c hc=>by
  obtain ⟨hz,hTI,⟨x,y,hTO⟩,⟨o1,ho1,hc1,hd1⟩,o2,ho2,hc2,hd2⟩:=st
  simp only [List.mem_cons,List.not_mem_nil,or_false] at hc
  rcases hc with rfl | rfl | rfl | rfl | rfl
  ·exact ⟨_,hz,fun v z=>by cases z⟩
  ·exact ⟨_,hTI,fun v z=>by cases z⟩
  ·exact ⟨_,hTO,fun v z=>by cases z⟩
  ·exact ⟨o1,ho1,fun v z=>by rw [hd1] at z; cases z⟩
  ·exact ⟨o2,ho2,fun v z=>by rw [hd2] at z; cases z⟩
 keep:=fun i h h' st k=>by
  obtain ⟨hz,hTI,⟨x,y,hTO⟩,h1,h2⟩:=st
  exact ⟨k z (by simp) _ hz,k TI (by simp) _ hTI,⟨x,y,k TO (by simp) _ hTO⟩,h1.at fun o e=>k i1 (by simp) o e,h2.at fun o e=>k i2 (by simp) o e⟩
 item:=by
  intro X hP hw hK hc i pins s σ H E I hf st hg
  subst hP hw hK
  obtain ⟨xs,ys,x,y,hq1,hq2,hx,hy⟩:=hg
  obtain ⟨its1,rv1,p1,_⟩:=I.list hq1
  obtain ⟨its2,rv2,p2,_⟩:=I.list hq2
  obtain ⟨u1,hu1,ru1⟩:=rv1.get hx
  obtain ⟨u2,hu2,ru2⟩:=rv2.get hy
  obtain ⟨hz,hTI,hTO,h1,h2⟩:=st
  have hlt:i < min its1.toArray.size its2.toArray.size:=by
   obtain ⟨l1,_⟩:=List.getElem?_eq_some_iff.mp hu1
   obtain ⟨l2,_⟩:=List.getElem?_eq_some_iff.mp hu2
   simp only [List.size_toArray]
   omega
  have W:=WalksT.zip2 (prog:=X.prog) (w:=X.w) (I.ok.hd hc) z TI TO i1 i2 a b D its1.toArray its2.toArray
  refine W.item i s _ _ hlt ⟨hz,hTI,hTO,h1,h2,p1.isList,p2.isList⟩ fun T vals h1 tk hp hT hIs hm hk=>?_
  obtain ⟨v1,v2,e1,e2,rfl⟩:=hp
  have ey1:v1 = u1:=by
   have:its1.toArray[i]? = some u1:=by simpa using hu1
   rw [this] at e1
   exact (Option.some.inj e1).symm
  have ey2:v2 = u2:=by
   have:its2.toArray[i]? = some u2:=by simpa using hu2
   rw [this] at e2
   exact (Option.some.inj e2).symm
  subst ey1 ey2
  refine ⟨_,rfl,W.go es k pos i T _ _ _ hm fun h2 st2 hk2=>?_⟩
  have hTn:H T = none:=I.hok.fresh hT
  have hap:=W.apart i T h1 hm
  have hwf:∀ c ∈ [z,TO,i1,i2],ja X pins H c:=fun c hc=>hf c (by simp only [List.mem_cons,List.not_mem_nil,or_false] at hc ⊢; rcases hc with q | q | q | q <;> simp [q])
  have I1:Inv X pins σ H { s with heap:=h2,toks:=tk }:=I.turns (t':=tk) (fun c o hc e=>hk2 c o hc (hk c o hc e)) hwf
  have hT2:h2.IsTuple T #[v1,v2]:=by
   obtain ⟨o,ho,r⟩:=hIs
   exact ⟨o,hk2 T o hap ho,r⟩
  have hs0:X.s₀.heap.objs.size ≤ T:=Nat.le_trans I.sz hT
  have nTI:T ≠ TI:=fun q=>by
   subst q
   exact absurd (Nat.lt_of_lt_of_le (Heap.lt_size hTI) hT) (Nat.lt_irrefl _)
  have fT:∀ c ∈ [z,TI,TO,i1,i2],upd H T (.tup [x,y]) c = none:=fun c hc=>by
   rw [aK (fun q=>?_)]
   ·exact (hf c hc).1
   ·simp only [List.mem_cons,List.not_mem_nil,or_false] at hc
    rcases hc with rfl | rfl | rfl | rfl | rfl
    ·exact hap (by simp [← q])
    ·exact nTI q.symm
    ·exact hap (by simp [← q])
    ·exact hap (by simp [← q])
    ·exact hap (by simp [← q])
  have I2:Inv X pins σ (upd H T (.tup [x,y])) { s with heap:=h2,toks:=tk }:=by
   refine I1.adopt hTn (Heap.get?_none_of_le hs0) (Nat.ne_of_gt (Nat.lt_of_lt_of_le I.lt hT)) (fun z c e q=>?_) (fun p hp q=>?_) ⟨aJ rfl,[v1,v2],.cons ru1 (.cons ru2 .nil),hT2⟩
   ·obtain ⟨v,q1⟩:=I.cell z c e
    exact absurd (Nat.lt_of_lt_of_le q1.lt (by rw [q]; exact hT)) (Nat.lt_irrefl _)
   ·exact absurd (Nat.lt_of_lt_of_le (Heap.lt_size (I.pin p hp).1) (by rw [q]; exact hT)) (Nat.lt_irrefl _)
  exact ⟨.ref T,_,I2,rfl,⟨T,x,y,rfl,hTn,rfl,fun us hu=>by rw [I.fV hu hq1]; exact hx,fun us hu=>by rw [I.fV hu hq2]; exact hy⟩,⟨st2.1,st2.2.1,st2.2.2.1,st2.2.2.2.1,st2.2.2.2.2.1⟩,fT⟩
 done:=by
  intro X hP hw hK hc i pins s σ H E I hf st hg
  subst hP hw hK
  obtain ⟨xs,ys,hq1,hq2,hm⟩:=hg
  obtain ⟨its1,rv1,p1,_⟩:=I.list hq1
  obtain ⟨its2,rv2,p2,_⟩:=I.list hq2
  obtain ⟨hz,hTI,hTO,h1,h2⟩:=st
  have W:=WalksT.zip2 (prog:=X.prog) (w:=X.w) (I.ok.hd hc) z TI TO i1 i2 a b D its1.toArray its2.toArray
  have en:min its1.toArray.size its2.toArray.size = i:=by
   simp only [List.size_toArray]
   rw [← rv1.length,← rv2.length]
   exact hm
  refine W.done s _ _ (by rw [en]; exact ⟨hz,hTI,hTO,h1,h2,p1.isList,p2.isList⟩) fun h' tk hk=>⟨rfl,?_⟩
  exact I.turns (t':=tk) (wr:=[z,TO,i1,i2]) hk fun c hc=>hf c (by simp only [List.mem_cons,List.not_mem_nil,or_false] at hc ⊢; rcases hc with q | q | q | q <;> simp [q])
 self:=fun A i s Q E st h=>wpAny_pyIter_zip st.1 h
theorem wm:bootBuiltins "zip" = some (.type "zip"):=by decide +kernel
def zK (K:PySem.W.Frag) (ta:TA):TI:=fun σ H R=>ta σ H fun vs H1=>∃ a b,vs = [.ref a,.ref b] ∧ (∃ xs,ao K H1 a xs) ∧ (∃ ys,ao K H1 b ys) ∧ R (xo K a b) H1
theorem wD {X:Cx} {es:List Expr} {k:Nat} {tpos p pos:Pos} {a b:Expr} {ta:TA} (hg:Gl X "zip") (hm:X.mg "zip" = none) (ha:PA X [a,b] ta)
  (hs:starEach [a,b] X.env = [(false,eval a X.env),(false,eval b X.env)]:=by rfl) (hs2:starEach [b] X.env = [(false,eval b X.env)]:=by rfl):PI X (.Tuple es k tpos) (.Call (.Name "zip" p) [a,b] [] pos) (zK X.K ta):=by
 unfold PA at *; unfold PI at *
 exact by
  intro pins s σ H R I h
  refine wpAny_Call_Name_kw (iJ I hg hm wm ?_ (by decide) (by decide))
  refine PyProof.Rows.callWith_type1 (bX (ha pos pins s σ H _ I h) fun us s1 ⟨vs,H1,I1,r,q⟩=>?_) (by rw [hs,hs2]) (by rw [hs2]; rfl)
  obtain ⟨c,d,rfl,⟨xs,hq1⟩,⟨ys,hq2⟩,q⟩:=q
  obtain ⟨u1,u2,rfl,ru1,ru2⟩:∃ u1 u2,us = [u1,u2] ∧ RelV (.ref c) u1 ∧ RelV (.ref d) u2:=by
   cases r with
   | cons h1 r=>cases r with
    | cons h2 r=>cases r; exact ⟨_,_,rfl,h1,h2⟩
  cases ru1
  cases ru2
  obtain ⟨its1,rv1,p1,_⟩:=I1.list hq1
  obtain ⟨its2,rv2,p2,_⟩:=I1.list hq2
  refine call_zip_2 p1.isList p2.isList fun h' hz hTI hTO hi1 hi2 hsz hk=>?_
  refine wpAny_pyIter_zip hz ?_
  have l1:c < s1.heap.objs.size:=by obtain ⟨o,ho,_⟩:=p1.isList; exact Heap.lt_size ho
  have l2:d < s1.heap.objs.size:=by obtain ⟨o,ho,_⟩:=p2.isList; exact Heap.lt_size ho
  have I2:Inv X pins σ H1 { s1 with heap:=h' }:=I1.kept (t':=s1.toks) hk
  refine ⟨_,[s1.heap.objs.size + 4,s1.heap.objs.size + 2,s1.heap.objs.size + 3,s1.heap.objs.size,s1.heap.objs.size + 1],_,_,H1,rfl,I2,sJ c d _ _ _ _ _ (zipApart_new l1 l2),⟨hz,hTI,⟨_,_,hTO⟩,hi1,hi2⟩,fun e he=>?_,q⟩
  have hle:s1.heap.objs.size ≤ e:=by
   simp only [List.mem_cons,List.not_mem_nil,or_false] at he
   rcases he with rfl | rfl | rfl | rfl | rfl
   ·exact Nat.le_add_right _ 4
   ·exact Nat.le_add_right _ 2
   ·exact Nat.le_add_right _ 3
   ·exact Nat.le_refl _
   ·exact Nat.le_add_right _ 1
  exact I1.qM hle (I1.hok.fresh hle)
theorem vU {K:PySem.W.Frag} {a b:Addr} {xs ys:List V} {g:TG} {tb:TS} {D:Ends} {σ:St} {H:Hp} (Pv:Nat → St → Hp → Prop) (h0:Pv 0 σ H) (hl:∀ i σ H,i ≤ min xs.length ys.length → Pv i σ H → ao K H a xs ∧ ao K H b ys)
  (hs:∀ (i:Nat) x y T σ H,xs[i]? = some x → ys[i]? = some y → Pv i σ H → H T = none → g (.ref T) σ (upd H T (.tup [x,y])) fun σ2 H2=>tb { D with nx:=Pv (i + 1),ct:=Pv (i + 1),bk:=D.nx } σ2 H2) (hd:∀ σ H,Pv (min xs.length ys.length) σ H → D.nx σ H) :
  ∃ W:Nat → Nat → St → Hp → Prop,(∃ m,W 0 m σ H) ∧ ∀ i m σ H,W i m σ H →
   ((xo K a b).stop i H ∧ D.nx σ H) ∨ ((xo K a b).go i H ∧ ∃ N:St → Hp → Prop,(∀ σ' H',N σ' H' → ∃ m',m' < m ∧ W (i + 1) m' σ' H') ∧ ∀ v H',(xo K a b).yld i H v H' → g v σ H' fun σ2 H2=>tb { D with nx:=N,ct:=N,bk:=D.nx } σ2 H2):=by
 refine ⟨fun i m σ H=>m = min xs.length ys.length - i ∧ i ≤ min xs.length ys.length ∧ Pv i σ H,⟨min xs.length ys.length,by simp,Nat.zero_le _,h0⟩,?_⟩
 rintro i m σ H ⟨rfl,hi,p⟩
 obtain ⟨q1,q2⟩:=hl i σ H hi p
 by_cases hlt:i < min xs.length ys.length
 ·have l1:i < xs.length:=by omega
  have l2:i < ys.length:=by omega
  refine .inr ⟨⟨xs,ys,xs[i],ys[i],q1,q2,List.getElem?_eq_getElem l1,List.getElem?_eq_getElem l2⟩,Pv (i + 1),fun σ' H' p'=>⟨min xs.length ys.length - (i + 1),by omega,rfl,hlt,p'⟩,fun v H' y=>?_⟩
  obtain ⟨T,x,y,rfl,hT,rfl,e1,e2⟩:=y
  exact hs i x y T σ H (e1 xs q1) (e2 ys q2) p hT
 ·have e:i = min xs.length ys.length:=by omega
  subst e
  exact .inl ⟨⟨xs,ys,q1,q2,rfl⟩,hd σ H p⟩
def tV (K:PySem.W.Frag):R2:=fun x y H Q=>∃ a b xs ys,x = .ref a ∧ y = .ref b ∧ bz K H a xs ∧ bz K H b ys ∧ ys ≠ [] ∧ xs.length + ys.length ≤ sizeLine ∧
 (xs = [] → Q (.ref b) H) ∧ (xs ≠ [] → ∀ p,H p = none → Q (.ref p) (upd H p (.tup (xs ++ ys))))
theorem i7 {X:Cx}:cY X (binaryOp .Add) (tV X.K):=by
 unfold cY at *
 exact by
  intro pins s σ H x y v u Q I rx ry h
  obtain ⟨a,b,xs,ys,rfl,rfl,ha,hb,hy,hz,q1,q2⟩:=h
  cases rx
  cases ry
  by_cases hx:xs = []
  ·obtain ⟨ai,r1,p1,_⟩:=I.tuple ha
   obtain ⟨its2,r2,p2,_⟩:=I.tuple hb
   have hv:ai = []:=r1.jj.mpr hx
   obtain ⟨⟨cls,dd,data,sl⟩,ho,hc,n,hd⟩:=id p1
   obtain ⟨⟨cls2,dd2,data2,sl2⟩,ho2,hc2,n2,hd2⟩:=id p2
   simp only at hc hd hc2 hd2
   subst hc hd hc2 hd2
   exact concat_meets ⟨_,ho,rfl⟩ ⟨_,ho2,rfl⟩ noFill_tuple_add seq_tuple_add PySem.F.slot_tuple_add PySem.F.entry_tuple_add (PySem.F.args_tuple_add_2 _ _)
    (tuple_addW0 a b ai.toArray its2.toArray n n2 dd dd2 sl sl2 (by simp [hv])) ⟨ho,ho2,⟨.ref b,H,I,rfl,q1 hx⟩⟩
  ·have op:=uL (X:=X)
   unfold cY at op
   exact op pins s σ H (.ref a) (.ref b) _ _ Q I rfl rfl ⟨a,b,xs,ys,rfl,rfl,ha,hb,hx,hz,fun e=>absurd e hy,fun _=>q2 hx⟩
end L2
namespace L2
open PySem PySem.Spec PyProof.Rows
theorem uS {k:Key} {v:Value} (h:iF k v = true):RelV (kV k) v:=by
 rcases bc h with ⟨i,t,rfl,rfl⟩ | ⟨x,t,rfl,rfl⟩
 ·exact ⟨t,rfl⟩
 ·exact ⟨t,rfl⟩
theorem iL {α β:Type} {F:α → β → Prop}:∀ {l₁:List α} {l₂:List β} {i:Nat} {a:α},Paired F l₁ l₂ → l₁[i]? = some a → ∃ b,l₂[i]? = some b ∧ F a b
 | _,_,0,_,.cons h _,e=>by cases e; exact ⟨_,rfl,h⟩
 | _,_,i + 1,_,.cons _ r,e=>iL (i:=i) r e
end L2
namespace L2
open PySem PySem.Spec PyProof.Rows
structure wc (K:PySem.W.Frag) (C:Addr):Prop where
 ha:PySem.W.findIn K (.ref C) "__class__" = some (some (.builtin "object.__class__"))
 hn:PySem.W.specialIn K (.builtin "object.__class__") "__get__" = some (some (.builtin "getset_descriptor.__get__"))
 htk:PySem.W.takesIn K (.builtin "object.__class__") = some true
 hm:PySem.W.mroIn K C (.type "object") = some true
theorem bH.ins {K:PySem.W.Frag} {H:Hp} {a C D dx:Addr} {fs:List (Str × V)} {b:Bool} {Q:VK} (h:H a = some (.ins C dx fs)) (cl:qm K C) (q:wc K C) (k:PySem.W.kitOne K (.ref C) (.ref D) = some b) (hQ:Q (.bl b) H):bH K [.ref a,.ref D] H Q :=
 .inl ⟨.ref a,.ref D,_,_,_,rfl,.own D,.ins h cl q.ha q.hn q.htk q.hm,k,hQ⟩
theorem bH.zl {K:PySem.W.Frag} {H:Hp} {x:V} {n:String} {D:Addr} {b:Bool} {Q:VK} (t:dQ K H x (.type n)) (k:PySem.W.kitOne K (.type n) (.ref D) = some b) (q:Q (.bl b) H):bH K [x,.ref D] H Q:=.inl ⟨x,.ref D,_,_,_,rfl,.own D,t,k,q⟩
end L2
namespace L2
open PySem PySem.Spec PyProof.Rows
section
variable {X:Cx}
end
structure Pk {n:Nat} (ws:List V) (ts:List (Tr n)) (i:Nat) (idx:List Nat) (acc:List V) (us:List (Tr n)):Prop where
 la:acc.length = idx.length
 lu:us.length = idx.length
 lt:∀ k ∈ idx,k < i
 nd:idx.Nodup
 at_:∀ j k:Nat,idx[j]? = some k → acc[j]? = ws[k]? ∧ us[j]? = ts[k]?
theorem Pk.nil {n:Nat} {ws:List V} {ts:List (Tr n)}:Pk ws ts 0 [] [] []:=⟨rfl,rfl,fun _ h=>(nomatch h),List.nodup_nil,fun _ _ h=>(by rw [List.getElem?_nil] at h; cases h)⟩
theorem Pk.drop {n:Nat} {ws:List V} {ts:List (Tr n)} {i:Nat} {idx:List Nat} {acc:List V} {us:List (Tr n)} (h:Pk ws ts i idx acc us):Pk ws ts (i + 1) idx acc us :=
 ⟨h.la,h.lu,fun k hk=>Nat.lt_succ_of_lt (h.lt k hk),h.nd,h.at_⟩
theorem Pk.keep {n:Nat} {ws:List V} {ts:List (Tr n)} {i:Nat} {idx:List Nat} {acc:List V} {us:List (Tr n)} {w:V} {t:Tr n} (h:Pk ws ts i idx acc us) (hw:ws[i]? = some w) (ht:ts[i]? = some t):Pk ws ts (i + 1) (idx ++ [i]) (acc ++ [w]) (us ++ [t]):=by
 refine ⟨by rw [List.length_append,List.length_append,h.la]; rfl,by rw [List.length_append,List.length_append,h.lu]; rfl,fun k hk=>?_,?_,fun j k hk=>?_⟩
 ·rcases List.mem_append.mp hk with q | q
  ·exact Nat.lt_succ_of_lt (h.lt k q)
  ·rw [List.mem_singleton.mp q]; exact Nat.lt_succ_self i
 ·rw [List.nodup_append]
  exact ⟨h.nd,List.nodup_cons.mpr ⟨List.not_mem_nil,List.nodup_nil⟩,fun x hx y hy e=>by rw [e,List.mem_singleton.mp hy] at hx; exact Nat.lt_irrefl _ (h.lt _ hx)⟩
 ·by_cases q:j < idx.length
  ·rw [List.getElem?_append_left q] at hk
   rw [List.getElem?_append_left (by rw [h.la]; exact q),List.getElem?_append_left (by rw [h.lu]; exact q)]
   exact h.at_ j k hk
  ·rw [List.getElem?_append_right (by omega)] at hk
   obtain ⟨h1,e1⟩:=List.getElem?_eq_some_iff.mp hk
   have j0:j - idx.length = 0:=by simpa using h1
   rw [j0] at hk
   cases (Option.some.inj hk:i = k)
   rw [List.getElem?_append_right (by rw [h.la]; omega),List.getElem?_append_right (by rw [h.lu]; omega),h.la,h.lu,j0]
   exact ⟨hw.symm,ht.symm⟩
end L2
namespace L2
open PySem PySem.Spec PyProof.Rows
end L2
namespace L2
open PySem PySem.Spec PyProof.Rows
section
variable {X:Cx} {pins:List (Addr × Obj)} {σ:St} {H:Hp} {s:Shared}
end
section
variable {X:Cx} {pins:List (Addr × Obj)} {σ:St} {H:Hp} {s:Shared} {d:Addr} {u0 u1:HO}
def NF (X:Cx) (d:Addr):Prop:=∀ o u,X.H₀ d ≠ some (.frz o u)
theorem eJ.swap {P:Program} {w:World} {h:Heap} (ok:eJ P w H h) (e:H d = some u0) (h1:∀ y,u0 ≠ .own y) (h2:∀ xs,u0 ≠ .tup xs) (new:bL P w (upd H d u1) h d u1):eJ P w (upd H d u1) h:=fun b u q=>by
 by_cases hb:b = d
 ·subst hb
  rw [aB] at q
  cases q
  exact new
 ·rw [aK hb] at q
  refine (ok b u q).jL (fun c v _ r=>r) (fun c r=>?_) fun c xs r=>?_
  ·rw [aK (fun z=>by rw [z,e] at r; exact h1 _ (Option.some.inj r))]; exact r
  ·rw [aK (fun z=>by rw [z,e] at r; exact h2 _ (Option.some.inj r))]; exact r
theorem Inv.swap (I:Inv X pins σ H s) (e:H d = some u0) (h1:∀ y,u0 ≠ .own y) (h2:∀ xs,u0 ≠ .tup xs) (h3:∀ ps,u0 ≠ .tbl ps) (h4:(∀ o u,u0 ≠ .frz o u) ∨ NF X d) (new:bL X.prog X.w (upd H d u1) s.heap d u1):Inv X pins σ (upd H d u1) s:=by
 have ne:∀ {b:Addr},H b = none → upd H d u1 b = none:=fun {b} hb=>by
  rw [aK (fun z=>by rw [z,e] at hb; cases hb)]; exact hb
 refine ⟨I.ok,I.os,I.bare,⟨I.base.keep,I.base.slot,fun b o q n hx=>ne (I.base.free b o q n hx),I.base.there,fun b xs q=>?_,fun b o u q=>?_,fun b ps q=>?_⟩,I.loc,I.cell,ne I.free,fun x c q=>ne (I.freeC x c q),fun p hp=>?_,I.hok.swap e h1 h2 new,I.len⟩
 ·have q':=I.base.tups b xs q
  rw [aK (fun z=>by rw [z,e] at q'; exact h2 _ (Option.some.inj q'))]
  exact q'
 ·have q':=I.base.frzs b o u q
  rw [aK (fun z=>by
   rcases h4 with h4 | h4
   ·rw [z,e] at q'; exact h4 _ _ (Option.some.inj q')
   ·rw [z] at q; exact h4 _ _ q)]
  exact q'
 ·obtain ⟨more,q'⟩:=I.base.tbls b ps q
  refine ⟨more,?_⟩
  rw [aK (fun z=>by rw [z,e] at q'; exact h3 _ (Option.some.inj q'))]
  exact q'
 ·obtain ⟨a,b,r⟩:=I.pin p hp
  exact ⟨a,ne b,r⟩
def yY (X:Cx) (H H':Hp):Prop:=∃ d o kvs,H d = some (.frz o (.dK kvs)) ∧ NF X d ∧ H' = upd H d (.dK kvs)
theorem Inv.zN {H':Hp} (I:Inv X pins σ H s) (t:yY X H H'):Inv X pins σ H' s:=by
 obtain ⟨d,o,kvs,e,nf,rfl⟩:=t
 obtain ⟨g,ok⟩:s.heap.get? d = some o ∧ bL X.prog X.w H s.heap d (.dK kvs):=I.hok d _ e
 exact I.swap e (fun y z=>nomatch z) (fun xs z=>nomatch z) (fun ps z=>nomatch z) (.inr nf) (show bL X.prog X.w _ s.heap d (.dK kvs) from ok)
theorem vK {e:Expr} {t:TE} (h:PE X e t):PE X e (fun σ H Q=>t σ H fun v H1=>∃ H2,yY X H1 H2 ∧ Q v H2):=by
 unfold PE at *
 exact by
  intro pins s σ H Q I q
  exact bX (h pins s σ H _ I q) fun u s1 ⟨v,H1,I1,r,H2,tw,q2⟩=>⟨v,H2,I1.zN tw,r,q2⟩
def zu (d:Addr) (o:Obj) (kvs:List (Key × V)):It :=
 ⟨fun i H=>H d = some (.frz o (.dK kvs)) ∧ i < kvs.length,fun i H x H'=>H' = H ∧ ∃ p,kvs[i]? = some p ∧ x = kV p.1,fun i H=>H d = some (.frz o (.dK kvs)) ∧ i = kvs.length⟩
theorem rq {o:Obj} {kvs:List (Key × V)} {es:Array DictEntry} {ep:Nat} (I:Inv X pins σ H s) (e:H d = some (.frz o (.dK kvs))) (ho:o.data = .dict es ep):∃ vs,KV kvs vs ∧ s.heap.DictAt (aU X.prog X.w) d vs ep:=by
 obtain ⟨g,_,_,vs,r,o',es',ep',g',c,hd,k⟩:s.heap.get? d = some o ∧ kvs.length ≤ sizeLine ∧ (d == sysModules) = false ∧ ∃ vs,KV kvs vs ∧ s.heap.DictOf (aU X.prog X.w) d vs:=I.hok d _ e
 rw [g] at g'
 cases g'
 rw [ho] at hd
 cases hd
 exact ⟨vs,r,o,es,g,c,ho,k⟩
theorem qZ {P:Program} {w:World} {K:PySem.W.Frag} {tg:Expr} {o:Obj} {kvs:List (Key × V)} {es:Array DictEntry} {ep:Nat} (d it:Addr) (ho:o.data = .dict es ep):Turn P w K tg (zu d o kvs) [it] it (fun i h=>h.IsKeyIter it d i kvs.length ep) where
 mem:=by simp
 obj:=fun i h st b hb=>by
  have e:b = it:=by simpa using hb
  subst e
  obtain ⟨o,e,c,d⟩:=st
  exact ⟨o,e,fun v z=>by rw [d] at z; cases z⟩
 keep:=fun i h h' st k=>by
  obtain ⟨o,e,c⟩:=st
  exact ⟨o,k it (by simp) o e,c⟩
 item:=by
  intro X hP hw hK hc i pins s σ H E I hf st hg
  subst hP hw hK
  obtain ⟨e,hi⟩:=hg
  obtain ⟨vs,r,dd⟩:=rq I e ho
  have hl:kvs.length = vs.length:=KV.length r
  obtain ⟨f0,f1,f2,f3,f4,f5⟩:=hf it (by simp)
  obtain ⟨p,hp⟩:∃ p,kvs[i]? = some p:=⟨_,List.getElem?_eq_getElem hi⟩
  obtain ⟨q,hq,h1,h2⟩:=iL r hp
  obtain ⟨q1,q2⟩:=q
  rw [hl] at st
  refine wpAny_pyNext_dict_item st dd hq fun key h' hk st' sb=>?_
  have I1:Inv X pins σ H { s with heap:=h' }:=I.turned (t':=s.toks) (fun b o hb e=>(sb.2 b hb).trans e) f0 f1 f3 f4 f5
  obtain ⟨oi,ei,c,dt⟩:=id st'
  refine ⟨key,rfl,qC (s:={ s with heap:=h' }) ei c dt (by decide) ⟨kV p.1,H,I1,?_,⟨rfl,p,hp,rfl⟩,by rw [hl]; exact st',fun b hb=>(hf b hb).1⟩⟩
  rw [h1]
  exact uS hk
 done:=by
  intro X hP hw hK hc i pins s σ H E I hf st hg
  subst hP hw hK
  obtain ⟨e,hi⟩:=hg
  obtain ⟨vs,r,dd⟩:=rq I e ho
  have hl:kvs.length = vs.length:=KV.length r
  obtain ⟨f0,f1,f2,f3,f4,f5⟩:=hf it (by simp)
  rw [hl] at st
  exact wpAny_pyNext_dict_end (I.ok.hd hc) st dd (by simp; omega) fun h' eb=>⟨rfl,I.turned (t':=s.toks) (fun b o hb e=>eb b o hb e) f0 f1 f3 f4 f5⟩
 self:=fun _ _ _ _ _ st h=>wpAny_pyIter_keyiter st h
theorem Inv.freeze {kvs:List (Key × V)} (I:Inv X pins σ H s) (e:H d = some (.dK kvs)):∃ o es ep vs,o.data = .dict es ep ∧ NF X d ∧ Inv X pins σ (upd H d (.frz o (.dK kvs))) s ∧ KV kvs vs ∧ (d == sysModules) = false ∧ s.heap.DictAt (aU X.prog X.w) d vs ep:=by
 obtain ⟨z,lo,vs,r,o,es,ep,g,c,hd,k⟩:=vj I.hok e
 refine ⟨o,es,ep,vs,hd,fun o u q=>?_,?_,r,lo,o,es,g,c,hd,k⟩
 ·have:=I.base.frzs d o u q
  rw [e] at this
  cases this
 ·exact I.swap e (fun y z=>nomatch z) (fun xs z=>nomatch z) (fun ps z=>nomatch z) (.inl fun o u z=>nomatch z) (show bL X.prog X.w _ s.heap d (.frz o (.dK kvs)) from ⟨g,z,lo,vs,r,o,es,ep,g,c,hd,k⟩)
def yQ (X:Cx) (tl:TE):TI:=fun σ H R=>tl σ H fun x H1=>∃ d kvs,x = .ref d ∧ H1 d = some (.dK kvs) ∧ ∀ o,NF X d → R (zu d o kvs) (upd H1 d (.frz o (.dK kvs)))
theorem uV {tg l:Expr} {tl:TE} (hl:PE X l tl):PI X tg l (yQ X tl):=by
 unfold PE at *; unfold PI at *
 exact by
  intro pins s σ H R I h
  refine bX (hl pins s σ H _ I h) fun v s1 ⟨x,H1,I1,r1,q1⟩=>?_
  obtain ⟨d,kvs,e,hd,q⟩:=q1
  subst e
  cases r1
  obtain ⟨o,es,ep,vs,ho,nf,I2,r,lo,dd⟩:=I1.freeze hd
  refine wpAny_pyIter_dict lo dd ?_
  refine ⟨s1.heap.objs.size,[s1.heap.objs.size],_,_,_,rfl,I2.kept (t':=s1.toks) fun b o e=>Heap.get?_push_of_some _ e,qZ d _ ho,⟨_,Heap.get?_push_size _ rfl,rfl,by rw [KV.length r]; rfl⟩,fun b hb=>?_,q o nf⟩
  have e:b = s1.heap.objs.size:=by simpa using hb
  subst e
  exact I2.qM (Nat.le_refl _) (I2.hok.fresh (Nat.le_refl _))
theorem qf {kvs:List (Key × V)} {o:Obj} {J:It} {f:Key × V → V} (hJ:J = ⟨fun i H=>H d = some (.frz o (.dK kvs)) ∧ i < kvs.length,fun i H x H'=>H' = H ∧ ∃ p,kvs[i]? = some p ∧ x = f p,fun i H=>H d = some (.frz o (.dK kvs)) ∧ i = kvs.length⟩) {l:Addr} {g:TG} {tc:TT} {te:TE} {σ:St} {H:Hp} {Q:VK} (Pv:Nat → St → List V → Hp → Prop) (hsz:kvs.length ≤ sizeLine) (h0:Pv 0 σ [] H)
  (hl:∀ i σ acc H,i ≤ kvs.length → Pv i σ acc H → H l = some (.lst acc) ∧ H d = some (.frz o (.dK kvs)) ∧ acc.length ≤ i)
  (hs:∀ i p σ acc H,kvs[i]? = some p → Pv i σ acc H → g (f p) σ H fun σ2 H2=>tc σ2 H2 fun b H3=>if b = true then
   te σ2 H3 fun v H4=>H4 l = some (.lst acc) ∧ Nx kvs.length i (Pv (i + 1) σ2 (acc ++ [v]) (upd H4 l (.lst (acc ++ [v])))) else Nx kvs.length i (Pv (i + 1) σ2 acc H3))
  (hd:∀ σ acc H,Pv kvs.length σ acc H → Q (.ref l) H):jU J l g tc te σ H Q:=by
 subst hJ
 exact jn kvs.length Pv hsz h0 (fun i σ acc H hi p=>⟨(hl i σ acc H hi p).1,(hl i σ acc H hi p).2.2⟩)
  (fun i σ acc H hi p=>⟨(hl i σ acc H (Nat.le_of_lt hi) p).2.1,hi⟩)
  (fun i x σ acc H H' hi p y=>by
   obtain ⟨rfl,p',e1,rfl⟩:=y
   exact hs i p' σ acc _ e1 p)
  (fun σ acc H p=>⟨⟨(hl _ σ acc H (Nat.le_refl _) p).2.1,rfl⟩,hd σ acc H p⟩)
end
end L2
namespace L2
open PySem PySem.Spec PyProof.Rows
section
variable {X:Cx} {CX:lH} {k:Nat} {f C:Addr} {fd:FuncData} {ps:List Str} {sp:Sp} {dvs:List V} {ds:List Value} {Ez:St → XK} {x m:Str} {p pos apos:Pos} {e o:Expr} {es:List Expr} {ta:TE} {t:TA}
end
end L2
namespace L2
open PySem PySem.Spec PyProof.Rows
end L2
namespace L2
open PySem PySem.Spec PyProof.Rows
section
variable {prog:Program} {w:World} {A:Around} {E:Value → Shared → Prop} {s:Shared} {T:String} {r d:Addr} {n:Nat} {P:Nat → Value → Prop} {OK:Heap → Prop}
end
section
variable {X:Cx}
end
section
variable {X:Cx}
end
theorem uy (xs:List V) (k:Nat):iP xs none (some (k:Int)) = xs.take k:=by
 unfold iP
 rw [HT.ml,HT.rZ,List.drop_zero,Nat.sub_zero]
 have h:=List.take_take (i:=k) (j:=xs.length) (l:=xs)
 rw [List.take_length] at h
 exact h.symm
end L2
namespace L2
open PySem PySem.Spec PyProof.Rows
theorem mE {P P':Program} {w w':World} {h:Heap} {a:Addr} {vs:List (Key × Value)} (d:h.DictOf (aU P w) a vs) (hi:∀ p ∈ vs,∃ n:Int,p.1 = Sum.inl n):h.DictOf (aU P' w') a vs:=by
 obtain ⟨o,es,ep,g,c,hd,hk,hp,hn⟩:=d
 have pp:∀ {el:List DictEntry} {vl:List (Key × Value)},Pairs (aU P w) el vl → (∀ p ∈ vl,∃ n:Int,p.1 = Sum.inl n) → Pairs (aU P' w') el vl ∧ ∀ e ∈ el,∃ n:Int,iF (Sum.inl n) e.key = true:=by
  intro el vl h
  induction h with
  | nil=>intro _; exact ⟨.nil,fun _ h=>nomatch h⟩
  | @cons e kv es kvs h1 h2 _ ih =>
   intro hi
   obtain ⟨i1,i2⟩:=ih fun p hp=>hi p (List.mem_cons_of_mem _ hp)
   refine ⟨.cons h1 h2 i1,fun x hx=>?_⟩
   rcases List.mem_cons.mp hx with q | q
   ·obtain ⟨n,hn⟩:=hi kv (List.mem_cons_self ..)
    rw [q]
    exact ⟨n,by rw [← hn]; exact h1⟩
   ·exact i2 x q
 obtain ⟨p1,p2⟩:=pp hp hi
 refine ⟨o,es,ep,g,c,hd,fun e he=>?_,p1,hn⟩
 obtain ⟨k,k1,k2⟩:=hk e he
 obtain ⟨n,hn'⟩:=p2 e (by simpa using he)
 have e1:k = Sum.inl n:=(aU P w).inj e.key k (Sum.inl n) k1 hn'
 subst e1
 exact ⟨_,k1,k2⟩
theorem pq {ka:List (Key × V)} {va:List (Key × Value)} (r:KV ka va) (hi:∀ p ∈ ka,∃ n:Int,p.1 = Sum.inl n):∀ p ∈ va,∃ n:Int,p.1 = Sum.inl n:=by
 unfold KV at r
 induction r with
 | nil=>exact fun _ h=>nomatch h
 | @cons p q ps qs h t ih =>
  intro x hx
  rcases List.mem_cons.mp hx with e | e
  ·obtain ⟨n,hn⟩:=hi p (List.mem_cons_self ..)
   rw [e,← h.1]
   exact ⟨n,hn⟩
  ·exact ih (fun p hp=>hi p (List.mem_cons_of_mem _ hp)) x e
def zx (K:PySem.W.Frag) (H:Hp) (n:Nat) (u v:V):Prop:=∃ a b ka kb,u = .ref a ∧ v = .ref b ∧ Rd H a (.dK ka) ∧ Rd H b (.dK kb) ∧ ka.length = kb.length ∧ (∀ p ∈ ka,∃ y,bS kb p.1 = some y ∧ jO K H n p.2 y true) ∧ (∀ p ∈ ka,∃ m:Int,p.1 = Sum.inl m) ∧ ∀ p ∈ kb,∃ m:Int,p.1 = Sum.inl m
section
variable {X:Cx} {pins:List (Addr × Obj)} {σ:St} {H:Hp} {s:Shared}
theorem vP (I:Inv X pins σ H s) {A:Around} {n:Nat} {kb:List (Key × V)} {vb:List (Key × Value)} (rb:KV kb vb) (hu:A.units + n < cLine):∀ {ka:List (Key × V)} {va:List (Key × Value)},KV ka va →
  (∀ p ∈ ka,∃ y,bS kb p.1 = some y ∧ jO X.K H n p.2 y true) → PySem.W.KeqHits A s vb va true:=by
 intro ka va r
 unfold KV at r
 induction r with
 | nil=>intro _; exact .nil
 | @cons p q ps qs h t ih =>
  intro hall
  obtain ⟨y,hy,he⟩:=hall p (List.mem_cons_self ..)
  obtain ⟨w,hw,rw'⟩:=eP.some_of (v:=y) (o:=valueAt vb q.1) (by rw [← hy,h.1]; exact rb.val q.1)
  obtain ⟨q1,q2⟩:=q
  exact PySem.W.KeqHits.hit (e:=true) (b:=true) hw (jO.at I n A p.2 y true q2 w hu he h.2 rw') (ih fun p' hp'=>hall p' (List.mem_cons_of_mem _ hp'))
theorem zx.at (I:Inv X pins σ H s) {A:Around} {n:Nat} {x y:V} {u v:Value} (hu:A.units + 1 + n < cLine) (h:zx X.K H n x y) (rx:RelV x u) (ry:RelV y v):SeqAt.EqAt A s u v true:=by
 obtain ⟨a,b,ka,kb,rfl,rfl,ha,hb,hl,hall,ia,ib⟩:=h
 cases rx
 cases ry
 obtain ⟨za,da,va,ra,oa⟩:=ig I.hok ha
 obtain ⟨zb,db,vb,rb,ob⟩:=ig I.hok hb
 by_cases hab:a = b
 ·subst hab
  exact SeqAt.EqAt.same _
 ·refine SeqAt.EqAt.of_refs hab fun prog w E Q hq=>?_
  have oa':=mE (P':=prog) (w':=w) oa (pq ra ia)
  have ob':=mE (P':=prog) (w':=w) ob (pq rb ib)
  refine PySem.W.keq_eq da db oa' ob' (by omega) (fun _=>vP (A:=A.in1) I rb (by show A.units + 1 + n < cLine; exact hu) ra hall) ?_
  rw [← ra.length,← rb.length,hl,beq_self_eq_true,Bool.true_and]
  exact hq
end
end L2
namespace L2
open PySem PySem.Spec PyProof.Rows
end L2
namespace L2
open PySem PySem.Spec PyProof.Rows
structure j7 (k:Nat) (A:Around):Prop where
 dp:A.depth + 3 * k + 5 < recursionLimit
 un:A.units + 16 * k + 200 < cLine
theorem j7.mono {j k:Nat} {A:Around} (r:j7 k A) (h:j ≤ k):j7 j A:=⟨by have:=r.dp; omega,by have:=r.un; omega⟩
theorem j7.deeper {k:Nat} {A:Around} (r:j7 (k + 1) A) (env:Env):j7 k (A.deeper env) :=
 ⟨by have:=r.dp; show A.depth + 1 + 3 * k + 5 < _; omega,by have:=r.un; show A.units + 3 + 16 * k + 200 < _; omega⟩
theorem j7.depth {k:Nat} {A:Around} (r:j7 k A):A.depth < recursionLimit:=by have:=r.dp; omega
section
variable {X:Cx} {CX:lH} {k:Nat} {f C:Addr} {fd:FuncData} {ps:List Str} {sp:Sp} {dvs:List V} {ds:List Value} {E:XK} {x m:Str} {p pos apos:Pos} {e o:Expr} {es:List Expr} {ta:TE} {t:TA}
end
section
variable {P:Program} {w:World} {K:PySem.W.Frag} {mg:Str → Option Value} {base:Heap}
end
end L2
namespace L2
open PySem PySem.Spec PyProof.Rows
section
variable {prog:Program} {w:World} {A:Around} {E:Value → Shared → Prop} {s:Shared}
end
section
variable {prog:Program} {w:World} {A:Around} {E:Value → Shared → Prop} {s:Shared}
end
section
variable {X:Cx}
def wY (H:Hp) (v:V) (nm:Option (List Str)):Prop:=match nm with | none=>v = .bA | some z=>∃ t,v = .ref t ∧ H t = some (.tup (z.map V.str))
end
theorem qD:∀ (a b:List Str),rp (a.map V.str) (b.map V.str) = decide (a = b)
 | [],[]=>rfl
 | [],_ :: _=>rfl
 | _ :: _,[]=>rfl
 | x :: a,y :: b=>by
  show (iS (.str x) (.str y) && rp (a.map V.str) (b.map V.str)) = _
  rw [qD a b]
  by_cases h:x = y
  ·subst h
   rw [fW rfl,Bool.true_and]
   by_cases q:a = b
   ·rw [decide_eq_true q,decide_eq_true (by rw [q])]
   ·rw [decide_eq_false q,decide_eq_false (fun z=>q (List.cons.inj z).2)]
  ·have e:iS (.str x) (.str y) = false:=by
    simp [iS]
    exact h
   rw [e,decide_eq_false (fun z=>h (List.cons.inj z).1)]
   rfl
theorem iY (zs:List Str):(zs.map V.str).all bq = true:=by
 rw [List.all_eq_true]
 intro x hx
 obtain ⟨z,_,rfl⟩:=List.mem_map.mp hx
 rfl
theorem uY {K:PySem.W.Frag} {H:Hp} {n:Nat} {t u:Addr} {a b:List Str} (h1:H t = some (.tup (a.map V.str))) (h2:H u = some (.tup (b.map V.str))):bt K H (jO K H n) (.ref t) (.ref u) (decide (a = b)):=by
 by_cases hl:a.length = b.length
 ·have h:=bt.yf (K:=K) (H:=H) (n:=n) (bz.of h1) (bz.of h2) (by rw [List.length_map,List.length_map,hl]) (iY a) (iY b)
  rw [qD] at h
  exact h
 ·have h:=bt.tup (K:=K) (H:=H) (R:=jO K H n) (e:=fun i=>iS ((a.map V.str).getD i .bA) ((b.map V.str).getD i .bA)) (bz.of h1) (bz.of h2) fun i x y hx hy=>?_
  ·have e1:((a.map V.str).length == (b.map V.str).length) = false:=by
    rw [List.length_map,List.length_map]
    exact beq_eq_false_iff_ne.mpr hl
   rw [e1,Bool.and_false] at h
   rw [decide_eq_false (fun z=>hl (by rw [z]))]
   exact h
  ·have q:bq x = true ∧ bq y = true ∧ iS ((a.map V.str).getD i .bA) ((b.map V.str).getD i .bA) = iS x y:=by
    refine ⟨List.all_eq_true.mp (iY a) x (List.mem_of_getElem? hx),List.all_eq_true.mp (iY b) y (List.mem_of_getElem? hy),?_⟩
    rw [List.getD_eq_getElem?_getD,List.getD_eq_getElem?_getD,hx,hy]
    rfl
   cases n with
   | zero=>exact .inl q
   | succ n=>exact .inl (.inl q)
theorem wY.yi {K:PySem.W.Frag} {H:Hp} {x y:V} {a:Option (List Str)} (h1:wY H x a) (h2:wY H y a) (n:Nat):jO K H (n + 1) x y true:=by
 cases a with
 | none =>
  obtain rfl:x = .bA:=h1
  obtain rfl:y = .bA:=h2
  exact .inl (.inl ⟨rfl,rfl,rfl⟩)
 | some z =>
  obtain ⟨t,rfl,ht⟩:=h1
  obtain ⟨u,rfl,hu⟩:=h2
  have h:=uY (K:=K) (n:=n) ht hu
  rw [decide_eq_true rfl] at h
  exact .inr h
end L2
namespace L2
open PySem PySem.Spec PyProof.Rows
theorem kQ.yi {K:PySem.W.Frag} {H:Hp}:∀ {n:Nat} {v w:V} {t:Tr n},kQ H n v t → kQ H n w t → jO K H n v w true
 | 0,v,w,t,h1,h2=>by
  have e1:v = .int t:=h1
  have e2:w = .int t:=h2
  subst e1 e2
  exact .inl ⟨rfl,rfl,(fW (x:=V.int t) rfl).symm⟩
 | n + 1,v,w,t,h1,h2=>by
  obtain ⟨a,vs,rfl,hA,la⟩:=h1.lst
  obtain ⟨b,ws,rfl,hB,lb⟩:=h2.lst
  have h:=bt.list (K:=K) (R:=jO K H n) (e:=fun _=>true) (ao.of hA) (ao.of hB) (by omega) fun i x y hx hy=>by
   obtain ⟨x',t1,e1,e2,k1⟩:=h1.yg hA (List.getElem?_eq_some_iff.mp hx).1
   obtain ⟨y',t2,e3,e4,k2⟩:=h2.yg hB (List.getElem?_eq_some_iff.mp hy).1
   rw [hx] at e1; cases e1
   rw [hy] at e3; cases e3
   rw [e2] at e4; cases e4
   exact kQ.yi k1 k2
  rw [all_range fun i _=>rfl] at h
  exact .inr h
theorem kQ.seq {K:PySem.W.Frag} {H:Hp} {n:Nat} {v w:V} {t:Tr (n + 1)} (h1:kQ H (n + 1) v t) (h2:kQ H (n + 1) w t):bt K H (jO K H n) v w true:=by
 rcases kQ.yi (K:=K) h1 h2 with (⟨e,_,_⟩ | ⟨a,e1,e2,_⟩) | h
 ·obtain ⟨a,vs,rfl,_⟩:=h1.lst
  exact absurd e (by intro z; cases z)
 ·subst e1 e2
  obtain ⟨_,vs,e,hA,la⟩:=h1.lst
  cases e
  have h:=bt.list (K:=K) (R:=jO K H n) (e:=fun _=>true) (ao.of hA) (ao.of hA) rfl fun i x y hx hy=>by
   obtain ⟨x',t1,e1,e2,k1⟩:=h1.yg hA (List.getElem?_eq_some_iff.mp hx).1
   rw [hx] at hy; cases hy
   rw [hx] at e1; cases e1
   exact kQ.yi k1 k1
  rw [all_range fun i _=>rfl] at h
  exact h
 ·exact h
theorem lg {α:Type} {l:List α} {i:Nat} {x:α} (h:l[i]? = some x):l.take (i + 1) = l.take i ++ [x]:=by
 rw [List.take_succ,h]; rfl
end L2
namespace L2
open PySem PySem.Spec PyProof.Rows PySem.W
section
variable {prog:Program} {w:World} {A:Around} {E:Value → Shared → Prop} {h:Heap} {g:Array GenState} {d:Drawn} {t:Nat} {os:OsState}
variable {nm q:Str} {C N:Addr} {bs bm:List Value} {hdct:Bool} {sn:List Str} {sub:List Value} {ab:Bool} {col:Option Bool} {dd:Option Addr} {k0 k1 k2 k3 k5:Option Value} {K:Frag}
theorem rY:i6.contains (.type "ValueError") = true:=F.excBase_ValueError.hasB
theorem jy (X:K.In h) (T:OwnTail h i6 bm) {mN:Str → Option Value} {rest:List Value} {fI:Addr} {Q:Fin → Shared → Prop}
  (hC:h.get? C = some (excClassObj nm q C N bs bm hdct sn sub ab col dd k0 k1 k2 k3 k5 "ValueError.__new__")) (hn:h.Ns N mN) (hi:mN "__init__" = some (.ref fI)) (hf:typeIn K (.ref fI) = some (.type "function"))
  (hq:∀ h' e,Heap.MadeExcOf h h' e (.ref C) rest → h.objs.size ≤ e →
   wpAny (model prog w) A (call (.ref fI) (.ref e :: rest)) (fun r s'=>r = .none ∧ Q (.done (.ret (.ref e))) s') E ⟨h',g,d,t,os⟩) (hrest:rest.length ≤ sizeLine) :
  wpAny (model prog w) A (Builtin.«type.__call__» ⟨.ref C :: rest,[]⟩) Q E ⟨h,g,d,t,os⟩:=by
 have Fn:=F.excBase_ValueError
 repeat (first | with_reducible refine wpAny_loadPart_at hC ?_ | with_reducible refine wpAny_madeBy_exc hC ?_ | wp_step)
 refine codeAny_call_builtin_code (Code.quiet_builtin _ Fn.quiet) (wpAny_check_new_subU Fn rY T hC ?_)
 refine codeAny_exc_new_subU Fn rY Fn T hC ?_ hrest
 show wpAny _ _ _ _ _ _
 have kp:∀ b o,h.get? b = some o → ((h.push { cls:=.type "tuple",data:=.seq rest.toArray }).push { cls:=.ref C,data:=.fields #[.ref h.objs.size,.none,.none,.none,.bool false,.none] }).get? b = some o:=fun b o e=>Heap.get?_push_of_some _ (Heap.get?_push_of_some _ e)
 have hC₁:=kp _ _ hC
 have X₁:K.In ((h.push { cls:=.type "tuple",data:=.seq rest.toArray }).push { cls:=.ref C,data:=.fields #[.ref h.objs.size,.none,.none,.none,.bool false,.none] }):=fun a o e=>kp _ _ (X a o e)
 have hn₁:((h.push { cls:=.type "tuple",data:=.seq rest.toArray }).push { cls:=.ref C,data:=.fields #[.ref h.objs.size,.none,.none,.none,.bool false,.none] }).Ns N mN :=
  let ⟨o,es,ep,e,r⟩:=hn; ⟨o,es,ep,kp _ _ e,r⟩
 have hget:((h.push { cls:=.type "tuple",data:=.seq rest.toArray }).push
   { cls:=.ref C,data:=.fields #[.ref h.objs.size,.none,.none,.none,.bool false,.none] }).get? (h.objs.size + 1) = some
   { cls:=.ref C,data:=.fields #[.ref h.objs.size,.none,.none,.none,.bool false,.none] }:=by heap_get
 have hcC:(Value.ref C :: bm).contains (.ref C) = true:=by simp
 have T₁:=T.keeps (h':=(h.push { cls:=.type "tuple",data:=.seq rest.toArray }).push { cls:=.ref C,data:=.fields #[.ref h.objs.size,.none,.none,.none,.bool false,.none] }) kp
 unfold isInstance
 repeat (first | with_reducible refine wpAny_loadPart_at hget ?_ | (with_reducible refine wpAny_isSubtype_exc hC₁ ?_; rw [hcC]) | wp_step)
 show wpAny _ _ (typeLookup (.ref C) _) _ _ _
 refine wpAny_typeLookup_tail hC₁ hn₁ T₁ Fn.mroIs Fn.init.lookup ?_
 rw [hi]
 refine wpAny_holding (wpAny_bind ?_)
 refine (bind_fn X₁ (.ref (h.objs.size + 1)) hf).at ?_
 refine wpAny_bind (wpAny_mono (hq _ (h.objs.size + 1) ⟨kp,Heap.get?_none_of_le (Nat.le_succ _),h.objs.size,hget,Heap.get?_none_of_le (Nat.le_refl _),?_⟩ (Nat.le_succ _)) (fun r s' hr=>?_) fun _ _ x=>x)
 ·exact Heap.get?_push_of_some _ (Heap.get?_push_at rfl rfl)
 ·obtain ⟨rfl,hQ⟩:=hr
  wp_walk
  exact hQ
theorem qd (X:K.In h) (T:OwnTail h i6 bm) {mN:Str → Option Value} {rest:List Value} {fI:Addr} {Q:Value → Shared → Prop}
  (hC:h.get? C = some (excClassObj nm q C N bs bm hdct sn sub ab col dd k0 k1 k2 k3 k5 "ValueError.__new__")) (hn:h.Ns N mN) (hi:mN "__init__" = some (.ref fI)) (hf:typeIn K (.ref fI) = some (.type "function"))
  (hq:∀ h' e,Heap.MadeExcOf h h' e (.ref C) rest → h.objs.size ≤ e →
   wpAny (model prog w) (A.under (.builtin "type.__call__" ⟨.ref C :: rest,[]⟩)) (call (.ref fI) (.ref e :: rest)) (fun r s'=>r = .none ∧ Q (.ref e) s') E ⟨h',g,d,t,os⟩) (hrest:rest.length ≤ sizeLine) :
  wpAny (model prog w) A (call (.ref C) rest) Q E ⟨h,g,d,t,os⟩:=by
 have f1:=tc_lookup
 have f2:=tc_bind (.ref C)
 have hT:(⟨h,g,d,t,os⟩:Shared).TypeIs (.ref C) "type" := ⟨_,hC,rfl⟩
 refine wpAny_call (codeAny_of_tree ?_)
 show wpAny _ _ (callAny (.ref C) _) _ _ _
 repeat (any_goals (first | assumption | with_reducible refine wpAny_loadPart_at hC ?_ | wp_step))
 refine ⟨rfl,?_⟩
 refine codeAny_call_builtin_at (Code.quiet_builtin _ (by decide +kernel)) entry_typeCall (wpAny_check_type_call_sub hC (jy (hrest:=hrest) X T hC hn hi hf fun h' e hm hz=>?_))
 exact hq h' e hm hz
end
structure kN (K:Frag) (C f:Addr):Prop where
 ex:∃ nm q N bs bm hdct sn sub ab col dd k0 k1 k2 k3 k5 es,K.lookup C = some (excClassObj nm q C N bs bm hdct sn sub ab col dd k0 k1 k2 k3 k5 "ValueError.__new__") ∧ xn K N es ∧ nsFind es "__init__" = some (.ref f) ∧ jS K bm
 fn:typeIn K (.ref f) = some (.type "function")
 kp:keepIn K (.ref C) = true
def ir (C:Value) (dd:Option Addr) (e:Addr):HO:=.ext fun h=>∃ oe vs,h.get? e = some oe ∧ oe.cls = C ∧ oe.dict = dd ∧ oe.data = .fields vs ∧ vs[1]? = some .none ∧ 0 < vs.size
theorem pB {P:Program} {w:World} {H:Hp} {h:Heap} {e:Addr} {C:Value} {dd:Option Addr} {oe:Obj} {vs:Array Value} (he:h.get? e = some oe) (hc:oe.cls = C) (hd:oe.dict = dd) (hv:oe.data = .fields vs) (h1:vs[1]? = some .none) (h0:0 < vs.size):bL P w H h e (ir C dd e) :=
 ⟨⟨oe,vs,he,hc,hd,hv,h1,h0⟩,⟨oe,he⟩,fun g1 g2 ⟨o,v,q,r⟩ k=>⟨o,v,k o q,r⟩⟩
theorem mY {P:Program} {w:World} {H:Hp} {h:Heap} {e:Addr} {C:Value} {dd:Option Addr} (ok:eJ P w H h) (q:H e = some (ir C dd e)):∃ oe vs,h.get? e = some oe ∧ oe.cls = C ∧ oe.dict = dd ∧ oe.data = .fields vs ∧ vs[1]? = some .none ∧ 0 < vs.size:=(ok e _ q).1
def rem (H:Hp) (e:Addr):Hp:=fun b=>if b = e then none else H b
theorem gh {H:Hp} {e:Addr}:rem H e e = none:=if_pos rfl
theorem fP {H:Hp} {e b:Addr} (h:b ≠ e):rem H e b = H b:=if_neg h
def vG (C:Addr) (sp:Sp) (na:Nat) (gV:List V → List V → List V) (t:TA) (E:XK):TS:=fun _ σ H=>t σ H fun vs H1=>vs.length = na ∧ vs.length ≤ sizeLine ∧
 ∀ e,H1 e = none → sp (.ref e :: gV vs []) (upd H1 e (ir (.ref C) none e)) (fun v H2=>v = .bA ∧ ∃ dd,H2 e = some (ir (.ref C) dd e) ∧ E (.ref C) dd (rem H2 e)) E0
section
variable {X:Cx} {k:Nat} {f C:Addr} {fd:FuncData} {ps:List Str} {sp:Sp} {x:Str} {p pos:Pos} {e:Expr} {es:List Expr} {t:TA} {na:Nat} {g:List Value → List Value → List Value} {gV:List V → List V → List V}
theorem qE {pins:List (Addr × Obj)} {σ:St} {H:Hp} {s:Shared} {us:List Value} {vs:List V} {R:Addr → Hp → Prop} {QQ:Value → Shared → Prop} (xc:kN X.K C f) (F:bF X.prog X.w X.K X.mg X.base (jr X.prog X.w) k f fd ps sp) (hr:cD (k + 1) X.A) (hb:bj X.K fd ps [] na g gV)
  (I:Inv X pins σ H s) (r:Vals vs us) (hna:vs.length = na) (hz:vs.length ≤ sizeLine)
  (h:∀ e,H e = none → sp (.ref e :: gV vs []) (upd H e (ir (.ref C) none e)) (fun v H2=>v = .bA ∧ R e H2) E0)
  (fin:∀ e H2 s2,s.heap.get? e = none → Inv X pins σ H2 s2 → R e H2 → QQ (.ref e) s2):wpAny (model X.prog X.w) X.A (call (.ref C) us) QQ X.xe s:=by
 obtain ⟨nm,q,N,bs,bm,hdct,sn,sub,ab,col,dd,k0,k1,k2,k3,k5,es,lk,nk,ni,tl⟩:=xc.ex
 obtain ⟨hh,gg,d0,tt,oo⟩:=s
 refine qd I.du (tl.uE I.du) (I.du _ _ lk) (nk.ns I.du) ni xc.fn (fun h' e mx he=>?_) (by rw [← r.length]; exact hz)
 obtain ⟨tu,he1,_,_⟩:=mx.there
 have I2:Inv X pins σ (upd H e (ir (.ref C) none e)) ⟨h',gg,d0,tt,oo⟩:=I.laid (a:=e) (o:=ir (.ref C) none e) (h':=h') (t':=tt) mx.keeps he (pB he1 rfl rfl rfl rfl (by simp))
 have hq:=h e (I.hok.fresh he)
 have r2:Vals (V.ref e :: gV vs []) (Value.ref e :: g us []):=.cons rfl (hb.rel r .nil)
 obtain ⟨hto,hl⟩:=hb.to ⟨h',gg,d0,tt,oo⟩ (Value.ref e) us [] I2.du (by rw [← r.length]; exact hna) rfl
 refine wpAny_call (codeAny_mono (F.run _ X.stack _ _ ⟨Value.ref e :: us,[]⟩ (Value.ref e :: g us []) _ _ E0 (hr.make C us []) (I2.uD.make C us []) hto r2 hq) fun r s' hq'=>?_)
 cases r with
 | error u=>exact (fD pins σ _ _ u s' I2 hq')
 | ok fl =>
  cases fl with
  | ret u =>
   obtain ⟨v,H',I3,rv,ev,q3⟩:=I2.after hq'
   subst ev
   exact ⟨rv,fin e H' s' mx.new I3 q3⟩
  | next=>exact False.elim hq'
  | brk=>exact False.elim hq'
  | cont=>exact False.elim hq'
theorem pD {pins:List (Addr × Obj)} {σ:St} {H:Hp} {s:Shared} {R:Addr → Hp → Prop} {QQ:Value → Shared → Prop} (xc:kN X.K C f) (F:bF X.prog X.w X.K X.mg X.base (jr X.prog X.w) k f fd ps sp) (hr:cD (k + 1) X.A) (hg:Gl X x) (hm:X.mg x = some (.ref C)) (hb:bj X.K fd ps [] na g gV)
  (ha:∀ (pos:Pos) (pins:List (Addr × Obj)) (s:Shared) (σ:St) (H:Hp) (Q:List V → Hp → Prop),Inv X pins σ H s → t σ H Q → wpAny (model X.prog X.w) X.A (spliced (backTo pos (starEach (e :: es) X.env))) (AP X pins σ Q) X.xe s) (hdb:(x == ("__debug__" : Str)) = false) (he:starEach (e :: es) X.env = (false,eval e X.env) :: starEach es X.env) (hpl:(backTo pos (starEach es X.env)).any (·.1) = false)
  (I:Inv X pins σ H s) (h:t σ H fun vs H1=>vs.length = na ∧ vs.length ≤ sizeLine ∧ ∀ e,H1 e = none → sp (.ref e :: gV vs []) (upd H1 e (ir (.ref C) none e)) (fun v H2=>v = .bA ∧ R e H2) E0)
  (fin:∀ e H2 s2,X.s₀.heap.get? e = none ∨ X.ex ≠ [] → Inv X pins σ H2 s2 → R e H2 → QQ (.ref e) s2):wpAny (model X.prog X.w) X.A (eval (.Call (.Name x p) (e :: es) [] pos) X.env) QQ X.xe s:=by
 refine wpAny_Call_Name_kw (de I hg hm ?_ hdb)
 refine callWith_K (h₀:=X.base) I.ok.mod.kin xc.kp (bX (ha pos pins s σ H _ I h) fun us s1 ⟨vs,H1,I1,r,hna,hz,q⟩=>⟨I1.du,?_⟩) he hpl
 refine qE xc F hr hb I1 r hna hz q fun e H2 s2 hn I2 q2=>fin e H2 s2 ?_ I2 q2
 by_cases hx:X.ex = []
 ·left
  cases q:X.s₀.heap.get? e with
  | none=>rfl
  | some o =>
   obtain ⟨o1,q1⟩:=I1.base.there e o q (by rw [hx]; simp)
   rw [hn] at q1; cases q1
 ·exact .inr hx
end
section
variable {M:Model} {A:Around} {E:Value → Shared → Prop} {s:Shared} {env:Env}
variable {nm q:Str} {C N:Addr} {bs bm:List Value} {hdct:Bool} {sn:List Str} {sub:List Value} {ab:Bool} {col:Option Bool} {dd:Option Addr} {k0 k1 k2 k3 k5:Option Value} {newId:String}
theorem qg {x:Sem Value} {Q:Flow → Shared → Prop} (hbase:bm.contains (.type "BaseException") = true) (hh:A.handled = none)
  (h:wpAny M A x (fun v s₁=>∃ e dd' vs sl,v = .ref e ∧ s₁.heap.get? C = some (excClassObj nm q C N bs bm hdct sn sub ab col dd k0 k1 k2 k3 k5 newId) ∧
   s₁.heap.get? e = some ⟨.ref C,dd',.fields vs,sl⟩ ∧ vs[1]? = some .none ∧ E (.ref e) s₁) E s) :
  wpAny M A (raiseStmt env (some x) none) Q E s:=by
 have hcB:(Value.ref C :: bm).contains (.type "BaseException") = true:=by rw [List.contains_cons,hbase,Bool.or_true]
 unfold raiseStmt
 refine wpAny_bind (wpAny_mono h (fun v s₁ h₁=>?_) fun _ _ x=>x)
 obtain ⟨e,dd',vs,sl,rfl,hC,he,h1,hE⟩:=h₁
 obtain ⟨hp,g,d,tk,os⟩:=s₁
 repeat (first | with_reducible refine wpAny_loadPart_at he ?_ | with_reducible refine wpAny_loadPart_at hC ?_ | (with_reducible refine wpAny_isSubtype_exc hC ?_; rw [hcB]) | wp_step)
 rw [h1]
 refine wpAny_pure ?_
 rw [if_neg (by decide)]
 exact wpAny_pure (wpAny_raiseNew_none hh hE)
end
def zp (X:Cx) (E:XK):Prop:=X.ex = [] ∧ ∀ (pins:List (Addr × Obj)) (σ:St) (H:Hp) (s:Shared) (e:Addr) (C:Value) (dd:Option Addr),Inv X pins σ H s → H e = some (ir C dd e) → X.s₀.heap.get? e = none → E C dd (rem H e) → X.xe (.ref e) s
theorem kd {C:Value} {dd:Option Addr} {e:Addr}:(∀ y,ir C dd e ≠ .own y) ∧ (∀ xs,ir C dd e ≠ .tup xs) ∧ (∀ ps,ir C dd e ≠ .tbl ps) ∧ ∀ o u,ir C dd e ≠ .frz o u:=⟨fun _ z=>(by cases z),fun _ z=>(by cases z),fun _ z=>(by cases z),fun _ _ z=>(by cases z)⟩
theorem eJ.rem {P:Program} {w:World} {H:Hp} {h:Heap} {e:Addr} {C:Value} {dd:Option Addr} (ok:eJ P w H h) (he:H e = some (ir C dd e)):eJ P w (L2.rem H e) h:=fun b u q=>by
 have hb:b ≠ e:=fun z=>by rw [z,gh] at q; cases q
 rw [fP hb] at q
 refine (ok b u q).jL (fun c v _ r=>r) (fun c r=>?_) fun c xs r=>?_
 ·rw [fP (fun z=>by rw [z,he] at r; exact kd.1 _ (Option.some.inj r))]; exact r
 ·rw [fP (fun z=>by rw [z,he] at r; exact kd.2.1 _ (Option.some.inj r))]; exact r
theorem Un.rem {fs ex:List Addr} {H0 H:Hp} {h0 h:Heap} {e:Addr} {C:Value} {dd:Option Addr} (u:Un fs ex H0 H h0 h) (he:H e = some (ir C dd e)):Un fs ex H0 (L2.rem H e) h0 h where
 keep:=u.keep
 slot:=u.slot
 free:=fun b o q n hx=>by
  by_cases z:b = e
  ·rw [z]; exact gh
  ·rw [fP z]; exact u.free b o q n hx
 there:=u.there
 tups:=fun b xs q=>by
  have r:=u.tups b xs q
  rw [fP (fun z=>by rw [z,he] at r; exact kd.2.1 _ (Option.some.inj r))]; exact r
 frzs:=fun b o xs q=>by
  have r:=u.frzs b o xs q
  rw [fP (fun z=>by rw [z,he] at r; exact kd.2.2.2 _ _ (Option.some.inj r))]; exact r
 tbls:=fun b ps q=>by
  obtain ⟨m,r⟩:=u.tbls b ps q
  refine ⟨m,?_⟩
  rw [fP (fun z=>by rw [z,he] at r; exact kd.2.2.1 _ (Option.some.inj r))]; exact r
section
variable {P:Program} {w:World} {K:PySem.W.Frag} {mg:Str → Option Value} {base:Heap} {N:List Str} {qual:Str} {scope:Scope} {f:Addr} {cd:Value} {A:Around} {outer:List Env} {s₀:Shared} {H₀:Hp} {E:XK}
theorem mT:zp (ie (jr P w) P w K mg base N qual scope f cd A outer s₀ H₀ E) E:=by
 refine ⟨rfl,?_⟩
 intro pins σ H s e C dd I he n0 hE
 obtain ⟨oe,vs,ge,gc,gd,gv,g1,_⟩:=mY I.hok he
 have fe:eZ (envOfC qual scope s₀.heap.objs.size f cd :: outer) = s₀.heap.objs.size :: eZ outer:=ik rfl
 have ib:Un (eZ outer) [] H₀ H s₀.heap s.heap:=I.base
 have um:=ib.rem he
 have nL:s₀.heap.get? s₀.heap.objs.size = none:=Heap.get?_none_of_le (Nat.le_refl _)
 have ntr:∀ b u,L2.rem H e b = some u → b ∉ eZ (envOfC qual scope s₀.heap.objs.size f cd :: outer):=fun b u q hb=>by
  have z:b ≠ e:=fun z=>by rw [z,gh] at q; cases q
  rw [fP z] at q
  have:=I.eh b hb
  rw [q] at this; cases this
 have hok1:eJ P w (L2.rem H e) s.heap:=I.hok.rem he
 show wpAny _ _ (leaving _ (.ref e)) _ _ s
 unfold leaving
 refine wpAny_bind (iB (T0:=none) (L:=s₀.heap.objs.size) (C:=C) (dd:=dd) I.ok.frames I.stack rfl ⟨oe,vs,ge,gc,gd,gv,g1⟩ (fun T' z=>by cases z) fun h' T2 y1 y2 y3 y4 mv=>?_)
 refine ⟨e,C,dd,T2,L2.rem H e,rfl,I.os,I.bare,i4 (l:=envOfC qual scope s₀.heap.objs.size f cd :: outer) um mv (fun b hb=>by rw [fe]; exact List.mem_cons_of_mem _ hb) (fun b o q hb=>?_) n0 (fun T' z=>by cases z),
  hok1.nO fun b u o q1 q2=>mv.keep b o (fun z=>by rw [z,gh] at q1; cases q1) (by simp) (ntr b u q1) q2,y1,y2,y4,gh,?_,n0,?_,hE⟩
 ·rw [fe] at hb
  rcases List.mem_cons.mp hb with z | z
  ·rw [z,nL] at q; cases q
  ·exact z
 ·cases q:L2.rem H e T2 with
  | none=>rfl
  | some u=>obtain ⟨ob,hob⟩:=(hok1 T2 u q).there; exact absurd (Heap.lt_size hob) (Nat.not_lt.mpr y3)
 ·cases q:s₀.heap.get? T2 with
  | none=>rfl
  | some o=>obtain ⟨o1,q1⟩:=um.there T2 o q (by simp); exact absurd (Heap.lt_size q1) (Nat.not_lt.mpr y3)
end
section
variable {X:Cx} {k:Nat} {f C:Addr} {fd:FuncData} {ps:List Str} {sp:Sp} {x:Str} {np cpos pos:Pos} {e₀:Expr} {rest:List Expr} {t:TA} {na:Nat} {g:List Value → List Value → List Value} {gV:List V → List V → List V} {E:XK}
theorem jA (xc:kN X.K C f) (F:bF X.prog X.w X.K X.mg X.base (jr X.prog X.w) k f fd ps sp) (hr:cD (k + 1) X.A) (hc:X.calm = true) (hg:Gl X x) (hm:X.mg x = some (.ref C)) (hb:bj X.K fd ps [] na g gV) (hz:zp X E)
  (ha:PA X (e₀ :: rest) t) (hdb:(x == ("__debug__" : Str)) = false:=by decide) (he:starEach (e₀ :: rest) X.env = (false,eval e₀ X.env) :: starEach rest X.env:=by rfl) (hpl:(backTo cpos (starEach rest X.env)).any (·.1) = false:=by rfl) :
  PS X (.Raise (some (.Call (.Name x np) (e₀ :: rest) [] cpos)) none pos) (vG C sp na gV t E):=by
 unfold PA at *; unfold PS at *
 exact by
  intro pins s σ H D I h
  obtain ⟨nm,q,N,bs,bm,hdct,sn,sub,ab,col,dd,k0,k1,k2,k3,k5,es,lk,nk,ni,tl⟩:=xc.ex
  rw [arm_exec_Raise]
  refine wpAny_bind (wpAny_standAt (qg (C:=C) (nm:=nm) (q:=q) (N:=N) (bs:=bs) (bm:=bm) (hdct:=hdct) (sn:=sn) (sub:=sub) (ab:=ab) (col:=col) (dd:=dd) (k0:=k0) (k1:=k1) (k2:=k2) (k3:=k3) (k5:=k5) (newId := "ValueError.__new__") ((tl.uE I.du).hasType PySem.F.excBase_ValueError.hasBase) (I.ok.hd hc) ?_))
  refine wpAny_bind (pD (R:=fun e H2=>∃ dd,H2 e = some (ir (.ref C) dd e) ∧ E (.ref C) dd (rem H2 e)) xc F hr hg hm hb ha hdb he hpl I h fun e H2 s2 n0 I2 ⟨dd',q1,q2⟩=>?_)
  refine wpAny_bind (wpAny_standAt (wpAny_pure ?_))
  obtain ⟨oe,vs,ge,gc,gd,gv,g1,_⟩:=mY I2.hok q1
  obtain ⟨oc,od,oda,osl⟩:=oe
  simp only at gc gd gv
  subst gc gd gv
  refine ⟨e,_,_,_,rfl,I2.du _ _ lk,ge,g1,hz.2 pins σ H2 s2 e (.ref C) _ I2 q1 ?_ q2⟩
  rcases n0 with z | z
  ·exact z
  ·exact absurd hz.1 z
end
structure vc (K:Frag) (B:Addr):Prop where
 gg:specialIn K (.ref B) "__getattribute__" = some (some (.builtin "type.__getattribute__"))
 rd:readsIn K B (.type "type") = true
 fc:findCls K (.ref B) (.type "type") "__init__" = some (.val (.builtin "ValueError.__init__"))
def uj (K:Frag) (t:TA):TE:=fun σ H Q=>t σ H fun vs H1=>∃ e C dd f y,vs = [.ref e,y] ∧ H1 e = some (ir (.ref C) dd e) ∧ kN K C f ∧ Q .bA H1
theorem rT {x y:V} {us:List Value} (r:Vals [x,y] us):∃ u v,us = [u,v] ∧ RelV x u ∧ RelV y v:=by
 cases r with
 | cons a r=>cases r with
  | cons b r=>cases r; exact ⟨_,_,rfl,a,b⟩
section
variable {X:Cx} {B:Addr} {x:Str} {p apos pos:Pos} {a b:Expr} {t:TA}
theorem oz {pins:List (Addr × Obj)} {σ:St} {H:Hp} {s:Shared} {e C f:Addr} {dd:Option Addr} {y:V} {v:Value} {Q:VK} (I:Inv X pins σ H s) (he:H e = some (ir (.ref C) dd e)) (xc:kN X.K C f) (ry:RelV y v) (q:Q .bA H) :
  wpAny (model X.prog X.w) X.A (call (.builtin "ValueError.__init__") [.ref e,v]) (EP X pins σ Q) X.xe s:=by
 obtain ⟨nm,qn,N,bs,bm,hdct,sn,sub,ab,col,dd0,k0,k1,k2,k3,k5,es,lk,nk,ni,tl⟩:=xc.ex
 obtain ⟨oe,vs,ge,gc,gd,gv,g1,g0⟩:=mY I.hok he
 have Fn:=PySem.F.excBase_ValueError
 obtain ⟨hh,gg,d0,tt,oo⟩:=s
 refine wpAny_call (codeAny_call_builtin Fn.init.plain Fn.initEntry (wpAny_check_init_subU Fn (tl.uE I.du) (I.du _ _ lk) ge gc ?_))
 have h0:vs[0]? = some vs[0]:=Array.getElem?_eq_getElem g0
 have ge1:(hh.push { cls:=.type "tuple",data:=.seq [v].toArray }).get? e = some oe:=Heap.get?_push_of_some _ ge
 unfold Builtin.«BaseException.__init__»
 refine wpAny_bind (wpAny_newTuple ?_)
 unfold Builtin.BaseException.bexcPut
 refine wpAny_bind (wpAny_bind (wpAny_field ge1 gv h0 ?_))
 refine wpAny_bind (wpAny_setField ge1 gv g0 ?_)
 have I2:Inv X pins σ (upd H e (ir (.ref C) dd e)) { heap:=(hh.push { cls:=.type "tuple",data:=.seq [v].toArray }).update e (Obj.mapFields (·.setIfInBounds 0 (.ref hh.objs.size))),gens:=gg,drawn:=d0,toks:=tt,os:=oo }:=by
  have oth:∀ b,b ≠ e → ((hh.push { cls:=.type "tuple",data:=.seq [v].toArray }).update e (Obj.mapFields (·.setIfInBounds 0 (.ref hh.objs.size)))).get? b = (hh.push { cls:=.type "tuple",data:=.seq [v].toArray }).get? b:=fun b hb=>Heap.get?_update_other _ _ (Ne.symm hb)
  have self:=h9 (f:=(·.setIfInBounds 0 (.ref hh.objs.size))) ge1 gv
  refine I.write (s:=⟨hh,gg,d0,tt,oo⟩) (x:=e) (e:=e) (t':=tt) (by rw [he]; exact True.intro) (.inl rfl) (fun b u hb q=>(oth b hb).trans (Heap.get?_push_of_some _ q)) ⟨_,self⟩ ?_
  refine pB (vs:=vs.setIfInBounds 0 (.ref hh.objs.size)) self ((Obj.cls_mapFields _ _).trans gc) ((mM _ _).trans gd) (Obj.data_mapFields gv _) ?_ ?_
  ·rw [Array.getElem?_setIfInBounds_ne (by decide)]; exact g1
  ·rw [Array.size_setIfInBounds]; exact g0
 have eu:upd H e (ir (.ref C) dd e) = H:=by
  funext b
  by_cases z:b = e
  ·rw [z,aB,he]
  ·rw [aK z]
 rw [eu] at I2
 cases vs[0] <;> first | exact wpAny_letGo (wpAny_pure ⟨.bA,H,I2,rfl,q⟩) | exact wpAny_pure (wpAny_pure ⟨.bA,H,I2,rfl,q⟩)
theorem qT {pl:Sem Bool} (bi:vc X.K B) (hg:Gl X x) (hm:X.mg x = some (.ref B)) (ha:PA X [a,b] t) (hdb:(x == ("__debug__" : Str)) = false:=by decide)
  (hst:starEach [a,b] X.env = (false,eval a X.env) :: starEach [b] X.env:=by rfl) (hpl:(backTo pos (starEach [b] X.env)).any (·.1) = false:=by rfl)
  (ht:eval (.Call (.Attribute (.Name x p) "__init__" apos) [a,b] [] pos) X.env = (do
   let ov ← eval (.Name x p) X.env
   standAt apos.atName
   let (f,first) ← holding [ov] (getMethod ov "__init__" pl)
   callWith pos f first (backTo pos (starEach [a,b] X.env)) (backToKw pos (keywordEach [] X.env))):=by rfl) :
  PE X (.Call (.Attribute (.Name x p) "__init__" apos) [a,b] [] pos) (uj X.K t):=by
 unfold PE at *; unfold PA at *
 exact by
  intro pins s σ H Q I h
  refine methodCall_KW (pl:=pl) (de I hg hm ?_ hdb) ht
  refine method_cls I.du bi.gg (cls_value I.du bi.rd bi.fc rfl ?_)
  have I1:Inv X pins σ H { s with toks:=s.toks + 1 }:=I.tok _
  have hA:=ha pos pins { s with toks:=s.toks + 1 } σ H _ I1 h
  show wpAny _ _ (callWith pos (.builtin "ValueError.__init__") [] (backTo pos (starEach [a,b] X.env)) []) _ _ _
  rw [hst] at hA ⊢
  refine Calls.callWith_builtin (by show (false || (backTo pos (starEach [b] X.env)).any (·.1)) = false; rw [hpl] <;> rfl) (Calls.evalArgs_plain ?_)
  refine bX hA fun us s2 ⟨vs,H2,I2,r2,e,C,dd,f,y,e1,he,xc,q⟩=>?_
  subst e1
  obtain ⟨u1,u2,rfl,rx,ry⟩:=rT r2
  obtain rfl:u1 = Value.ref e:=rx
  exact oz I2 he xc ry q
end
end L2
namespace L2
open PySem PySem.Spec PyProof.Rows PySem.W
section
variable {prog:Program} {w:World} {A:Around} {E:Value → Shared → Prop} {s:Shared} {K:Frag} {e C:Addr} {oe:Obj} {od:Option Obj}
theorem xF {a g:Value} {name:Str} (hc:(clsIn K C).isSome = true) (ha:findIn K (.ref C) name = some (some a)) (hg:specialIn K a "__get__" = some (some g)) (ht:takesIn K a = some true):findObj K C od name = some (.bind g a):=by
 obtain ⟨cd,hc⟩:=Option.isSome_iff_exists.mp hc
 unfold findObj
 rw [hc,Option.bind_some,ha,Option.bind_some]
 simp [hg,ht]
theorem pb {nameV:Value} {Q:Unit → Shared → Prop} (U:dn K C) (X:K.In s.heap) (I:InstAt s.heap e oe C od) (hq:Q () s) :
  wpAny (model prog w) A (checkBuiltinCall "BaseException.__getattribute__" ⟨[.ref e,nameV],[]⟩) Q E s:=by
 have hk:builtinKind "BaseException.__getattribute__" = some .slot:=by decide +kernel
 have hsplit:splitId "BaseException.__getattribute__" = some ("BaseException", "__getattribute__"):=by decide +kernel
 have L0:=I.type (M:=model prog w)
 have L1:=looks_subIn (M:=model prog w) X U.sb
 have LI:Looks (model prog w) s.heap (isInstance (.ref e) (.type "BaseException")) true:=L0.andThen L1
 have ha:=F.args_bexc_ga (.ref e) nameV
 simp only [checkBuiltinCall,hk,hsplit]
 refine wpAny_bind (LI.at ?_)
 rw [if_neg (by decide)]
 exact wpAny_of_eq ha hq
theorem vC {tk:Tok} {Q:Fin → Shared → Prop} (U:dn K C) (X:K.In s.heap) (I:InstAt s.heap e oe C od) (hq:Q (.done (.ret (.ref C))) s) :
  wpAny (model prog w) A (Builtin.«object.__getattribute__» ⟨[.ref e,.str "__class__" tk],[]⟩) Q E s:=by
 obtain ⟨hh,g,d,t,os⟩:=s
 have L0:=I.type (M:=model prog w)
 have L3:=looks_find (M:=model prog w) X I (xF U.cs U.ca U.gg U.tk)
 unfold Builtin.«object.__getattribute__»
 refine wpAny_bind (wpAny_of_eq (show slotArgs "__getattribute__" 1 ⟨[.ref e,.str "__class__" tk],[]⟩ = pure (.ref e,[.str "__class__" tk]) from rfl) ?_)
 refine wpAny_bind (wpAny_of_eq (show Builtin.ObjectAttr.attrName (.str "__class__" tk) = pure ("__class__" : Str) from rfl) ?_)
 refine wpAny_bind (L0.at (wpAny_bind (L3.at ?_)))
 show wpAny _ _ (Builtin.ObjectAttr.bindTo (.builtin "getset_descriptor.__get__") (.builtin "object.__class__") (.ref e) (.ref C)) _ _ _
 show wpAny _ _ (holding [.builtin "object.__class__"] (call (.builtin "getset_descriptor.__get__") [.builtin "object.__class__",.ref e,.ref C]) >>= ret) _ _ _
 exact wpAny_bind (wpAny_holding (wpAny_call (class_get X I U.mo (wpAny_pure hq))))
theorem vW {Q:Option Value → Shared → Prop} (U:dn K C) (X:K.In s.heap) (I:InstAt s.heap e oe C od) (h:Q (some (.ref C)) { s with toks:=s.toks + 1 }):wpAny (model prog w) A (getAttr? (.ref e) "__class__") Q E s:=by
 obtain ⟨hh,g,d,t,os⟩:=s
 have L0:=I.type (M:=model prog w)
 have L1:=looks_findIn (M:=model prog w) X U.ga
 have L2:=looks_findIn (M:=model prog w) X U.gt
 unfold getAttr? getAttrBy? getAttrBy
 refine wpAny_bind (wpAny_mkText (wpAny_bind (wpAny_attempt (wpAny_holding (wpAny_bind (L0.at (wpAny_bind (L1.at ?_))))))))
 show wpAny _ _ (getAttrByItsOwn (.ref e) _ (.ref C) (.builtin "BaseException.__getattribute__") false false) _ _ _
 unfold getAttrByItsOwn
 refine wpAny_bind ?_
 show wpAny _ _ (typeLookup (.ref C) "__getattr__") _ _ _
 refine L2.at ?_
 refine wpAny_bind (wpAny_attempt (wpAny_holding ?_))
 show wpAny _ _ (boundAndCalled (.builtin "BaseException.__getattribute__") (.ref e) _) _ _ _
 unfold boundAndCalled
 refine wpAny_bind (wpAny_of_eq (F.attr_ValueError.ga.bind (.ref e)) ?_)
 refine wpAny_call (codeAny_call_builtin F.attr_ValueError.ga.plain F.entry_bexc_ga (pb U X I (vC U X I ?_)))
 exact wpAny_pure (wpAny_pure h)
theorem qa (U:dn K C):KitX K (.ref e) (.ref C) (fun h=>∃ oe od,InstAt h e oe C od) where
 ty:=fun M h _ ⟨_,_,I⟩=>I.type
 it:=fun _ _ X _=>by
  obtain ⟨cd,hc⟩:=Option.isSome_iff_exists.mp U.cs
  unfold clsIn at hc
  split at hc
  ·rename_i c' d' cd' sl' ho
   intro A' Q' E' s' k q
   unfold isType loadHead
   exact wpAny_bind (wpAny_loadPart (k _ _ (X _ _ ho)) (wpAny_pure q))
  ·cases hc
 ne:=fun h tp dd ai n sl X htp=>by
  obtain ⟨cd,hc⟩:=Option.isSome_iff_exists.mp U.cs
  refine Bool.eq_false_iff.mpr fun q=>?_
  have z:C = tp:=Value.ref.inj (beq_iff_eq.mp q)
  subst z
  unfold clsIn at hc
  split at hc
  ·rename_i c' d' cd' sl' ho
   have z:=(X _ _ ho).symm.trans htp
   cases z
  ·cases hc
 ca:=fun X ⟨_,_,I⟩ k=>vW U X I k
theorem yB {name:Str} {expr:Bool} {v:Value} {Q:Value → Shared → Prop} (U:dn K C) (X:K.In s.heap) (I:InstAt s.heap e oe C od) (hf:findObj K C od name = some (.value v)) (hh:handedIn v = true) (h:Q v { s with toks:=s.toks + 1 }) :
  wpAny (model prog w) A (getAttr (.ref e) name expr) Q E s:=by
 obtain ⟨hh',g,d,t,os⟩:=s
 have L0:=I.type (M:=model prog w)
 have L1:=looks_findIn (M:=model prog w) X U.ga
 have L2:=looks_findIn (M:=model prog w) X U.gt
 have L3:=looks_find (M:=model prog w) X I hf
 unfold getAttr getAttrBy
 refine wpAny_bind (wpAny_mkText (wpAny_holding (wpAny_bind (L0.at (wpAny_bind (L1.at ?_))))))
 show wpAny _ _ (getAttrByItsOwn (.ref e) _ (.ref C) (.builtin "BaseException.__getattribute__") true expr) _ _ _
 unfold getAttrByItsOwn
 refine wpAny_bind ?_
 show wpAny _ _ (typeLookup (.ref C) "__getattr__") _ _ _
 refine L2.at ?_
 refine wpAny_bind (wpAny_attempt (wpAny_holding ?_))
 unfold callGetattribute
 rw [show (expr && onTheHeap (Value.builtin "BaseException.__getattribute__")) = false from Bool.and_false _,if_neg (by decide)]
 unfold boundAndCalled
 refine wpAny_bind (wpAny_of_eq (F.attr_ValueError.ga.bind (.ref e)) ?_)
 refine wpAny_call (codeAny_call_builtin F.attr_ValueError.ga.plain F.entry_bexc_ga (pb U X I ?_))
 unfold Builtin.«object.__getattribute__»
 refine wpAny_bind (wpAny_of_eq (show slotArgs "__getattribute__" 1 ⟨[.ref e,.str name _],[]⟩ = pure (.ref e,[.str name _]) from rfl) ?_)
 refine wpAny_bind (wpAny_of_eq (show Builtin.ObjectAttr.attrName (.str name _) = pure (name:Str) from rfl) ?_)
 refine wpAny_bind (L0.at (wpAny_bind (L3.at ?_)))
 refine wpAny_pure ?_
 show wpAny _ _ (handedOut v) _ _ _
 rw [handedOut_of hh]
 exact wpAny_pure h
end
def XD (H:Hp) (e C dx:Addr) (fs:List (Str × V)):Prop:=(H e = some (ir (.ref C) (some dx) e) ∨ H e = some (mh (.ref C) (some dx) e)) ∧ H dx = some (.xd fs)
theorem XD.inst {P:Program} {w:World} {H:Hp} {h:Heap} {e C dx:Addr} {fs:List (Str × V)} (ok:eJ P w H h) (x:XD H e C dx fs):∃ oe od,InstAt h e oe C (some od) ∧ ∃ mA:Str → Option Value,(∀ f,eP (fs.lookup f) (mA f)) ∧ ∀ name,lookIn name od = some (mA name):=by
 obtain ⟨x1,x2⟩:=x
 obtain ⟨mA,ns,rl⟩:=(show bL P w H h dx (.xd fs) from ok dx _ x2)
 obtain ⟨od,ho,hl⟩:=mG ns
 have:∃ oe vs,h.get? e = some oe ∧ oe.cls = .ref C ∧ oe.dict = some dx ∧ oe.data = .fields vs:=by
  rcases x1 with z | z
  ·obtain ⟨⟨oe,vs,a,b,c,d,_⟩,_⟩:=ok e _ z
   exact ⟨oe,vs,a,b,c,d⟩
  ·obtain ⟨⟨oe,vs,a,b,c,d⟩,_⟩:=ok e _ z
   exact ⟨oe,vs,a,b,c,d⟩
 obtain ⟨oe,vs,he,hC,hdd,hd⟩:=this
 refine ⟨oe,od,⟨he,hC,?_,?_⟩,mA,rl,hl⟩
 ·obtain ⟨a,b,c,d⟩:=oe
  have hd':c = .fields vs:=hd
  subst hd'
  rfl
 ·rw [hdd]
  exact ho
section
variable {X:Cx}
def vp (K:Frag):List V → Hp → VK → Prop:=fun xs H Q=>∃ e c cv C dx fs b,xs = [.ref e,c] ∧ sr c cv ∧ XD H e C dx fs ∧ dn K C ∧ kitOne K (.ref C) cv = some b ∧ Q (.bl b) H
theorem lZ:bW X (.builtin "isinstance") (vp X.K):=by
 unfold bW at *
 exact by
  intro pins s σ H xs us Q I rv h
  obtain ⟨e,c,cv,C,dx,fs,b,rfl,hc,he,U,k,q⟩:=h
  obtain ⟨u,cu,rfl,ru,rc⟩:=rv.two
  have ec:cu = cv:=by cases hc <;> exact rc
  subst ec
  cases (show u = Value.ref e from ru)
  obtain ⟨oe,od,J,_⟩:=he.inst I.hok
  exact kia_one (qa U) I.du ⟨oe,some od,J⟩ k (fun z=>nomatch z) fun tk=>⟨.bl b,H,I.tok tk,rfl,q⟩
def cB (K:Frag):List V → Hp → VK → Prop:=fun xs H Q=>bH K xs H Q ∨ vp K xs H Q
theorem dF:bW X (.builtin "isinstance") (cB X.K):=by
 first
 | exact (bf.or lZ)
 | (unfold bW at *; exact (bf.or lZ))
def xq (K:Frag) (ta:TE) (f:Str):TE:=fun σ H Q=>ta σ H fun x H1=>∃ e C dx fs v,x = .ref e ∧ XD H1 e C dx fs ∧ dn K C ∧ hasDictIn K C = true ∧ findIn K (.ref C) f = some none ∧ fs.lookup f = some v ∧ Q v H1
theorem vA {e:Expr} {ta:TE} {f:Str} {pos:Pos} (he:PE X e ta) (hb:attributeBase e f X.env (eval e X.env) = eval e X.env):PE X (.Attribute e f pos) (xq X.K ta f):=by
 unfold PE at *
 exact by
  intro pins s σ H Q I h
  refine pk hb (bX (he pins s σ H _ I h) fun u s1 ⟨x,H1,I1,rx,a,C,dx,fs,v,ex,xd,U,hd,na,l,q⟩=>?_)
  subst ex
  obtain rfl:u = Value.ref a:=rx
  obtain ⟨oe,od,J,mA,rl,hl⟩:=xd.inst I1.hok
  obtain ⟨y,hu,ru⟩:=eP.some_of (v:=v) (o:=mA f) (by rw [← l]; exact rl f)
  exact yB U I1.du J (findObj_own hd na rfl (by rw [hl,hu])) (ly ru) ⟨v,H1,I1.tok _,ru,q⟩
end
structure wU (K:Frag) (C:Addr) (f:Str):Prop where
 sa:findIn K (.ref C) "__setattr__" = some (some (.builtin "object.__setattr__"))
 na:findIn K (.ref C) f = some none
 hd:hasDictIn K C = true
 mo:mroIn K C (.type "object") = some true
theorem nD {K:Frag} (self:Value) {bm:List Value} (t:jS K bm):refuseLoop self "__setattr__" bm = pure ():=by
 induction t with
 | base=>exact PySem.F.store_ValueError.passes self
 | own _ _ _ _ ih=>rw [refuseLoop_ref]; exact ih
section
variable {prog:Program} {w:World} {A:Around} {E:Value → Shared → Prop} {K:Frag} {e C fI:Addr} {oe:Obj} {name:Str} {v:Value} {h:Heap} {g:Array GenState} {d:Drawn} {t:Nat} {os:OsState}
theorem nW {Q:Unit → Shared → Prop} {vs:Array Value} {sl:Array (Option Value)} (xc:kN K C fI) (xs:wU K C name) (X:K.In h) (he:h.get? e = some ⟨.ref C,none,.fields vs,sl⟩)
  (hq:∀ h' t',h'.get? e = some ⟨.ref C,some h.objs.size,.fields vs,sl⟩ → h'.Ns1 h.objs.size (fun y=>if y = name then some v else none) → (∀ b o,b ≠ e → h.get? b = some o → h'.get? b = some o) → Q () ⟨h',g,d,t',os⟩) :
  wpAny (model prog w) A (setAttr (.ref e) name v) Q E ⟨h,g,d,t,os⟩:=by
 obtain ⟨nm,q,N,bs,bm,hdct,sn,sub,ab,col,dd,k0,k1,k2,k3,k5,es,lk,nk,ni,tl⟩:=xc.ex
 have I:InstAt h e ⟨.ref C,none,.fields vs,sl⟩ C none:=⟨he,rfl,rfl,True.intro⟩
 have SF:=PySem.F.store_object
 refine set_plain (s:=⟨h,g,d,t,os⟩) X I xs.sa ?_
 have sub1:Looks (model prog w) h (isInstance (.ref e) (.type "object")) true:=I.type.andThen (looks_mroIn X xs.mo)
 refine codeAny_call_builtin SF.slot.plain SF.entry (@check_slot (model prog w) _ _ ⟨h,g,d,t + 1,os⟩ "object.__setattr__" "object" "__setattr__" (.ref e) [.str name t,v] [] _ SF.kind SF.split sub1 (SF.args (.ref e) (.str name t) v) ?_)
 rw [osa_eq,refuse_eq]
 have L3:Looks (model prog w) h (Builtin.ObjectAttr.storeTaker? none) none:=.now
 refine wpAny_bind (wpAny_bind (I.type.at (wpAny_bind (wpAny_mroOf_exc (X _ _ lk) ?_))))
 rw [refuseLoop_ref,nD _ tl]
 refine wpAny_pure (wpAny_bind (I.type.at (wpAny_bind ((looks_findIn X xs.na).at (wpAny_bind (L3.at ?_))))))
 show wpAny _ _ (Builtin.ObjectAttr.storeInOwnDict (.ref e) (.ref C) (.str name t) name v _) _ _ _
 obtain ⟨cd,hc,hd'⟩:=any_some xs.hd
 refine wpAny_bind (wpAny_pure (wpAny_bind (wpAny_bind (wpAny_loadPart he (wpAny_bind (Looks.here (s:=⟨h,g,d,t + 1,os⟩) (looks_clsIn X hc) ?_))))))
 rw [hd']
 have hx₁:(h.push { cls:=.type "dict",data:=.dict #[] }).get? e = some ⟨.ref C,none,.fields vs,sl⟩:=Heap.get?_push_of_some _ he
 have hxs:e ≠ h.objs.size:=Nat.ne_of_lt (Heap.lt_size he)
 refine wpAny_bind (wpAny_alloc' ?_)
 refine wpAny_bind (wpAny_update' hx₁ ?_)
 refine wpAny_pure ?_
 have hgd:((h.push { cls:=.type "dict",data:=.dict #[] }).update e fun o=>{ cls:=o.cls,dict:=some h.objs.size,data:=o.data,slots:=o.slots }).get? h.objs.size
   = some { cls:=.type "dict",data:=.dict #[] } :=
  (Heap.get?_update_ne _ _ _ _ hxs.symm).trans (Heap.get?_push_at rfl rfl)
 have hnd:((h.push { cls:=.type "dict",data:=.dict #[] }).update e fun o=>{ cls:=o.cls,dict:=some h.objs.size,data:=o.data,slots:=o.slots }).Ns h.objs.size (fun _=>none) :=
  ⟨_,#[],_,hgd,rfl,fun e he=>absurd he (by simp),fun _=>rfl⟩
 show wpAny _ _ (Builtin.ObjectAttr.storeInDict h.objs.size (.str name t) name v) _ _ _
 unfold Builtin.ObjectAttr.storeInDict Builtin.ObjectAttr.newKeyGuard
 refine wpAny_bind (wpAny_pure (wpAny_bind (wpAny_nsSet1 (Heap.Ns1.of_empty hnd) fun h' hn' hs=>?_)))
 obtain ⟨oD,esD,epD,hoD,hdD,hcD⟩:=hn'.count (Within.cons name v Within.nil)
 refine wpAny_bind (wpAny_lookBehind hoD (by rw [hdD]; exact pastItsLine_dict (Nat.le_trans hcD (by rw [List.length_cons,List.length_nil,sizeLine_eq]; omega))) ?_)
 refine wpAny_pure (hq h' _ ?_ hn' fun b o hb q=>?_)
 ·exact (hs.2 e hxs).trans (Heap.get?_update_self _ hx₁ rfl)
 ·exact (hs.2 b (Nat.ne_of_lt (Heap.lt_size q))).trans ((Heap.get?_update_ne _ _ _ _ hb).trans (Heap.get?_push_of_some _ q))
end
section
variable {X:Cx} {o value:Expr} {f:Str} {ta tv:TE} {pos pos':Pos}
def xx (K:Frag) (ta tv:TE) (f:Str):TS:=fun D σ H=>tv σ H fun y H1=>ta σ H1 fun x H2=>∃ e C fI,x = .ref e ∧ H2 e = some (ir (.ref C) none e) ∧ kN K C fI ∧ wU K C f ∧ ∀ dx,H2 dx = none → D.nx σ (upd (upd H2 e (ir (.ref C) (some dx) e)) dx (.xd [(f,y)]))
theorem uc (ha:PE X o ta) (hv:PE X value tv) (hs:swapsWith value (some (.Attribute o f pos')) pos.line X.env = pure false):PS X (.Assign [.Attribute o f pos'] value pos) (xx X.K ta tv f):=by
 unfold PE at *; unfold PS at *
 exact by
  intro pins s σ H D I h
  refine plainObj_wpAny_Assign_Attribute (bX (hv pins s σ H _ I h) fun u s1 ⟨y,H1,I1,ry,q⟩=>bX (ha pins s1 σ H1 _ I1 q) fun ov s2 ⟨x,H2,I2,rx,a,C,fI,ex,ea,xc,xs,q2⟩=>?_) hs
  subst ex
  obtain rfl:ov = Value.ref a:=rx
  obtain ⟨oe,vs,ge,gc,gd,gv,g1,g0⟩:=mY I2.hok ea
  obtain ⟨oc,od,oda,osl⟩:=oe
  simp only at gc gd gv
  subst gc gd gv
  obtain ⟨hh,gg,d0,tt,oo⟩:=s2
  refine nW xc xs I2.du ge fun h' t' e1 n1 kp=>?_
  have I3:Inv X pins σ (upd H2 a (ir (.ref C) (some hh.objs.size) a)) ⟨h',gg,d0,t',oo⟩:=I2.write (s:=⟨hh,gg,d0,tt,oo⟩) (x:=a) (e:=a) (t':=t') (by rw [ea]; exact True.intro) (.inl rfl) (fun b u hb q=>kp b u hb q) ⟨_,e1⟩ (pB e1 rfl rfl rfl g1 g0)
  have nd:hh.objs.size ≠ a:=Nat.ne_of_gt (Heap.lt_size ge)
  have fr:H2 hh.objs.size = none:=I2.hok.fresh (Nat.le_refl _)
  obtain ⟨m,⟨ol,_,_,hl,_⟩,_⟩:=id I2.loc
  have lt:=Heap.lt_size hl
  have I4:=I3.adopt (e:=hh.objs.size) (o:=.xd [(f,y)]) (by rw [aK nd]; exact fr) (Heap.get?_none_of_le (Nat.le_trans I2.ok.above (Nat.le_of_lt lt))) (Nat.ne_of_gt lt)
   (fun x c z=>by obtain ⟨v,oc,hc,_⟩:=I2.cell x c z; exact Nat.ne_of_lt (Heap.lt_size hc)) (fun p hp=>Nat.ne_of_lt (Heap.lt_size (I2.pin p hp).1)) ⟨_,n1,fun g=>by
    show eP ([(f,y)].lookup g) (if g = f then some u else none)
    by_cases z:g = f
    ·rw [z,if_pos rfl]
     have:[(f,y)].lookup f = some y:=by simp [List.lookup]
     rw [this]
     exact ry
    ·rw [if_neg z]
     have:[(f,y)].lookup g = none:=by
      have:(g == f) = false:=by simpa using z
      simp [List.lookup,this]
     rw [this]
     exact True.intro⟩
  exact ⟨σ,_,I4,q2 _ fr⟩
end
theorem kN.vk {K:Frag} {C N A f:Addr} {nm q:Str} {bs:List Value} {hdct:Bool} {sn:List Str} {sub:List Value} {ab:Bool} {col:Option Bool} {dd:Option Addr} {k0 k1 k2 k3 k5:Option Value} {es:Array DictEntry} {c d ep sl}
  {c0:Value} {dd':Option Addr} {cd:ClassData} {sl0:Array (Option Value)} {es':Array DictEntry} {c' d' ep' sl'}
  (l:K.lookup C = some (excClassObj nm q C N bs (.ref A :: i6) hdct sn sub ab col dd k0 k1 k2 k3 k5 "ValueError.__new__")) (ln:K.lookup N = some ⟨c,d,.dict es ep,sl⟩) (sk:bM es = true) (ni:nsFind es "__init__" = some (.ref f))
  (la:K.lookup A = some { cls:=c0,dict:=dd',data:=.cls cd,slots:=sl0 }) (lna:K.lookup cd.ns = some ⟨c',d',.dict es' ep',sl'⟩) (ska:bM es' = true) (nia:nsFind es' "__init__" = none)
  (fn:isFn K (.ref f) = true) (kp:keepIn K (.ref C) = true):kN K C f :=
 ⟨⟨_,_,_,_,_,_,_,_,_,_,_,_,_,_,_,_,_,l,⟨_,_,_,_,ln,ft sk⟩,ni,.own la ⟨_,_,_,_,lna,ft ska⟩ nia .base⟩,beq_iff_eq.mp fn,kp⟩
theorem cB.a {K:Frag} {xs:List V} {H:Hp} {Q:VK} (h:bH K xs H Q):cB K xs H Q:=.inl h
theorem cB.xd {K:Frag} {H:Hp} {e C c dx:Addr} {fs:List (Str × V)} {b:Bool} {Q:VK} (h:XD H e C dx fs) (q:dn K C) (k:kitOne K (.ref C) (.ref c) = some b) (hQ:Q (.bl b) H):cB K [.ref e,.ref c] H Q :=
 .inr ⟨e,.ref c,_,C,dx,fs,b,rfl,.own c,h,q,k,hQ⟩
theorem cB.AF {K:Frag} {H:Hp} {e C dx:Addr} {c:String} {fs:List (Str × V)} {b:Bool} {Q:VK} (h:XD H e C dx fs) (q:dn K C) (k:kitOne K (.ref C) (.type c) = some b) (hQ:Q (.bl b) H):cB K [.ref e,.ty c] H Q :=
 .inr ⟨e,.ty c,_,C,dx,fs,b,rfl,.ty c,h,q,k,hQ⟩
theorem XD.same {H H':Hp} {e C dx:Addr} {fs:List (Str × V)} (h:XD H e C dx fs) (s:aH H H'):XD H' e C dx fs:=⟨h.1.imp (s _ _) (s _ _),s _ _ h.2⟩
def vt (C:Addr) (f:Str):Sp:=fun vs H Q _=>∃ e wd pl,vs = [.ref e,wd,pl] ∧ H e = some (ir (.ref C) none e) ∧ ∀ dx,H dx = none → Q .bA (upd (upd H e (ir (.ref C) (some dx) e)) dx (.xd [(f,pl)]))
theorem uT {H:Hp} {e dx:Addr} {o u:HO} (he:H e = none) (hd:upd H e o dx = none):aH H (rem (upd (upd (upd H e o) e u) dx o') e):=fun b w hb=>by
 have n1:b ≠ e:=fun z=>by rw [z,he] at hb; cases hb
 have n2:b ≠ dx:=fun z=>by
  rw [← z,aK n1,hb] at hd
  cases hd
 rw [fP n1,aK n2,aK n1,aK n1]
 exact hb
theorem mS {H:Hp} {C:Addr} {f:Str} {wd pl:V} {E:XK} (h:∀ x H',aH H H' → H' x = some (.xd [(f,pl)]) → E (.ref C) (some x) H') (e:Addr) (he:H e = none) :
  vt C f [.ref e,wd,pl] (upd H e (ir (.ref C) none e)) (fun v H2=>v = .bA ∧ ∃ dd,H2 e = some (ir (.ref C) dd e) ∧ E (.ref C) dd (rem H2 e)) E0:=by
 refine ⟨e,wd,pl,rfl,aB,fun dx hd=>⟨rfl,some dx,?_,?_⟩⟩
 ·have ne:e ≠ dx:=fun z=>by rw [← z,aB] at hd; cases hd
  rw [aK ne,aB]
 ·have ne:dx ≠ e:=fun z=>by rw [z,aB] at hd; cases hd
  exact h dx _ (uT he hd) (by rw [fP ne,aB])
def XE (H:Hp) (e C:Addr):Prop:=H e = some (mh (.ref C) none e) ∨ ∃ dx fs,XD H e C dx fs
theorem XE.same {H H':Hp} {e C:Addr} (h:XE H e C) (s:aH H H'):XE H' e C:=h.imp (s _ _) fun ⟨dx,fs,x⟩=>⟨dx,fs,x.same s⟩
theorem cB.xe {K:Frag} {H:Hp} {e C c:Addr} {b:Bool} {Q:VK} (h:XE H e C) (q:dn K C) (k:kitOne K (.ref C) (.ref c) = some b) (hQ:Q (.bl b) H):cB K [.ref e,.ref c] H Q:=by
 rcases h with h | ⟨dx,fs,h⟩
 ·exact .inl (bH.exc h q k hQ)
 ·exact .xd h q k hQ
theorem cB.zm {K:Frag} {H:Hp} {e C:Addr} {c:String} {b:Bool} {Q:VK} (h:XE H e C) (q:dn K C) (k:kitOne K (.ref C) (.type c) = some b) (hQ:Q (.bl b) H):cB K [.ref e,.ty c] H Q:=by
 rcases h with h | ⟨dx,fs,h⟩
 ·exact .inl (bH.zX h q k hQ)
 ·exact .AF h q k hQ
theorem XD.tZ {H:Hp} {e C dx:Addr} {fs:List (Str × V)} (h:H dx = some (.xd fs)) (he:H e = none):XD (upd H e (mh (.ref C) (some dx) e)) e C dx fs :=
 ⟨.inr aB,aH.new he _ _ h⟩
theorem wX:bootBuiltins "sum" = some (.builtin "sum"):=by decide +kernel
theorem tM {X:Cx} (hc:X.calm = true):bW X (.builtin "sum") (fun xs H Q=>∃ (a:Addr) (ns:List Int),xs = [.ref a] ∧ ao X.K H a (ns.map V.int) ∧ ∀ r,Q (.int r) H):=by
 unfold bW at *
 exact by
  intro pins s σ H xs us Q I r h
  obtain ⟨a,ns,rfl,hq,q⟩:=h
  obtain ⟨u,rfl,ru⟩:=vals1 r
  cases ru
  obtain ⟨ai,rv,pl,hz⟩:=I.list hq
  have hi:IntsAre ai.toArray.toList ns:=intsAre_of rv
  obtain ⟨xs,e⟩:=hi.allInts.items
  have hl:=pl.isList
  rw [e] at hl
  exact PySem.sum_intListG (I.ok.hd hc) hl fun h' tk t' hk=>⟨.int _,H,I.kept (t':=tk) hk,⟨t',rfl⟩,q _⟩
theorem bj.of0 {K:Frag} {x qual:Str} {st:Stmt} {f:Addr} {fd:FuncData} {ps:List Str} {na:Nat} (F:jg K x qual st .none f fd)
  (h:∀ (kV doc pm:Value) (an:Option Addr) (cdv ct:Value) (y:Value) (us:List Value),us.length = na → bindArgs (PySem.W.fnOf x qual (aS st) (aP st) (aG st) .none kV doc pm an cdv ct) ⟨y :: us,[]⟩ = pure (ps.zip (y :: us)) ∧ (y :: us).length = ps.length):bj K fd ps [] na (fun us _=>us) (fun us _=>us):=by
 obtain ⟨oc,od,kV,doc,pm,an,cdv,ct,osl,rfl,lk,hcd⟩:=F.ex
 refine ⟨fun s y us ws X h1 h2=>?_,fun r _=>r⟩
 obtain ⟨e1,e2⟩:=h kV doc pm an cdv ct y us h1
 obtain rfl:ws = []:=List.eq_nil_of_length_eq_zero h2
 exact ⟨.of_eq e1,e2⟩
theorem rQ {K:Frag} {a l:Addr} {vs:List V} {P:Nat → V → Prop} {g:TG} {te:TE} {σ:St} {H:Hp} {Q:VK} (hl:H l = none) (hA:ao K H a vs) (lz:vs.length ≤ 1000) (Ps:St → Prop) (h0:Ps σ)
  (hs:∀ (i:Nat) x σ G (Kt:St → V → Hp → Prop),vs[i]? = some x → Ps σ → aH H G → (∀ σ2 v G2,Ps σ2 → aH G G2 → P i v → Kt σ2 v G2) → g x σ G fun σ2 H2=>te σ2 H2 (Kt σ2))
  (hd:∀ G acc,aH H G → G l = some (.lst acc) → acc.length = vs.length → (∀ i v,acc[i]? = some v → P i v) → Q (.ref l) G):jU (vi K a) l g we te σ (upd H l (.lst [])) Q:=by
 have sz:1000 ≤ sizeLine:=aJ rfl
 refine dj (xs:=vs) (fun i σ acc G=>Ps σ ∧ aH H G ∧ G l = some (.lst acc) ∧ acc.length = i ∧ ∀ (j:Nat) v,acc[j]? = some v → P j v) (by omega) ?_ ?_ ?_ ?_
 ·exact ⟨h0,aH.new hl,aB,rfl,fun j v h=>by rw [List.getElem?_nil] at h; cases h⟩
 ·rintro i σ acc G hi ⟨_,sG,h1,h2,_⟩
  exact ⟨h1,sG.seq hA,by omega⟩
 ·rintro i x σ acc G hx ⟨hp,sG,h1,h2,h3⟩
  have hi:i < vs.length:=(List.getElem?_eq_some_iff.mp hx).1
  refine hs i x σ G _ hx hp sG fun σ2 v G2 p2 s2 hv=>⟨s2 _ _ h1,Nx.mk hi ⟨p2,fun b u hb=>?_,aB,by rw [List.length_append,h2]; rfl,fun j w hw=>?_⟩⟩
  ·rw [aK (aM hb hl)]
   exact s2 _ _ (sG _ _ hb)
  ·rcases Nat.lt_trichotomy j acc.length with z | z | z
   ·rw [List.getElem?_append_left z] at hw
    exact h3 j w hw
   ·subst z
    rw [List.getElem?_append_right (Nat.le_refl _),Nat.sub_self] at hw
    cases hw
    rw [h2]
    exact hv
   ·rw [List.getElem?_append_right (by omega),List.getElem?_eq_none (by show 1 ≤ _; omega)] at hw
    cases hw
 ·rintro σ acc G ⟨_,sG,h1,h2,h3⟩
  exact hd G acc sG h1 h2 h3
theorem mB {lo:Int} {n:Nat} {l:Addr} {P:Nat → V → Prop} {g:TG} {te:TE} {σ:St} {H:Hp} {Q:VK} (hl:H l = none) (lz:n ≤ 1000) (Ps:St → Prop) (h0:Ps σ)
  (hs:∀ (i:Nat) σ G (Kt:St → V → Hp → Prop),i < n → Ps σ → aH H G → (∀ σ2 v G2,Ps σ2 → aH G G2 → P i v → Kt σ2 v G2) → g (.int (lo + i)) σ G fun σ2 H2=>te σ2 H2 (Kt σ2))
  (hd:∀ G acc,aH H G → G l = some (.lst acc) → acc.length = n → (∀ i v,acc[i]? = some v → P i v) → Q (.ref l) G):jU (wz lo n) l g we te σ (upd H l (.lst [])) Q:=by
 have sz:1000 ≤ sizeLine:=aJ rfl
 refine jn n (fun i σ acc G=>Ps σ ∧ aH H G ∧ G l = some (.lst acc) ∧ acc.length = i ∧ ∀ (j:Nat) v,acc[j]? = some v → P j v) (by omega) ?_ ?_ (fun i σ acc H hi p=>hi) ?_ ?_
 ·exact ⟨h0,aH.new hl,aB,rfl,fun j v h=>by rw [List.getElem?_nil] at h; cases h⟩
 ·rintro i σ acc G hi ⟨_,sG,h1,h2,_⟩
  exact ⟨h1,by omega⟩
 ·rintro i x σ acc G G' hi ⟨hp,sG,h1,h2,h3⟩ ⟨rfl,rfl⟩
  refine hs i σ _ _ hi hp sG fun σ2 v G2 p2 s2 hv=>⟨s2 _ _ h1,Nx.mk hi ⟨p2,fun b u hb=>?_,aB,by rw [List.length_append,h2]; rfl,fun j w hw=>?_⟩⟩
  ·rw [aK (aM hb hl)]
   exact s2 _ _ (sG _ _ hb)
  ·rcases Nat.lt_trichotomy j acc.length with z | z | z
   ·rw [List.getElem?_append_left z] at hw
    exact h3 j w hw
   ·subst z
    rw [List.getElem?_append_right (Nat.le_refl _),Nat.sub_self] at hw
    cases hw
    rw [h2]
    exact hv
   ·rw [List.getElem?_append_right (by omega),List.getElem?_eq_none (by show 1 ≤ _; omega)] at hw
    cases hw
 ·rintro σ acc G ⟨_,sG,h1,h2,h3⟩
  exact ⟨Nat.le_refl _,hd G acc sG h1 h2 h3⟩
theorem jk:∀ {acc:List V},(∀ (i:Nat) v,acc[i]? = some v → ∃ z,v = V.int z) → ∃ ns:List Int,acc = ns.map V.int
 | [],_=>⟨[],rfl⟩
 | v :: r,h=>by
  obtain ⟨z,rfl⟩:=h 0 v rfl
  obtain ⟨ns,rfl⟩:=jk (acc:=r) fun i w hw=>h (i + 1) w (by simpa using hw)
  exact ⟨z :: ns,rfl⟩
end L2
namespace L2
open PySem PySem.Spec PyProof.Rows
section
variable {prog:Program} {w:World} {A:Around} {E:Value → Shared → Prop} {s:Shared}
def bK (prog:Program) (w:World) (h:Heap) (k:Key × List Key) (a:Addr):Prop:=∃ o n u b,h.get? a = some o ∧ o.cls = .type "tuple" ∧ o.data = .seq #[u,.ref b] n ∧ (aU prog w).is k.1 u = true ∧ IsTupleKey (aU prog w) h k.2 b
theorem bK.typeIs {k:Key × List Key} {a:Addr} (x:bK prog w s.heap k a):s.TypeIs (.ref a) "tuple" := let ⟨o,_,_,_,ho,hc,_⟩:=x; ⟨o,ho,hc⟩
theorem bK.inj {h:Heap} {a:Addr} {x y:Key × List Key} (hx:bK prog w h x a) (hy:bK prog w h y a):x = y:=by
 obtain ⟨o,n,u,b,ho,_,hd,h1,h2⟩:=hx
 obtain ⟨o',n',u',b',ho',_,hd',h1',h2'⟩:=hy
 obtain rfl:o = o':=Option.some.inj (ho.symm.trans ho')
 rw [hd] at hd'
 injection hd' with e _
 have e1:[u,Value.ref b] = [u',Value.ref b']:=by simpa using congrArg Array.toList e
 injection e1 with e2 e3
 injection e3 with e4 _
 injection e4 with e5
 subst e2 e5
 obtain ⟨x1,x2⟩:=x
 obtain ⟨y1,y2⟩:=y
 exact Prod.ext ((aU prog w).inj _ _ _ h1 h1') (h2.inj h2')
theorem bK.keeps {h h':Heap} {k:Key × List Key} {a d:Addr} {o:Obj} {es ep} (x:bK prog w h k a) (ho:h.get? d = some o) (hd:o.data = .dict es ep) (hs:Heap.SameBut d h h'):bK prog w h' k a:=by
 obtain ⟨o',n,u,b,ho',hc,hd',h1,h2⟩:=x
 have hne:a ≠ d:=by
  rintro rfl
  obtain rfl:o' = o:=Option.some.inj (ho'.symm.trans ho)
  rw [hd] at hd'; exact nomatch hd'
 exact ⟨o',n,u,b,(hs.2 a hne).trans ho',hc,hd',h1,h2.keeps ho hd hs⟩
def kS (prog:Program) (w:World) (k:Key × List Key):Int:=reduceHash (Builtin.Tuple.tupleHashOf [(aU prog w).hash k.1,tupleKeyHash (aU prog w) k.2])
theorem qI {k:Key × List Key} {a:Addr} {Q:Int → Shared → Prop} (hu:A.units + 4 < cLine) (hk:bK prog w s.heap k a) (h:Q (kS prog w k) { s with toks:=s.toks + (1 + (k.2.length + 1) + 1) }) :
  wpAny (model prog w) A (pyHash (.ref a)) Q E s:=by
 have hT:=hk.typeIs
 obtain ⟨o,n,u,b,ho,_,hd,h1,h2⟩:=hk
 unfold pyHash
 first | unfold pyHashByItsType | skip
 first | refine wpAny_bind (wpAny_cRoomFor_or (.inr (by omega)) ?_) | skip
 refine wpAny_bind (wpAny_specialOf hT F.slot_tuple_hash.lookup ?_)
 show wpAny _ _ (if (some (Value.builtin "tuple.__hash__") == some Value.none) = true then _ else _) Q E s
 rw [if_neg (by rw [beq_builtin_none]; exact Bool.false_ne_true)]
 refine wpAny_bind (wpAny_specialOf hT F.slot_tuple_hash.lookup ?_)
 show wpAny _ _ (callSpecialIfBoundUnlessNone? (.ref a) "__hash__" _ >>= _) Q E s
 refine wpAny_bind (wpAny_callSpecialIfBoundUnlessNone?_slot hT F.slot_tuple_hash (wpAny_call_entry F.slot_tuple_hash hT F.entry_tuple_hash ?_ (F.args_tuple_hash_1 _)))
 show wpAny _ _ (Builtin.Tuple.tupleItemsOf (.ref a) >>= _) _ _ s
 refine wpAny_bind (wpAny_tupleItemsOf ho hd ?_)
 refine wpAny_bind ?_
 rw [← Array.forIn_toList]
 simp only [List.forIn_cons,List.forIn_nil]
 refine wpAny_bind (wpAny_bind ((aU prog w).pyHash h1 ?_))
 refine wpAny_pure (wpAny_bind (wpAny_bind (wpAny_pyHash_tuple (s:={ s with toks:=s.toks + 1 }) (by show A.units + 1 < cLine; omega) h2 ?_)))
 refine wpAny_pure (wpAny_pure ?_)
 show wpAny _ _ (retInt (Builtin.Tuple.tupleHashOf [(aU prog w).hash k.1,tupleKeyHash (aU prog w) k.2])) _ _ _
 refine wpAny_ret_mkInt ?_
 show wpAny _ _ (if (decide (-(2:Int) ^ 63 ≤ Builtin.Tuple.tupleHashOf [(aU prog w).hash k.1,tupleKeyHash (aU prog w) k.2]) && decide (Builtin.Tuple.tupleHashOf [(aU prog w).hash k.1,tupleKeyHash (aU prog w) k.2] < 2 ^ 63)) = true then _ else _) Q E _
 unfold kS reduceHash at h
 by_cases hr:(decide (-(2:Int) ^ 63 ≤ Builtin.Tuple.tupleHashOf [(aU prog w).hash k.1,tupleKeyHash (aU prog w) k.2]) && decide (Builtin.Tuple.tupleHashOf [(aU prog w).hash k.1,tupleKeyHash (aU prog w) k.2] < 2 ^ 63)) = true
 ·rw [if_pos hr]
  rw [if_pos hr] at h
  exact wpAny_pure (by simpa [Nat.add_assoc] using h)
 ·rw [if_neg hr]
  rw [if_neg hr] at h
  exact wpAny_bind (wpAny_rule (wpAny_pure (by simpa [Nat.add_assoc] using h)))
theorem me {x y:Key × List Key} {a b:Addr} {P:Fin → Shared → Prop} (hu:A.units + 1 < cLine) (hx:bK prog w s.heap x a) (hy:bK prog w s.heap y b) (h:P (.done (.ret (.bool (decide (x = y))))) s) :
  wpAny (model prog w) A (Builtin.«tuple.__eq__» ⟨[.ref a,.ref b],[]⟩) P E s:=by
 have hTb:=hy.typeIs
 obtain ⟨oa,na,u1,b1,hoa,_,hda,h11,h12⟩:=hx
 obtain ⟨ob,nb,u2,b2,hob,_,hdb,h21,h22⟩:=hy
 obtain ⟨x1,x2⟩:=x
 obtain ⟨y1,y2⟩:=y
 show wpAny _ _ (isInstance (.ref b) (.type "tuple") >>= _) _ _ s
 refine wpAny_bind (wpAny_isInstance hTb isSubtype_tuple_tuple ?_)
 simp only [Bool.not_true,Bool.false_eq_true,if_false]
 refine wpAny_bind (wpAny_tupleItemsOf hoa hda ?_)
 refine wpAny_bind (wpAny_tupleItemsOf hob hdb ?_)
 refine wpAny_bind ?_
 simp only [List.zip_cons_cons,List.zip_nil_right,List.forIn_cons,List.forIn_nil]
 refine wpAny_bind (wpAny_bind ((aU prog w).eqBool (a:=x1) (b:=y1) h11 h21 ?_))
 by_cases hk:x1 = y1
 ·subst hk
  rw [decide_eq_true rfl]
  simp only [Bool.not_true,Bool.false_eq_true,if_false]
  refine wpAny_pure ?_
  refine wpAny_bind (wpAny_bind (wpAny_eqBool_tuple (by omega) h12 h22 ?_))
  by_cases h2:x2 = y2
  ·subst h2
   rw [decide_eq_true rfl]
   simp only [Bool.not_true,Bool.false_eq_true,if_false]
   rw [decide_eq_true rfl] at h
   exact wpAny_pure (wpAny_pure (wpAny_pure h))
  ·rw [decide_eq_false h2]
   simp only [Bool.not_false,if_true]
   rw [decide_eq_false (fun z=>h2 (congrArg Prod.snd z))] at h
   exact wpAny_bind (wpAny_pure (wpAny_pure (wpAny_pure (wpAny_pure h))))
 ·rw [decide_eq_false hk]
  simp only [Bool.not_false,if_true]
  rw [decide_eq_false (fun z=>hk (congrArg Prod.fst z))] at h
  exact wpAny_bind (wpAny_pure (wpAny_pure (wpAny_pure (wpAny_pure h))))
theorem nU {x y:Key × List Key} {a b:Addr} {Q:Bool → Shared → Prop} (hu:A.units + 4 < cLine) (hx:bK prog w s.heap x a) (hy:bK prog w s.heap y b) (h:Q (decide (x = y)) s) :
  wpAny (model prog w) A (eqBool (.ref a) (.ref b)) Q E s:=by
 unfold eqBool
 try with_reducible refine wpAny_holding ?_
 show wpAny _ _ (if (Value.ref a == Value.ref b) = true then _ else _) Q E s
 by_cases hab:(Value.ref a == Value.ref b) = true
 ·rw [if_pos hab]
  have e:a = b:=by have:=eq_of_beq hab; injection this
  subst e
  obtain rfl:=hx.inj hy
  exact wpAny_bind (wpAny_rule (wpAny_pure (by simpa using h)))
 ·rw [if_neg hab]
  exact wpAny_bind (wpAny_richCompare_same_room (op:=.Eq) hx.typeIs hy.typeIs F.slot_tuple_eq
   (wpAny_call_entry F.slot_tuple_eq hx.typeIs F.entry_tuple_eq (me (by show A.units + 1 + 1 < cLine; omega) hx hy ⟨_,rfl,(fun e=>nomatch e),wpAny_truthy_bool h⟩) (F.args_tuple_eq_2 _ _)) (by omega))
theorem nK {m:Nat} {ks:List Key} {a:Addr} {Q:Bool → Shared → Prop} (hk:IsTupleKey (aU prog w) s.heap ks a) (h:Q true s):wpAny (model prog w) A (eqIsQuiet (m + 1) (.ref a)) Q E s:=by
 have hT:=hk.typeIs
 obtain ⟨o,items,n,ho,_,hd,hi⟩:=hk
 unfold eqIsQuiet
 refine wpAny_bind (wpAny_specialOf hT F.slot_tuple_eq.lookup ?_)
 show wpAny _ _ (isInstance (.ref a) (.type "tuple") >>= _) _ _ s
 refine wpAny_bind (wpAny_isInstance hT isSubtype_tuple_tuple ?_)
 simp only [Bool.not_true,Bool.false_eq_true,if_false]
 refine wpAny_bind (wpAny_seqItems ho hd ?_)
 refine wpAny_bind ?_
 show wpAny _ _ (forIn items _ _) _ _ s
 rw [← Array.forIn_toList]
 refine wpAny_forIn_list _ (fun rest r s'=>r.1 = none ∧ s' = s ∧ ∀ v ∈ rest,carriedByValue v = true) _ ?_ ?_ _ _ ⟨rfl,rfl,hi.byValue⟩
 ·rintro v rest r s' ⟨hr,rfl,hall⟩
  rw [eqIsQuiet_byValue _ (hall v List.mem_cons_self)]
  refine wpAny_bind (wpAny_pure ?_)
  simp only [Bool.not_true,Bool.false_eq_true,if_false]
  exact wpAny_pure ⟨rfl,rfl,fun u hu'=>hall u (List.mem_cons_of_mem _ hu')⟩
 ·rintro ⟨r1,r2⟩ s' ⟨hr,rfl,_⟩
  simp only at hr
  subst hr
  exact wpAny_pure h
theorem pK {k:Key × List Key} {a:Addr} {Q:Bool → Shared → Prop} (hk:bK prog w s.heap k a) (h:Q true s):wpAny (model prog w) A (eqIsQuiet 8 (.ref a)) Q E s:=by
 have hT:=hk.typeIs
 obtain ⟨o,n,u,b,ho,_,hd,h1,h2⟩:=hk
 unfold eqIsQuiet
 refine wpAny_bind (wpAny_specialOf hT F.slot_tuple_eq.lookup ?_)
 show wpAny _ _ (isInstance (.ref a) (.type "tuple") >>= _) _ _ s
 refine wpAny_bind (wpAny_isInstance hT isSubtype_tuple_tuple ?_)
 simp only [Bool.not_true,Bool.false_eq_true,if_false]
 refine wpAny_bind (wpAny_seqItems ho hd ?_)
 refine wpAny_bind ?_
 show wpAny _ _ (forIn #[u,Value.ref b] _ _) _ _ s
 rw [← Array.forIn_toList]
 simp only [List.forIn_cons,List.forIn_nil]
 rw [eqIsQuiet_byValue _ ((aU prog w).byValue _ _ h1)]
 refine wpAny_bind (wpAny_bind (wpAny_pure ?_))
 simp only [Bool.not_true,Bool.false_eq_true,if_false]
 refine wpAny_pure (wpAny_bind (wpAny_bind (nK (m:=6) h2 ?_)))
 simp only [Bool.not_true,Bool.false_eq_true,if_false]
 exact wpAny_pure (wpAny_pure (wpAny_pure h))
end
def iq (prog:Program) (w:World):HeapKind prog w (Key × List Key) where
 is:=bK prog w
 hash:=kS prog w
 draws:=fun k=>1 + (k.2.length + 1) + 1
 room:=fun A=>A.units + 4 < cLine
 inj:=fun hx hy=>hx.inj hy
 keeps:=fun x ho hd hs=>x.keeps ho hd hs
 pyHash:=fun hu hk h=>qI hu hk h
 eqBool:=fun hu hx hy h=>nU hu hx hy h
 quiet:=fun hk h=>pK hk h
def jX (H:Hp) (k:Key × List Key) (a:Addr):Prop:=∃ b,H a = some (.tup [kV k.1,.ref b]) ∧ H b = some (.tup (k.2.map kV))
theorem kG {P:Program} {w:World} {H:Hp} {h:Heap} {a:Addr} {k:Key × List Key} (ok:eJ P w H h) (e:jX H k a):bK P w h k a:=by
 obtain ⟨b,e1,e2⟩:=e
 obtain ⟨_,ai,r,o,h1,h2,n,h3⟩:=(show bL P w H h a (.tup [kV k.1,.ref b]) from ok a _ e1)
 obtain ⟨u,v,rfl,ru,rv⟩:=rT r
 obtain rfl:v = Value.ref b:=rv
 exact ⟨o,n,u,b,h1,h2,h3,jT ru,iK ok e2⟩
abbrev NK:=Key × List Key
def vv (P:Program) (w:World) (a:Addr) (xs:List (NK × Addr × Value)):HO:=.ext fun h=>(a == sysModules) = false ∧ ∃ o es ep,h.get? a = some o ∧ o.ExactDict ∧ o.data = .dict es ep ∧ es.toList = xs.map (entryOfKey (iq P w)) ∧ (xs.map (·.1)).Nodup
def KN (H:Hp) (kvs:List (NK × V)) (xs:List (NK × Addr × Value)):Prop:=Paired (fun (p:NK × V) (q:NK × Addr × Value)=>p.1 = q.1 ∧ jX H q.1 q.2.1 ∧ RelV p.2 q.2.2) kvs xs
def DN (P:Program) (w:World) (H:Hp) (a:Addr) (kvs:List (NK × V)):Prop:=∃ xs,H a = some (vv P w a xs) ∧ KN H kvs xs ∧ kvs.length ≤ 1000
theorem jX.keep {H H':Hp} {k:NK} {a:Addr} (h:jX H k a) (f:∀ b ys,H b = some (.tup ys) → H' b = some (.tup ys)):jX H' k a:=let ⟨b,e1,e2⟩:=h; ⟨b,f _ _ e1,f _ _ e2⟩
theorem KN.keep {H H':Hp} {kvs:List (NK × V)} {xs:List (NK × Addr × Value)} (h:KN H kvs xs) (f:∀ b ys,H b = some (.tup ys) → H' b = some (.tup ys)):KN H' kvs xs :=
 Paired.fG h fun _ _ z=>⟨z.1,z.2.1.keep f,z.2.2⟩
theorem DN.same {P:Program} {w:World} {H H':Hp} {a:Addr} {kvs:List (NK × V)} (d:DN P w H a kvs) (s:aH H H'):DN P w H' a kvs:=let ⟨xs,e,k,l⟩:=d; ⟨xs,s _ _ e,k.keep fun b ys q=>s _ _ q,l⟩
theorem DN.new {P:Program} {w:World} {H:Hp} {a:Addr}:DN P w (upd H a (vv P w a [])) a []:=⟨[],aB,.nil,Nat.zero_le _⟩
theorem KN.val {H:Hp} {kvs:List (NK × V)} {xs:List (NK × Addr × Value)} (h:KN H kvs xs) (k:NK):(bS kvs k).isSome = (atKey xs k).isSome:=by
 induction h with
 | nil=>rfl
 | @cons p q ps qs e t ih =>
  obtain ⟨q1,q2⟩:=q
  have e1:p.1 = q1:=e.1
  by_cases z:p.1 = k
  ·rw [bQ z]
   unfold atKey
   rw [List.find?_cons_of_pos (by simp [← e1,z])]
   rfl
  ·rw [bI z,ih]
   unfold atKey
   rw [List.find?_cons_of_neg (by simp [← e1,z])]
theorem DN.at {P:Program} {w:World} {H:Hp} {h:Heap} {a:Addr} {kvs:List (NK × V)} (ok:eJ P w H h) (d:DN P w H a kvs):∃ xs,KN H kvs xs ∧ h.DictOfH (iq P w) a xs ∧ (a == sysModules) = false ∧ H a = some (vv P w a xs) ∧ kvs.length ≤ 1000:=by
 obtain ⟨xs,e,kn,l⟩:=d
 obtain ⟨⟨hs,o,es,ep,h1,h2,h3,h4,h5⟩,_⟩:=ok a _ e
 refine ⟨xs,kn,⟨o,es,ep,h1,h2,h3,h4,fun x hx=>?_,h5⟩,hs,e,l⟩
 have all:∀ {l:List (NK × V)} {m:List (NK × Addr × Value)},KN H l m → ∀ x ∈ m,bK P w h x.1 x.2.1:=by
  intro l m q
  induction q with
  | nil=>intro x hx; exact nomatch hx
  | @cons p q ps qs hq t ih =>
   intro x hx
   rcases List.mem_cons.mp hx with e | hx
   ·subst e
    exact kG ok hq.2.1
   ·exact ih x hx
 exact all kn x hx
section
variable {X:Cx}
def yq (P:Program) (w:World) (neg:Bool):R2:=fun x y H Q=>∃ a t k kvs,x = .ref t ∧ y = .ref a ∧ jX H k t ∧ DN P w H a kvs ∧ Q (.bl (if neg then !(bS kvs k).isSome else (bS kvs k).isSome)) H
theorem qo (hu:X.A.units + 62 < cLine):cY X (compareOp .NotIn) (yq X.prog X.w true):=by
 unfold cY at *
 exact by
  intro pins s σ H x y v u Q I rx ry h
  obtain ⟨a,t,k,kvs,rfl,rfl,hk,hd,q⟩:=h
  cases rx
  cases ry
  obtain ⟨xs,kn,dd,hs,_,_⟩:=hd.at I.hok
  refine wpAny_notIn_heap (knd:=iq X.prog X.w) (by show X.A.units + 1 + 4 < cLine; omega) (kG I.hok hk) hs dd ?_
  rw [← kn.val k]
  exact ⟨.bl _,H,I.tok _,rfl,q⟩
def xl (P:Program) (w:World):uQ:=fun o i v H Q=>∃ a t k kvs,o = .ref a ∧ i = .ref t ∧ jX H k t ∧ DN P w H a kvs ∧ kvs.length < 1000 ∧ bS kvs k = none ∧ ∀ H',(∀ b u,b ≠ a → H b = some u → H' b = some u) → DN P w H' a (kvs ++ [(k,v)]) → Q H'
theorem xP (hu:X.A.units + 62 < cLine):uo X (xl X.prog X.w):=by
 unfold uo at *
 exact by
  intro pins s σ H o i v ov iv u Q I ro ri rv h
  obtain ⟨a,t,k,kvs,rfl,rfl,hk,hd,hl,hn,q⟩:=h
  cases ro
  cases ri
  obtain ⟨xs,kn,dd,hs,e,hl0⟩:=hd.at I.hok
  have sz:1000 ≤ sizeLine:=aJ rfl
  have lx:=Paired.length kn
  have hx:atKey xs k = none:=by
   have:=kn.val k
   rw [hn] at this
   cases z:atKey xs k with
   | none=>rfl
   | some p=>rw [z] at this; cases this
  refine wpAny_setItem_heap (knd:=iq X.prog X.w) (hsz:=by omega) (by show X.A.units + 1 + 4 < cLine; omega) (kG I.hok hk) dd fun h' dd' sb=>?_
  rw [storedH_new hx] at dd'
  obtain ⟨ob,es,ep,h1,h2,h3,h4,_,h5⟩:=dd'
  have ne:∀ b ys,H b = some (.tup ys) → upd H a (vv X.prog X.w a (xs ++ [(k,t,u)])) b = some (.tup ys):=fun b ys hb=>by
   rw [aK (bT hb e (by intro z; cases z))]
   exact hb
  refine ⟨_,I.write (x:=a) (e:=a) (o:=vv X.prog X.w a (xs ++ [(k,t,u)])) (by rw [e]; exact True.intro) (.inl rfl) (fun b z hb y=>(sb.2 b hb).trans y) ⟨ob,h1⟩ ⟨⟨hs,ob,es,ep,h1,h2,h3,h4,h5⟩,⟨ob,h1⟩,fun g1 g2 ⟨z0,o,es,ep,q1,q2⟩ kk=>⟨z0,o,es,ep,kk o q1,q2⟩⟩,q _ (fun b z nb hb=>by rw [aK nb]; exact hb) ⟨_,aB,?_,?_⟩⟩
  ·exact Paired.snoc (kn.keep ne) ⟨rfl,hk.keep ne,rv⟩
  ·rw [List.length_append]
   show kvs.length + 1 ≤ 1000
   omega
def xY (P:Program) (w:World):TE:=fun _ H Q=>∀ p,H p = none → Q (.ref p) (upd H p (vv P w p []))
theorem rW {pos:Pos}:PE X (.Dict [] [] pos) (xY X.prog X.w):=by
 unfold PE at *
 exact by
  intro pins s σ H Q I h
  have hne:(s.heap.objs.size == sysModules) = false:=beq_eq_false_iff_ne.mpr (Ne.symm (Nat.ne_of_lt I.big))
  have e1:(s.heap.push { cls:=.type "dict",data:=.dict #[] }).get? s.heap.objs.size = some { cls:=.type "dict",data:=.dict #[] }:=Heap.get?_push_size s.heap rfl
  exact wpAny_Dict_empty ⟨.ref s.heap.objs.size,_,I.laid (a:=s.heap.objs.size) (o:=vv X.prog X.w s.heap.objs.size []) (t':=s.toks) (fun _ _ q=>Heap.get?_push_of_some _ q) (Nat.le_refl _) ⟨⟨hne,_,_,_,e1,⟨rfl,rfl,rfl⟩,rfl,rfl,List.nodup_nil⟩,⟨_,e1⟩,fun g1 g2 ⟨z0,o,es,ep,q1,q2⟩ kk=>⟨z0,o,es,ep,kk o q1,q2⟩⟩,rfl,h _ (I.hok.fresh (Nat.le_refl _))⟩
end
end L2
namespace L2
open PySem PySem.Spec PyProof.Rows
section
variable {X:Cx}
end
end L2
namespace L2
open PySem PySem.Spec PyProof.Rows
section
variable {X:Cx}
def vF (x:V) (vs:List V) (H:Hp) (Q:VK):Prop:=∃ l xs,∃ i:Int,∃ k:Nat,∃ y,x = .ref l ∧ vs = [.int i,y] ∧ i = k ∧ H l = some (.lst xs) ∧ k ≤ xs.length ∧ xs.length + 1 ≤ sizeLine ∧ Q .bA (upd H l (.lst (xs.take k ++ y :: xs.drop k)))
theorem qh (ai:List Value) (k:Nat) (u:Value) (h:k ≤ ai.length):(ai.toArray.extract 0 k).push u ++ ai.toArray.extract k = (ai.take k ++ u :: ai.drop k).toArray:=by
 apply Array.toList_inj.mp
 simp
 rw [List.take_of_length_le (by rw [List.length_drop]; omega)]
theorem qv:mR X "list.insert" vF:=by
 unfold mR at *
 exact by
  intro pins s σ H x vs v us Q I rx rv h
  obtain ⟨l,xs,i,k,y,rfl,rfl,hi,hH,hk,hz,q⟩:=h
  cases rx
  obtain ⟨u1,u,rfl,ru1,ru⟩:=rv.two
  obtain ⟨t,rfl⟩:=ru1
  obtain ⟨z,ai,n,r,hl,e⟩:=I.ql hH
  have hs:sizeLine < 2 ^ 62:=by decide
  have hb:i < 2 ^ 63:=by omega
  have fit:Builtin.List.listFitsIndex i = true:=fitsIndex_both (by omega) hb
  have M:=PySem.AutoSeq1.list_insert_list_int_val_1 l ai.toArray n i t u (by rw [fit]; exact Bool.noConfusion) (by rw [List.size_toArray]; omega)
  refine call_meets F.slot_list_insert ⟨_,e,rfl⟩ F.entry_list_insert (F.args_list_insert_3 _ _ _) M ⟨e,?_⟩
  refine ⟨.bA,_,I.wA (its':=ai.take k ++ u :: ai.drop k) hH e ?_ ((r.take k).append (.cons ru (r.drop k))) ?_,rfl,q⟩
  ·show (ai.toArray.extract 0 (if i < 0 then (i + (ai.toArray.size:Int)).toNat else min i.toNat ai.toArray.size)).push u ++ ai.toArray.extract (if i < 0 then (i + (ai.toArray.size:Int)).toNat else min i.toNat ai.toArray.size) = _
   rw [if_neg (by omega),List.size_toArray,hi,Int.toNat_natCast,Nat.min_eq_left (by omega)]
   exact qh ai k u (by omega)
  ·rw [List.length_append,List.length_cons,List.length_take,List.length_drop]
   omega
end
end L2
set_option maxHeartbeats 200000
namespace My
open PySem L2
local macro_rules | `(tactic| walk_at "rd")=>`(tactic| repeat (first
 | refine ⟨_,rfl,?_⟩
 | refine ⟨_,_,rfl,rfl,?_⟩
 | refine ⟨_,_,rfl,?_⟩
 | refine ⟨(by show (0:Int) < _; decide),?_⟩
 | refine ⟨(⟨by decide,by decide⟩:yW _ _),?_⟩
 | refine ⟨(⟨by decide,by decide⟩:yd _ _),?_⟩
 | refine ⟨(⟨by decide,by decide,by decide⟩:yT _ _),?_⟩
 | refine ⟨(.inr ⟨by decide,by decide⟩:tQ _ _),?_⟩
 | refine ⟨(.inl ⟨by decide,by decide⟩:tQ _ _),?_⟩
 | refine ⟨Own.int,?_⟩
 | refine ⟨Own.bl,?_⟩
 | refine ⟨Own.str,?_⟩
 | refine ⟨Own.bA,?_⟩
 | refine ⟨rfl,?_⟩))
def AJ:V → Bool
 | .int _=>true
 | _=>false
def inR (m:Int):V → Bool
 | .int i=>decide (1 ≤ i) && decide (i ≤ m)
 | _=>false
def AI (K:W.Frag):Sp:=fun vs H Q _=>∃ x,vs = [x] ∧ Own K H x ∧ Q (.bl (AJ x)) H
def zj (K:W.Frag) (m:Int):Sp:=fun vs H Q _=>∃ x,vs = [x] ∧ Own K H x ∧ Q (.bl (inR m x)) H
def tL:List V:=[.str "genus",.str "species",.str "form"]
def dO (c:Nat):Bool:=decide (97 ≤ c) && decide (c ≤ 122)
def isWord:V → Bool
 | .str z=>(decide (1 ≤ (z.length:Int)) && decide ((z.length:Int) ≤ 12)) && z.cps.toList.all dO
 | _=>false
theorem eU (z:Str):isWord (.str z) = ((decide (1 ≤ (z.length:Int)) && decide ((z.length:Int) ≤ 12)) && z.cps.toList.all dO):=rfl
def fL:V → Bool
 | .str z=>vo (.str z) tL
 | _=>false
def fits:V → Prop
 | .str z=>z.length ≤ sizeLine
 | _=>True
def xA (K:W.Frag):Sp:=fun vs H Q _=>∃ x,vs = [x] ∧ Own K H x ∧ fits x ∧ ∀ H',aH H H' → Q (.bl (isWord x)) H'
def wG (K:W.Frag):Sp:=fun vs H Q _=>∃ x,vs = [x] ∧ Own K H x ∧ Q (.bl (fL x)) H
theorem sZ (a c:Nat):(!decide ((⟨#[c]⟩:Str).cps.toList < (⟨#[a]⟩:Str).cps.toList)) = decide (a ≤ c):=by
 have e:((⟨#[c]⟩:Str).cps.toList < (⟨#[a]⟩:Str).cps.toList) ↔ c < a:=by
  show [c] < [a] ↔ c < a
  rw [List.cons_lt_cons_iff]
  simp
 by_cases h:c < a
 ·rw [decide_eq_true (e.mpr h),decide_eq_false (by omega)]; rfl
 ·rw [decide_eq_false (fun z=>h (e.mp z)),decide_eq_true (by omega)]; rfl
theorem zD (c:Nat):(!decide ((⟨#[c]⟩:Str).cps.toList < (Str.ofString "a").cps.toList)) = decide (97 ≤ c):=sZ 97 c
theorem zF (c:Nat):(!decide ((Str.ofString "z").cps.toList < (⟨#[c]⟩:Str).cps.toList)) = decide (c ≤ 122):=sZ c 122
theorem take_one {α:Type} {l:List α} {i:Nat} {x:α} (h:l[i]? = some x):l.take (i + 1) = l.take i ++ [x]:=by
 rw [List.take_succ,h]; rfl
def bO (r u:V):Bool:=if r = .str "genus" then decide (u = .bA) else inR 1000000000 u
def bV (r s b:V):Bool:=if b = .bA then inR 1000000000 s else (!decide (r = .str "genus")) && (decide (s = .bA) && inR 1000000000 b)
def eY (n d r w:V):Nat:=if inR 1000000000 n = false then 1 else if inR 1000000 d = false then 2 else if fL r = false then 3 else if isWord w = false then 4 else 0
def why (n d r w u s b:V):Nat:=if eY n d r w ≠ 0 then eY n d r w else if bO r u = false then 5 else if bV r s b = false then 5 else 0
set_option genInjectivity false in
set_option genSizeOfSpec false in
set_option genSizeOf false in
structure Ex where
 c1:Addr
 c2:Addr
 c3:Addr
 c4:Addr
 c5:Addr
def Ex.at (x:Ex):Nat → Addr
 | 1=>x.c1
 | 2=>x.c2
 | 3=>x.c3
 | 4=>x.c4
 | _=>x.c5
def wb (K:W.Frag) (x:Ex):Sp:=fun vs H Q E=>∃ n d r w,vs = [n,d,r,w] ∧ Own K H n ∧ Own K H d ∧ Own K H r ∧ Own K H w ∧ fits w ∧
 ∀ H',aH H H' → (eY n d r w = 0 → Q .bA H') ∧ (eY n d r w ≠ 0 → E (.ref (x.at (eY n d r w))) none H')
def uh (K:W.Frag):Sp:=fun vs H Q _=>∃ z u,vs = [.str z,u] ∧ Own K H u ∧ Q (.bl (bO (.str z) u)) H
def ye (K:W.Frag):Sp:=fun vs H Q _=>∃ z s b,vs = [.str z,s,b] ∧ Own K H s ∧ Own K H b ∧ Q (.bl (bV (.str z) s b)) H
def fields (n d r w u s b k:V):List (Str × V):=[("number",n),("day",d),("rank",r),("word",w),("under",u),("sheet",s),("base",b),("described",k)]
def wH (K:W.Frag) (C:Addr) (x:Ex):Sp:=fun vs H Q E=>∃ a dx n d r w u s b k,vs = [.ref a,n,d,r,w,u,s,b,k] ∧ H a = some (.ins C dx []) ∧ Own K H n ∧ Own K H d ∧ Own K H r ∧ Own K H w ∧ fits w ∧ Own K H u ∧ Own K H s ∧ Own K H b ∧
 ∀ H',aH H H' → (why n d r w u s b = 0 → Q .bA (upd H' a (.ins C dx (fields n d r w u s b k)))) ∧ (why n d r w u s b ≠ 0 → E (.ref (x.at (why n d r w u s b))) none H')
theorem aH.upd {H H':Hp} {p:Addr} {o:HO} (e:aH H H') (h:H p = none):aH H (L2.upd H' p o):=fun b u q=>by
 rw [aK (aM q h)]
 exact e b u q
theorem ua (u:V):bO (.str "genus") u = decide (u = .bA):=by unfold bO; rw [if_pos rfl]
theorem pV {z:Str} (h:z ≠ "genus") (u:V):bO (.str z) u = inR 1000000000 u:=by unfold bO; rw [if_neg (fun q=>h (V.str.inj q))]
theorem vq (r s:V):bV r s .bA = inR 1000000000 s:=by unfold bV; rw [if_pos rfl]
theorem yE {b:V} (r s:V) (h:b ≠ .bA):bV r s b = ((!decide (r = .str "genus")) && (decide (s = .bA) && inR 1000000000 b)):=by unfold bV; rw [if_neg h]
theorem aH.made {H:Hp} {x dx:Addr} {o o':HO} (h1:H x = none) (h2:H dx = none) (ne:dx ≠ x):aH H (L2.upd (L2.upd H dx o) x o'):=fun b u q=>by
 rw [aK (aM q h1),aK (aM q h2)]
 exact q
structure En where
 n:Int
 d:Int
 r:Str
 w:Str
 u:Option Int
 s:Option Int
 b:Option Int
 k:Bool
def aq:Option Int → V
 | none=>.bA
 | some i=>.int i
def cL (e:En):List (Str × V):=fields (.int e.n) (.int e.d) (.str e.r) (.str e.w) (aq e.u) (aq e.s) (aq e.b) (.bl e.k)
def cn (H:Hp) (C:Addr) (v:V) (e:En):Prop:=∃ a dx,v = .ref a ∧ H a = some (.ins C dx (cL e))
def j3 (e:En):Prop:=why (.int e.n) (.int e.d) (.str e.r) (.str e.w) (aq e.u) (aq e.s) (aq e.b) = 0
def iw (x y:En):Bool:=HT.lexLt [x.d,x.n] [y.d,y.n]
theorem cn.same {H H':Hp} {C:Addr} {v:V} {e:En} (h:cn H C v e) (s:aH H H'):cn H' C v e:=let ⟨a,dx,e1,h1⟩:=h; ⟨a,dx,e1,s _ _ h1⟩
inductive w5 (K:W.Frag) (H:Hp) (C:Addr):V → Option En → Prop where
 | ent {v:V} {e:En} (h:cn H C v e):w5 K H C v (some e)
 | oth {v:V} {n:String} (t:dQ K H v (.type n)) (hn:W.kitOne K (.type n) (.ref C) = some false):w5 K H C v none
def ur (C:Addr):Sp:=fun vs H Q _=>∃ x y e f,vs = [x,y] ∧ cn H C x e ∧ cn H C y f ∧ ∀ H',aH H H' → Q (.bl (iw e f)) H'
def fK:Option En → En → Bool
 | none,_=>true
 | some l,e=>iw l e
def bZ:List Int → Option En → List (Option En) → Bool
 | _,_,[]=>true
 | _,_,none :: _=>false
 | seen,last,some e :: r=>!seen.contains e.n && (fK last e && bZ (seen ++ [e.n]) (some e) r)
def pj (K:W.Frag) (H:Hp) (C:Addr) (vs:List V) (is:List (Option En)):Prop:=vs.length = is.length ∧ ∀ (j:Nat) v i,vs[j]? = some v → is[j]? = some i → w5 K H C v i
def wj (K:W.Frag) (C X:Addr):Sp:=fun vs H Q E=>∃ x,vs = [x] ∧ ((∃ l ws is,x = .ref l ∧ H l = some (.lst ws) ∧ pj K H C ws is ∧ ws.length ≤ 1000 ∧ (bZ [] none is = true → ∀ q H',aH H H' → H q = none → H' q = some (.lst ws) → Q (.ref q) H') ∧ (bZ [] none is = false → ∀ H',aH H H' → E (.ref X) none H')) ∨
 ∃ n,dQ K H x (.type n) ∧ W.kitOne K (.type n) (.type "list") = some false ∧ ∀ H',aH H H' → E (.ref X) none H')
def fM (H:Hp) (C:Addr) (ws:List V) (es:List En):Prop:=ws.length = es.length ∧ ∀ (j:Nat) v e,ws[j]? = some v → es[j]? = some e → cn H C v e
theorem fM.same {H H':Hp} {C:Addr} {ws:List V} {es:List En} (h:fM H C ws es) (s:aH H H'):fM H' C ws es:=⟨h.1,fun j v e a b=>(h.2 j v e a b).same s⟩
theorem fM.ai {K:W.Frag} {H:Hp} {C:Addr} {ws:List V} {es:List En} (h:fM H C ws es):pj K H C ws (es.map some):=by
 refine ⟨by rw [List.length_map]; exact h.1,fun j v i hv hi=>?_⟩
 rw [List.getElem?_map] at hi
 cases e:es[j]? with
 | none=>rw [e] at hi; cases hi
 | some x=>rw [e] at hi; cases hi; exact .ent (h.2 j v x hv e)
def tR (K:W.Frag) (H:Hp) (C:Addr) (x:V):Prop:=(∃ l ws is,x = .ref l ∧ H l = some (.lst ws) ∧ pj K H C ws is ∧ ws.length ≤ 1000 ∧ bZ [] none is = false) ∨ ∃ n,dQ K H x (.type n) ∧ W.kitOne K (.type n) (.type "list") = some false
theorem uw (a b:Str) (f:Nat → Bool):(a ++ b).cps.toList.all f = (a.cps.toList.all f && b.cps.toList.all f):=by
 rw [Str.cps_append,Array.toList_append,List.all_append]
theorem gQ {K:W.Frag} {H:Hp} {n:Nat} {a b:Addr} {xs:List V} (ha:ao K H a xs) (hb:ao K H b []):bt K H (jO K H n) (.ref a) (.ref b) xs.isEmpty:=by
 cases xs with
 | nil=>exact .list (e:=fun _=>true) ha hb rfl fun i x y h=>(by rw [List.getElem?_nil] at h; cases h)
 | cons x r=>exact .listN ha hb (by intro z; cases z)
theorem vR (m i:Int):inR m (.int i) = (decide (1 ≤ i) && decide (i ≤ m)):=rfl
theorem dJ {m i:Int} (h1:1 ≤ i) (h2:i ≤ m):inR m (.int i) = true:=by rw [vR,decide_eq_true h1,decide_eq_true h2]; rfl
structure Rt where
 e:En
 nm:List Str
structure Rs where
 o:List (Int × Str)
 n:List (Int × Option (List Str))
 r:List Rt
def az (R:List Rt) (n:Int):Option Rt:=R.find? fun x=>decide (x.e.n = n)
def cI (r:Str):Str:=if r = Str.ofString "species" then Str.ofString "genus" else Str.ofString "species"
def bU (R:List Rt) (e:En):Option (List Str) :=
 if e.r = Str.ofString "genus" then some [e.w] else
  match az R (e.u.getD 0) with
  | none=>none
  | some x=>if x.e.r = cI e.r then some (x.nm ++ [e.w]) else none
def eW (R:List Rt) (nm:List Str):Str:=if R.any (fun x=>decide (x.nm = nm)) = true then Str.ofString "alike" else Str.ofString "right"
def fN (R:List Rt) (e:En) (b:Int) (nm:List Str):Str :=
 match az R b with
 | none=>Str.ofString "baseless"
 | some x=>if x.e.r ≠ e.r ∨ x.e.b ≠ none then Str.ofString "baseless" else if x.e.w ≠ e.w then Str.ofString "reworded" else eW R nm
def iC (R:List Rt) (e:En) (nm:Option (List Str)):Str :=
 if e.b = none ∧ e.k = false then Str.ofString "undescribed" else
  match nm with
  | none=>Str.ofString "unplaced"
  | some nm=>match e.b with
   | none=>eW R nm
   | some b=>fN R e b nm
def df (s:Rs) (e:En):Str:=iC s.r e (bU s.r e)
def bo (s:Rs) (e:En):Rs:=⟨s.o ++ [(e.n,df s e)],s.n ++ [(e.n,bU s.r e)],if df s e = Str.ofString "right" then s.r ++ [⟨e,(bU s.r e).getD []⟩] else s.r⟩
def aw (es:List En):Rs:=es.foldl bo ⟨[],[],[]⟩
theorem h7 (es:List En) (e:En):aw (es ++ [e]) = bo (aw es) e:=by unfold aw; rw [List.foldl_append]; rfl
def dR (R:List Rt) (x:Rt):En:=match x.e.b with | none=>x.e | some b=>((az R b).map (·.e)).getD x.e
def cH (r:Str):Nat:=if r = Str.ofString "genus" then 1 else if r = Str.ofString "species" then 2 else 3
structure kJ (s:Rs):Prop where
 nd:(s.o.map (·.1)).Nodup
 nk:s.n.map (·.1) = s.o.map (·.1)
 sub:∀ x ∈ s.r,x.e.n ∈ s.o.map (·.1)
 rn:(s.r.map (·.e.n)).Nodup
 nm:∀ x ∈ s.r,(x.e.n,some x.nm) ∈ s.n
 dp:∀ x ∈ s.r,x.nm.length = cH x.e.r
 bs:∀ x ∈ s.r,∀ b,x.e.b = some b → ∃ y,az s.r b = some y ∧ y.e.b = none ∧ y.e.r = x.e.r ∧ y.e.w = x.e.w
 ok:∀ x ∈ s.r,j3 x.e
theorem oU {xs ys:List Int}:∀ (nd:xs.Nodup) (h:∀ x ∈ xs,x ∈ ys),xs.length ≤ ys.length:=by
 induction xs generalizing ys with
 | nil=>intro _ _; exact Nat.zero_le _
 | cons x r ih =>
  intro nd h
  rw [List.nodup_cons] at nd
  have h1:=ih (ys:=ys.erase x) nd.2 fun y hy=>(List.mem_erase_of_ne (fun z=>nd.1 (by rw [← z]; exact hy))).mpr (h y (List.mem_cons_of_mem _ hy))
  have hx:=h x (List.mem_cons_self ..)
  rw [List.length_erase_of_mem hx] at h1
  have:0 < ys.length:=List.length_pos_of_mem hx
  rw [List.length_cons]
  omega
theorem eF {R:List Rt} {n:Int} {x:Rt} (h:az R n = some x):x ∈ R ∧ x.e.n = n:=⟨List.mem_of_find?_eq_some h,of_decide_eq_true (List.find?_some (p:=fun x:Rt=>decide (x.e.n = n)) h)⟩
theorem hX {R Q:List Rt} {n:Int} {x:Rt} (h:az R n = some x):az (R ++ Q) n = some x:=by
 unfold az at h ⊢
 rw [List.find?_append,h]
 rfl
theorem cV {R:List Rt} (nd:(R.map (·.e.n)).Nodup) {x:Rt} (hx:x ∈ R):az R x.e.n = some x:=by
 induction R with
 | nil=>cases hx
 | cons y r ih =>
  rw [List.map_cons,List.nodup_cons] at nd
  unfold az
  rcases List.mem_cons.mp hx with e | e
  ·subst e
   rw [List.find?_cons_of_pos (p:=fun y:Rt=>decide (y.e.n = x.e.n)) (decide_eq_true rfl)]
  ·have ne:y.e.n ≠ x.e.n:=fun z=>nd.1 (by rw [z]; exact List.mem_map_of_mem e)
   rw [List.find?_cons_of_neg (p:=fun y:Rt=>decide (y.e.n = x.e.n)) (by rw [decide_eq_false ne]; decide)]
   exact ih nd.2 e
theorem fZ {e:En} (h:j3 e):e.r = Str.ofString "genus" ∨ e.r = Str.ofString "species" ∨ e.r = Str.ofString "form" := by
 unfold j3 why at h
 by_cases h1:eY (.int e.n) (.int e.d) (.str e.r) (.str e.w) = 0
 ·unfold eY at h1
  by_cases a1:inR 1000000000 (V.int e.n) = false
  ·rw [if_pos a1] at h1; cases h1
  ·rw [if_neg a1] at h1
   by_cases a2:inR 1000000 (V.int e.d) = false
   ·rw [if_pos a2] at h1; cases h1
   ·rw [if_neg a2] at h1
    by_cases a3:fL (V.str e.r) = false
    ·rw [if_pos a3] at h1; cases h1
    ·have a4:fL (V.str e.r) = true:=by cases q:fL (V.str e.r) with | true=>rfl | false=>exact absurd q a3
     have a5:vo (.str e.r) tL = true:=a4
     have a6:(iS (.str (Str.ofString "genus")) (.str e.r) || (iS (.str (Str.ofString "species")) (.str e.r) || (iS (.str (Str.ofString "form")) (.str e.r) || false))) = true:=a5
     simp [iS] at a6
     rcases a6 with q | q | q
     ·exact .inl q.symm
     ·exact .inr (.inl q.symm)
     ·exact .inr (.inr q.symm)
 ·rw [if_pos h1] at h
  exact absurd h h1
theorem vf {e:En} (h:j3 e) (hr:e.r ≠ Str.ofString "genus"):∃ u,e.u = some u:=by
 unfold j3 why at h
 by_cases h1:eY (.int e.n) (.int e.d) (.str e.r) (.str e.w) ≠ 0
 ·rw [if_pos h1] at h; exact absurd h h1
 ·rw [if_neg h1] at h
  by_cases h2:bO (.str e.r) (aq e.u) = false
  ·rw [if_pos h2] at h; cases h
  ·rw [pV hr] at h2
   cases hu:e.u with
   | none=>rw [hu] at h2; exact absurd rfl h2
   | some u=>exact ⟨u,rfl⟩
theorem sS {e:En} (h:j3 e):isWord (.str e.w) = true:=by
 unfold j3 why at h
 by_cases h1:eY (.int e.n) (.int e.d) (.str e.r) (.str e.w) = 0
 ·unfold eY at h1
  cases q:isWord (V.str e.w) with
  | true=>rfl
  | false =>
   exfalso
   by_cases a1:inR 1000000000 (V.int e.n) = false
   ·rw [if_pos a1] at h1; cases h1
   ·rw [if_neg a1] at h1
    by_cases a2:inR 1000000 (V.int e.d) = false
    ·rw [if_pos a2] at h1; cases h1
    ·rw [if_neg a2] at h1
     by_cases a3:fL (V.str e.r) = false
     ·rw [if_pos a3] at h1; cases h1
     ·rw [if_neg a3,if_pos q] at h1; cases h1
 ·rw [if_pos h1] at h
  exact absurd h h1
theorem kc {R:List Rt} {e:En} {nm:Option (List Str)} (h:iC R e nm = Str.ofString "right"):∃ z,nm = some z ∧ R.any (fun x=>decide (x.nm = z)) = false ∧ ∀ b,e.b = some b → ∃ y,az R b = some y ∧ y.e.b = none ∧ y.e.r = e.r ∧ y.e.w = e.w:=by
 have al:∀ z,eW R z = Str.ofString "right" → R.any (fun x=>decide (x.nm = z)) = false:=fun z hz=>by
  unfold eW at hz
  cases q:R.any (fun x=>decide (x.nm = z)) with
  | false=>rfl
  | true=>rw [q,if_pos rfl] at hz; exact absurd hz (by decide +kernel)
 unfold iC at h
 by_cases h1:e.b = none ∧ e.k = false
 ·rw [if_pos h1] at h; exact absurd h (by decide +kernel)
 ·rw [if_neg h1] at h
  cases nm with
  | none =>
   have h:Str.ofString "unplaced" = Str.ofString "right" := h
   exact absurd h (by decide +kernel)
  | some z =>
   cases hb:e.b with
   | none =>
    rw [hb] at h
    exact ⟨z,rfl,al z h,fun b q=>nomatch q⟩
   | some b =>
    rw [hb] at h
    have h:fN R e b z = Str.ofString "right" := h
    unfold fN at h
    cases hf:az R b with
    | none =>
     rw [hf] at h
     have h:Str.ofString "baseless" = Str.ofString "right" := h
     exact absurd h (by decide +kernel)
    | some y =>
     rw [hf] at h
     have h:(if y.e.r ≠ e.r ∨ y.e.b ≠ none then Str.ofString "baseless" else if y.e.w ≠ e.w then Str.ofString "reworded" else eW R z) = Str.ofString "right" := h
     by_cases h2:y.e.r ≠ e.r ∨ y.e.b ≠ none
     ·rw [if_pos h2] at h; exact absurd h (by decide +kernel)
     ·rw [if_neg h2] at h
      by_cases h3:y.e.w ≠ e.w
      ·rw [if_pos h3] at h; exact absurd h (by decide +kernel)
      ·rw [if_neg h3] at h
       refine ⟨z,rfl,al z h,fun b' q=>?_⟩
       cases Option.some.inj q
       refine ⟨y,hf,?_,?_,?_⟩
       ·exact Decidable.of_not_not fun q=>h2 (.inr q)
       ·exact Decidable.of_not_not fun q=>h2 (.inl q)
       ·exact Decidable.of_not_not h3
theorem mK {R:List Rt} {e:En} {z:List Str} (h:bU R e = some z) (ok:j3 e) (dp:∀ x ∈ R,x.nm.length = cH x.e.r):z.length = cH e.r:=by
 unfold bU at h
 by_cases h1:e.r = Str.ofString "genus"
 ·rw [if_pos h1] at h
  cases h
  unfold cH
  rw [if_pos h1]
  rfl
 ·rw [if_neg h1] at h
  cases hf:az R (e.u.getD 0) with
  | none=>rw [hf] at h; cases h
  | some x =>
   rw [hf] at h
   have h:(if x.e.r = cI e.r then some (x.nm ++ [e.w]) else none) = some z:=h
   by_cases h2:x.e.r = cI e.r
   ·rw [if_pos h2] at h
    cases h
    have hl:=dp x (eF hf).1
    rw [List.length_append,hl,h2]
    rcases fZ ok with q | q | q
    ·exact absurd q h1
    ·rw [q]
     show cH (cI (Str.ofString "species")) + 1 = _
     decide +kernel
    ·rw [q]
     show cH (cI (Str.ofString "form")) + 1 = _
     decide +kernel
   ·rw [if_neg h2] at h; cases h
theorem kJ.nil:kJ ⟨[],[],[]⟩:=⟨List.nodup_nil,rfl,fun _ h=>(nomatch h),List.nodup_nil,fun _ h=>(nomatch h),fun _ h=>(nomatch h),fun _ h=>(nomatch h),fun _ h=>(nomatch h)⟩
theorem kJ.step {s:Rs} {e:En} (h:kJ s) (ok:j3 e) (fr:e.n ∉ s.o.map (·.1)):kJ (bo s e):=by
 have nd:((bo s e).o.map (·.1)).Nodup:=by
  show ((s.o ++ [(e.n,df s e)]).map (·.1)).Nodup
  rw [List.map_append,List.nodup_append]
  exact ⟨h.nd,List.nodup_cons.mpr ⟨List.not_mem_nil,List.nodup_nil⟩,fun x hx y hy z=>fr (by rw [z,(List.mem_singleton.mp hy:y = e.n)] at hx; exact hx)⟩
 have nk:(bo s e).n.map (·.1) = (bo s e).o.map (·.1):=by
  show (s.n ++ [(e.n,bU s.r e)]).map (·.1) = (s.o ++ [(e.n,df s e)]).map (·.1)
  rw [List.map_append,List.map_append,h.nk]
  rfl
 have up:∀ x ∈ s.r,x.e.n ∈ (bo s e).o.map (·.1):=fun x hx=>by
  show _ ∈ (s.o ++ [(e.n,df s e)]).map (·.1)
  rw [List.map_append]
  exact List.mem_append_left _ (h.sub x hx)
 by_cases hr:df s e = Str.ofString "right"
 ·obtain ⟨z,hz,_,hb⟩:=kc hr
  have er:(bo s e).r = s.r ++ [⟨e,z⟩]:=by
   show (if df s e = Str.ofString "right" then s.r ++ [⟨e,(bU s.r e).getD []⟩] else s.r) = _
   rw [if_pos hr,hz]
   rfl
  have frr:e.n ∉ s.r.map (·.e.n):=fun q=>by
   obtain ⟨x,hx,ex⟩:=List.mem_map.mp q
   exact fr (ex ▸ h.sub x hx)
  refine ⟨nd,nk,?_,?_,?_,?_,?_,?_⟩ <;> rw [er]
  ·intro x hx
   rcases List.mem_append.mp hx with q | q
   ·exact up x q
   ·rw [List.mem_singleton.mp q]
    show _ ∈ (s.o ++ [(e.n,df s e)]).map (·.1)
    rw [List.map_append]
    exact List.mem_append_right _ (List.mem_singleton.mpr rfl)
  ·rw [List.map_append,List.nodup_append]
   exact ⟨h.rn,List.nodup_cons.mpr ⟨List.not_mem_nil,List.nodup_nil⟩,fun x hx y hy q=>frr (by rw [q,(List.mem_singleton.mp hy:y = e.n)] at hx; exact hx)⟩
  ·intro x hx
   show _ ∈ s.n ++ [(e.n,bU s.r e)]
   rcases List.mem_append.mp hx with q | q
   ·exact List.mem_append_left _ (h.nm x q)
   ·rw [List.mem_singleton.mp q,hz]
    exact List.mem_append_right _ (List.mem_singleton.mpr rfl)
  ·intro x hx
   rcases List.mem_append.mp hx with q | q
   ·exact h.dp x q
   ·rw [List.mem_singleton.mp q]
    exact mK hz ok h.dp
  ·intro x hx b hxb
   rcases List.mem_append.mp hx with q | q
   ·obtain ⟨y,hy,r⟩:=h.bs x q b hxb
    exact ⟨y,hX hy,r⟩
   ·rw [List.mem_singleton.mp q] at hxb ⊢
    obtain ⟨y,hy,r⟩:=hb b hxb
    exact ⟨y,hX hy,r⟩
  ·intro x hx
   rcases List.mem_append.mp hx with q | q
   ·exact h.ok x q
   ·rw [List.mem_singleton.mp q]; exact ok
 ·have er:(bo s e).r = s.r:=by
   show (if df s e = Str.ofString "right" then s.r ++ [⟨e,(bU s.r e).getD []⟩] else s.r) = _
   rw [if_neg hr]
  refine ⟨nd,nk,?_,?_,?_,?_,?_,?_⟩ <;> rw [er]
  ·exact up
  ·exact h.rn
  ·intro x hx
   show _ ∈ s.n ++ [(e.n,bU s.r e)]
   exact List.mem_append_left _ (h.nm x hx)
  ·exact h.dp
  ·exact h.bs
  ·exact h.ok
theorem eG:∀ (es:List En),(aw es).o.map (·.1) = es.map (·.n):=by
 intro es
 unfold aw
 have:∀ (es:List En) (s:Rs),(es.foldl bo s).o.map (·.1) = s.o.map (·.1) ++ es.map (·.n):=by
  intro es
  induction es with
  | nil=>intro s; rw [List.foldl_nil,List.map_nil,List.append_nil]
  | cons e r ih =>
   intro s
   rw [List.foldl_cons,ih]
   show (s.o ++ [(e.n,df s e)]).map (·.1) ++ _ = _
   rw [List.map_append,List.append_assoc]
   rfl
 exact this es ⟨[],[],[]⟩
theorem m4 {es:List En} (ok:∀ e ∈ es,j3 e) (nd:(es.map (·.n)).Nodup):∀ i,i ≤ es.length → kJ (aw (es.take i)):=by
 intro i
 induction i with
 | zero=>intro _; exact kJ.nil
 | succ i ih =>
  intro hi
  have e1:es[i]? = some es[i]:=List.getElem?_eq_getElem (by omega)
  rw [take_one e1,h7]
  refine (ih (by omega)).step (ok _ (List.getElem_mem _)) fun z=>?_
  rw [eG] at z
  have:=nd
  have e2:es.map (·.n) = (es.take i).map (·.n) ++ es[i].n :: (es.drop (i + 1)).map (·.n):=by
   rw [← List.map_cons,List.getElem_cons_drop,← List.map_append,List.take_append_drop]
  rw [e2,List.nodup_append] at this
  exact this.2.2 _ z _ (List.mem_cons_self ..) rfl
theorem jh:∀ {es:List En} {seen:List Int} {last:Option En},bZ seen last (es.map some) = true → (es.map (·.n)).Nodup ∧ ∀ e ∈ es,e.n ∉ seen
 | [],_,_,_=>⟨List.nodup_nil,fun _ h=>nomatch h⟩
 | e :: r,seen,last,h=>by
  have h:(!seen.contains e.n && (fK last e && bZ (seen ++ [e.n]) (some e) (r.map some))) = true:=h
  rw [Bool.and_eq_true,Bool.and_eq_true] at h
  obtain ⟨h1,_,h2⟩:=h
  obtain ⟨i1,i2⟩:=jh h2
  have n1:e.n ∉ seen:=fun z=>by
   rw [List.contains_iff_mem.mpr z] at h1
   cases h1
  refine ⟨List.nodup_cons.mpr ⟨fun z=>?_,i1⟩,fun x hx=>?_⟩
  ·obtain ⟨x,hx,ex⟩:=List.mem_map.mp z
   exact i2 x hx (ex ▸ List.mem_append_right _ (List.mem_singleton.mpr rfl))
  ·rcases List.mem_cons.mp hx with q | q
   ·rw [q]; exact n1
   ·exact fun z=>i2 x q (List.mem_append_left _ z)
structure RA where
 a:Addr
 dx:Addr
 o1:Addr
 o2:Addr
 o3:Addr
 o4:Addr
def kF (H:Hp) (v:V) (nm:Option (List Str)):Prop:=match nm with | none=>v = .bA | some z=>∃ t,v = .ref t ∧ H t = some (.tup (z.map V.str))
theorem kF.same {H H':Hp} {v:V} {nm:Option (List Str)} (h:kF H v nm) (s:∀ t xs,H t = some (.tup xs) → H' t = some (.tup xs)):kF H' v nm:=by
 cases nm with
 | none=>exact h
 | some z=>obtain ⟨t,e,h⟩:=h; exact ⟨t,e,s _ _ h⟩
theorem cn.keep {H H':Hp} {C:Addr} {v:V} {e:En} (h:cn H C v e) (s:∀ t dx fs,H t = some (.ins C dx fs) → H' t = some (.ins C dx fs)):cn H' C v e:=let ⟨a,dx,e1,h1⟩:=h; ⟨a,dx,e1,s _ _ _ h1⟩
def zU (A:RA):List (Str × V):=[("outs",.ref A.o1),("names",.ref A.o2),("rights",.ref A.o3),("holders",.ref A.o4)]
def rH (H:Hp) (CE:Addr) (x:Rt) (q:Key × V):Prop:=q.1 = Sum.inl x.e.n ∧ cn H CE q.2 x.e
def v7 (H:Hp) (CE:Addr) (x:Rt) (q:List Key × V):Prop:=q.1 = x.nm.map Sum.inr ∧ cn H CE q.2 x.e
def qA (H:Hp) (x:Int × Option (List Str)) (q:Key × V):Prop:=q.1 = Sum.inl x.1 ∧ kF H q.2 x.2
def gJ (s:Rs):List (Key × V):=s.o.map fun p=>(Sum.inl p.1,.str p.2)
structure gH (H:Hp) (CR CE:Addr) (A:RA) (s:Rs):Prop where
 at_:H A.a = some (.ins CR A.dx (zU A))
 outs:H A.o1 = some (.dK (gJ s))
 names:∃ kn,H A.o2 = some (.dK kn) ∧ Paired (qA H) s.n kn
 rights:∃ kr,H A.o3 = some (.dK kr) ∧ Paired (rH H CE) s.r kr
 holders:∃ kh,H A.o4 = some (.dT kh) ∧ Paired (v7 H CE) s.r kh
 d12:A.o1 ≠ A.o2
 d13:A.o1 ≠ A.o3
 d23:A.o2 ≠ A.o3
def uH (A:RA) (H H':Hp):Prop:=∀ b u,b ≠ A.o1 → b ≠ A.o2 → b ≠ A.o3 → b ≠ A.o4 → H b = some u → H' b = some u
theorem gH.same {H H':Hp} {CR CE:Addr} {A:RA} {s:Rs} (h:gH H CR CE A s) (sm:aH H H'):gH H' CR CE A s:=by
 obtain ⟨a,b,⟨kn,n1,n2⟩,⟨kr,r1,r2⟩,⟨kh,h1,h2⟩,d1,d2,d3⟩:=h
 exact ⟨sm _ _ a,sm _ _ b,⟨kn,sm _ _ n1,Paired.fG n2 fun x q z=>⟨z.1,z.2.same fun t xs e=>sm _ _ e⟩⟩,⟨kr,sm _ _ r1,Paired.fG r2 fun x q z=>⟨z.1,z.2.same sm⟩⟩,⟨kh,sm _ _ h1,Paired.fG h2 fun x q z=>⟨z.1,z.2.same sm⟩⟩,d1,d2,d3⟩
theorem uH.refl (A:RA) (H:Hp):uH A H H:=fun b u _ _ _ _ h=>h
theorem uH.trans {A:RA} {H H1 H2:Hp} (a:uH A H H1) (b:uH A H1 H2):uH A H H2:=fun c u n1 n2 n3 n4 h=>b c u n1 n2 n3 n4 (a c u n1 n2 n3 n4 h)
theorem aH.AH {A:RA} {H H':Hp} (s:aH H H'):uH A H H':=fun b u _ _ _ _ h=>s b u h
theorem gk {H:Hp} {CE:Addr} {R:List Rt} {kr:List (Key × V)} (h:Paired (rH H CE) R kr) (n:Int):(az R n = none ∧ bS kr (Sum.inl n) = none) ∨ ∃ x v,az R n = some x ∧ bS kr (Sum.inl n) = some v ∧ cn H CE v x.e:=by
 induction h with
 | nil=>exact .inl ⟨rfl,rfl⟩
 | @cons x q R kr hq t ih =>
  obtain ⟨h1,h2⟩:=hq
  by_cases e:x.e.n = n
  ·refine .inr ⟨x,q.2,?_,?_,h2⟩
   ·unfold az; rw [List.find?_cons_of_pos (p:=fun y:Rt=>decide (y.e.n = n)) (decide_eq_true e)]
   ·rw [bQ (by rw [h1,e])]
  ·have e1:az (x :: R) n = az R n:=by unfold az; rw [List.find?_cons_of_neg (p:=fun y:Rt=>decide (y.e.n = n)) (by rw [decide_eq_false e]; decide)]
   rw [e1,bI (by rw [h1]; exact fun z=>e (Sum.inl.inj z))]
   exact ih
theorem sI {H:Hp} {ns:List (Int × Option (List Str))} {kn:List (Key × V)} (h:Paired (qA H) ns kn) (nd:(ns.map (·.1)).Nodup) {n:Int} {nm:Option (List Str)} (hm:(n,nm) ∈ ns):∃ v,bS kn (Sum.inl n) = some v ∧ kF H v nm:=by
 induction h with
 | nil=>cases hm
 | @cons x q ns kn hq t ih =>
  obtain ⟨h1,h2⟩:=hq
  rw [List.map_cons,List.nodup_cons] at nd
  rcases List.mem_cons.mp hm with e | e
  ·subst e
   exact ⟨q.2,bQ (by rw [h1]),h2⟩
  ·have ne:x.1 ≠ n:=fun z=>nd.1 (by rw [z]; exact List.mem_map_of_mem (f:=fun p:Int × Option (List Str)=>p.1) e)
   rw [bI (by rw [h1]; exact fun z=>ne (Sum.inl.inj z))]
   exact ih nd.2 e
theorem gf:∀ {a b:List Str},a.map (Sum.inr:Str → Key) = b.map Sum.inr → a = b
 | [],[],_=>rfl
 | [],_ :: _,h=>by cases h
 | _ :: _,[],h=>by cases h
 | x :: a,y :: b,h=>by
  rw [List.map_cons,List.map_cons] at h
  injection h with h1 h2
  rw [Sum.inr.inj h1,gf h2]
theorem kC {H:Hp} {CE:Addr} {R:List Rt} {kh:List (List Key × V)} (h:Paired (v7 H CE) R kh) (z:List Str):(bS kh (z.map Sum.inr)).isSome = R.any (fun x=>decide (x.nm = z)):=by
 induction h with
 | nil=>rfl
 | @cons x q R kh hq t ih =>
  obtain ⟨h1,h2⟩:=hq
  rw [List.any_cons]
  by_cases e:x.nm = z
  ·rw [bQ (by rw [h1,e]),decide_eq_true e]; rfl
  ·rw [bI (by rw [h1]; exact fun q=>e (gf q)),decide_eq_false e,Bool.false_or]
   exact ih
theorem qX {s:Rs} {n:Int} (h:n ∉ s.o.map (·.1)):bS (gJ s) (Sum.inl n) = none:=by
 unfold gJ
 generalize s.o = l at h
 induction l with
 | nil=>rfl
 | cons p r ih =>
  rw [List.map_cons] at h ⊢
  rw [bI (fun z=>h (by rw [← Sum.inl.inj z]; exact List.mem_cons_self ..))]
  exact ih fun z=>h (List.mem_cons_of_mem _ z)
theorem fj {κ:Type} [DecidableEq κ] {kvs:List (κ × V)} {k:κ} {v:V} (h:bS kvs k = none):putK kvs k v = kvs ++ [(k,v)]:=by
 unfold putK
 rw [if_neg (by rw [eQ,h]; decide)]
theorem o9 {H:Hp} {ns:List (Int × Option (List Str))} {kn:List (Key × V)} (h:Paired (qA H) ns kn) {n:Int} (hm:n ∉ ns.map (·.1)):bS kn (Sum.inl n) = none:=by
 induction h with
 | nil=>rfl
 | @cons x q ns kn hq t ih =>
  rw [List.map_cons] at hm
  rw [bI (by rw [hq.1]; exact fun z=>hm (by rw [← Sum.inl.inj z]; exact List.mem_cons_self ..))]
  exact ih fun z=>hm (List.mem_cons_of_mem _ z)
theorem ko (z:List Str):(z.map (Sum.inr:Str → Key)).map kV = z.map V.str:=by rw [List.map_map]; rfl
def wN (K:W.Frag):Sp:=fun vs H Q _=>∃ z,vs = [.str z] ∧ (z = Str.ofString "species" ∨ z = Str.ofString "form") ∧ Q (.str (cI z)) H
def qW (CR CE:Addr):Sp:=fun vs H Q _=>∃ a dx,vs = [.ref a] ∧ H a = some (.ins CR dx []) ∧ ∀ A H',A.a = a → A.dx = dx → (∀ b u,b ≠ a → H b = some u → H' b = some u) → gH H' CR CE A ⟨[],[],[]⟩ → H A.o1 = none → H A.o2 = none → H A.o3 = none → H A.o4 = none → Q .bA H'
def tK (CR CE:Addr):Sp:=fun vs H Q _=>∃ A s v e,vs = [.ref A.a,v] ∧ gH H CR CE A s ∧ kJ s ∧ cn H CE v e ∧ j3 e ∧ ∀ w H',aH H H' → kF H' w (bU s.r e) → Q w H'
def uU (CR CE:Addr):Sp:=fun vs H Q _=>∃ A s v e w nm,vs = [.ref A.a,v,w] ∧ gH H CR CE A s ∧ cn H CE v e ∧ j3 e ∧ kF H w nm ∧ Q (.str (iC s.r e nm)) H
def xZ (CR CE:Addr):Sp:=fun vs H Q _=>∃ A s v e,vs = [.ref A.a,v] ∧ gH H CR CE A s ∧ kJ s ∧ cn H CE v e ∧ j3 e ∧ e.n ∉ s.o.map (·.1) ∧ s.o.length ≤ 1000 ∧ ∀ H',uH A H H' → gH H' CR CE A (bo s e) → Q (.str (df s e)) H'
def nF (CR CE:Addr):Sp:=fun vs H Q _=>∃ l ws es,vs = [.ref l] ∧ H l = some (.lst ws) ∧ fM H CE ws es ∧ (∀ e ∈ es,j3 e) ∧ (es.map (·.n)).Nodup ∧ ws.length ≤ 1000 ∧ ∀ A H',aH H H' → gH H' CR CE A (aw es) → H A.a = none → H A.o1 = none → H A.o2 = none → H A.o3 = none → H A.o4 = none → Q (.ref A.a) H'
def lY (H:Hp) (CE:Addr) (x:V) (es:List En):Prop:=∃ l ws,x = .ref l ∧ H l = some (.lst ws) ∧ fM H CE ws es ∧ (∀ e ∈ es,j3 e) ∧ ws.length ≤ 1000 ∧ bZ [] none (es.map some) = true
theorem lY.same {H H':Hp} {CE:Addr} {x:V} {es:List En} (h:lY H CE x es) (s:aH H H'):lY H' CE x es:=let ⟨l,ws,e,h1,h2,r⟩:=h; ⟨l,ws,e,s _ _ h1,h2.same s,r⟩
def gW:Option En → List En → Option En
 | o,[]=>o
 | _,x :: r=>gW (some x) r
theorem lT:∀ {es:List En} {o:Option En} {x:En},gW o es = some x → o = some x ∨ x ∈ es
 | [],_,_,h=>.inl h
 | y :: r,_,_,h=>by
  rcases lT (es:=r) h with q | q
  ·cases q; exact .inr (List.mem_cons_self ..)
  ·exact .inr (List.mem_cons_of_mem _ q)
theorem kj:∀ (es:List En) (seen:List Int) (last:Option En) (e:En),bZ seen last (es.map some) = true → e.n ∉ seen → (∀ x ∈ es,x.n ≠ e.n) → fK (gW last es) e = true → bZ seen last ((es ++ [e]).map some) = true
 | [],seen,last,e,_,h1,_,h3=>by
  show (!seen.contains e.n && (fK last e && true)) = true
  have h3:fK last e = true:=h3
  have h1':seen.contains e.n = false:=by
   cases q:seen.contains e.n with
   | false=>rfl
   | true=>exact absurd (List.contains_iff_mem.mp q) h1
  rw [h1',h3]
  rfl
 | x :: r,seen,last,e,h,h1,h2,h3=>by
  have h:(!seen.contains x.n && (fK last x && bZ (seen ++ [x.n]) (some x) (r.map some))) = true:=h
  show (!seen.contains x.n && (fK last x && bZ (seen ++ [x.n]) (some x) ((r ++ [e]).map some))) = true
  rw [Bool.and_eq_true,Bool.and_eq_true] at h ⊢
  refine ⟨h.1,h.2.1,kj r _ _ e h.2.2 (fun z=>?_) (fun y hy=>h2 y (List.mem_cons_of_mem _ hy)) h3⟩
  rcases List.mem_append.mp z with q | q
  ·exact h1 q
  ·exact h2 x (List.mem_cons_self ..) (List.mem_singleton.mp q).symm
theorem rF {x e:En} (hd:x.d ≤ e.d) (hn:x.n < e.n):iw x e = true:=by
 show (if x.d = e.d then (if x.n = e.n then false else decide (x.n < e.n)) else decide (x.d < e.d)) = true
 by_cases h:x.d = e.d
 ·rw [if_pos h,if_neg (by omega),decide_eq_true hn]
 ·rw [if_neg h,decide_eq_true (by omega)]
structure sN (es:List En) (n d:Int):Prop where
 bk:bZ [] none (es.map some) = true
 le:∀ e ∈ es,e.n ≤ n ∧ e.d ≤ d
theorem sN.nil (n d:Int):sN [] n d:=⟨rfl,fun _ h=>nomatch h⟩
theorem sN.add {es:List En} {n d:Int} {e:En} (h:sN es n d) (hn:n < e.n) (hd:d ≤ e.d):sN (es ++ [e]) e.n e.d:=by
 refine ⟨kj es [] none e h.bk List.not_mem_nil (fun x hx z=>by have:=(h.le x hx).1; omega) ?_,fun x hx=>?_⟩
 ·cases q:gW none es with
  | none=>rfl
  | some x =>
   rcases lT q with z | z
   ·cases z
   ·have:=h.le x z
    exact rF (by omega) (by omega)
 ·rcases List.mem_append.mp hx with q | q
  ·have:=h.le x q
   exact ⟨by omega,by omega⟩
  ·rw [List.mem_singleton.mp q]; exact ⟨Int.le_refl _,Int.le_refl _⟩
theorem x8 {e:En} (h1:inR 1000000000 (.int e.n) = true) (h2:inR 1000000 (.int e.d) = true) (h3:fL (.str e.r) = true) (h4:isWord (.str e.w) = true) (h5:bO (.str e.r) (aq e.u) = true) (h6:bV (.str e.r) (aq e.s) (aq e.b) = true):j3 e:=by
 have hw:eY (.int e.n) (.int e.d) (.str e.r) (.str e.w) = 0:=by
  unfold eY
  rw [if_neg (by rw [h1]; decide),if_neg (by rw [h2]; decide),if_neg (by rw [h3]; decide),if_neg (by rw [h4]; decide)]
 unfold j3 why
 rw [hw,if_neg (fun z=>z rfl),if_neg (by rw [h5]; decide),if_neg (by rw [h6]; decide)]
theorem qt {z:Str} (h:isWord (.str z) = true):z.length ≤ 12 ∧ 1 ≤ z.length ∧ z.cps.toList.all dO = true:=by
 rw [eU,Bool.and_eq_true,Bool.and_eq_true] at h
 have h1:=of_decide_eq_true h.1.1
 have h2:=of_decide_eq_true h.1.2
 exact ⟨by omega,by omega,h.2⟩
theorem qR {z:Str} (h1:1 ≤ z.length) (h2:z.length ≤ 12) (h3:z.cps.toList.all dO = true):isWord (.str z) = true:=by
 rw [eU,h3,decide_eq_true (by omega),decide_eq_true (by omega)]
 rfl
def vE (H:Hp) (v:V) (e:En):Prop:=∃ a s,v = .ref a ∧ e.s = some s ∧ H a = some (.lst [.int e.n,.int e.d,.str e.w,.int s,.bl e.k])
theorem vE.same {H H':Hp} {v:V} {e:En} (h:vE H v e) (s:aH H H'):vE H' v e:=let ⟨a,x,e1,e2,h1⟩:=h; ⟨a,x,e1,e2,s _ _ h1⟩
def uA (H:Hp) (ws:List V) (es:List En):Prop:=ws.length = es.length ∧ ∀ (j:Nat) v e,ws[j]? = some v → es[j]? = some e → vE H v e
theorem uA.same {H H':Hp} {ws:List V} {es:List En} (h:uA H ws es) (s:aH H H'):uA H' ws es:=⟨h.1,fun j v e a b=>(h.2 j v e a b).same s⟩
theorem i0 {α:Type} {P:V → α → Prop} {ws:List V} {es:List α} {w:V} {e:α} (h:ws.length = es.length ∧ ∀ (j:Nat) v e,ws[j]? = some v → es[j]? = some e → P v e) (hw:P w e):(ws ++ [w]).length = (es ++ [e]).length ∧ ∀ (j:Nat) v x,(ws ++ [w])[j]? = some v → (es ++ [e])[j]? = some x → P v x:=by
 refine ⟨by rw [List.length_append,List.length_append,h.1]; rfl,fun j v x hv hx=>?_⟩
 by_cases hj:j < ws.length
 ·rw [List.getElem?_append_left hj] at hv
  rw [List.getElem?_append_left (by rw [← h.1]; exact hj)] at hx
  exact h.2 j v x hv hx
 ·rw [List.getElem?_append_right (by omega)] at hv
  rw [List.getElem?_append_right (by rw [← h.1]; omega)] at hx
  obtain ⟨h1,e1⟩:=List.getElem?_eq_some_iff.mp hv
  have j0:j - ws.length = 0:=by simpa using h1
  rw [j0] at hv
  rw [← h.1,j0] at hx
  cases Option.some.inj hv
  cases Option.some.inj hx
  exact hw
def ve (K:W.Frag) (H:Hp) (ka kb:List (Key × V)):Prop:=ka.length = kb.length ∧ (∀ p ∈ ka,∃ y,bS kb p.1 = some y ∧ jO K H 2 p.2 y true) ∧ ∀ p ∈ ka,∃ n:Int,p.1 = Sum.inl n
theorem qU {kvs:List (Key × V)} (nd:(kvs.map (·.1)).Nodup) {p:Key × V} (h:p ∈ kvs):bS kvs p.1 = some p.2:=by
 induction kvs with
 | nil=>cases h
 | cons q r ih =>
  rw [List.map_cons,List.nodup_cons] at nd
  rcases List.mem_cons.mp h with e | e
  ·subst e; exact bQ rfl
  ·rw [bI (fun z=>nd.1 (by rw [z]; exact List.mem_map_of_mem (f:=fun p:Key × V=>p.1) e))]
   exact ih nd.2 e
theorem ve.refl {K:W.Frag} {H:Hp} {ka:List (Key × V)} (nd:(ka.map (·.1)).Nodup) (hf:∀ p ∈ ka,bq p.2 = true) (hn:∀ p ∈ ka,∃ n:Int,p.1 = Sum.inl n):ve K H ka ka :=
 ⟨rfl,fun p hp=>⟨p.2,qU nd hp,.inl (.inl ⟨hf p hp,hf p hp,(fW (hf p hp)).symm⟩)⟩,hn⟩
theorem xS {α:Type} {xs:List α} {i:Int} (h0:0 ≤ i) (h1:i < xs.length):∃ j v,j < xs.length ∧ xs[j]? = some v ∧ fQ xs i = some v ∧ uG xs.length i = some j:=by
 have hj:i.toNat < xs.length:=by omega
 refine ⟨i.toNat,xs[i.toNat],hj,List.getElem?_eq_getElem hj,qS h0 (List.getElem?_eq_getElem hj),?_⟩
 unfold uG
 rw [if_pos h0,if_pos h1]
def zL (e:En):List V:=[.int e.n,.int e.d,.str e.r,.str e.w,aq e.u,.bl e.k]
def uq (H:Hp) (v:V) (e:En):Prop:=∃ a,v = .ref a ∧ H a = some (.lst (zL e))
theorem uq.same {H H':Hp} {v:V} {e:En} (h:uq H v e) (s:aH H H'):uq H' v e:=let ⟨a,e1,h1⟩:=h; ⟨a,e1,s _ _ h1⟩
def rN (H:Hp) (ws:List V) (es:List En):Prop:=ws.length = es.length ∧ ∀ (j:Nat) v e,ws[j]? = some v → es[j]? = some e → uq H v e
theorem rN.same {H H':Hp} {ws:List V} {es:List En} (h:rN H ws es) (s:aH H H'):rN H' ws es:=⟨h.1,fun j v e a b=>(h.2 j v e a b).same s⟩
theorem cO {H G:Hp} {l:Addr} {o:HO} (h:H l = none) (s:aH H G):aH H (upd G l o):=fun b u hb=>by
 rw [aK (aM hb h)]
 exact s _ _ hb
def cx (e:En):List V:=[.int e.n,.int e.d,.str e.r,.str e.w,aq e.u,aq e.s,aq e.b,.bl e.k]
def pI (H:Hp) (v:V) (e:En):Prop:=∃ a,v = .ref a ∧ H a = some (.lst (cx e))
theorem pI.same {H H':Hp} {v:V} {e:En} (h:pI H v e) (s:aH H H'):pI H' v e:=let ⟨a,e1,h1⟩:=h; ⟨a,e1,s _ _ h1⟩
def oG (H:Hp) (ws:List V) (es:List En):Prop:=ws.length = es.length ∧ ∀ (j:Nat) v e,ws[j]? = some v → es[j]? = some e → pI H v e
theorem oG.same {H H':Hp} {ws:List V} {es:List En} (h:oG H ws es) (s:aH H H'):oG H' ws es:=⟨h.1,fun j v e a b=>(h.2 j v e a b).same s⟩
theorem iQ:∀ (es:List En) (o:Option En) (e:En),gW o (es ++ [e]) = some e
 | [],_,_=>rfl
 | x :: r,_,e=>iQ r (some x) e
theorem oG.last {H:Hp} {ws:List V} {es:List En} (h:oG H ws es) (hw:ws ≠ []):∃ e ra,gW none es = some e ∧ e ∈ es ∧ fQ ws (-1) = some (.ref ra) ∧ H ra = some (.lst (cx e)):=by
 have hl:=h.1
 have he:es ≠ []:=fun z=>hw (List.eq_nil_of_length_eq_zero (by rw [hl,z]; rfl))
 obtain ⟨w0,wv,rfl⟩:∃ w0 wv,ws = w0 ++ [wv]:=⟨_,_,(List.dropLast_concat_getLast hw).symm⟩
 obtain ⟨e0,ev,rfl⟩:∃ e0 ev,es = e0 ++ [ev]:=⟨_,_,(List.dropLast_concat_getLast he).symm⟩
 have hl0:w0.length = e0.length:=by
  rw [List.length_append,List.length_append] at hl
  exact Nat.succ.inj hl
 obtain ⟨ra,rfl,hr⟩:=h.2 w0.length wv ev (by simp) (by rw [hl0]; simp)
 exact ⟨ev,ra,iQ _ _ _,by simp,kY _ _,hr⟩
theorem pI.keep {H H':Hp} {v:V} {e:En} (h:pI H v e) (s:∀ t xs,H t = some (.lst xs) → H' t = some (.lst xs)):pI H' v e:=let ⟨a,e1,h1⟩:=h; ⟨a,e1,s _ _ h1⟩
theorem iA (es:List En):(∀ x ∈ (aw es).r,x.e ∈ es ∧ (x.e.n,Str.ofString "right") ∈ (aw es).o) ∧ ∀ e ∈ es,∃ o,(e.n,o) ∈ (aw es).o ∧ (o = Str.ofString "right" → ∃ x ∈ (aw es).r,x.e = e):=by
 have key:∀ n,∀ es:List En,es.length = n → (∀ x ∈ (aw es).r,x.e ∈ es ∧ (x.e.n,Str.ofString "right") ∈ (aw es).o) ∧ ∀ e ∈ es,∃ o,(e.n,o) ∈ (aw es).o ∧ (o = Str.ofString "right" → ∃ x ∈ (aw es).r,x.e = e):=by
  intro n
  induction n with
  | zero =>
   intro es h
   obtain rfl:es = []:=List.eq_nil_of_length_eq_zero h
   exact ⟨fun _ h=>(nomatch h),fun _ h=>(nomatch h)⟩
  | succ n ih =>
   intro es h
   have hne:es ≠ []:=fun z=>by rw [z] at h; cases h
   obtain ⟨p,e,rfl⟩:∃ p e,es = p ++ [e]:=⟨_,_,(List.dropLast_concat_getLast hne).symm⟩
   obtain ⟨i1,i2⟩:=ih p (by rw [List.length_append] at h; exact Nat.succ.inj h)
   rw [h7]
   have ho:(bo (aw p) e).o = (aw p).o ++ [(e.n,df (aw p) e)]:=rfl
   by_cases hr:df (aw p) e = Str.ofString "right"
   ·have er:(bo (aw p) e).r = (aw p).r ++ [⟨e,(bU (aw p).r e).getD []⟩]:=by show (if _ then _ else _) = _; rw [if_pos hr]
    rw [ho,er,hr]
    refine ⟨fun x hx=>?_,fun y hy=>?_⟩
    ·rcases List.mem_append.mp hx with q | q
     ·exact ⟨List.mem_append_left _ (i1 x q).1,List.mem_append_left _ (i1 x q).2⟩
     ·rw [List.mem_singleton.mp q]
      exact ⟨List.mem_append_right _ (List.mem_singleton.mpr rfl),List.mem_append_right _ (List.mem_singleton.mpr rfl)⟩
    ·rcases List.mem_append.mp hy with q | q
     ·obtain ⟨o,h1,h2⟩:=i2 y q
      exact ⟨o,List.mem_append_left _ h1,fun z=>let ⟨x,hx,ex⟩:=h2 z; ⟨x,List.mem_append_left _ hx,ex⟩⟩
     ·rw [List.mem_singleton.mp q]
      exact ⟨_,List.mem_append_right _ (List.mem_singleton.mpr rfl),fun _=>⟨_,List.mem_append_right _ (List.mem_singleton.mpr rfl),rfl⟩⟩
   ·have er:(bo (aw p) e).r = (aw p).r:=by show (if _ then _ else _) = _; rw [if_neg hr]
    rw [ho,er]
    refine ⟨fun x hx=>⟨List.mem_append_left _ (i1 x hx).1,List.mem_append_left _ (i1 x hx).2⟩,fun y hy=>?_⟩
    rcases List.mem_append.mp hy with q | q
    ·obtain ⟨o,h1,h2⟩:=i2 y q
     exact ⟨o,List.mem_append_left _ h1,h2⟩
    ·rw [List.mem_singleton.mp q]
     exact ⟨_,List.mem_append_right _ (List.mem_singleton.mpr rfl),fun z=>absurd z hr⟩
 exact key _ es rfl
def g8 (R:List Rt) (e:En):Option Rt:=match e.b with
 | none=>none
 | some b=>match az R b with
  | none=>none
  | some x=>if x.e.r = e.r ∧ x.e.b = none then some x else none
def qy (e:En):Bool:=decide (e.b = none) && !e.k
def iR (R:List Rt) (e:En):Bool:=e.b.isSome && (g8 R e).isNone
def je (R:List Rt) (e:En):Bool:=match g8 R e with | none=>false | some x=>decide (x.e.w ≠ e.w)
def uK (R:List Rt) (nm:Option (List Str)):Bool:=R.any fun x=>decide (some x.nm = nm)
theorem qO (R:List Rt) (e:En) (nm:Option (List Str)):iC R e nm = if qy e = true then Str.ofString "undescribed" else if nm.isNone = true then Str.ofString "unplaced" else if iR R e = true then Str.ofString "baseless" else if je R e = true then Str.ofString "reworded" else if uK R nm = true then Str.ofString "alike" else Str.ofString "right" := by
 have h1:qy e = true ↔ e.b = none ∧ e.k = false:=by
  unfold qy
  rw [Bool.and_eq_true,decide_eq_true_iff,Bool.not_eq_true']
 unfold iC
 by_cases h:e.b = none ∧ e.k = false
 ·rw [if_pos h,if_pos (h1.mpr h)]
 ·rw [if_neg h,if_neg (fun z=>h (h1.mp z))]
  cases nm with
  | none=>rfl
  | some z =>
   have e5:uK R (some z) = R.any (fun x=>decide (x.nm = z)):=by
    unfold uK
    congr 1
    funext x
    by_cases q:x.nm = z
    ·rw [decide_eq_true q,decide_eq_true (by rw [q])]
    ·rw [decide_eq_false q,decide_eq_false (fun w=>q (Option.some.inj w))]
   have al:eW R z = if uK R (some z) = true then Str.ofString "alike" else Str.ofString "right" := by rw [e5]; rfl
   rw [if_neg (show ¬ ((some z).isNone = true) by intro q; cases q),← al]
   cases hb:e.b with
   | none =>
    have b3:iR R e = false:=by unfold iR; rw [hb]; rfl
    have b4:je R e = false:=by unfold je g8; rw [hb]
    rw [b3,b4]
    rfl
   | some b =>
    show fN R e b z = _
    unfold fN
    cases hf:az R b with
    | none =>
     have b3:iR R e = true:=by unfold iR g8; rw [hb]; show (true && (match az R b with | none=>none | some x=>if x.e.r = e.r ∧ x.e.b = none then some x else none).isNone) = true; rw [hf]; rfl
     rw [b3]
     rfl
    | some x =>
     have bb:g8 R e = if x.e.r = e.r ∧ x.e.b = none then some x else none:=by unfold g8; rw [hb]; show (match az R b with | none=>none | some x=>if x.e.r = e.r ∧ x.e.b = none then some x else none) = _; rw [hf]
     by_cases q:x.e.r = e.r ∧ x.e.b = none
     ·rw [if_pos q] at bb
      have b3:iR R e = false:=by unfold iR; rw [bb,hb]; rfl
      have b4:je R e = decide (x.e.w ≠ e.w):=by unfold je; rw [bb]
      show (if x.e.r ≠ e.r ∨ x.e.b ≠ none then Str.ofString "baseless" else if x.e.w ≠ e.w then Str.ofString "reworded" else eW R z) = _
      rw [if_neg (fun w=>w.elim (fun w=>w q.1) (fun w=>w q.2)),b3,b4]
      by_cases q2:x.e.w ≠ e.w
      ·rw [if_pos q2,decide_eq_true q2]; rfl
      ·rw [if_neg q2,decide_eq_false q2]; rfl
     ·rw [if_neg q] at bb
      have b3:iR R e = true:=by unfold iR; rw [bb,hb]; rfl
      show (if x.e.r ≠ e.r ∨ x.e.b ≠ none then Str.ofString "baseless" else if x.e.w ≠ e.w then Str.ofString "reworded" else eW R z) = _
      rw [if_pos,b3]
      ·rfl
      ·by_cases w:x.e.r = e.r
       ·exact .inr fun w2=>q ⟨w,w2⟩
       ·exact .inl w
theorem tO {a b:En} (ha:j3 a) (hb:j3 b) (h:cH a.r = cH b.r):a.r = b.r:=by
 have g:cH (Str.ofString "genus") = 1:=by decide +kernel
 have s:cH (Str.ofString "species") = 2:=by decide +kernel
 have f:cH (Str.ofString "form") = 3:=by decide +kernel
 rcases fZ ha with q | q | q <;> rcases fZ hb with r | r | r <;> rw [q,r] at h ⊢ <;> first | rfl | (exfalso; first | (rw [g,s] at h; cases h) | (rw [g,f] at h; cases h) | (rw [s,g] at h; cases h) | (rw [s,f] at h; cases h) | (rw [f,g] at h; cases h) | (rw [f,s] at h; cases h))
theorem xT {es:List En} (okk:∀ e ∈ es,j3 e) (nd:(es.map (·.n)).Nodup):kJ (aw es):=by
 have:=m4 okk nd es.length (Nat.le_refl _)
 rw [List.take_of_length_le (Nat.le_refl _)] at this
 exact this
def sy (x:Rt):NK:=(Sum.inr x.e.r,x.nm.map Sum.inr)
theorem oB {o:Option Int}:aq o = V.bA ↔ o = none:=by
 cases o with
 | none=>exact ⟨fun _=>rfl,fun _=>rfl⟩
 | some n=>exact ⟨fun h=>(nomatch h),fun h=>(nomatch h)⟩
theorem mL:∀ {xs:List V},xs.all bq = true → rp xs xs = true
 | [],_=>rfl
 | x :: r,h=>by
  rw [List.all_cons,Bool.and_eq_true] at h
  show (iS x x && rp r r) = true
  rw [fW h.1,mL h.2]
  rfl
theorem pz {K:W.Frag} {H:Hp} {q1 q2:Addr} {xs:List V} (h1:H q1 = some (.lst xs)) (h2:H q2 = some (.lst xs)) (fx:xs.all bq = true):bt K H (jO K H 0) (.ref q1) (.ref q2) true:=by
 have h:=bt.xu (K:=K) (n:=0) (ao.of h1) (ao.of h2) fx fx
 rw [mL fx] at h
 exact h
def vn:List V:=[.str "keep",.str "strike",.str "leave"]
def eO:V → Bool
 | .str z=>vo (.str z) vn
 | _=>false
def xK (K:W.Frag):Sp:=fun vs H Q _=>∃ x,vs = [x] ∧ Own K H x ∧ Q (.bl (eO x)) H
def uC (K:W.Frag) (C:Addr):Sp:=fun vs H Q E=>∃ x,vs = [x] ∧ Own K H x ∧ (inR 1000000 x = true → Q .bA H) ∧ (inR 1000000 x = false → E (.ref C) none H)
def yX (d e n:V):List (Str × V):=[("day",d),("deed",e),("number",n)]
def yO (K:W.Frag) (CA ND NA NN:Addr):Sp:=fun vs H Q E=>∃ a dx d e n,vs = [.ref a,d,e,n] ∧ H a = some (.ins CA dx []) ∧ Own K H d ∧ Own K H e ∧ Own K H n ∧
 (inR 1000000 d = false → E (.ref ND) none H) ∧
 (inR 1000000 d = true → eO e = false → ∀ x H',aH H H' → H' x = some (.xd [("place",.int 0)]) → E (.ref NA) (some x) H') ∧
 (inR 1000000 d = true → eO e = true → inR 1000000000 n = false → E (.ref NN) none H) ∧
 (inR 1000000 d = true → eO e = true → inR 1000000000 n = true → ∀ H',(∀ b u,b ≠ a → H b = some u → H' b = some u) → H' a = some (.ins CA dx (yX d e n)) → Q .bA H')
def wJ (K:W.Frag):Sp:=fun vs H Q _=>∃ (a:Addr) (k:Int) (ns:List Int),vs = [.ref a,.int k] ∧ 0 ≤ k ∧ ao K H a (ns.map V.int) ∧ ∀ i,Q (.int i) H
def w4:Sp:=fun vs H Q _=>∃ n p,vs = [.int n,.int p] ∧ 0 ≤ p ∧ p < 1000 ∧ ∀ r,0 ≤ r → r < 2147483648 → Q (.int r) H
theorem _root_.L2.XE.upd {H:Hp} {e C q:Addr} {xs ys:List V} (h:XE H e C) (hq:H q = some (.lst xs)):XE (upd H q (.lst ys)) e C:=by
 rcases h with z | ⟨dx,fs,z | z,z2⟩
 ·exact .inl (by rw [aK (bT z hq (by intro y; cases y))]; exact z)
 ·exact .inr ⟨dx,fs,.inl (by rw [aK (bT z hq (by intro y; cases y))]; exact z),by rw [aK (bT z2 hq (by intro y; cases y))]; exact z2⟩
 ·exact .inr ⟨dx,fs,.inr (by rw [aK (bT z hq (by intro y; cases y))]; exact z),by rw [aK (bT z2 hq (by intro y; cases y))]; exact z2⟩
def i8 (H:Hp) (v:V) (e:En):Prop:=∃ a,v = .ref a ∧ H a = some (.tup (cx e))
theorem i8.same {H H':Hp} {v:V} {e:En} (h:i8 H v e) (s:aH H H'):i8 H' v e:=let ⟨a,e1,h1⟩:=h; ⟨a,e1,s _ _ h1⟩
def dw (H:Hp) (ws:List V) (es:List En):Prop:=ws.length = es.length ∧ ∀ (j:Nat) v e,ws[j]? = some v → es[j]? = some e → i8 H v e
theorem dw.same {H H':Hp} {ws:List V} {es:List En} (h:dw H ws es) (s:aH H H'):dw H' ws es:=⟨h.1,fun j v e a b=>(h.2 j v e a b).same s⟩
structure oJ (es:List En):Prop where
 bk:bZ [] none (es.map some) = true
 ok:∀ e ∈ es,j3 e
 nn:∀ (j:Nat) e,es[j]? = some e → 1 ≤ e.n ∧ e.n ≤ 100000000 ∧ (e.n - 1) % 100 = j
 dd:∀ e ∈ es,1 ≤ e.d ∧ e.d ≤ 1000 * es.length
 le:es.length ≤ 60
theorem oJ.n9 {es:List En} (h:oJ es) {e:En} (he:e ∈ es):1 ≤ e.n ∧ e.n ≤ 100000000:=by
 obtain ⟨j,hj⟩:=List.getElem?_of_mem he
 exact ⟨(h.nn j e hj).1,(h.nn j e hj).2.1⟩
structure vm (es:List En) (e:En):Prop where
 ok:j3 e
 n:1 ≤ e.n ∧ e.n ≤ 100000000 ∧ (e.n - 1) % 100 = es.length
 d1:1 ≤ e.d
 d2:e.d ≤ 1000 * (es.length + 1)
 la:∀ x,gW none es = some x → x.d < e.d ∨ x.d = e.d ∧ x.n < e.n
theorem oJ.nil:oJ []:=⟨rfl,fun _ h=>(nomatch h),fun j e h=>(by rw [List.getElem?_nil] at h; cases h),fun _ h=>(nomatch h),Nat.zero_le _⟩
theorem oJ.add {es:List En} {e:En} (h:oJ es) (n:vm es e) (hl:es.length < 60):oJ (es ++ [e]):=by
 have ll:((es ++ [e]).length:Int) = es.length + 1:=by rw [List.length_append]; rfl
 have mem:∀ x ∈ es ++ [e],x ∈ es ∨ x = e:=fun x hx=>(List.mem_append.mp hx).imp id List.mem_singleton.mp
 have nw:∀ x ∈ es,x.n ≠ e.n:=fun x hx z=>by
  obtain ⟨j,hj⟩:=List.getElem?_of_mem hx
  have h1:=(h.nn j x hj).2.2
  have h2:=n.n.2.2
  have h3:=(List.getElem?_eq_some_iff.mp hj).1
  rw [z] at h1
  omega
 refine ⟨kj es [] none e h.bk List.not_mem_nil nw ?_,fun x hx=>?_,fun j x hx=>?_,fun x hx=>?_,?_⟩
 ·cases q:gW none es with
  | none=>rfl
  | some x =>
   show iw x e = true
   show (if x.d = e.d then (if x.n = e.n then false else decide (x.n < e.n)) else decide (x.d < e.d)) = true
   rcases n.la x q with z | z
   ·rw [if_neg (by omega),decide_eq_true z]
   ·rw [if_pos z.1,if_neg (by omega),decide_eq_true z.2]
 ·rcases mem x hx with q | rfl
  ·exact h.ok x q
  ·exact n.ok
 ·rcases Nat.lt_trichotomy j es.length with q | q | q
  ·rw [List.getElem?_append_left q] at hx
   exact h.nn j x hx
  ·subst q
   rw [List.getElem?_append_right (Nat.le_refl _),Nat.sub_self] at hx
   cases hx
   exact n.n
  ·rw [List.getElem?_eq_none (by rw [List.length_append]; show _ + 1 ≤ _; omega)] at hx
   cases hx
 ·rw [ll]
  rcases mem x hx with q | rfl
  ·have:=h.dd x q
   exact ⟨this.1,by omega⟩
  ·exact ⟨n.d1,n.d2⟩
 ·rw [List.length_append]; show _ + 1 ≤ _; omega
theorem oJ.nd {es:List En} (h:oJ es):(es.map (·.n)).Nodup:=(jh h.bk).1
theorem dw.last {H:Hp} {ws:List V} {es:List En} (h:dw H ws es) (hw:ws ≠ []):∃ e ra,gW none es = some e ∧ e ∈ es ∧ fQ ws (-1) = some (.ref ra) ∧ H ra = some (.tup (cx e)):=by
 have hl:=h.1
 have he:es ≠ []:=fun z=>hw (List.eq_nil_of_length_eq_zero (by rw [hl,z]; rfl))
 obtain ⟨w0,wv,rfl⟩:∃ w0 wv,ws = w0 ++ [wv]:=⟨_,_,(List.dropLast_concat_getLast hw).symm⟩
 obtain ⟨e0,ev,rfl⟩:∃ e0 ev,es = e0 ++ [ev]:=⟨_,_,(List.dropLast_concat_getLast he).symm⟩
 have hl0:w0.length = e0.length:=by
  rw [List.length_append,List.length_append] at hl
  exact Nat.succ.inj hl
 obtain ⟨ra,rfl,hr⟩:=h.2 w0.length wv ev (by simp) (by rw [hl0]; simp)
 exact ⟨ev,ra,iQ _ _ _,by simp,kY _ _,hr⟩
theorem dw.push {H H':Hp} {ws:List V} {es:List En} {v:V} {e:En} (h:dw H ws es) (hv:i8 H v e) (mv:∀ t xs,H t = some (.tup xs) → H' t = some (.tup xs)):dw H' (ws ++ [v]) (es ++ [e]):=by
 refine ⟨by rw [List.length_append,List.length_append,h.1]; rfl,fun j u x h1 h2=>?_⟩
 have up:∀ u x,i8 H u x → i8 H' u x:=fun u x ⟨a,e1,h1⟩=>⟨a,e1,mv _ _ h1⟩
 rcases Nat.lt_trichotomy j ws.length with q | q | q
 ·rw [List.getElem?_append_left q] at h1
  rw [List.getElem?_append_left (by rw [← h.1]; exact q)] at h2
  exact up _ _ (h.2 j u x h1 h2)
 ·rw [List.getElem?_append_right (by omega),q,Nat.sub_self] at h1
  rw [List.getElem?_append_right (by rw [← h.1]; omega),← h.1,q,Nat.sub_self] at h2
  cases h1
  cases h2
  exact up _ _ hv
 ·rw [List.getElem?_eq_none (by rw [List.length_append]; show _ + 1 ≤ _; omega)] at h1
  cases h1
theorem oA (e:En):iP (cx e) none (some 4) = [.int e.n,.int e.d,.str e.r,.str e.w]:=rfl
theorem tN (e:En):iP (cx e) (some 4) none = [aq e.u,aq e.s,aq e.b,.bl e.k]:=rfl
theorem mD (e:En):¬ (HT.dG (cx e).length 0 none = 0 ∧ HT.dG (cx e).length (cx e).length (some 4) = (cx e).length):=by
 show ¬ (HT.dG 8 0 none = 0 ∧ HT.dG 8 8 (some 4) = 8)
 decide
theorem qK (e:En):¬ (HT.dG (cx e).length 0 (some 4) = 0 ∧ HT.dG (cx e).length (cx e).length none = (cx e).length):=by
 show ¬ (HT.dG 8 0 (some 4) = 0 ∧ HT.dG 8 8 none = 8)
 decide
def vO (CE:Addr):Sp:=fun vs H Q _=>∃ l ws es,vs = [.ref l] ∧ H l = some (.lst ws) ∧ dw H ws es ∧ (∀ e ∈ es,j3 e) ∧ es.length ≤ 84 ∧ ∀ q acc H',aH H H' → H q = none → H' q = some (.lst acc) → fM H' CE acc es → Q (.ref q) H'
def fu (H:Hp) (R:List Rt) (x:Rt) (q:Key × V):Prop:=q.1 = Sum.inl x.e.n ∧ ∃ a t,q.2 = .ref a ∧ H a = some (.tup [.str x.e.r,.ref t,aq x.e.b,.str x.e.w,aq (dR R x).s,.int x.e.d]) ∧ H t = some (.tup (x.nm.map V.str))
theorem fu.keep {H H':Hp} {R:List Rt} {x:Rt} {q:Key × V} (h:fu H R x q) (f:∀ t xs,H t = some (.tup xs) → H' t = some (.tup xs)):fu H' R x q:=let ⟨h1,a,t,h2,h3,h4⟩:=h; ⟨h1,a,t,h2,f _ _ h3,f _ _ h4⟩
def gN (R:List Rt):List (NK × V):=R.map fun x=>(sy x,V.int x.e.n)
theorem uM {R:List Rt} {k:NK}:(bS (gN R) k).isSome = R.any fun x=>decide (sy x = k):=by
 induction R with
 | nil=>rfl
 | cons x r ih =>
  show (bS ((sy x,V.int x.e.n) :: gN r) k).isSome = _
  rw [List.any_cons]
  by_cases e:sy x = k
  ·rw [bQ e,decide_eq_true e]; rfl
  ·rw [bI e,decide_eq_false e,Bool.false_or]
   exact ih
theorem gj {H:Hp} {R R':List Rt} {kr:List (Key × V)} (h:Paired (fu H R') R kr) (n:Int):(az R n = none ∧ bS kr (Sum.inl n) = none) ∨ ∃ x v,x ∈ R ∧ az R n = some x ∧ bS kr (Sum.inl n) = some v ∧ fu H R' x (Sum.inl n,v):=by
 induction h with
 | nil=>exact .inl ⟨rfl,rfl⟩
 | @cons x q R kr hq t ih =>
  have hq0:=hq
  obtain ⟨h1,h2⟩:=hq
  by_cases e:x.e.n = n
  ·refine .inr ⟨x,q.2,List.mem_cons_self ..,?_,?_,?_⟩
   ·unfold az; rw [List.find?_cons_of_pos (p:=fun y:Rt=>decide (y.e.n = n)) (decide_eq_true e)]
   ·rw [bQ (by rw [h1,e])]
   ·exact ⟨by rw [e],h2⟩
  ·have e1:az (x :: R) n = az R n:=by unfold az; rw [List.find?_cons_of_neg (p:=fun y:Rt=>decide (y.e.n = n)) (by rw [decide_eq_false e]; decide)]
   rw [e1,bI (by rw [h1]; exact fun z=>e (Sum.inl.inj z))]
   rcases ih with i | ⟨x',v,m,i⟩
   ·exact .inl i
   ·exact .inr ⟨x',v,List.mem_cons_of_mem _ m,i⟩
theorem rD (R:List Rt) (e:En) (nm:Option (List Str)):iC R e nm = Str.ofString "right" ↔ qy e = false ∧ nm.isSome = true ∧ iR R e = false ∧ je R e = false ∧ uK R nm = false:=by
 rw [qO]
 cases h1:qy e with
 | true=>exact ⟨fun h=>absurd h (by rw [if_pos rfl]; decide +kernel),fun h=>nomatch h.1⟩
 | false =>
  rw [if_neg (by decide)]
  cases nm with
  | none=>exact ⟨fun h=>absurd h (by rw [if_pos (show (none:Option (List Str)).isNone = true from rfl)]; decide +kernel),fun h=>nomatch h.2.1⟩
  | some z =>
   rw [if_neg (show ¬ ((some z).isNone = true) by intro q; cases q)]
   cases h3:iR R e with
   | true=>exact ⟨fun h=>absurd h (by rw [if_pos rfl]; decide +kernel),fun h=>nomatch h.2.2.1⟩
   | false =>
    rw [if_neg (by decide)]
    cases h4:je R e with
    | true=>exact ⟨fun h=>absurd h (by rw [if_pos rfl]; decide +kernel),fun h=>nomatch h.2.2.2.1⟩
    | false =>
     rw [if_neg (by decide)]
     cases h5:uK R (some z) with
     | true=>exact ⟨fun h=>absurd h (by rw [if_pos rfl]; decide +kernel),fun h=>nomatch h.2.2.2.2⟩
     | false=>exact ⟨fun _=>⟨rfl,rfl,rfl,rfl,rfl⟩,fun _=>by rw [if_neg (by decide)]⟩
theorem wo {K:W.Frag} {G:Hp} {h tw:Addr} {hd:List Str} {w:Str} {C:V → Hp → Prop} (a:G h = some (.tup (hd.map V.str))) (b:G tw = some (.tup [V.str w])) (le:hd.length ≤ 10) (c:∀ t G',aH G G' → G' t = some (.tup ((hd ++ [w]).map V.str)) → C (.ref t) G'):tV K (.ref h) (.ref tw) G C:=by
 have sz:2000 < sizeLine:=aJ rfl
 refine ⟨h,tw,hd.map V.str,[V.str w],rfl,rfl,bz.of a,bz.of b,(by intro q; cases q),?_,fun q=>?_,fun _ p hp=>?_⟩
 ·rw [List.length_map]
  show _ + 1 ≤ _
  omega
 ·have e:hd = []:=List.map_eq_nil_iff.mp q
  subst e
  exact c tw G (aH.refl _) b
 ·refine c p _ (aH.new hp) ?_
  rw [aB,List.map_append]
  rfl
theorem uu {R:List Rt} {e:En} {z:List Str} (ok:j3 e) (rok:∀ x ∈ R,j3 x.e) (dp:∀ x ∈ R,x.nm.length = cH x.e.r) (hz:z.length = cH e.r):(bS (gN R) (Sum.inr e.r,z.map Sum.inr)).isSome = uK R (some z):=by
 rw [uM]
 unfold uK
 rw [Bool.eq_iff_iff,List.any_eq_true,List.any_eq_true]
 constructor
 ·rintro ⟨x,hx,h⟩
  exact ⟨x,hx,decide_eq_true (by rw [gf (Prod.mk.inj (of_decide_eq_true h)).2])⟩
 ·rintro ⟨x,hx,h⟩
  have h:x.nm = z:=Option.some.inj (of_decide_eq_true h)
  refine ⟨x,hx,decide_eq_true ?_⟩
  unfold sy
  rw [h,tO (rok x hx) ok (by rw [← dp x hx,h,hz])]
def kZ (R:List Rt) (e:En):En:=match e.b with | none=>e | some b=>((az R b).map (·.e)).getD e
theorem pf {R:List Rt} {e:En} {b:Int} (hb:e.b = some b):(iR R e = false ∧ je R e = false) ↔ ∃ y,az R b = some y ∧ y.e.r = e.r ∧ y.e.b = none ∧ y.e.w = e.w:=by
 have h3:iR R e = (g8 R e).isNone:=by unfold iR; rw [hb]; rfl
 have hE:g8 R e = match az R b with | none=>none | some x=>if x.e.r = e.r ∧ x.e.b = none then some x else none:=by unfold g8; rw [hb]
 rw [h3]
 unfold je
 cases hf:az R b with
 | none =>
  rw [hE,hf]
  exact ⟨fun h=>(nomatch h.1),fun ⟨y,h,_⟩=>(nomatch h)⟩
 | some x =>
  have hE:g8 R e = if x.e.r = e.r ∧ x.e.b = none then some x else none:=by rw [hE,hf]
  rw [hE]
  by_cases q:x.e.r = e.r ∧ x.e.b = none
  ·rw [if_pos q]
   show ((some x).isNone = false ∧ decide (x.e.w ≠ e.w) = false) ↔ _
   constructor
   ·rintro ⟨_,h⟩
    exact ⟨x,rfl,q.1,q.2,Decidable.of_not_not (of_decide_eq_false h)⟩
   ·rintro ⟨y,h,_,_,h4⟩
    cases h
    exact ⟨rfl,decide_eq_false fun z=>z h4⟩
  ·rw [if_neg q]
   refine ⟨fun h=>(nomatch h.1),fun ⟨y,h,h2,h3,_⟩=>?_⟩
   cases h
   exact absurd ⟨h2,h3⟩ q
theorem j2 {α β:Type} {F G:α → β → Prop}:∀ {l₁:List α} {l₂:List β},Paired F l₁ l₂ → (∀ a ∈ l₁,∀ b,F a b → G a b) → Paired G l₁ l₂
 | _,_,.nil,_=>.nil
 | _,_,.cons h t,f=>.cons (f _ (List.mem_cons_self ..) _ h) (j2 t fun a ha=>f a (List.mem_cons_of_mem _ ha))
theorem j4 {α β:Type} {F:α → β → Prop}:∀ {l₁:List α} {l₂:List β} {a:α} {b:β},Paired F l₁ l₂ → F a b → Paired F (l₁ ++ [a]) (l₂ ++ [b])
 | _,_,_,_,.nil,h=>.cons h .nil
 | _,_,_,_,.cons h' t,h=>.cons h' (j4 t h)
theorem qV {S:Rs} (rok:kJ S) {x:Rt} (hx:x ∈ S.r) (q:List Rt):dR (S.r ++ q) x = dR S.r x:=by
 unfold dR
 cases hb:x.e.b with
 | none=>rfl
 | some b =>
  obtain ⟨y,hy,_⟩:=rok.bs x hx b hb
  show ((az (S.r ++ q) b).map (·.e)).getD x.e = ((az S.r b).map (·.e)).getD x.e
  rw [hy,hX hy]
theorem sC {S:Rs} {e:En} {z:List Str} (h:∀ b,e.b = some b → ∃ y,az S.r b = some y):dR (S.r ++ [⟨e,z⟩]) ⟨e,z⟩ = kZ S.r e:=by
 unfold dR kZ
 show (match e.b with | none=>e | some b=>((az (S.r ++ [(⟨e,z⟩:Rt)]) b).map (fun x:Rt=>x.e)).getD e) = _
 cases hb:e.b with
 | none=>rfl
 | some b =>
  obtain ⟨y,hy⟩:=h b hb
  show ((az (S.r ++ [(⟨e,z⟩:Rt)]) b).map (fun x:Rt=>x.e)).getD e = ((az S.r b).map (·.e)).getD e
  rw [hy,hX hy]
theorem ux {P:Program} {w:World} {H H':Hp} {a:Addr} {kvs:List (NK × V)} (d:DN P w H a kvs) (f:∀ u,H a = some u → H' a = some u) (g:∀ b ys,H b = some (.tup ys) → H' b = some (.tup ys)):DN P w H' a kvs:=let ⟨xs,e,k,l⟩:=d; ⟨xs,f _ e,k.keep g,l⟩
def r9:Sp:=fun vs H Q _=>∃ l ws es,vs = [.ref l] ∧ H l = some (.lst ws) ∧ dw H ws es ∧ (∀ e ∈ es,j3 e) ∧ (es.map (·.n)).Nodup ∧ es.length ≤ 84 ∧ ∀ d kr H',aH H H' → H d = none → H' d = some (.dK kr) → Paired (fu H' (aw es).r) (aw es).r kr → Q (.ref d) H'
def cU (R:List Rt):List Int:=(R.filter fun x=>decide (x.e.b = none)).map (·.e.n)
def rB:Sp:=fun vs H Q _=>∃ d kr R,vs = [.ref d] ∧ H d = some (.dK kr) ∧ Paired (fu H R) R kr ∧ (R.map (·.e.n)).Nodup ∧ R.length ≤ 84 ∧ ∀ q H',aH H H' → H q = none → H' q = some (.lst ((cU R).map V.int)) → Q (.ref q) H'
structure Dd where
 d:Int
 z:Str
 n:Int
def uv (x:Dd):List V:=[.int x.d,.str x.z,.int x.n]
def gz (H:Hp) (ws:List V) (xs:List Dd):Prop:=ws.length = xs.length ∧ ∀ (j:Nat) v x,ws[j]? = some v → xs[j]? = some x → ∃ a,v = .ref a ∧ H a = some (.tup (uv x))
theorem gz.same {H H':Hp} {ws:List V} {xs:List Dd} (h:gz H ws xs) (s:aH H H'):gz H' ws xs:=⟨h.1,fun j v x a b=>let ⟨p,e,q⟩:=h.2 j v x a b; ⟨p,e,s _ _ q⟩⟩
def ij (H:Hp) (CA:Addr) (v:V) (x:Dd):Prop:=∃ a dx,v = .ref a ∧ H a = some (.ins CA dx (yX (.int x.d) (.str x.z) (.int x.n)))
theorem ij.same {H H':Hp} {CA:Addr} {v:V} {x:Dd} (h:ij H CA v x) (s:aH H H'):ij H' CA v x:=let ⟨a,dx,e,h1⟩:=h; ⟨a,dx,e,s _ _ h1⟩
def d6 (H:Hp) (CA:Addr) (ws:List V) (xs:List Dd):Prop:=ws.length = xs.length ∧ ∀ (j:Nat) v x,ws[j]? = some v → xs[j]? = some x → ij H CA v x
theorem d6.same {H H':Hp} {CA:Addr} {ws:List V} {xs:List Dd} (h:d6 H CA ws xs) (s:aH H H'):d6 H' CA ws xs:=⟨h.1,fun j v x a b=>(h.2 j v x a b).same s⟩
theorem nJ {α:Type} {F:V → α → Prop} {ws:List V} {xs:List α} {v:V} {x:α} (h:ws.length = xs.length ∧ ∀ (j:Nat) v x,ws[j]? = some v → xs[j]? = some x → F v x) (hv:F v x):(ws ++ [v]).length = (xs ++ [x]).length ∧ ∀ (j:Nat) u y,(ws ++ [v])[j]? = some u → (xs ++ [x])[j]? = some y → F u y:=by
 refine ⟨by rw [List.length_append,List.length_append,h.1]; rfl,fun j u y h1 h2=>?_⟩
 rcases Nat.lt_trichotomy j ws.length with q | q | q
 ·rw [List.getElem?_append_left q] at h1
  rw [List.getElem?_append_left (by rw [← h.1]; exact q)] at h2
  exact h.2 j u y h1 h2
 ·rw [List.getElem?_append_right (by omega),q,Nat.sub_self] at h1
  rw [List.getElem?_append_right (by rw [← h.1]; omega),← h.1,q,Nat.sub_self] at h2
  cases h1
  cases h2
  exact hv
 ·rw [List.getElem?_eq_none (by rw [List.length_append]; show _ + 1 ≤ _; omega)] at h1
  cases h1
structure gM (R:List Rt) (ds:List Dd):Prop where
 each:∀ x ∈ ds,eO (.str x.z) = true ∧ 1 ≤ x.d ∧ x.d ≤ 100000 ∧ ∃ y ∈ R,y.e.n = x.n ∧ y.e.b = none ∧ y.e.d ≤ x.d
 rise:∀ (j:Nat) x y,ds[j]? = some x → ds[j + 1]? = some y → x.d ≤ y.d
theorem gM.snoc {R:List Rt} {ds:List Dd} {x:Dd} (h:gM R ds) (hx:eO (.str x.z) = true ∧ 1 ≤ x.d ∧ x.d ≤ 100000 ∧ ∃ y ∈ R,y.e.n = x.n ∧ y.e.b = none ∧ y.e.d ≤ x.d) (le:∀ y ∈ ds,y.d ≤ x.d):gM R (ds ++ [x]):=by
 refine ⟨fun y hy=>?_,fun j a b ha hb=>?_⟩
 ·rcases List.mem_append.mp hy with q | q
  ·exact h.each y q
  ·rw [List.mem_singleton.mp q]; exact hx
 ·rcases Nat.lt_trichotomy (j + 1) ds.length with q | q | q
  ·rw [List.getElem?_append_left (by omega)] at ha
   rw [List.getElem?_append_left q] at hb
   exact h.rise j a b ha hb
  ·rw [List.getElem?_append_left (by omega)] at ha
   rw [List.getElem?_append_right (by omega),q,Nat.sub_self] at hb
   cases hb
   exact le a (List.mem_of_getElem? ha)
  ·rw [List.getElem?_eq_none (by rw [List.length_append]; show _ + 1 ≤ _; omega)] at hb
   cases hb
def sA (K:W.Frag):Sp:=fun vs H Q _=>∃ cl,∃ cs:List Int,∃ d kr R,vs = [.ref cl,.ref d] ∧ ao K H cl (cs.map V.int) ∧ cs.length ≤ 60 ∧ H d = some (.dK kr) ∧ Paired (fu H R) R kr ∧ (R.map (·.e.n)).Nodup ∧ R.length ≤ 84 ∧ (∀ x ∈ R,1 ≤ x.e.d ∧ x.e.d ≤ 60000) ∧ ∀ l ws ds H',aH H H' → H l = none → H' l = some (.lst ws) → gz H' ws ds → gM R ds → ds.length ≤ 60 → Q (.ref l) H'
def ud (CA:Addr):Sp:=fun vs H Q _=>∃ l ws ds,vs = [.ref l] ∧ H l = some (.lst ws) ∧ gz H ws ds ∧ (∀ x ∈ ds,eO (.str x.z) = true ∧ inR 1000000 (.int x.d) = true ∧ inR 1000000000 (.int x.n) = true) ∧ ds.length ≤ 84 ∧ ∀ q acc H',aH H H' → H q = none → H' q = some (.lst acc) → d6 H' CA acc ds → Q (.ref q) H'
def rM:Sp:=fun vs H Q _=>∃ n,vs = [.int n] ∧ ∀ (zs:List Str) l H',zs.length = 5 → (∀ z ∈ zs,isWord (.str z) = true) → aH H H' → H l = none → H' l = some (.lst (zs.map V.str)) → Q (.ref l) H'
def sT:Sp:=fun vs H Q _=>∃ n,vs = [.int n] ∧ ∀ (ss:List Int) l H',ss.length = 10 → (∀ s ∈ ss,1 ≤ s ∧ s ≤ 1000000000) → aH H H' → H l = none → H' l = some (.lst (ss.map V.int)) → Q (.ref l) H'
def tT:Sp:=fun vs H Q _=>∃ l ws es rk x,vs = [.ref l,.str rk,.int x] ∧ H l = some (.lst ws) ∧ dw H ws es ∧ oJ es ∧ 0 ≤ x ∧ ∀ (r:Int) H',aH H H' → 1 ≤ r → r ≤ 1000000000 → Q (.int r) H'
def uW:Sp:=fun vs H Q _=>∃ l ws es rk wd x,vs = [.ref l,.str rk,.str wd,.int x] ∧ H l = some (.lst ws) ∧ dw H ws es ∧ oJ es ∧ 0 ≤ x ∧ ∀ (o:Option Int) H',aH H H' → (∀ b,o = some b → 1 ≤ b ∧ b ≤ 1000000000) → Q (aq o) H'
def xH:Sp:=fun vs H Q _=>∃ l ws es n i wl,∃ zs:List Str,∃ sl,∃ ss:List Int,vs = [.ref l,.int n,.int i,.ref wl,.ref sl] ∧ H l = some (.lst ws) ∧ dw H ws es ∧ oJ es ∧ i = es.length ∧ es.length < 60 ∧ H wl = some (.lst (zs.map V.str)) ∧ zs.length = 5 ∧ (∀ z ∈ zs,isWord (.str z) = true) ∧ H sl = some (.lst (ss.map V.int)) ∧ ss.length = 10 ∧ (∀ s ∈ ss,1 ≤ s ∧ s ≤ 1000000000) ∧ ∀ v e H',aH H H' → i8 H' v e → vm es e → Q v H'
def vI (K:W.Frag):Sp:=fun vs H Q _=>∃ cl,∃ cs:List Int,∃ wl,∃ zs:List Str,∃ sl,∃ ss:List Int,vs = [.ref cl,.ref wl,.ref sl] ∧ ao K H cl (cs.map V.int) ∧ cs.length ≤ 60 ∧ H wl = some (.lst (zs.map V.str)) ∧ zs.length = 5 ∧ (∀ z ∈ zs,isWord (.str z) = true) ∧ H sl = some (.lst (ss.map V.int)) ∧ ss.length = 10 ∧ (∀ s ∈ ss,1 ≤ s ∧ s ≤ 1000000000) ∧ ∀ l ws es H',aH H H' → H l = none → H' l = some (.lst ws) → dw H' ws es → oJ es → es.length = cs.length → Q (.ref l) H'
def gA (ds:List Dd) (x:Dd):Bool:=match ds.getLast? with | none=>true | some y=>decide (y.d ≤ x.d)
def gC (R:List Rt) (x:Dd):Bool:=match az R x.n with | none=>false | some y=>decide (y.e.b = none) && decide (y.e.d ≤ x.d)
def ej (R:List Rt) (ds:List Dd) (x:Dd):Bool:=gA ds x && gC R x
def kT (K:W.Frag) (H:Hp) (CA:Addr) (v:V):Prop:=∃ n,dQ K H v (.type n) ∧ W.kitOne K (.type n) (.ref CA) = some false
def h8 (K:W.Frag) (H:Hp) (v:V):Prop:=∃ n,dQ K H v (.type n) ∧ W.kitOne K (.type n) (.type "list") = some false
def tS (K:W.Frag) (CR CE CA:Addr):Sp:=fun vs H Q _=>∃ A s fl fa ds th,vs = [.ref A.a,.ref fl,th] ∧ gH H CR CE A s ∧ H fl = some (.lst fa) ∧ d6 H CA fa ds ∧ ((kT K H CA th ∧ Q (.bl false) H) ∨ ∃ x,ij H CA th x ∧ Q (.bl (ej s.r ds x)) H)
def oS (K:W.Frag) (H:Hp) (CA:Addr) (R:List Rt) (ds:List Dd) (v:V):Prop:=kT K H CA v ∨ ∃ x,ij H CA v x ∧ ej R ds x = false
def rR (R:List Rt) (ds:List Dd):Prop:=∀ (j:Nat) x,ds[j]? = some x → ej R (ds.take j) x = true
def gB (K:W.Frag) (H:Hp) (CA:Addr) (R:List Rt) (v:V) (p:Nat):Prop:=(∃ l ws ds u,v = .ref l ∧ H l = some (.lst ws) ∧ ws.length ≤ 1000 ∧ ws[p]? = some u ∧ d6 H CA (ws.take p) ds ∧ rR R ds ∧ oS K H CA R ds u) ∨ (p = 0 ∧ h8 K H v)
def fh (H:Hp) (CA:Addr) (R:List Rt) (v:V) (ws:List V) (ds:List Dd):Prop:=∃ l,v = .ref l ∧ H l = some (.lst ws) ∧ ws.length ≤ 1000 ∧ d6 H CA ws ds ∧ rR R ds
def oY (K:W.Frag) (CR CE CA NA:Addr):Sp:=fun vs H Q E=>∃ A s v,vs = [.ref A.a,v] ∧ gH H CR CE A s ∧ ((∃ ws ds,fh H CA s.r v ws ds ∧ ∀ q H',aH H H' → H q = none → H' q = some (.lst ws) → Q (.ref q) H') ∨
 ∃ p,gB K H CA s.r v p ∧ ∀ x H',aH H H' → H' x = some (.xd [("place",.int p)]) → E (.ref NA) (some x) H')
def qw (K:W.Frag) (CE CA NB NA:Addr):Sp:=fun vs H Q E=>∃ b v,vs = [b,v] ∧ ((tR K H CE b ∧ ∀ H',aH H H' → E (.ref NB) none H') ∨ ∃ es,lY H CE b es ∧ ((∃ ws ds,fh H CA (aw es).r v ws ds ∧ ∀ q H',aH H H' → H q = none → H' q = some (.lst ws) → Q (.ref q) H') ∨
 ∃ p,gB K H CA (aw es).r v p ∧ ∀ x H',aH H H' → H' x = some (.xd [("place",.int p)]) → E (.ref NA) (some x) H'))
theorem kT.same {K:W.Frag} {H H':Hp} {CA:Addr} {v:V} (h:kT K H CA v) (s:aH H H'):kT K H' CA v:=let ⟨n,t,k⟩:=h; ⟨n,t.same s,k⟩
theorem h8.same {K:W.Frag} {H H':Hp} {v:V} (h:h8 K H v) (s:aH H H'):h8 K H' v:=let ⟨n,t,k⟩:=h; ⟨n,t.same s,k⟩
theorem gB.same {K:W.Frag} {H H':Hp} {CA:Addr} {R:List Rt} {v:V} {p:Nat} (h:gB K H CA R v p) (s:aH H H'):gB K H' CA R v p:=by
 rcases h with ⟨l,ws,ds,u,e,h1,h2,h3,h4,h5,h6⟩ | ⟨h1,h2⟩
 ·refine .inl ⟨l,ws,ds,u,e,s _ _ h1,h2,h3,h4.same s,h5,?_⟩
  rcases h6 with h | ⟨x,h,q⟩
  ·exact .inl (h.same s)
  ·exact .inr ⟨x,h.same s,q⟩
 ·exact .inr ⟨h1,h2.same s⟩
theorem fh.same {H H':Hp} {CA:Addr} {R:List Rt} {v:V} {ws:List V} {ds:List Dd} (h:fh H CA R v ws ds) (s:aH H H'):fh H' CA R v ws ds:=let ⟨l,e,h1,h2,h3,h4⟩:=h; ⟨l,e,s _ _ h1,h2,h3.same s,h4⟩
theorem gM.all {R:List Rt} {ds:List Dd} (h:gM R ds) (nd:(R.map (·.e.n)).Nodup):rR R ds:=fun j x hx=>by
 unfold ej
 have hm:=List.mem_of_getElem? hx
 obtain ⟨_,_,_,y,hy,e1,e2,e3⟩:=h.each x hm
 have r1:gC R x = true:=by
  unfold gC
  rw [← e1,cV nd hy]
  show (decide (y.e.b = none) && decide (y.e.d ≤ x.d)) = true
  rw [decide_eq_true e2,decide_eq_true e3]
  rfl
 rw [r1,Bool.and_true]
 unfold gA
 cases j with
 | zero=>rfl
 | succ j =>
  have hl:j < ds.length:=by have:=(List.getElem?_eq_some_iff.mp hx).1; omega
  have ee:ds[j]? = some ds[j]:=List.getElem?_eq_getElem hl
  rw [take_one ee,List.getLast?_append]
  exact decide_eq_true (h.rise j _ x ee hx)
theorem mP {K:W.Frag} {H H':Hp} {C:Addr} {x:V} (h:tR K H C x) (s:aH H H'):tR K H' C x:=by
 rcases h with ⟨l,ws,is,e,h1,hI,h2,h3⟩ | ⟨n,t,k⟩
 ·refine .inl ⟨l,ws,is,e,s _ _ h1,⟨hI.1,fun j v y a b=>?_⟩,h2,h3⟩
  cases hI.2 j v y a b with
  | ent h=>exact .ent (h.same s)
  | oth t hn=>exact .oth (t.same s) hn
 ·exact .inr ⟨n,t.same s,k⟩
theorem qe {K:W.Frag} {H:Hp} {a b:Addr} {xs:List V} (ha:H a = some (.lst xs)) (hb:H b = some (.lst xs)) (hx:∀ v ∈ xs,∃ a,v = V.ref a):bt K H (jO K H 0) (.ref a) (.ref b) true:=by
 have h:=bt.list (K:=K) (H:=H) (R:=jO K H 0) (e:=fun _=>true) (ao.of ha) (ao.of hb) rfl fun i x y h1 h2=>by
  rw [h1] at h2
  cases h2
  obtain ⟨c,rfl⟩:=hx x (List.mem_of_getElem? h1)
  exact .inr ⟨c,rfl,rfl,rfl⟩
 have e:(List.range xs.length).all (fun _=>true) = true:=by rw [List.all_eq_true]; intro _ _; rfl
 rw [e] at h
 exact h
theorem pT {K:W.Frag} {a l:Addr} {ns:List Int} {f:Int → Bool} {g:TG} {tc:TT} {te:TE} {σ:St} {H:Hp} {Q:VK} (hl:H l = none) (hA:ao K H a (ns.map V.int)) (lz:ns.length ≤ 1000) (Ps:St → Prop) (h0:Ps σ)
  (hs:∀ x σ G (Kt:St → V → Hp → Prop) (Nn:St → Hp → Prop),x ∈ ns → Ps σ → aH H G → (f x = true → ∀ σ2,Ps σ2 → Kt σ2 (.int x) G) → (f x = false → ∀ σ2,Ps σ2 → Nn σ2 G) → g (.int x) σ G fun σ2 H2=>tc σ2 H2 fun b H3=>if b = true then te σ2 H3 (Kt σ2) else Nn σ2 H3)
  (hd:∀ G,aH H G → G l = some (.lst ((ns.filter f).map V.int)) → Q (.ref l) G):jU (vi K a) l g tc te σ (upd H l (.lst [])) Q:=by
 have sz:1000 ≤ sizeLine:=aJ rfl
 refine dj (xs:=ns.map V.int) (fun i σ acc G=>Ps σ ∧ aH H G ∧ G l = some (.lst acc) ∧ acc = ((ns.take i).filter f).map V.int) (by rw [List.length_map]; omega) ?_ ?_ ?_ ?_
 ·exact ⟨h0,aH.new hl,aB,rfl⟩
 ·rintro i σ acc G hi ⟨_,sG,h1,h2⟩
  refine ⟨h1,sG.seq hA,?_⟩
  rw [h2,List.length_map]
  exact Nat.le_trans (List.length_filter_le _ _) (by rw [List.length_take]; omega)
 ·rintro i x σ acc G hx ⟨hp,sG,h1,h2⟩
  have hi:i < (ns.map V.int).length:=(List.getElem?_eq_some_iff.mp hx).1
  obtain ⟨y,hy,rfl⟩:∃ y,ns[i]? = some y ∧ x = .int y:=by
   rw [List.getElem?_map] at hx
   obtain ⟨y,e1,e2⟩:=Option.map_eq_some_iff.mp hx
   exact ⟨y,e1,e2.symm⟩
  refine hs y σ G _ _ (List.mem_of_getElem? hy) hp sG (fun hf σ2 p2=>⟨h1,Nx.mk hi ⟨p2,fun b u hb=>?_,aB,?_⟩⟩) (fun hf σ2 p2=>Nx.mk hi ⟨p2,sG,h1,?_⟩)
  ·rw [aK (aM hb hl)]
   exact sG _ _ hb
  ·rw [lg hy,List.filter_append,List.map_append,← h2,List.filter_cons_of_pos hf]
   rfl
  ·rw [lg hy,List.filter_append,List.map_append,← h2,List.filter_cons_of_neg (by rw [hf]; decide)]
   simp
 ·rintro σ acc G ⟨_,sG,h1,h2⟩
  rw [List.length_map,List.take_of_length_le (Nat.le_refl _)] at h2
  subst h2
  exact hd G sG h1
theorem oE (ms:List Int) (a b:Nat):∃ cs:List Int,iP (ms.map V.int) (some (a:Int)) (some (b:Int)) = cs.map V.int ∧ cs.length ≤ b - a:=by
 refine ⟨(ms.drop (min a ms.length)).take (min b ms.length - min a ms.length),?_,?_⟩
 ·unfold iP
  rw [HT.ml,HT.ml,List.length_map,← List.map_drop,← List.map_take]
 ·rw [List.length_take]
  omega
def rC (CA:Addr):Sp:=fun vs H Q _=>∃ a b ws ds,vs = [.ref a,.ref b] ∧ H a = some (.lst ws) ∧ H b = some (.lst ws) ∧ d6 H CA ws ds ∧ ∀ H',aH H H' → Q (.bl true) H'
def g9 (t p:Nat):List V:=if t = 0 then [.bl true,.bl true,.bl false,.bl false,.bl false,.bl false,.bl false] else [.bl true,.bl false,.bl true,.bl false,.bl false,.bl false,.bl false,.int p]
def yU (K:W.Frag) (H:Hp) (CE CA:Addr) (b v:V) (t p:Nat):Prop:=(t = 0 ∧ tR K H CE b) ∨ (t = 1 ∧ ∃ es,lY H CE b es ∧ gB K H CA (aw es).r v p)
def uZ (K:W.Frag) (CE CA:Addr):Sp:=fun vs H Q _=>∃ b v t p,vs = [b,v] ∧ yU K H CE CA b v t p ∧ ∀ q H',aH H H' → H q = none → H' q = some (.lst (g9 t p)) → Q (.ref q) H'
theorem jV:∀ (is:List (Option En)) (seen:List Int) (last:Option En),bZ seen last (is ++ [none]) = false
 | [],_,_=>rfl
 | none :: _,_,_=>rfl
 | some e :: r,seen,last=>by
  show (!seen.contains e.n && (fK last e && bZ (seen ++ [e.n]) (some e) (r ++ [none]))) = false
  rw [jV r,Bool.and_false,Bool.and_false]
theorem oF {K:W.Frag} {H:Hp} {C:Addr} {ws:List V} {es:List En} (h:fM H C ws es):pj K H C ws (es.map some):=⟨by rw [List.length_map]; exact h.1,fun j v i h1 h2=>by
 rw [List.getElem?_map] at h2
 cases he:es[j]? with
 | none=>rw [he] at h2; cases h2
 | some e =>
  rw [he] at h2
  cases h2
  exact .ent (h.2 j v e h1 he)⟩
def xJ:En:=⟨1,1,Str.ofString "genus",Str.ofString "a",none,some 1,none,true⟩
def kO (R:List Rt) (z n:Int):Bool:=match az R n with | none=>false | some x=>decide (z < x.e.d)
def jF (R:List Rt) (n:Int):Prop:=∀ y,az R n = some y → y.e.b ≠ none
theorem jF.bad {R:List Rt} {ds:List Dd} {x:Dd} (h:jF R x.n):ej R ds x = false:=by
 unfold ej gC
 cases hf:az R x.n with
 | none=>exact Bool.and_false _
 | some y =>
  show (_ && (decide (y.e.b = none) && _)) = false
  rw [decide_eq_false (h y hf),Bool.false_and,Bool.and_false]
def vS (K:W.Frag) (CA:Addr):Sp:=fun vs H Q _=>∃ rl ws es d kr al ac ds,∃ p:Nat,∃ r:Int,vs = [.ref rl,.ref d,.ref al,.int p,.int r] ∧ H rl = some (.lst ws) ∧ dw H ws es ∧ oJ es ∧ H d = some (.dK kr) ∧ Paired (fu H (aw es).r) (aw es).r kr ∧ ((aw es).r.map (·.e.n)).Nodup ∧ (aw es).r.length ≤ 84 ∧ H al = some (.lst ac) ∧ d6 H CA ac ds ∧ gM (aw es).r ds ∧ p ≤ ds.length ∧ ds.length ≤ 84 ∧ 0 ≤ r ∧ ∀ v H',aH H H' → (∀ G:Hp,(∀ b u,H b = none → H' b = some u → G b = some u) → oS K G CA (aw es).r (ds.take p) v) → Q v H'
def tW (K:W.Frag):Sp:=fun vs H Q _=>∃ (a:Addr) (ns:List Int),vs = [.ref a] ∧ ao K H a (ns.map V.int) ∧ ns.length ≤ 63 ∧ ∀ H',Q (.bl true) H'
def top (i:Nat):Stmt:=PySem.Challenge.pw_rightname_k32_books_of_acts.main.body.getD i (.Pass ⟨0,0,0,0⟩)
abbrev dW:Stmt:=top 17
abbrev fk:Stmt:=top 18
abbrev dD:Stmt:=top 19
abbrev eM:Stmt:=top 20
abbrev eE:Stmt:=top 21
abbrev gn:Stmt:=top 22
abbrev cQ:Stmt:=top 25
abbrev cb:Stmt:=top 26
abbrev d5:Stmt:=top 27
abbrev gw:Stmt:=top 28
abbrev dB:Stmt:=top 29
abbrev cj:Stmt:=top 32
abbrev eK:Stmt:=top 36
abbrev ck:Stmt:=top 37
abbrev cX:Stmt:=top 38
abbrev dA:Stmt:=top 39
abbrev dZ:Stmt:=top 40
abbrev dY:Stmt:=top 42
abbrev gm:Stmt:=top 44
abbrev fS:Stmt:=top 45
abbrev eD:Stmt:=top 46
abbrev ff:Stmt:=top 47
abbrev hV:Stmt:=top 48
abbrev jE:Stmt:=top 49
abbrev gu:Stmt:=top 50
abbrev d7:Stmt:=top 51
abbrev fR:Stmt:=top 52
abbrev fY:Stmt:=top 53
abbrev fX:Stmt:=top 54
abbrev gq:Stmt:=top 55
abbrev gr:Stmt:=top 56
abbrev dX:Stmt:=top 57
abbrev jK:Stmt:=top 58
abbrev lh:Stmt:=top 59
abbrev cG:Stmt:=inClass (top 24) 0
abbrev cC:Stmt:=inClass (top 31) 0
abbrev d8:Stmt:=inClass (top 35) 0
abbrev cf:Stmt:=inClass (top 3) 0
abbrev cR:Stmt:=inClass (top 31) 1
abbrev bY:Stmt:=inClass (top 31) 2
abbrev bJ:Stmt:=inClass (top 31) 3
theorem pU {vs:List V} {us:List Value} {zs:List V} {ws:List Value} (r:Vals vs us) (rz:Vals zs ws):Vals ((fun us ws=>us ++ (match ws with | []=>[] | _=>[]):List V → List V → List V) vs zs) ((fun us ws=>us ++ (match ws with | []=>[] | _=>[]):List Value → List Value → List Value) us ws):=by
 refine r.append ?_
 cases rz with
 | nil=>exact .nil
 | cons _ _=>exact .nil
theorem oZ {K:W.Frag} {T f:Addr} {fd:FuncData} {o:Obj} {n:Nat} (F:jg K "__init__" "Entry.__init__" cG (.ref T) f fd) (hT:K.lookup T = some o) (hs:o.data = .seq #[.none,.none,.none,.bool true] n):bj K fd ["self", "number", "day", "rank", "word", "under", "sheet", "base", "described"] [] 8 (fun us ws=>us ++ (match ws with | []=>[] | _=>[])) (fun us ws=>us ++ (match ws with | []=>[] | _=>[])) :=
 .ofD F hT hs pU fun _ _ _ _ _ _ y us ws h1 h2=>by
  obtain ⟨a0,us0,rfl,g0⟩:=ak h1
  obtain ⟨a1,us1,rfl,g1⟩:=ak g0
  obtain ⟨a2,us2,rfl,g2⟩:=ak g1
  obtain ⟨a3,us3,rfl,g3⟩:=ak g2
  obtain ⟨a4,us4,rfl,g4⟩:=ak g3
  obtain ⟨a5,us5,rfl,g5⟩:=ak g4
  obtain ⟨a6,us6,rfl,g6⟩:=ak g5
  obtain ⟨a7,us7,rfl,g7⟩:=ak g6
  obtain rfl:=len0 g7
  obtain rfl:=len0 h2
  exact ⟨⟨_,rfl,rfl⟩,rfl⟩
theorem pS {vs:List V} {us:List Value} {zs:List V} {ws:List Value} (r:Vals vs us) (rz:Vals zs ws):Vals ((fun us ws=>us ++ (match ws with | []=>[.bA,.bl true] | _=>[]):List V → List V → List V) vs zs) ((fun us ws=>us ++ (match ws with | []=>[.none,.bool true] | _=>[]):List Value → List Value → List Value) us ws):=by
 refine r.append ?_
 cases rz with
 | nil=>exact (.cons rfl (.cons rfl .nil))
 | cons _ _=>exact .nil
theorem ot {K:W.Frag} {T f:Addr} {fd:FuncData} {o:Obj} {n:Nat} (F:jg K "__init__" "Entry.__init__" cG (.ref T) f fd) (hT:K.lookup T = some o) (hs:o.data = .seq #[.none,.none,.none,.bool true] n):bj K fd ["self", "number", "day", "rank", "word", "under", "sheet", "base", "described"] [] 6 (fun us ws=>us ++ (match ws with | []=>[.none,.bool true] | _=>[])) (fun us ws=>us ++ (match ws with | []=>[.bA,.bl true] | _=>[])) :=
 .ofD F hT hs pS fun _ _ _ _ _ _ y us ws h1 h2=>by
  obtain ⟨a0,us0,rfl,g0⟩:=ak h1
  obtain ⟨a1,us1,rfl,g1⟩:=ak g0
  obtain ⟨a2,us2,rfl,g2⟩:=ak g1
  obtain ⟨a3,us3,rfl,g3⟩:=ak g2
  obtain ⟨a4,us4,rfl,g4⟩:=ak g3
  obtain ⟨a5,us5,rfl,g5⟩:=ak g4
  obtain rfl:=len0 g5
  obtain rfl:=len0 h2
  exact ⟨⟨_,rfl,rfl⟩,rfl⟩
theorem sP {K:W.Frag} {f:Addr} {fd:FuncData} (F:jg K "__init__" "Act.__init__" d8 .none f fd):bj K fd ["self", "day", "deed", "number"] [] 3 (fun us _=>us) (fun us _=>us) :=
 .of0 F fun _ _ _ _ _ _ y us h1=>by
  obtain ⟨a0,us0,rfl,g0⟩:=ak h1
  obtain ⟨a1,us1,rfl,g1⟩:=ak g0
  obtain ⟨a2,us2,rfl,g2⟩:=ak g1
  obtain rfl:=len0 g2
  exact ⟨rfl,rfl⟩
theorem pJ {K:W.Frag} {T f:Addr} {fd:FuncData} {o:Obj} {n:Nat} {tk:Tok} (F:jg K "__init__" "NoAct.__init__" cf (.ref T) f fd) (hT:K.lookup T = some o) (hs:o.data = .seq #[.int 0 tk] n):bj K fd ["self", "words", "place"] [] 2 (fun us _=>us ++ []) (fun us _=>us ++ []) :=
 .ofD F hT hs (fun r _=>r.append .nil) fun _ _ _ _ _ _ y us ws h1 h2=>by
  obtain ⟨a0,us0,rfl,g0⟩:=ak h1
  obtain ⟨a1,us1,rfl,g1⟩:=ak g0
  obtain rfl:=len0 g1
  obtain rfl:=len0 h2
  exact ⟨⟨_,rfl,rfl⟩,rfl⟩
structure Fn (K:W.Frag) (mg:Str → Option Value) (x:Str) (st:Stmt) (ps:List Str) (f:Addr) (fd:FuncData):Prop where
 fn:qz K x x st f fd
 mgf:mg x = some (.ref f)
 bi:Binds K fd ps []
theorem Fn.kp {K:W.Frag} {mg:Str → Option Value} {x:Str} {st:Stmt} {ps:List Str} {f:Addr} {fd:FuncData} (F:Fn K mg x st ps f fd):W.keepIn K (.ref f) = true:=F.fn.kp
set_option genInjectivity false in
set_option genSizeOfSpec false in
set_option genSizeOf false in
structure Ad where
 a_is_whole:Addr
 d_is_whole:FuncData
 a_is_day:Addr
 d_is_day:FuncData
 a_is_number:Addr
 d_is_number:FuncData
 a_is_word:Addr
 d_is_word:FuncData
 a_is_rank:Addr
 d_is_rank:FuncData
 a_above:Addr
 d_above:FuncData
 a_refuse_head:Addr
 d_refuse_head:FuncData
 a_under_fits:Addr
 d_under_fits:FuncData
 a_tie_fits:Addr
 d_tie_fits:FuncData
 a_ahead:Addr
 d_ahead:FuncData
 a_book_list:Addr
 d_book_list:FuncData
 a_results_of:Addr
 d_results_of:FuncData
 a_is_deed:Addr
 d_is_deed:FuncData
 a_refuse_day:Addr
 d_refuse_day:FuncData
 a_can_follow:Addr
 d_can_follow:FuncData
 a_acts_with:Addr
 d_acts_with:FuncData
 a_act_list:Addr
 d_act_list:FuncData
 a_Lcell_at:Addr
 d_Lcell_at:FuncData
 a_Ldraw:Addr
 d_Ldraw:FuncData
 a_Lwords:Addr
 d_Lwords:FuncData
 a_Lsheets:Addr
 d_Lsheets:FuncData
 a_Lunder:Addr
 d_Lunder:FuncData
 a_Lbase:Addr
 d_Lbase:FuncData
 a_Lrow:Addr
 d_Lrow:FuncData
 a_Lrows:Addr
 d_Lrows:FuncData
 a_Lentries:Addr
 d_Lentries:FuncData
 a_Lright:Addr
 d_Lright:FuncData
 a_Lroots:Addr
 d_Lroots:FuncData
 a_Ldeeds:Addr
 d_Ldeeds:FuncData
 a_Lacts:Addr
 d_Lacts:FuncData
 a_Lsame:Addr
 d_Lsame:FuncData
 a_Lrefused:Addr
 d_Lrefused:FuncData
 a_Lbad:Addr
 d_Lbad:FuncData
 a_law:Addr
 d_law:FuncData
 c_Entry:Addr
 a_Entry_init:Addr
 t_Entry_init:Addr
 d_Entry_init:FuncData
 c_Results:Addr
 a_Results_init:Addr
 d_Results_init:FuncData
 c_Act:Addr
 a_Act_init:Addr
 d_Act_init:FuncData
 a_Results_put:Addr
 d_Results_put:FuncData
 a_Results_name_of:Addr
 d_Results_name_of:FuncData
 a_Results_outcome_of:Addr
 d_Results_outcome_of:FuncData
 u_MOST_LETTERS:Value
 u_LAST_DAY:Value
 u_LAST_NUMBER:Value
 u_RANKS:Addr
 u_DEEDS:Addr
 u_ABOVE:Addr
 c_NoRank:Addr
 c_NoNumber:Addr
 c_NoDay:Addr
 c_NoWord:Addr
 c_NoBook:Addr
 c_NoAct:Addr
 c_NoEntry:Addr
 c_RightError:Addr
 c_Late:Addr
 a_NoAct_init:Addr
 t_NoAct_init:Addr
 d_NoAct_init:FuncData
 k_NoAct_2:Tok
structure Txt (w:World) (K:W.Frag) (mg:Str → Option Value) (c:Ad):Prop where
 is_whole:Fn K mg "is_whole" dW ["thing"] c.a_is_whole c.d_is_whole
 is_day:Fn K mg "is_day" fk ["thing"] c.a_is_day c.d_is_day
 is_number:Fn K mg "is_number" dD ["thing"] c.a_is_number c.d_is_number
 is_word:Fn K mg "is_word" eM ["thing"] c.a_is_word c.d_is_word
 is_rank:Fn K mg "is_rank" eE ["thing"] c.a_is_rank c.d_is_rank
 above:Fn K mg "above" gn ["rank"] c.a_above c.d_above
 refuse_head:Fn K mg "refuse_head" cQ ["number", "day", "rank", "word"] c.a_refuse_head c.d_refuse_head
 under_fits:Fn K mg "under_fits" cb ["rank", "under"] c.a_under_fits c.d_under_fits
 tie_fits:Fn K mg "tie_fits" d5 ["rank", "sheet", "base"] c.a_tie_fits c.d_tie_fits
 ahead:Fn K mg "ahead" gw ["one", "other"] c.a_ahead c.d_ahead
 book_list:Fn K mg "book_list" dB ["entries"] c.a_book_list c.d_book_list
 results_of:Fn K mg "results_of" cj ["book"] c.a_results_of c.d_results_of
 is_deed:Fn K mg "is_deed" eK ["thing"] c.a_is_deed c.d_is_deed
 refuse_day:Fn K mg "refuse_day" ck ["day"] c.a_refuse_day c.d_refuse_day
 can_follow:Fn K mg "can_follow" cX ["results", "ahead_of_it", "thing"] c.a_can_follow c.d_can_follow
 acts_with:Fn K mg "acts_with" dA ["results", "acts"] c.a_acts_with c.d_acts_with
 act_list:Fn K mg "act_list" dZ ["entries", "acts"] c.a_act_list c.d_act_list
 Lcell_at:Fn K mg "_law_cell_at" dY ["_law_script", "_law_k"] c.a_Lcell_at c.d_Lcell_at
 Ldraw:Fn K mg "_law_draw" gm ["_law_cell", "_law_place"] c.a_Ldraw c.d_Ldraw
 Lwords:Fn K mg "_law_words" fS ["_law_cell"] c.a_Lwords c.d_Lwords
 Lsheets:Fn K mg "_law_sheets" eD ["_law_cell"] c.a_Lsheets c.d_Lsheets
 Lunder:Fn K mg "_law_under" ff ["_law_rows_here", "_law_rank", "_law_draw_here"] c.a_Lunder c.d_Lunder
 Lbase:Fn K mg "_law_base" hV ["_law_rows_here", "_law_rank", "_law_word", "_law_draw_here"] c.a_Lbase c.d_Lbase
 Lrow:Fn K mg "_law_row" jE ["_law_rows_here", "_law_cell", "_law_k", "_law_words_here", "_law_sheets_here"] c.a_Lrow c.d_Lrow
 Lrows:Fn K mg "_law_rows" gu ["_law_cells", "_law_words_here", "_law_sheets_here"] c.a_Lrows c.d_Lrows
 Lentries:Fn K mg "_law_entries" d7 ["_law_rows_here"] c.a_Lentries c.d_Lentries
 Lright:Fn K mg "_law_right" fR ["_law_rows_here"] c.a_Lright c.d_Lright
 Lroots:Fn K mg "_law_roots" fY ["_law_right_here"] c.a_Lroots c.d_Lroots
 Ldeeds:Fn K mg "_law_deeds" fX ["_law_cells", "_law_right_here"] c.a_Ldeeds c.d_Ldeeds
 Lacts:Fn K mg "_law_acts" gq ["_law_deeds_here"] c.a_Lacts c.d_Lacts
 Lsame:Fn K mg "_law_same" gr ["_law_found", "_law_acts_here"] c.a_Lsame c.d_Lsame
 Lrefused:Fn K mg "_law_refused" dX ["_law_entries_here", "_law_acts_here"] c.a_Lrefused c.d_Lrefused
 Lbad:Fn K mg "_law_bad" jK ["_law_rows_here", "_law_right_here", "_law_acts_here", "_law_at", "_law_draw_here"] c.a_Lbad c.d_Lbad
 law:Fn K mg "law" lh ["_law_script"] c.a_law c.d_law
 mg_Entry:mg "Entry" = some (.ref c.c_Entry)
 cl_Entry:qm K c.c_Entry
 mk_Entry:Mk K c.c_Entry c.a_Entry_init
 Entry_init:jg K "__init__" "Entry.__init__" cG (.ref c.t_Entry_init) c.a_Entry_init c.d_Entry_init
 na_Entry_number:bp K c.c_Entry "number"
 na_Entry_day:bp K c.c_Entry "day"
 na_Entry_rank:bp K c.c_Entry "rank"
 na_Entry_word:bp K c.c_Entry "word"
 na_Entry_under:bp K c.c_Entry "under"
 na_Entry_sheet:bp K c.c_Entry "sheet"
 na_Entry_base:bp K c.c_Entry "base"
 na_Entry_described:bp K c.c_Entry "described"
 b_Entry_8:bj K c.d_Entry_init ["self", "number", "day", "rank", "word", "under", "sheet", "base", "described"] [] 8 (fun us ws=>us ++ (match ws with | []=>[] | _=>[])) (fun us ws=>us ++ (match ws with | []=>[] | _=>[]))
 b_Entry_6:bj K c.d_Entry_init ["self", "number", "day", "rank", "word", "under", "sheet", "base", "described"] [] 6 (fun us ws=>us ++ (match ws with | []=>[.none,.bool true] | _=>[])) (fun us ws=>us ++ (match ws with | []=>[.bA,.bl true] | _=>[]))
 mg_Results:mg "Results" = some (.ref c.c_Results)
 cl_Results:qm K c.c_Results
 Results_init:qz K "__init__" "Results.__init__" cC c.a_Results_init c.d_Results_init
 bi_Results_init:Binds K c.d_Results_init ["self"] []
 mk_Results:Mk K c.c_Results c.a_Results_init
 na_Results_outs:bp K c.c_Results "outs"
 na_Results_names:bp K c.c_Results "names"
 na_Results_rights:bp K c.c_Results "rights"
 na_Results_holders:bp K c.c_Results "holders"
 mg_Act:mg "Act" = some (.ref c.c_Act)
 cl_Act:qm K c.c_Act
 mk_Act:Mk K c.c_Act c.a_Act_init
 Act_init:jg K "__init__" "Act.__init__" d8 .none c.a_Act_init c.d_Act_init
 na_Act_day:bp K c.c_Act "day"
 na_Act_deed:bp K c.c_Act "deed"
 na_Act_number:bp K c.c_Act "number"
 b_Act_3:bj K c.d_Act_init ["self", "day", "deed", "number"] [] 3 (fun us _=>us) (fun us _=>us)
 Results_put:qz K "put" "Results.put" cR c.a_Results_put c.d_Results_put
 bi_Results_put:Binds K c.d_Results_put ["self", "entry"] []
 m_Results_put:Meth K c.c_Results "put" c.a_Results_put
 Results_name_of:qz K "name_of" "Results.name_of" bY c.a_Results_name_of c.d_Results_name_of
 bi_Results_name_of:Binds K c.d_Results_name_of ["self", "entry"] []
 m_Results_name_of:Meth K c.c_Results "name_of" c.a_Results_name_of
 Results_outcome_of:qz K "outcome_of" "Results.outcome_of" bJ c.a_Results_outcome_of c.d_Results_outcome_of
 bi_Results_outcome_of:Binds K c.d_Results_outcome_of ["self", "entry", "name"] []
 m_Results_outcome_of:Meth K c.c_Results "outcome_of" c.a_Results_outcome_of
 mg_MOST_LETTERS:mg "MOST_LETTERS" = some c.u_MOST_LETTERS
 rl_MOST_LETTERS:RelV (.int 12) c.u_MOST_LETTERS
 mg_LAST_DAY:mg "LAST_DAY" = some c.u_LAST_DAY
 rl_LAST_DAY:RelV (.int 1000000) c.u_LAST_DAY
 mg_LAST_NUMBER:mg "LAST_NUMBER" = some c.u_LAST_NUMBER
 rl_LAST_NUMBER:RelV (.int 1000000000) c.u_LAST_NUMBER
 mg_RANKS:mg "RANKS" = some (.ref c.u_RANKS)
 sq_RANKS:∀ H,bz K H c.u_RANKS [.str "genus",.str "species",.str "form"]
 mg_DEEDS:mg "DEEDS" = some (.ref c.u_DEEDS)
 sq_DEEDS:∀ H,bz K H c.u_DEEDS [.str "keep",.str "strike",.str "leave"]
 mg_ABOVE:mg "ABOVE" = some (.ref c.u_ABOVE)
 kd_ABOVE:iG w K c.u_ABOVE ([("genus",.bA),("species",.str "genus"),("form",.str "species")]:List (Str × V))
 mg_NoRank:mg "NoRank" = some (.ref c.c_NoRank)
 mg_NoNumber:mg "NoNumber" = some (.ref c.c_NoNumber)
 mg_NoDay:mg "NoDay" = some (.ref c.c_NoDay)
 mg_NoWord:mg "NoWord" = some (.ref c.c_NoWord)
 mg_NoBook:mg "NoBook" = some (.ref c.c_NoBook)
 mg_NoAct:mg "NoAct" = some (.ref c.c_NoAct)
 mg_NoEntry:mg "NoEntry" = some (.ref c.c_NoEntry)
 mg_RightError:mg "RightError" = some (.ref c.c_RightError)
 mg_Late:mg "Late" = some (.ref c.c_Late)
 x_NoRank:iN K c.c_NoRank
 q_NoRank:dn K c.c_NoRank
 i_NoRank_NoAct:W.kitOne K (.ref c.c_NoRank) (.ref c.c_NoAct) = some false
 i_NoRank_ValueError:W.kitOne K (.ref c.c_NoRank) (.type "ValueError") = some true
 i_NoRank_NoBook:W.kitOne K (.ref c.c_NoRank) (.ref c.c_NoBook) = some false
 i_NoRank_Late:W.kitOne K (.ref c.c_NoRank) (.ref c.c_Late) = some false
 i_NoRank_NoDay:W.kitOne K (.ref c.c_NoRank) (.ref c.c_NoDay) = some false
 i_NoRank_NoEntry:W.kitOne K (.ref c.c_NoRank) (.ref c.c_NoEntry) = some false
 i_NoRank_NoNumber:W.kitOne K (.ref c.c_NoRank) (.ref c.c_NoNumber) = some false
 e_NoRank_RightError:PySem.W.exmOne K (.ref c.c_NoRank) (.ref c.c_RightError) = some true
 x_NoNumber:iN K c.c_NoNumber
 q_NoNumber:dn K c.c_NoNumber
 i_NoNumber_NoAct:W.kitOne K (.ref c.c_NoNumber) (.ref c.c_NoAct) = some false
 i_NoNumber_ValueError:W.kitOne K (.ref c.c_NoNumber) (.type "ValueError") = some true
 i_NoNumber_NoBook:W.kitOne K (.ref c.c_NoNumber) (.ref c.c_NoBook) = some false
 i_NoNumber_Late:W.kitOne K (.ref c.c_NoNumber) (.ref c.c_Late) = some false
 i_NoNumber_NoDay:W.kitOne K (.ref c.c_NoNumber) (.ref c.c_NoDay) = some false
 i_NoNumber_NoEntry:W.kitOne K (.ref c.c_NoNumber) (.ref c.c_NoEntry) = some false
 i_NoNumber_NoNumber:W.kitOne K (.ref c.c_NoNumber) (.ref c.c_NoNumber) = some true
 e_NoNumber_RightError:PySem.W.exmOne K (.ref c.c_NoNumber) (.ref c.c_RightError) = some true
 x_NoDay:iN K c.c_NoDay
 q_NoDay:dn K c.c_NoDay
 i_NoDay_NoAct:W.kitOne K (.ref c.c_NoDay) (.ref c.c_NoAct) = some false
 i_NoDay_ValueError:W.kitOne K (.ref c.c_NoDay) (.type "ValueError") = some true
 i_NoDay_NoBook:W.kitOne K (.ref c.c_NoDay) (.ref c.c_NoBook) = some false
 i_NoDay_Late:W.kitOne K (.ref c.c_NoDay) (.ref c.c_Late) = some false
 i_NoDay_NoDay:W.kitOne K (.ref c.c_NoDay) (.ref c.c_NoDay) = some true
 i_NoDay_NoEntry:W.kitOne K (.ref c.c_NoDay) (.ref c.c_NoEntry) = some false
 i_NoDay_NoNumber:W.kitOne K (.ref c.c_NoDay) (.ref c.c_NoNumber) = some false
 e_NoDay_RightError:PySem.W.exmOne K (.ref c.c_NoDay) (.ref c.c_RightError) = some true
 x_NoWord:iN K c.c_NoWord
 q_NoWord:dn K c.c_NoWord
 i_NoWord_NoAct:W.kitOne K (.ref c.c_NoWord) (.ref c.c_NoAct) = some false
 i_NoWord_ValueError:W.kitOne K (.ref c.c_NoWord) (.type "ValueError") = some true
 i_NoWord_NoBook:W.kitOne K (.ref c.c_NoWord) (.ref c.c_NoBook) = some false
 i_NoWord_Late:W.kitOne K (.ref c.c_NoWord) (.ref c.c_Late) = some false
 i_NoWord_NoDay:W.kitOne K (.ref c.c_NoWord) (.ref c.c_NoDay) = some false
 i_NoWord_NoEntry:W.kitOne K (.ref c.c_NoWord) (.ref c.c_NoEntry) = some false
 i_NoWord_NoNumber:W.kitOne K (.ref c.c_NoWord) (.ref c.c_NoNumber) = some false
 e_NoWord_RightError:PySem.W.exmOne K (.ref c.c_NoWord) (.ref c.c_RightError) = some true
 x_NoBook:iN K c.c_NoBook
 q_NoBook:dn K c.c_NoBook
 i_NoBook_NoAct:W.kitOne K (.ref c.c_NoBook) (.ref c.c_NoAct) = some false
 i_NoBook_ValueError:W.kitOne K (.ref c.c_NoBook) (.type "ValueError") = some true
 i_NoBook_NoBook:W.kitOne K (.ref c.c_NoBook) (.ref c.c_NoBook) = some true
 i_NoBook_Late:W.kitOne K (.ref c.c_NoBook) (.ref c.c_Late) = some false
 i_NoBook_NoDay:W.kitOne K (.ref c.c_NoBook) (.ref c.c_NoDay) = some false
 i_NoBook_NoEntry:W.kitOne K (.ref c.c_NoBook) (.ref c.c_NoEntry) = some false
 i_NoBook_NoNumber:W.kitOne K (.ref c.c_NoBook) (.ref c.c_NoNumber) = some false
 e_NoBook_RightError:PySem.W.exmOne K (.ref c.c_NoBook) (.ref c.c_RightError) = some true
 NoAct_init:jg K "__init__" "NoAct.__init__" cf (.ref c.t_NoAct_init) c.a_NoAct_init c.d_NoAct_init
 xs_NoAct:wU K c.c_NoAct "place"
 hd_NoAct:PySem.W.hasDictIn K c.c_NoAct = true
 na_NoAct:W.findIn K (.ref c.c_NoAct) "place" = some none
 bi_RightError:vc K c.c_RightError
 b_NoAct_2:bj K c.d_NoAct_init ["self", "words", "place"] [] 2 (fun us _=>us ++ []) (fun us _=>us ++ [])
 x_NoAct:kN K c.c_NoAct c.a_NoAct_init
 q_NoAct:dn K c.c_NoAct
 i_NoAct_NoAct:W.kitOne K (.ref c.c_NoAct) (.ref c.c_NoAct) = some true
 i_NoAct_ValueError:W.kitOne K (.ref c.c_NoAct) (.type "ValueError") = some true
 i_NoAct_NoBook:W.kitOne K (.ref c.c_NoAct) (.ref c.c_NoBook) = some false
 i_NoAct_Late:W.kitOne K (.ref c.c_NoAct) (.ref c.c_Late) = some false
 i_NoAct_NoDay:W.kitOne K (.ref c.c_NoAct) (.ref c.c_NoDay) = some false
 i_NoAct_NoEntry:W.kitOne K (.ref c.c_NoAct) (.ref c.c_NoEntry) = some false
 i_NoAct_NoNumber:W.kitOne K (.ref c.c_NoAct) (.ref c.c_NoNumber) = some false
 e_NoAct_RightError:PySem.W.exmOne K (.ref c.c_NoAct) (.ref c.c_RightError) = some true
 x_NoEntry:iN K c.c_NoEntry
 q_NoEntry:dn K c.c_NoEntry
 i_NoEntry_NoAct:W.kitOne K (.ref c.c_NoEntry) (.ref c.c_NoAct) = some false
 i_NoEntry_ValueError:W.kitOne K (.ref c.c_NoEntry) (.type "ValueError") = some true
 i_NoEntry_NoBook:W.kitOne K (.ref c.c_NoEntry) (.ref c.c_NoBook) = some false
 i_NoEntry_Late:W.kitOne K (.ref c.c_NoEntry) (.ref c.c_Late) = some false
 i_NoEntry_NoDay:W.kitOne K (.ref c.c_NoEntry) (.ref c.c_NoDay) = some false
 i_NoEntry_NoEntry:W.kitOne K (.ref c.c_NoEntry) (.ref c.c_NoEntry) = some true
 i_NoEntry_NoNumber:W.kitOne K (.ref c.c_NoEntry) (.ref c.c_NoNumber) = some false
 e_NoEntry_RightError:PySem.W.exmOne K (.ref c.c_NoEntry) (.ref c.c_RightError) = some true
 w_Entry:wc K c.c_Entry
 ws_Entry:W.kitOne K (.ref c.c_Entry) (.ref c.c_Entry) = some true
 wn_Entry_NoneType:W.kitOne K (.type "NoneType") (.ref c.c_Entry) = some false
 wn_Entry_int:W.kitOne K (.type "int") (.ref c.c_Entry) = some false
 wn_Entry_str:W.kitOne K (.type "str") (.ref c.c_Entry) = some false
 wn_Entry_bool:W.kitOne K (.type "bool") (.ref c.c_Entry) = some false
 wn_Entry_list:W.kitOne K (.type "list") (.ref c.c_Entry) = some false
 wn_Entry_tuple:W.kitOne K (.type "tuple") (.ref c.c_Entry) = some false
 wn_Entry_dict:W.kitOne K (.type "dict") (.ref c.c_Entry) = some false
 w_Act:wc K c.c_Act
 ws_Act:W.kitOne K (.ref c.c_Act) (.ref c.c_Act) = some true
 wn_Act_NoneType:W.kitOne K (.type "NoneType") (.ref c.c_Act) = some false
 wn_Act_int:W.kitOne K (.type "int") (.ref c.c_Act) = some false
 wn_Act_str:W.kitOne K (.type "str") (.ref c.c_Act) = some false
 wn_Act_bool:W.kitOne K (.type "bool") (.ref c.c_Act) = some false
 wn_Act_list:W.kitOne K (.type "list") (.ref c.c_Act) = some false
 wn_Act_tuple:W.kitOne K (.type "tuple") (.ref c.c_Act) = some false
 wn_Act_dict:W.kitOne K (.type "dict") (.ref c.c_Act) = some false
 no_len:mg "len" = none
 no_isinstance:mg "isinstance" = none
 no_str:mg "str" = none
 no_bool:mg "bool" = none
 no_all:mg "all" = none
 no_range:mg "range" = none
 no_int:mg "int" = none
 no_list:mg "list" = none
 no_min:mg "min" = none
 no_max:mg "max" = none
 no_dict:mg "dict" = none
 no_tuple:mg "tuple" = none
 no_sum:mg "sum" = none
 no_enumerate:mg "enumerate" = none
 no_zip:mg "zip" = none
 no_ValueError:mg "ValueError" = none
theorem mz:aX ["thing"] ["thing"] (aG dW):=⟨rfl,rfl,rfl,by decide +kernel,rfl,by decide +kernel,by decide +kernel⟩
theorem qb:aX ["thing"] ["thing"] (aG fk):=⟨rfl,rfl,rfl,by decide +kernel,rfl,by decide +kernel,by decide +kernel⟩
theorem m8:aX ["thing"] ["thing"] (aG dD):=⟨rfl,rfl,rfl,by decide +kernel,rfl,by decide +kernel,by decide +kernel⟩
theorem pC:aX ["thing"] ["thing"] (aG eM):=⟨rfl,rfl,rfl,by decide +kernel,rfl,by decide +kernel,by decide +kernel⟩
theorem pP:aX ["thing"] ["thing"] (aG eE):=⟨rfl,rfl,rfl,by decide +kernel,rfl,by decide +kernel,by decide +kernel⟩
theorem tH:aX ["rank"] ["rank"] (aG gn):=⟨rfl,rfl,rfl,by decide +kernel,rfl,by decide +kernel,by decide +kernel⟩
theorem kP:aX ["number", "day", "rank", "word"] ["number", "day", "rank", "word"] (aG cQ):=⟨rfl,rfl,rfl,by decide +kernel,rfl,by decide +kernel,by decide +kernel⟩
theorem kx:aX ["rank", "under"] ["rank", "under"] (aG cb):=⟨rfl,rfl,rfl,by decide +kernel,rfl,by decide +kernel,by decide +kernel⟩
theorem nG:aX ["rank", "sheet", "base"] ["rank", "sheet", "base"] (aG d5):=⟨rfl,rfl,rfl,by decide +kernel,rfl,by decide +kernel,by decide +kernel⟩
theorem sX:aX ["one", "other"] ["one", "other"] (aG gw):=⟨rfl,rfl,rfl,by decide +kernel,rfl,by decide +kernel,by decide +kernel⟩
theorem cg:aX ["entries", "book", "seen", "last", "entry"] ["entries"] (aG dB):=⟨rfl,rfl,rfl,by decide +kernel,rfl,by decide +kernel,by decide +kernel⟩
theorem fF:aX ["book", "results", "entry"] ["book"] (aG cj):=⟨rfl,rfl,rfl,by decide +kernel,rfl,by decide +kernel,by decide +kernel⟩
theorem o6:aX ["thing"] ["thing"] (aG eK):=⟨rfl,rfl,rfl,by decide +kernel,rfl,by decide +kernel,by decide +kernel⟩
theorem lM:aX ["day"] ["day"] (aG ck):=⟨rfl,rfl,rfl,by decide +kernel,rfl,by decide +kernel,by decide +kernel⟩
theorem iI:aX ["results", "ahead_of_it", "thing", "entry"] ["results", "ahead_of_it", "thing"] (aG cX):=⟨rfl,rfl,rfl,by decide +kernel,rfl,by decide +kernel,by decide +kernel⟩
theorem eA:aX ["results", "acts", "found", "place", "thing"] ["results", "acts"] (aG dA):=⟨rfl,rfl,rfl,by decide +kernel,rfl,by decide +kernel,by decide +kernel⟩
theorem nj:aX ["entries", "acts"] ["entries", "acts"] (aG dZ):=⟨rfl,rfl,rfl,by decide +kernel,rfl,by decide +kernel,by decide +kernel⟩
theorem nA:aX ["_law_script", "_law_k"] ["_law_script", "_law_k"] (aG dY):=⟨rfl,rfl,rfl,by decide +kernel,rfl,by decide +kernel,by decide +kernel⟩
theorem kM:aX ["_law_cell", "_law_place", "_law_own", "_law_number"] ["_law_cell", "_law_place"] (aG gm):=⟨rfl,rfl,rfl,by decide +kernel,rfl,by decide +kernel,by decide +kernel⟩
theorem cc:aX ["_law_cell", "_law_letters", "_law_size", "_law_at", "_law_found", "_law_k", "_law_word", "_law_j"] ["_law_cell"] (aG fS):=⟨rfl,rfl,rfl,by decide +kernel,rfl,by decide +kernel,by decide +kernel⟩
theorem kL:aX ["_law_cell", "_law_far"] ["_law_cell"] (aG eD):=⟨rfl,rfl,rfl,by decide +kernel,rfl,by decide +kernel,by decide +kernel⟩
theorem jI:aX ["_law_rows_here", "_law_rank", "_law_draw_here", "_law_want", "_law_some"] ["_law_rows_here", "_law_rank", "_law_draw_here"] (aG ff):=⟨rfl,rfl,rfl,by decide +kernel,rfl,by decide +kernel,by decide +kernel⟩
theorem kl:aX ["_law_rows_here", "_law_rank", "_law_word", "_law_draw_here", "_law_some"] ["_law_rows_here", "_law_rank", "_law_word", "_law_draw_here"] (aG hV):=⟨rfl,rfl,rfl,by decide +kernel,rfl,by decide +kernel,by decide +kernel⟩
theorem cp:aX ["_law_rows_here", "_law_cell", "_law_k", "_law_words_here", "_law_sheets_here", "_law_draws", "_law_day", "_law_number", "_law_rank", "_law_word", "_law_under_here", "_law_base_here"] ["_law_rows_here", "_law_cell", "_law_k", "_law_words_here", "_law_sheets_here"] (aG jE):=⟨rfl,rfl,rfl,by decide +kernel,rfl,by decide +kernel,by decide +kernel⟩
theorem ki:aX ["_law_cells", "_law_words_here", "_law_sheets_here", "_law_rows_here", "_law_k"] ["_law_cells", "_law_words_here", "_law_sheets_here"] (aG gu):=⟨rfl,rfl,rfl,by decide +kernel,rfl,by decide +kernel,by decide +kernel⟩
theorem cF:aX ["_law_rows_here", "_law_found", "_law_row_here", "_law_number", "_law_day", "_law_rank", "_law_word", "_law_one"] ["_law_rows_here"] (aG d7):=⟨rfl,rfl,rfl,by decide +kernel,rfl,by decide +kernel,by decide +kernel⟩
theorem bC:aX ["_law_rows_here", "_law_right_here", "_law_gone", "_law_row_here", "_law_number", "_law_day", "_law_rank", "_law_word", "_law_under_here", "_law_sheet", "_law_base_here", "_law_described", "_law_head", "_law_good", "_law_place", "_law_root"] ["_law_rows_here"] (aG fR):=⟨rfl,rfl,rfl,by decide +kernel,rfl,by decide +kernel,by decide +kernel⟩
theorem qc:aX ["_law_right_here"] ["_law_right_here"] (aG fY):=⟨rfl,rfl,rfl,by decide +kernel,rfl,by decide +kernel,by decide +kernel⟩
theorem dE:aX ["_law_cells", "_law_right_here", "_law_some", "_law_found", "_law_day", "_law_k", "_law_draw_here", "_law_number"] ["_law_cells", "_law_right_here"] (aG fX):=⟨rfl,rfl,rfl,by decide +kernel,rfl,by decide +kernel,by decide +kernel⟩
theorem rL:aX ["_law_deeds_here"] ["_law_deeds_here"] (aG gq):=⟨rfl,rfl,rfl,by decide +kernel,rfl,by decide +kernel,by decide +kernel⟩
theorem jv:aX ["_law_found", "_law_acts_here", "_law_one", "_law_act"] ["_law_found", "_law_acts_here"] (aG gr):=⟨rfl,rfl,rfl,by decide +kernel,rfl,by decide +kernel,by decide +kernel⟩
theorem dh:aX ["_law_entries_here", "_law_acts_here", "_law_truths", "e"] ["_law_entries_here", "_law_acts_here"] (aG dX):=⟨rfl,rfl,rfl,by decide +kernel,rfl,by decide +kernel,by decide +kernel⟩
theorem fz:aX ["_law_rows_here", "_law_right_here", "_law_acts_here", "_law_at", "_law_draw_here", "_law_last", "_law_none", "_law_way", "_law_late", "_law_number"] ["_law_rows_here", "_law_right_here", "_law_acts_here", "_law_at", "_law_draw_here"] (aG jK):=⟨rfl,rfl,rfl,by decide +kernel,rfl,by decide +kernel,by decide +kernel⟩
theorem cy:aX ["_law_script", "_law_words_here", "_law_rows_here", "_law_right_here", "_law_entries_here", "_law_acts_here", "_law_handed", "_law_found", "_law_draw_here", "_law_at", "_law_bad_here", "_law_no", "_law_odd", "_law_none"] ["_law_script"] (aG lh):=⟨rfl,rfl,rfl,by decide +kernel,rfl,by decide +kernel,by decide +kernel⟩
theorem lN:aX ["self", "number", "day", "rank", "word", "under", "sheet", "base", "described"] ["self", "number", "day", "rank", "word", "under", "sheet", "base", "described"] (aG cG):=⟨rfl,rfl,rfl,by decide +kernel,rfl,by decide +kernel,by decide +kernel⟩
theorem jd:aX ["self"] ["self"] (aG cC):=⟨rfl,rfl,rfl,by decide +kernel,rfl,by decide +kernel,by decide +kernel⟩
theorem nE:aX ["self", "day", "deed", "number"] ["self", "day", "deed", "number"] (aG d8):=⟨rfl,rfl,rfl,by decide +kernel,rfl,by decide +kernel,by decide +kernel⟩
theorem lE:aX ["self", "words", "place"] ["self", "words", "place"] (aG cf):=⟨rfl,rfl,rfl,by decide +kernel,rfl,by decide +kernel,by decide +kernel⟩
theorem eN:aX ["self", "entry", "name", "out"] ["self", "entry"] (aG cR):=⟨rfl,rfl,rfl,by decide +kernel,rfl,by decide +kernel,by decide +kernel⟩
theorem eS:aX ["self", "entry", "upper"] ["self", "entry"] (aG bY):=⟨rfl,rfl,rfl,by decide +kernel,rfl,by decide +kernel,by decide +kernel⟩
theorem dS:aX ["self", "entry", "name", "base"] ["self", "entry", "name"] (aG bJ):=⟨rfl,rfl,rfl,by decide +kernel,rfl,by decide +kernel,by decide +kernel⟩
section
variable {P:Program} {w:World} {K:W.Frag} {mg:Str → Option Value} {base:Heap} {c:Ad}
set_option maxHeartbeats 4000000 in
theorem jZ (T:Txt w K mg c):bF P w K mg base gK 1 c.a_is_whole c.d_is_whole ["thing"] (AI K):=by
 refine T.is_whole.fn.ok mz (fun vs H Q E h=>?_) (fun cdv A outer s H vs Q E hr h=>?_)
 ·obtain ⟨x,rfl,_⟩:=h
  rfl
 ·obtain ⟨x,rfl,ow,k⟩:=h
  refine ⟨_,(aI (aR (dI (aZ bf rfl T.no_isinstance aa (aA (pv 0) (aA (eC (v:=.ty "int") rfl T.no_int mf rfl) aC))) (eR (xV (aZ bf rfl T.no_isinstance aa (aA (pv 0) (aA (eC (v:=.ty "bool") rfl T.no_bool vH rfl) aC)))))))),?_⟩
  refine ⟨x,rfl,bH.int ow ⟨_,rfl,?_⟩⟩
  cases x with
  | int i=>exact bR ⟨_,rfl,bH.bool ow ⟨_,rfl,k⟩⟩
  | bl b=>exact bR ⟨_,rfl,bH.bool ow ⟨_,rfl,k⟩⟩
  | _=>exact bE k
set_option maxHeartbeats 4000000 in
theorem lU (T:Txt w K mg c):bF P w K mg base gK 2 c.a_is_day c.d_is_day ["thing"] (zj K 1000000):=by
 refine T.is_day.fn.ok qb (fun vs H Q E h=>?_) (fun cdv A outer s H vs Q E hr h=>?_)
 ·obtain ⟨x,rfl,_⟩:=h
  rfl
 ·obtain ⟨x,rfl,ow,k⟩:=h
  refine ⟨_,(aI (aR (dI (aT (jZ T) (hr.mono (by decide)) rfl T.is_whole.mgf T.is_whole.kp T.is_whole.bi .nil ax (aA (pv 0) aC)) (eR (kg kU kU aD (pv 0) (bw rfl T.mg_LAST_DAY T.rl_LAST_DAY)))))),?_⟩
  refine ⟨x,rfl,x,rfl,ow,_,rfl,?_⟩
  cases x with
  | int i =>
   refine bR ⟨_,rfl,_,_,rfl,rfl,_,rfl,?_⟩
   by_cases h1:1 ≤ i
   ·rw [if_pos (decide_eq_true h1)]
    refine ⟨_,_,rfl,rfl,?_⟩
    simpa [inR,h1] using k
   ·rw [if_neg (by simp [h1])]
    simpa [inR,h1] using k
  | _=>exact bE k
set_option maxHeartbeats 4000000 in
theorem dH (T:Txt w K mg c):bF P w K mg base gK 2 c.a_is_number c.d_is_number ["thing"] (zj K 1000000000):=by
 refine T.is_number.fn.ok m8 (fun vs H Q E h=>?_) (fun cdv A outer s H vs Q E hr h=>?_)
 ·obtain ⟨x,rfl,_⟩:=h
  rfl
 ·obtain ⟨x,rfl,ow,k⟩:=h
  refine ⟨_,(aI (aR (dI (aT (jZ T) (hr.mono (by decide)) rfl T.is_whole.mgf T.is_whole.kp T.is_whole.bi .nil ax (aA (pv 0) aC)) (eR (kg kU kU aD (pv 0) (bw rfl T.mg_LAST_NUMBER T.rl_LAST_NUMBER)))))),?_⟩
  refine ⟨x,rfl,x,rfl,ow,_,rfl,?_⟩
  cases x with
  | int i =>
   refine bR ⟨_,rfl,_,_,rfl,rfl,_,rfl,?_⟩
   by_cases h1:1 ≤ i
   ·rw [if_pos (decide_eq_true h1)]
    refine ⟨_,_,rfl,rfl,?_⟩
    simpa [inR,h1] using k
   ·rw [if_neg (by simp [h1])]
    simpa [inR,h1] using k
  | _=>exact bE k
set_option maxHeartbeats 4000000 in
theorem oW (T:Txt w K mg c):bF P w K mg base gK 1 c.a_is_word c.d_is_word ["thing"] (xA K):=by
 refine T.is_word.fn.ok pC (fun vs H Q E h=>?_) (fun cdv A outer s H vs Q E hr h=>?_)
 ·obtain ⟨x,rfl,_⟩:=h
  rfl
 ·obtain ⟨x,rfl,ow,hz,k⟩:=h
  refine ⟨_,(aE (au (PW.pt (jz (bh (bg (aZ bf rfl T.no_isinstance aa (aA (pv 0) (aA (eC (v:=.ty "str") rfl T.no_str ox rfl) aC))))) (jM (bh (uF kU kU aD (aZ m5 rfl T.no_len dN (aA (pv 0) aC)) (bw rfl T.mg_MOST_LETTERS T.rl_MOST_LETTERS))))))
    (aI (aR cN))
    aO)
   (aI (aR (aZ (sF rfl) rfl T.no_all wB (aA (e7 (N':=["sign"]) (js:=[none]) rfl rfl (by decide +kernel) (by decide +kernel) (iW (by decide +kernel)) (jm rfl rfl) (wF (pv 0)) (fun B=>⟨(ag (i:=0) (show List.Nodup (["sign"]:List Str) by decide +kernel) rfl (Or.inl rfl)),gU,(kg mF mF aQ (pv 0) aQ)⟩)) aC))))),?_⟩
  refine ⟨x,rfl,bH.str ow ⟨_,rfl,?_⟩⟩
  cases x with
  | str z =>
   have hz:z.length ≤ sizeLine:=hz
   refine bE ?_
   walk_at "rd"
   refine ⟨hz,?_⟩
   walk_at "rd"
   refine cE (fun h1=>?_) (fun h1=>?_)
   ·walk_at "rd"
    by_cases h2:((z.length:Int) ≤ 12)
    ·rw [decide_eq_true h2]
     refine bE ⟨_,rfl,_,rfl,fun l B hl=>?_⟩
     have en:z.cps.toList.length = z.length:=by simp [Str.length]
     refine jn z.cps.size (fun i σ acc H'=>(∃ o,σ = [o]) ∧ acc = (z.cps.toList.take i).map (fun c=>V.bl (dO c)) ∧ H' = upd H l (.lst acc)) hz ?_ ?_ ?_ ?_ ?_
     ·exact ⟨⟨_,rfl⟩,rfl,rfl⟩
     ·rintro i σ acc H' hi ⟨_,e,e'⟩
      refine ⟨by rw [e']; exact aB,?_⟩
      rw [e,List.length_map,List.length_take]
      omega
     ·intro i σ acc H' hi _
      exact hi
     ·rintro i x σ acc H' H'' hi ⟨⟨o,rfl⟩,e,e'⟩ ⟨rfl,c,hc,rfl⟩
      have hc':z.cps.toList[i]? = some c:=by simpa using hc
      have fin:∀ b,b = dO c → H'' l = some (.lst acc) ∧ Nx z.cps.size i ((∃ o,([o].set 0 (some (V.str ⟨#[c]⟩)):St) = [o]) ∧ acc ++ [V.bl b] = (z.cps.toList.take (i + 1)).map (fun c=>V.bl (dO c)) ∧ upd H'' l (.lst (acc ++ [V.bl b])) = upd H l (.lst (acc ++ [V.bl b]))):=by
       intro b eb
       refine ⟨by rw [e']; exact aB,Nx.mk hi ⟨⟨_,rfl⟩,?_,by rw [e',fB]⟩⟩
       rw [take_one hc',List.map_append,← e,eb]
       rfl
      walk_at "rd"
      rw [zD]
      refine cE (fun g1=>?_) (fun g1=>?_)
      ·walk_at "rd"
       refine fin _ ?_
       rw [zF]
       unfold dO
       rw [g1]
       rfl
      ·refine fin _ ?_
       unfold dO
       rw [eq_false_of_ne_true g1]
       rfl
     ·rintro σ acc H' ⟨_,e,e'⟩
      refine ⟨rfl,l,z.cps.toList.map dO,rfl,ao.of (by rw [e',aB,e,List.take_of_length_le (by simp)]; simp),?_⟩
      have q:=k H' (by rw [e']; exact aH.new hl)
      have ev:isWord (.str z) = (z.cps.toList.map dO).all id:=by
       rw [eU,h1,decide_eq_true h2,List.all_map]
       rfl
      rw [ev] at q
      exact q
    ·rw [decide_eq_false h2]
     refine bR ?_
     have ev:isWord (.str z) = false:=by
      rw [eU,decide_eq_false h2,Bool.and_false,Bool.false_and]
     have q:=k H (aH.refl H)
     rw [ev] at q
     exact q
   ·have ev:isWord (.str z) = false:=by
     rw [eU,eq_false_of_ne_true h1,Bool.false_and,Bool.false_and]
    have q:=k H (aH.refl H)
    rw [ev] at q
    walk_at "rd"
    exact q
  | _=>exact bR (k _ (aH.refl H))
set_option maxHeartbeats 4000000 in
theorem ju (T:Txt w K mg c):bF P w K mg base gK 1 c.a_is_rank c.d_is_rank ["thing"] (wG K):=by
 refine T.is_rank.fn.ok pP (fun vs H Q E h=>?_) (fun cdv A outer s H vs Q E hr h=>?_)
 ·obtain ⟨x,rfl,_⟩:=h
  rfl
 ·obtain ⟨x,rfl,ow,k⟩:=h
  refine ⟨_,(aI (aR (dI (aZ bf rfl T.no_isinstance aa (aA (pv 0) (aA (eC (v:=.ty "str") rfl T.no_str ox rfl) aC))) (eR (cK mH (pv 0) (bw (v:=.ref c.u_RANKS) rfl T.mg_RANKS rfl) (by with_unfolding_all rfl)))))),?_⟩
  refine ⟨x,rfl,bH.str ow ⟨_,rfl,?_⟩⟩
  cases x with
  | str z=>exact bR ⟨_,rfl,c.u_RANKS,tL,rfl,.inr (T.sq_RANKS _),rfl,rfl,k⟩
  | _=>exact bE k
set_option maxHeartbeats 4000000 in
theorem kD (T:Txt w K mg c):bF P w K mg base (jr P w) 3 c.a_refuse_head c.d_refuse_head ["number", "day", "rank", "word"] (wb K ⟨c.c_NoNumber,c.c_NoDay,c.c_NoRank,c.c_NoWord,c.c_NoEntry⟩):=by
 refine T.refuse_head.fn.uI kP (fun vs H Q E h=>?_) (fun cdv A outer s H vs Q E hr h=>?_)
 ·obtain ⟨n,d,r,w,rfl,_⟩:=h
  rfl
 ·obtain ⟨n,d,r,w,rfl,on,od,or',ow,fw,k⟩:=h
  refine ⟨_,(aE (au (bh (bg (aT (dH T) (hr.mono (by decide)) rfl T.is_number.mgf T.is_number.kp T.is_number.bi .nil ax (aA (pv 0) aC))))
    (aI (cP T.x_NoNumber rfl rfl T.mg_NoNumber dr (aA aQ aC)))
    aO)
   (aE (au (bh (bg (aT (lU T) (hr.mono (by decide)) rfl T.is_day.mgf T.is_day.kp T.is_day.bi .nil ax (aA (pv 1) aC))))
    (aI (cP T.x_NoDay rfl rfl T.mg_NoDay dr (aA aQ aC)))
    aO)
   (aE (au (bh (bg (aT (ju T) (hr.mono (by decide)) rfl T.is_rank.mgf T.is_rank.kp T.is_rank.bi .nil ax (aA (pv 2) aC))))
    (aI (cP T.x_NoRank rfl rfl T.mg_NoRank dr (aA aQ aC)))
    aO)
   (aI (au (bh (bg (aT (oW T) (hr.mono (by decide)) rfl T.is_word.mgf T.is_word.kp T.is_word.bi .nil ax (aA (pv 3) aC))))
    (aI (cP T.x_NoWord rfl rfl T.mg_NoWord dr (aA aQ aC)))
    aO))))),?_⟩
  walk_at "rd"
  refine ⟨on,?_⟩
  walk_at "rd"
  refine m9 (fun h1=>?_) (fun h1=>?_)
  ·have h1:inR 1000000000 n = false:=by simpa using h1
   have e:eY n d r w = 1:=by unfold eY; rw [if_pos h1]
   have q:=(k H (aH.refl H)).2 (by rw [e]; decide)
   rw [e] at q
   exact ⟨aJ rfl,q⟩
  have h1:¬ inR 1000000000 n = false:=by simpa using h1
  walk_at "rd"
  refine ⟨od,?_⟩
  walk_at "rd"
  refine m9 (fun h2=>?_) (fun h2=>?_)
  ·have h2:inR 1000000 d = false:=by simpa using h2
   have e:eY n d r w = 2:=by unfold eY; rw [if_neg h1,if_pos h2]
   have q:=(k H (aH.refl H)).2 (by rw [e]; decide)
   rw [e] at q
   exact ⟨aJ rfl,q⟩
  have h2:¬ inR 1000000 d = false:=by simpa using h2
  walk_at "rd"
  refine ⟨or',?_⟩
  walk_at "rd"
  refine m9 (fun h3=>?_) (fun h3=>?_)
  ·have h3:fL r = false:=by simpa using h3
   have e:eY n d r w = 3:=by unfold eY; rw [if_neg h1,if_neg h2,if_pos h3]
   have q:=(k H (aH.refl H)).2 (by rw [e]; decide)
   rw [e] at q
   exact ⟨aJ rfl,q⟩
  have h3:¬ fL r = false:=by simpa using h3
  walk_at "rd"
  refine ⟨ow,fw,fun H' s1=>?_⟩
  walk_at "rd"
  refine m9 (fun h4=>?_) (fun h4=>?_)
  ·have h4:isWord w = false:=by simpa using h4
   have e:eY n d r w = 4:=by unfold eY; rw [if_neg h1,if_neg h2,if_neg h3,if_pos h4]
   have q:=(k H' s1).2 (by rw [e]; decide)
   rw [e] at q
   exact ⟨aJ rfl,q⟩
  have h4:¬ isWord w = false:=by simpa using h4
  exact (k H' s1).1 (by unfold eY; rw [if_neg h1,if_neg h2,if_neg h3,if_neg h4])
set_option maxHeartbeats 4000000 in
theorem kz (T:Txt w K mg c):bF P w K mg base gK 3 c.a_under_fits c.d_under_fits ["rank", "under"] (uh K):=by
 refine T.under_fits.fn.ok kx (fun vs H Q E h=>?_) (fun cdv A outer s H vs Q E hr h=>?_)
 ·obtain ⟨z,u,rfl,_⟩:=h
  rfl
 ·obtain ⟨z,u,rfl,ou,k⟩:=h
  refine ⟨_,(aE (au (aV cT (pv 0) aQ (aW _))
    (aI (aR (jC (eV (pv 1)))))
    aO)
   (aI (aR (aT (dH T) (hr.mono (by decide)) rfl T.is_number.mgf T.is_number.kp T.is_number.bi .nil ax (aA (pv 1) aC))))),?_⟩
  walk_at "rd"
  refine cE (fun h=>?_) (fun h=>?_)
  ·have e:bO (.str z) u = decide (u = .bA):=by unfold bO; rw [if_pos (of_decide_eq_true h)]
   rw [e] at k
   walk_at "rd"
   exact k
  ·have e:bO (.str z) u = inR 1000000000 u:=by unfold bO; rw [if_neg (fun q=>h (decide_eq_true q))]
   rw [e] at k
   exact ⟨_,rfl,u,rfl,ou,k⟩
set_option maxHeartbeats 4000000 in
theorem nR (T:Txt w K mg c):bF P w K mg base gK 3 c.a_tie_fits c.d_tie_fits ["rank", "sheet", "base"] (ye K):=by
 refine T.tie_fits.fn.ok nG (fun vs H Q E h=>?_) (fun cdv A outer s H vs Q E hr h=>?_)
 ·obtain ⟨z,s',b,rfl,_⟩:=h
  rfl
 ·obtain ⟨z,s',b,rfl,os,ob,k⟩:=h
  refine ⟨_,(aE (au (dP (eV (pv 2)))
    (aI (aR (aT (dH T) (hr.mono (by decide)) rfl T.is_number.mgf T.is_number.kp T.is_number.bi .nil ax (aA (pv 1) aC))))
    aO)
   (aI (aR (dI (cK kR (pv 0) aQ (aW _)) (dI (jC (eV (pv 1))) (eR (aT (dH T) (hr.mono (by decide)) rfl T.is_number.mgf T.is_number.kp T.is_number.bi .nil ax (aA (pv 2) aC)))))))),?_⟩
  walk_at "rd"
  refine cE (fun h=>?_) (fun h=>?_)
  ·have e:bV (.str z) s' b = inR 1000000000 s':=by unfold bV; rw [if_pos (of_decide_eq_true h)]
   rw [e] at k
   exact ⟨_,rfl,s',rfl,os,k⟩
  have hb:¬ b = .bA:=fun q=>h (decide_eq_true q)
  walk_at "rd"
  refine m9 (fun h1=>?_) (fun h1=>?_)
  ·walk_at "rd"
   refine m9 (fun h2=>?_) (fun h2=>?_)
   ·have e:bV (.str z) s' b = inR 1000000000 b:=by
     unfold bV
     rw [if_neg hb,h1,h2]
     rfl
    rw [e] at k
    exact ⟨_,rfl,b,rfl,ob,k⟩
   ·have e:bV (.str z) s' b = false:=by
     unfold bV
     rw [if_neg hb,h2]
     simp
    rw [e] at k
    exact k
  ·have e:bV (.str z) s' b = false:=by
    unfold bV
    rw [if_neg hb,h1]
    rfl
   rw [e] at k
   exact k
set_option maxHeartbeats 4000000 in
theorem iE (T:Txt w K mg c):bF P w K mg base (jr P w) 4 c.a_Entry_init c.d_Entry_init ["self", "number", "day", "rank", "word", "under", "sheet", "base", "described"] (wH K c.c_Entry ⟨c.c_NoNumber,c.c_NoDay,c.c_NoRank,c.c_NoWord,c.c_NoEntry⟩):=by
 refine T.Entry_init.uI lN (fun vs H Q E h=>?_) (fun cdv A outer s H vs Q E hr h=>?_)
 ·obtain ⟨a,dx,n,d,r,w,u,s',b,kk,rfl,_⟩:=h
  rfl
 ·obtain ⟨a,dx,n,d,r,w,u,s',b,kk,rfl,ha,on,od,or',ow,fw,ou,os,ob,k⟩:=h
  refine ⟨_,(aE (cS (dk (kD T) (hr.mono (by decide)) rfl T.refuse_head.mgf T.refuse_head.kp T.refuse_head.bi .nil iX (aA (pv 1) (aA (pv 2) (aA (pv 3) (aA (pv 4) aC))))))
   (aE (au (bh (bg (aT (kz T) (hr.mono (by decide)) rfl T.under_fits.mgf T.under_fits.kp T.under_fits.bi .nil ax (aA (pv 3) (aA (pv 5) aC)))))
    (aI (cP T.x_NoEntry rfl rfl T.mg_NoEntry dr (aA aQ aC)))
    aO)
   (aE (au (bh (bg (aT (nR T) (hr.mono (by decide)) rfl T.tie_fits.mgf T.tie_fits.kp T.tie_fits.bi .nil ax (aA (pv 3) (aA (pv 6) (aA (pv 7) aC))))))
    (aI (cP T.x_NoEntry rfl rfl T.mg_NoEntry dr (aA aQ aC)))
    aO)
   (aE (cq (pv 0) (pv 1) rfl)
   (aE (cq (pv 0) (pv 2) rfl)
   (aE (cq (pv 0) (pv 3) rfl)
   (aE (cq (pv 0) (pv 4) rfl)
   (aE (cq (pv 0) (pv 5) rfl)
   (aE (cq (pv 0) (pv 6) rfl)
   (aE (cq (pv 0) (pv 7) rfl)
   (aI (cq (pv 0) (pv 8) rfl)))))))))))),?_⟩
  refine ⟨_,rfl,_,rfl,_,rfl,_,rfl,n,d,r,w,rfl,on,od,or',ow,fw,fun H' s1=>⟨fun h0=>?_,fun h0=>?_⟩⟩
  rotate_left
  ·have e:why n d r w u s' b = eY n d r w:=by unfold why; rw [if_pos h0]
   have q:=(k H' s1).2 (by rw [e]; exact h0)
   rw [e] at q
   exact q
  have hr3:∃ z:Str,r = .str z:=by
   unfold eY at h0
   split at h0
   ·cases h0
   ·split at h0
    ·cases h0
    ·split at h0
     ·cases h0
     ·rename_i q
      cases r <;> first | exact ⟨_,rfl⟩ | exact absurd rfl q
  obtain ⟨z,rfl⟩:=hr3
  refine ⟨_,rfl,_,rfl,z,u,rfl,ou.same s1,_,rfl,?_⟩
  refine m9 (fun h1=>?_) (fun h1=>?_)
  ·have h1:bO (.str z) u = false:=by simpa using h1
   have e:why n d (.str z) w u s' b = 5:=by unfold why; rw [if_neg (by rw [h0]; decide),if_pos h1]
   have q:=(k H' s1).2 (by rw [e]; decide)
   rw [e] at q
   exact ⟨aJ rfl,q⟩
  have h1:¬ bO (.str z) u = false:=by simpa using h1
  refine ⟨_,rfl,_,rfl,_,rfl,z,s',b,rfl,os.same s1,ob.same s1,_,rfl,?_⟩
  refine m9 (fun h2=>?_) (fun h2=>?_)
  ·have h2:bV (.str z) s' b = false:=by simpa using h2
   have e:why n d (.str z) w u s' b = 5:=by unfold why; rw [if_neg (by rw [h0]; decide),if_neg h1,if_pos h2]
   have q:=(k H' s1).2 (by rw [e]; decide)
   rw [e] at q
   exact ⟨aJ rfl,q⟩
  have h2:¬ bV (.str z) s' b = false:=by simpa using h2
  have q:=(k H' s1).1 (by unfold why; rw [if_neg (by rw [h0]; decide),if_neg h1,if_neg h2])
  have a0:=s1 _ _ ha
  refine ⟨_,rfl,_,rfl,a,c.c_Entry,dx,_,rfl,a0,T.cl_Entry,T.na_Entry_number,aJ rfl,?_⟩
  refine ⟨_,rfl,_,rfl,a,c.c_Entry,dx,_,rfl,aB,T.cl_Entry,T.na_Entry_day,aJ rfl,?_⟩
  refine ⟨_,rfl,_,rfl,a,c.c_Entry,dx,_,rfl,aB,T.cl_Entry,T.na_Entry_rank,aJ rfl,?_⟩
  refine ⟨_,rfl,_,rfl,a,c.c_Entry,dx,_,rfl,aB,T.cl_Entry,T.na_Entry_word,aJ rfl,?_⟩
  refine ⟨_,rfl,_,rfl,a,c.c_Entry,dx,_,rfl,aB,T.cl_Entry,T.na_Entry_under,aJ rfl,?_⟩
  refine ⟨_,rfl,_,rfl,a,c.c_Entry,dx,_,rfl,aB,T.cl_Entry,T.na_Entry_sheet,aJ rfl,?_⟩
  refine ⟨_,rfl,_,rfl,a,c.c_Entry,dx,_,rfl,aB,T.cl_Entry,T.na_Entry_base,aJ rfl,?_⟩
  refine ⟨_,rfl,_,rfl,a,c.c_Entry,dx,_,rfl,aB,T.cl_Entry,T.na_Entry_described,aJ rfl,?_⟩
  rw [fB,fB,fB,fB,fB,fB,fB]
  exact q
set_option maxHeartbeats 4000000 in
theorem oR (T:Txt w K mg c):bF P w K mg base gK 1 c.a_is_deed c.d_is_deed ["thing"] (xK K):=by
 refine T.is_deed.fn.ok o6 (fun vs H Q E h=>?_) (fun cdv A outer s H vs Q E hr h=>?_)
 ·obtain ⟨x,rfl,_⟩:=h
  rfl
 ·obtain ⟨x,rfl,ow,k⟩:=h
  refine ⟨_,(aI (aR (dI (aZ bf rfl T.no_isinstance aa (aA (pv 0) (aA (eC (v:=.ty "str") rfl T.no_str ox rfl) aC))) (eR (cK mH (pv 0) (bw (v:=.ref c.u_DEEDS) rfl T.mg_DEEDS rfl) (by with_unfolding_all rfl)))))),?_⟩
  refine ⟨x,rfl,bH.str ow ⟨_,rfl,?_⟩⟩
  cases x with
  | str z=>exact bR ⟨_,rfl,c.u_DEEDS,vn,rfl,.inr (T.sq_DEEDS _),rfl,rfl,k⟩
  | _=>exact bE k
set_option maxHeartbeats 4000000 in
theorem lP (T:Txt w K mg c):bF P w K mg base (jr P w) 3 c.a_refuse_day c.d_refuse_day ["day"] (uC K c.c_NoDay):=by
 refine T.refuse_day.fn.uI lM (fun vs H Q E h=>?_) (fun cdv A outer s H vs Q E hr h=>?_)
 ·obtain ⟨x,rfl,_⟩:=h
  rfl
 ·obtain ⟨x,rfl,ow,k1,k2⟩:=h
  refine ⟨_,(aI (au (bh (bg (aT (lU T) (hr.mono (by decide)) rfl T.is_day.mgf T.is_day.kp T.is_day.bi .nil ax (aA (pv 0) aC))))
    (aI (cP T.x_NoDay rfl rfl T.mg_NoDay dr (aA aQ aC)))
    aO)),?_⟩
  refine ⟨_,rfl,x,rfl,ow,_,rfl,?_⟩
  cases hx:inR 1000000 x with
  | false=>exact bR ⟨aJ rfl,k2 hx⟩
  | true=>exact bE (k1 hx)
set_option maxHeartbeats 4000000 in
theorem fO (T:Txt w K mg c):bF P w K mg base (jr P w) 1 c.a_NoAct_init c.d_NoAct_init ["self", "words", "place"] (vt c.c_NoAct "place"):=by
 refine T.NoAct_init.uI lE (fun vs H Q E h=>?_) (fun cdv A outer s H vs Q E hr h=>?_)
 ·obtain ⟨e,wd,pl,rfl,_⟩:=h
  rfl
 ·obtain ⟨e,wd,pl,rfl,he,k⟩:=h
  refine ⟨_,(aE (cS (qT T.bi_RightError rfl T.mg_RightError (aA (pv 0) (aA (pv 1) aC))))
   (aI (uc (pv 0) (pv 2) rfl))),?_⟩
  refine ⟨_,rfl,_,rfl,e,_,_,_,_,rfl,he,T.x_NoAct,?_⟩
  exact ⟨_,rfl,_,rfl,e,_,_,rfl,he,T.x_NoAct,T.xs_NoAct,fun dx hd=>k dx hd⟩
set_option maxHeartbeats 4000000 in
theorem fA (T:Txt w K mg c):bF P w K mg base (jr P w) 4 c.a_Act_init c.d_Act_init ["self", "day", "deed", "number"] (yO K c.c_Act c.c_NoDay c.c_NoAct c.c_NoNumber):=by
 refine T.Act_init.uI nE (fun vs H Q E h=>?_) (fun cdv A outer s H vs Q E hr h=>?_)
 ·obtain ⟨a,dx,d,e,n,rfl,_⟩:=h
  rfl
 ·obtain ⟨a,dx,d,e,n,rfl,ha,od,oe,on,k1,k2,k3,k4⟩:=h
  refine ⟨_,(aE (cS (dk (lP T) (hr.mono (by decide)) rfl T.refuse_day.mgf T.refuse_day.kp T.refuse_day.bi .nil iX (aA (pv 1) aC)))
   (aE (au (bh (bg (aT (oR T) (hr.mono (by decide)) rfl T.is_deed.mgf T.is_deed.kp T.is_deed.bi .nil ax (aA (pv 2) aC))))
    (aI (jA T.x_NoAct (fO T) (hr.mono (by decide)) rfl rfl T.mg_NoAct T.b_NoAct_2 mT (aA aQ (aA aD aC))))
    aO)
   (aE (au (bh (bg (aT (dH T) (hr.mono (by decide)) rfl T.is_number.mgf T.is_number.kp T.is_number.bi .nil ax (aA (pv 3) aC))))
    (aI (cP T.x_NoNumber rfl rfl T.mg_NoNumber dr (aA aQ aC)))
    aO)
   (aE (cq (pv 0) (pv 1) rfl)
   (aE (cq (pv 0) (pv 2) rfl)
   (aI (cq (pv 0) (pv 3) rfl))))))),?_⟩
  refine ⟨_,rfl,d,rfl,od,fun hd=>?_,fun hd=>k1 hd⟩
  refine ⟨_,rfl,e,rfl,oe,_,rfl,?_⟩
  cases he:eO e with
  | false=>exact bR ⟨rfl,aJ rfl,mS fun x G sG hx=>k2 hd he x G sG hx⟩
  | true =>
   refine bE ⟨_,rfl,n,rfl,on,_,rfl,?_⟩
   cases hn:inR 1000000000 n with
   | false=>exact bR ⟨aJ rfl,k3 hd he hn⟩
   | true =>
    refine bE ?_
    refine ⟨_,rfl,_,rfl,a,_,dx,_,rfl,ha,T.cl_Act,T.na_Act_day,aJ rfl,?_⟩
    refine ⟨_,rfl,_,rfl,a,_,dx,_,rfl,aB,T.cl_Act,T.na_Act_deed,aJ rfl,?_⟩
    refine ⟨_,rfl,_,rfl,a,_,dx,_,rfl,aB,T.cl_Act,T.na_Act_number,aJ rfl,?_⟩
    refine k4 hd he hn _ (fun b u nb hb=>?_) aB
    rw [aK nb,aK nb,aK nb]
    exact hb
set_option maxHeartbeats 4000000 in
theorem et (T:Txt w K mg c):bF P w K mg base gK 1 c.a_Lcell_at c.d_Lcell_at ["_law_script", "_law_k"] (wJ K):=by
 refine T.Lcell_at.fn.ok nA (fun vs H Q E h=>?_) (fun cdv A outer s H vs Q E hr h=>?_)
 ·obtain ⟨a,i,ns,rfl,_⟩:=h
  rfl
 ·obtain ⟨a,i,ns,rfl,h0,hS,k⟩:=h
  refine ⟨_,(aE (au (aV rK (pv 1) (aZ bD rfl T.no_len dN (aA (pv 0) aC)) (aW _))
    (aI (aR (ae af (pv 0) (pv 1) (fun _ _=>rfl))))
    aO)
   (aI (aR aD))),?_⟩
  refine ⟨_,rfl,_,rfl,a,_,rfl,.inl hS,_,_,rfl,rfl,_,rfl,?_⟩
  refine cE (fun hl=>?_) (fun _=>k 0)
  obtain ⟨v,hv,hm⟩:=cM (xs:=ns.map V.int) h0 (of_decide_eq_true hl)
  obtain ⟨z,_,rfl⟩:=List.mem_map.mp hm
  exact ⟨_,rfl,_,rfl,a,_,i,_,rfl,rfl,hS,hv,k z⟩
set_option maxHeartbeats 4000000 in
theorem dM (T:Txt w K mg c):bF P w K mg base gK 1 c.a_Ldraw c.d_Ldraw ["_law_cell", "_law_place"] (w4):=by
 refine T.Ldraw.fn.ok kM (fun vs H Q E h=>?_) (fun cdv A outer s H vs Q E hr h=>?_)
 ·obtain ⟨n,p,rfl,_⟩:=h
  rfl
 ·obtain ⟨n,p,rfl,p0,p1,k⟩:=h
  refine ⟨_,(aY (aN (i:=2) kM.nd rfl (Or.inl rfl) (aL xR (pv 0) (aL cJ aD (aL dc aD (aL ar (pv 1) aD)))))
   (aY (au (PW.pt (cz (aV cT (aL ar (pv 0) aD) aD (aW _)) (cW (aV kR (pv 2) aD (aW _)))))
    (aI (aR (aL ar (pv 2) aD)))
    aO)
   (aY (aN (i:=3) kM.nd rfl (Or.inl rfl) (aL ar (aL dc (aL cJ (aL ar (aL bu (pv 0) aD) (aL mi aD aD)) aD) (aL cJ aD (aL dc (aL dc aD (pv 1)) (pv 1)))) aD))
   (aI (aR (aL ar (aL dc (pv 3) (pv 3)) aD)))))),?_⟩
  have p2:=Int.emod_nonneg p (b:=64) (by decide)
  have sq:p * p ≤ 1000 * 1000:=Int.mul_le_mul (by omega) (by omega) (by omega) (by omega)
  have sq0:0 ≤ p * p:=Int.mul_nonneg p0 p0
  have e3:7919 * p * p = 7919 * (p * p):=Int.mul_assoc _ _ _
  refine ⟨fun σ G=>G = H ∧ ∃ o:Int,σ = [some (.int n),some (.int p),some (.int o),none],?_,?_⟩
  ·walk_at "rd"
   refine ⟨by omega,?_⟩
   first | exact ⟨rfl,_,rfl⟩ | exact ⟨_,rfl⟩
  rintro σ G ⟨rfl,o,rfl⟩
  refine ⟨fun σ G'=>G' = G ∧ σ = [some (.int n),some (.int p),some (.int o),none],?_,?_⟩
  ·walk_at "rd"
   refine cE (fun _=>?_) (fun _=>⟨rfl,rfl⟩)
   walk_at "rd"
   refine cE (fun _=>?_) (fun _=>⟨rfl,rfl⟩)
   walk_at "rd"
   exact k _ (Int.emod_nonneg _ (by decide)) (Int.emod_lt_of_pos _ (by decide))
  rintro σ G' ⟨rfl,rfl⟩
  refine ⟨fun σ G=>G = G' ∧ ∃ m:Int,0 ≤ m ∧ m < 2147483629 ∧ σ = [some (.int n),some (.int p),some (.int o),some (.int m)],?_,?_⟩
  ·walk_at "rd"
   refine ⟨.inl ⟨by omega,by omega⟩,?_⟩
   walk_at "rd"
   refine ⟨.inr ⟨by rw [e3]; omega,by rw [e3]; omega⟩,?_⟩
   walk_at "rd"
   first | exact ⟨rfl,_,Int.emod_nonneg _ (by decide),Int.emod_lt_of_pos _ (by decide),rfl⟩ | exact ⟨_,Int.emod_nonneg _ (by decide),Int.emod_lt_of_pos _ (by decide),rfl⟩
  rintro σ G ⟨rfl,m,m0,m1,rfl⟩
  walk_at "rd"
  refine ⟨.inl ⟨by omega,by omega⟩,?_⟩
  walk_at "rd"
  have q1:=Int.emod_lt_of_pos (m * m) (b:=2147483587) (by decide)
  exact k _ (Int.emod_nonneg _ (by decide)) (by omega)
set_option maxHeartbeats 4000000 in
theorem qG (T:Txt w K mg c):bF P w K mg base gK 2 c.a_Lwords c.d_Lwords ["_law_cell"] (rM):=by
 refine T.Lwords.fn.ok cc (fun vs H Q E h=>?_) (fun cdv A outer s H vs Q E hr h=>?_)
 ·obtain ⟨n,rfl,_⟩:=h
  rfl
 ·obtain ⟨n,rfl,k⟩:=h
  refine ⟨_,(aE (aN (i:=1) cc.nd rfl (Or.inl rfl) aQ)
   (aY (aN (i:=2) cc.nd rfl (Or.inl rfl) (aL cJ aD (aL ar (aT (dM T) (hr.mono (by decide)) rfl T.Ldraw.mgf T.Ldraw.kp T.Ldraw.bi .nil ax (aA (pv 0) (aA aD aC))) aD)))
   (aY (aN (i:=3) cc.nd rfl (Or.inl rfl) (aL ar (aT (dM T) (hr.mono (by decide)) rfl T.Ldraw.mgf T.Ldraw.kp T.Ldraw.bi .nil ax (aA (pv 0) (aA aD aC))) (pv 2)))
   (aE (aN (i:=4) cc.nd rfl (Or.inl rfl) (bB aC))
   (aE (eX PassesOwn.never rfl (eI rfl T.no_range (aA aD aC)) (ag (i:=5) cc.nd rfl (Or.inl rfl))
    (aE (aN (i:=6) cc.nd rfl (Or.inl rfl) aQ)
   (aE (eX PassesOwn.never rfl (eI rfl T.no_range (aA (pv 2) aC)) (ag (i:=7) cc.nd rfl (Or.inl rfl))
    (aI (aN (i:=6) cc.nd rfl (Or.inl rfl) (aL om (pv 6) (ae wR (pv 1) (aL ar (aL cJ (aT (dM T) (hr.mono (by decide)) rfl T.Ldraw.mgf T.Ldraw.kp T.Ldraw.bi .nil ax (aA (pv 0) (aA (aL cJ aD (pv 7)) aC))) (aL dc (aL dc aD (pv 5)) (d4 iz rfl T.no_int mf (aA (cK cT (pv 7) (pv 3) (aW _)) aC)))) aD) (fun _ _=>rfl))))))
   (aI (cS (iU PySem.F.plainAttrs_list PySem.F.slot_list_append PySem.F.type_list_append (mR.r dC) (pv 4) (aA (pv 6) aC)))))))
   (aI (aR (pv 4)))))))),?_⟩
  have sz:2000 < sizeLine:=aJ rfl
  have abc:(Str.ofString "abcdefghijklmnopqrstuvwxyz").cps.toList.length = 26:=by decide +kernel
  have abl:∀ c ∈ (Str.ofString "abcdefghijklmnopqrstuvwxyz").cps.toList,dO c = true:=by decide +kernel
  obtain ⟨ab,hab⟩:∃ ab:Str,ab = Str.ofString "abcdefghijklmnopqrstuvwxyz" := ⟨_,rfl⟩
  refine ⟨fun σ' G'=>H = G' ∧ ∃ sz0:Int,1 ≤ sz0 ∧ sz0 ≤ 12 ∧ σ' = [some (.int n),some (.str ab),some (.int sz0),none,none,none,none,none],?_,?_⟩
  ·refine ⟨_,rfl,n,1,rfl,by decide,by decide,fun r r0 r1=>?_⟩
   walk_at "rd"
   have q0:=Int.emod_nonneg r (b:=12) (by decide)
   have q1:=Int.emod_lt_of_pos r (b:=12) (by decide)
   rw [hab]
   first | exact ⟨rfl,_,by omega,by omega,rfl⟩ | exact ⟨_,by omega,by omega,rfl⟩
  rintro σ G ⟨rfl,sz0,z0,z1,rfl⟩
  refine ⟨fun σ' G'=>H = G' ∧ ∃ at0:Int,σ' = [some (.int n),some (.str ab),some (.int sz0),some (.int at0),none,none,none,none],?_,?_⟩
  ·refine ⟨_,rfl,n,2,rfl,by decide,by decide,fun r r0 r1=>?_⟩
   walk_at "rd"
   first | exact ⟨by omega,rfl,_,rfl⟩ | exact ⟨by omega,_,rfl⟩ | (refine ⟨by omega,?_⟩; walk_at "rd"; first | exact ⟨rfl,_,rfl⟩ | exact ⟨_,rfl⟩)
  rintro σ G ⟨rfl,at0,rfl⟩
  refine ⟨aJ rfl,fun l hl=>?_⟩
  have s0:=aH.new (o:=HO.lst []) hl
  have k0:=aB (H:=H) (a:=l) (o:=.lst [])
  generalize upd H l (.lst []) = G0 at s0 k0 ⊢
  walk_at "rd"
  refine ⟨by decide,by decide,?_⟩
  refine hZ (n:=5) (lo:=0) (fun i σ G=>∃ (zs:List Str) (z5 z6 z7:Option V),σ = [some (.int n),some (.str ab),some (.int sz0),some (.int at0),some (.ref l),z5,z6,z7] ∧ zs.length = i ∧ (∀ z ∈ zs,isWord (.str z) = true) ∧ aH H G ∧ G l = some (.lst (zs.map V.str))) ?_ ?_ ?_
  ·exact ⟨[],_,_,_,rfl,rfl,fun _ h=>(nomatch h),s0,k0⟩
  ·rintro i σ G hi ⟨zs,z5,z6,z7,rfl,hz,hw,sG,hG⟩
   walk_at "rd"
   refine ⟨by omega,by omega,?_⟩
   refine hZ (n:=sz0.toNat) (lo:=0) (fun j σ G'=>G' = G ∧ ∃ (z:Str) (z7:Option V),σ = [some (.int n),some (.str ab),some (.int sz0),some (.int at0),some (.ref l),some (.int (0 + (i:Int))),some (.str z),z7] ∧ z.length = j ∧ z.cps.toList.all dO = true) ?_ ?_ ?_
   ·exact ⟨rfl,_,_,rfl,rfl,rfl⟩
   ·rintro j σ G' hj ⟨rfl,z,z7',rfl,hzl,ha⟩
    have hj':(j:Int) < 12:=by omega
    walk_at "rd"
    refine ⟨by omega,by omega,fun r r0 r1=>?_⟩
    walk_at "rd"
    refine .inr ⟨_,rfl,?_⟩
    walk_at "rd"
    refine ⟨.inl ⟨by omega,by omega⟩,?_⟩
    walk_at "rd"
    obtain ⟨bb,hbb⟩:∃ bb:Int,bb = (if decide (V.int (0 + (j:Int)) = V.int at0) = true then (1:Int) else 0):=⟨_,rfl⟩
    rw [← hbb]
    obtain ⟨ch,hv,hm⟩:=cM (xs:=ab.cps.toList) (i:=(r + 5 * (0 + (i:Int)) * bb) % 26) (Int.emod_nonneg _ (by decide)) (by rw [hab,abc]; exact Int.emod_lt_of_pos _ (by decide))
    rw [hab] at hm
    refine ⟨_,_,ch,rfl,rfl,by rw [hab]; exact aJ rfl,hv,?_⟩
    refine ⟨_,_,rfl,rfl,?_,?_⟩
    ·show z.length + 1 ≤ sizeLine
     omega
    ·walk_at "rd"
     first | refine ⟨rfl,_,_,rfl,?_,?_⟩ | refine ⟨_,_,rfl,?_,?_⟩ | refine ⟨_,rfl,?_,?_⟩ | refine ⟨?_,?_⟩
     ·rw [Str.length_append,hzl]
      rfl
     ·rw [uw,ha]
      show (true && ([ch].all dO)) = true
      rw [List.all_cons,abl ch hm]
      rfl
   ·rintro σ G' ⟨rfl,z,z7',rfl,hzl,ha⟩
    walk_at "rd"
    refine ⟨.inl ⟨rfl,_,ao.of hG⟩,?_⟩
    walk_at "rd"
    refine ⟨l,_,_,rfl,rfl,hG,by rw [List.length_map]; omega,?_⟩
    refine ⟨zs ++ [z],_,_,_,rfl,by rw [List.length_append,hz]; rfl,fun y hy=>?_,cO hl sG,by rw [aB,List.map_append]; rfl⟩
    rcases List.mem_append.mp hy with e | e
    ·exact hw y e
    ·rw [List.mem_singleton.mp e]
     exact qR (by omega) (by omega) ha
  ·rintro σ G ⟨zs,z5,z6,z7,rfl,hz,hw,sG,hG⟩
   exact ⟨_,rfl,k zs l G hz hw sG hl hG⟩
set_option maxHeartbeats 4000000 in
theorem oQ (T:Txt w K mg c):bF P w K mg base gK 2 c.a_Lsheets c.d_Lsheets ["_law_cell"] (sT):=by
 refine T.Lsheets.fn.ok kL (fun vs H Q E h=>?_) (fun cdv A outer s H vs Q E hr h=>?_)
 ·obtain ⟨n,rfl,_⟩:=h
  rfl
 ·obtain ⟨n,rfl,k⟩:=h
  refine ⟨_,(aY (aN (i:=1) kL.nd rfl (Or.inr rfl) (aL ar (aT (dM T) (hr.mono (by decide)) rfl T.Ldraw.mgf T.Ldraw.kp T.Ldraw.bi .nil ax (aA (pv 0) (aA aD aC))) (aL mi aD aD)))
   (aI (aR (e7 (N':=["_law_k", "_law_far", "_law_cell"]) (js:=[none,some 1,some 0]) rfl rfl (by decide +kernel) (by decide +kernel) (ez ["_law_far", "_law_cell"] (by decide +kernel) (ay (.inl rfl) (ay (.inl rfl) cm))) (gZ rfl (ay (fun j e=>nomatch e) (ay (fun j e=>by cases e; exact ⟨rfl,rfl,.inl rfl⟩) (ay (fun j e=>by cases e; exact ⟨rfl,rfl,.inl rfl⟩) cm)))) (eI rfl T.no_range (aA aD aC)) (fun B=>⟨(ag (i:=0) (show List.Nodup (["_law_k", "_law_far", "_law_cell"]:List Str) by decide +kernel) rfl (Or.inl rfl)),gU,(aL cJ (aL cJ aD (aL dc (pv 1) (aL ar (aT (dM T) (hr.mono (by decide)) rfl T.Ldraw.mgf T.Ldraw.kp T.Ldraw.bi .nil ax (aA (pv 2) (aA aD aC))) aD))) (aL dc aD (pv 0)))⟩))))),?_⟩
  have sz:2000 < sizeLine:=aJ rfl
  refine ⟨fun σ' G'=>H = G' ∧ ∃ f:Int,0 ≤ f ∧ f < 100000000 ∧ σ' = [some (.int n),some (.int f)],?_,?_⟩
  ·refine ⟨_,rfl,n,5,rfl,by decide,by decide,fun r r0 r1=>?_⟩
   walk_at "rd"
   have q0:=Int.emod_nonneg r (b:=100000000) (by decide)
   have q1:=Int.emod_lt_of_pos r (b:=100000000) (by decide)
   first | exact ⟨rfl,_,q0,q1,rfl⟩ | exact ⟨_,q0,q1,rfl⟩
  rintro σ G ⟨rfl,f,f0,f1,rfl⟩
  walk_at "rd"
  refine ⟨by decide,by decide,fun l B hl=>?_⟩
  refine mB (n:=(10:Int).toNat) (P:=fun _ v=>∃ s:Int,v = .int s ∧ 1 ≤ s ∧ s ≤ 1000000000) hl (by decide) (fun σ=>∃ o,σ = [o,some (.int f),some (.int n)]) ⟨_,rfl⟩ ?_ ?_
  ·rintro i σ G Kt hi ⟨o,rfl⟩ sG kt
   have hi:i < 10:=hi
   refine ⟨_,rfl,_,rfl,n,6,rfl,by decide,by decide,fun r r0 r1=>?_⟩
   have q0:=Int.emod_nonneg r (b:=2) (by decide)
   have q1:=Int.emod_lt_of_pos r (b:=2) (by decide)
   have fm:0 ≤ f * (r % 2) ∧ f * (r % 2) < 100000000:=by
    have:r % 2 = 0 ∨ r % 2 = 1:=by omega
    rcases this with h | h <;> rw [h] <;> omega
   walk_at "rd"
   refine ⟨.inl ⟨by omega,by omega⟩,?_⟩
   walk_at "rd"
   refine kt _ _ _ ⟨_,rfl⟩ (aH.refl _) ⟨_,rfl,?_,?_⟩
   ·omega
   ·omega
  ·intro G acc sG h1 h2 h3
   obtain ⟨ss,rfl⟩:=jk (acc:=acc) fun i v hv=>let ⟨s,e,_⟩:=h3 i v hv; ⟨s,e⟩
   refine k ss l G (by rw [List.length_map] at h2; exact h2) (fun s hs=>?_) sG hl h1
   obtain ⟨i,hi⟩:=List.getElem?_of_mem (List.mem_map_of_mem (f:=V.int) hs)
   obtain ⟨s',e,a,b⟩:=h3 i _ hi
   cases e
   exact ⟨a,b⟩
set_option maxHeartbeats 4000000 in
theorem qr (T:Txt w K mg c):bF P w K mg base gK 1 c.a_Lunder c.d_Lunder ["_law_rows_here", "_law_rank", "_law_draw_here"] (tT):=by
 refine T.Lunder.fn.ok jI (fun vs H Q E h=>?_) (fun cdv A outer s H vs Q E hr h=>?_)
 ·obtain ⟨l,ws,es,rk,x,rfl,_⟩:=h
  rfl
 ·obtain ⟨l,ws,es,rk,x,rfl,hL,hR,hB,x0,k⟩:=h
  refine ⟨_,(aY (aN (i:=3) jI.nd rfl (Or.inr rfl) (ae af (bB (aA aQ (aA aQ aC))) (d4 iz rfl T.no_int mf (aA (cK cT (pv 1) aQ (aW _)) aC)) (fun _ _=>rfl)))
   (aY (gG (i:=4) jI.nd rfl rfl (N':=["_law_row_here", "_law_want"]) (js:=[none,some 3]) rfl rfl (by decide +kernel) (by decide +kernel) (ez ["_law_want"] (by decide +kernel) (ay (.inl rfl) cm)) (gZ rfl (ay (fun j e=>nomatch e) (ay (fun j e=>by cases e; exact ⟨rfl,rfl,.inl rfl⟩) cm))) (cZ (pv 0)) (fun B=>⟨(ag (i:=0) (show List.Nodup (["_law_row_here", "_law_want"]:List Str) by decide +kernel) rfl (Or.inl rfl)),(eT (aV cT (ae bP (pv 0) aD (fun _ _=>rfl)) (pv 1) (aW _))),(ae bP (pv 0) aD (fun _ _=>rfl))⟩))
   (aY (au (PW.pt (cz (aV cT (aL ar (pv 2) aD) aD (aW _)) (cW (aV (gY (iO hr)) (pv 0) (bB aC) (aW _)))))
    (aI (aR (ae bP (ae af (pv 0) (aL ar (aL bu (pv 2) aD) (aZ bD rfl T.no_len dN (aA (pv 0) aC))) (fun _ _=>rfl)) aD (fun _ _=>rfl))))
    aO)
   (aE (au (aV (kq (iO hr)) (pv 4) (bB aC) (aW _))
    (aI (aR (aL gO aD (aL ar (pv 2) aD))))
    aO)
   (aI (aR (ae af (pv 4) (aL ar (aL bu (pv 2) aD) (aZ bD rfl T.no_len dN (aA (pv 4) aC))) (fun _ _=>rfl)))))))),?_⟩
  have sz:2000 < sizeLine:=aJ rfl
  have lw:=hR.1
  have l60:=hB.le
  refine ⟨fun σ' G'=>aH H G' ∧ ∃ wt:Str,σ' = [some (.ref l),some (.str rk),some (.int x),some (.str wt),none],?_,?_⟩
  ·refine ⟨aJ rfl,fun q hq=>?_⟩
   have s1:=aH.new (o:=HO.lst [V.str (Str.ofString "genus"),V.str (Str.ofString "species")]) hq
   have k1:=aB (H:=H) (a:=q) (o:=.lst [V.str (Str.ofString "genus"),V.str (Str.ofString "species")])
   generalize upd H q (.lst [V.str (Str.ofString "genus"),V.str (Str.ofString "species")]) = G1 at s1 k1 ⊢
   refine ⟨_,rfl,rfl,.inr ⟨_,rfl,?_⟩⟩
   obtain ⟨bb,hbb⟩:∃ bb:Bool,bb = decide (V.str rk = V.str (Str.ofString "form")):=⟨_,rfl⟩
   rw [← hbb]
   cases bb with
   | true=>exact ⟨q,_,_,_,rfl,rfl,ao.of k1,ah (j:=1) rfl,s1,_,rfl⟩
   | false=>exact ⟨q,_,_,_,rfl,rfl,ao.of k1,ah (j:=0) rfl,s1,_,rfl⟩
  rintro σ G1 ⟨s1,wt,rfl⟩
  have hL1:=s1 _ _ hL
  have hR1:=hR.same s1
  refine ⟨fun σ' G'=>aH H G' ∧ ∃ q,∃ ms:List Int,σ' = [some (.ref l),some (.str rk),some (.int x),some (.str wt),some (.ref q)] ∧ G' q = some (.lst (ms.map V.int)) ∧ ms.length ≤ 60 ∧ ∀ m ∈ ms,∃ e ∈ es,m = e.n,?_,?_⟩
  ·refine ⟨_,rfl,l,rfl,⟨_,ao.of hL1⟩,fun q B hq=>?_⟩
   refine dj (xs:=ws) (fun i σ acc G=>(∃ o,σ = [o,some (.str wt)]) ∧ aH G1 G ∧ G q = some (.lst acc) ∧ acc.length ≤ i ∧ ∃ ms:List Int,acc = ms.map V.int ∧ ∀ m ∈ ms,∃ e ∈ es,m = e.n) (by omega) ?_ ?_ ?_ ?_
   ·exact ⟨⟨_,rfl⟩,aH.new hq,aB,Nat.zero_le _,[],rfl,fun _ h=>nomatch h⟩
   ·rintro i σ acc G hi ⟨_,sG,h1,h2,_⟩
    exact ⟨h1,ao.of (sG _ _ hL1),by omega⟩
   ·rintro i v σ acc G hx ⟨⟨o,rfl⟩,sG,h1,h2,ms,rfl,h3⟩
    have hi:i < ws.length:=(List.getElem?_eq_some_iff.mp hx).1
    have hie:i < es.length:=by omega
    have ee:es[i]? = some es[i]:=List.getElem?_eq_getElem hie
    obtain ⟨ra,rfl,hrow⟩:=hR1.2 i v _ hx ee
    have em:=List.getElem_mem hie
    generalize es[i] = e at hrow em
    have f2:fQ (cx e) 2 = some (.str e.r):=ah (j:=2) rfl
    have f0:fQ (cx e) 0 = some (.int e.n):=ah (j:=0) rfl
    have hrow:=sG _ _ hrow
    refine ⟨_,rfl,ra,_,_,_,rfl,rfl,bz.of hrow,f2,_,rfl,rfl,_,rfl,?_⟩
    refine cE (fun _=>?_) (fun _=>Nx.mk hi ⟨⟨_,rfl⟩,sG,h1,by omega,ms,rfl,h3⟩)
    refine ⟨_,rfl,ra,_,_,_,rfl,rfl,bz.of hrow,f0,h1,Nx.mk hi ⟨⟨_,rfl⟩,cO hq sG,aB,by rw [List.length_append]; exact Nat.add_le_add_right h2 1,ms ++ [e.n],by rw [List.map_append]; rfl,fun m hm=>?_⟩⟩
    rcases List.mem_append.mp hm with z | z
    ·exact h3 m z
    ·exact ⟨e,em,List.mem_singleton.mp z⟩
   ·rintro σ acc G ⟨_,sG,h1,h2,ms,rfl,h3⟩
    rw [List.length_map] at h2
    exact ⟨s1.trans sG,q,ms,rfl,h1,by omega,h3⟩
  rintro σ G2 ⟨s2,q,ms,rfl,hq,l2,h3⟩
  have hL2:=s2 _ _ hL
  have hR2:=hR.same s2
  refine ⟨fun σ' G'=>aH G2 G' ∧ σ' = [some (.ref l),some (.str rk),some (.int x),some (.str wt),some (.ref q)],?_,?_⟩
  ·walk_at "rd"
   refine cE (fun _=>?_) (fun _=>bE ⟨aH.refl _,rfl⟩)
   walk_at "rd"
   refine ⟨aJ rfl,fun q0 hq0=>?_⟩
   have t0:=aH.new (o:=HO.lst []) hq0
   refine ⟨0,_,by decide,gQ (ao.of (t0 _ _ hL2)) (ao.of aB),_,rfl,?_⟩
   cases he:ws.isEmpty with
   | true=>exact bE ⟨t0,rfl⟩
   | false =>
    refine bR ?_
    have wp:0 < ws.length:=List.length_pos_iff.mpr fun z=>by rw [z] at he; cases he
    have hL3:=t0 _ _ hL2
    have hR3:=hR2.same t0
    generalize upd G2 q0 (.lst []) = G3 at t0 hL3 hR3 ⊢
    walk_at "rd"
    refine ⟨l,_,rfl,.inl (ao.of hL3),?_⟩
    walk_at "rd"
    refine ⟨by show (0:Int) < ws.length; omega,?_⟩
    obtain ⟨j,v,jl,hv,hvi,_⟩:=xS (xs:=ws) (i:=x / 9 % (ws.length:Int)) (Int.emod_nonneg _ (by omega)) (Int.emod_lt_of_pos _ (by omega))
    obtain ⟨e,he2⟩:∃ e,es[j]? = some e:=⟨_,List.getElem?_eq_getElem (by omega)⟩
    obtain ⟨ra,rfl,hrow⟩:=hR3.2 j v e hv he2
    have f0:fQ (cx e) 0 = some (.int e.n):=ah (j:=0) rfl
    have b9:=hB.n9 (List.mem_of_getElem? he2)
    exact ⟨l,_,_,_,rfl,rfl,ao.of hL3,hvi,ra,_,_,_,rfl,rfl,bz.of hrow,f0,k _ _ (s2.trans t0) b9.1 (by omega)⟩
  rintro σ G3 ⟨s3,rfl⟩
  have hq:=s3 _ _ hq
  have s3:=s2.trans s3
  refine ⟨_,rfl,aJ rfl,fun q0 hq0=>?_⟩
  have t0:=aH.new (o:=HO.lst []) hq0
  refine ⟨0,_,by decide,gQ (ao.of (t0 _ _ hq)) (ao.of aB),_,rfl,?_⟩
  have m0:=Int.emod_nonneg x (b:=1000) (by decide)
  have m1:=Int.emod_lt_of_pos x (b:=1000) (by decide)
  cases he:(ms.map V.int).isEmpty with
  | true =>
   refine bR ?_
   walk_at "rd"
   exact k _ _ (s3.trans t0) (by omega) (by omega)
  | false =>
   refine bE ?_
   have wp:0 < (ms.map V.int).length:=List.length_pos_iff.mpr fun z=>by rw [z] at he; cases he
   have hq1:=t0 _ _ hq
   have s4:=s3.trans t0
   generalize upd G3 q0 (.lst []) = G4 at t0 hq1 s4 ⊢
   walk_at "rd"
   refine ⟨q,_,rfl,.inl (ao.of hq1),?_⟩
   walk_at "rd"
   refine ⟨by show (0:Int) < (ms.map V.int).length; omega,?_⟩
   obtain ⟨v,hv,hm⟩:=cM (xs:=ms.map V.int) (i:=x / 9 % ((ms.map V.int).length:Int)) (Int.emod_nonneg _ (by omega)) (Int.emod_lt_of_pos _ (by omega))
   obtain ⟨m,hmm,rfl⟩:=List.mem_map.mp hm
   obtain ⟨e,he,rfl⟩:=h3 m hmm
   have b9:=hB.n9 he
   exact ⟨q,_,_,_,rfl,rfl,ao.of hq1,hv,k _ _ s4 b9.1 (by omega)⟩
set_option maxHeartbeats 4000000 in
theorem sf (T:Txt w K mg c):bF P w K mg base gK 1 c.a_Lbase c.d_Lbase ["_law_rows_here", "_law_rank", "_law_word", "_law_draw_here"] (uW):=by
 refine T.Lbase.fn.ok kl (fun vs H Q E h=>?_) (fun cdv A outer s H vs Q E hr h=>?_)
 ·obtain ⟨l,ws,es,rk,wd,x,rfl,_⟩:=h
  rfl
 ·obtain ⟨l,ws,es,rk,wd,x,rfl,hL,hR,hB,x0,k⟩:=h
  refine ⟨_,(aY (gG (i:=4) kl.nd rfl rfl (N':=["_law_row_here", "_law_rank", "_law_word"]) (js:=[none,some 1,some 2]) rfl rfl (by decide +kernel) (by decide +kernel) (ez ["_law_rank", "_law_word"] (by decide +kernel) (ay (.inl rfl) (ay (.inl rfl) cm))) (gZ rfl (ay (fun j e=>nomatch e) (ay (fun j e=>by cases e; exact ⟨rfl,rfl,.inl rfl⟩) (ay (fun j e=>by cases e; exact ⟨rfl,rfl,.inl rfl⟩) cm)))) (cZ (pv 0)) (fun B=>⟨(ag (i:=0) (show List.Nodup (["_law_row_here", "_law_rank", "_law_word"]:List Str) by decide +kernel) rfl (Or.inl rfl)),(eT (PW.pt (cz (aV cT (ae bP (pv 0) aD (fun _ _=>rfl)) (pv 1) (aW _)) (cz (dP (eV (ae bP (pv 0) aD (fun _ _=>rfl)))) (cW (aV cT (ae bP (pv 0) aD (fun _ _=>rfl)) (pv 2) (aW _))))))),(pv 0)⟩))
   (aY (au (aV cT (aL ar (pv 3) aD) aD (aW _))
    (aI (aN (i:=4) kl.nd rfl (Or.inl rfl) (pv 0)))
    aO)
   (aE (au (PW.pt (jz (aV (kq (iO hr)) (pv 4) (bB aC) (aW _)) (jM (PW.pt (cz (aV iT (aL ar (pv 3) aD) aD (aW _)) (cW (aV iT (aL ar (pv 3) aD) aD (aW _))))))))
    (aI (aR cw))
    aO)
   (aI (aR (ae bP (ae af (pv 4) (aL ar (aL bu (pv 3) aD) (aZ bD rfl T.no_len dN (aA (pv 4) aC))) (fun _ _=>rfl)) aD (fun _ _=>rfl))))))),?_⟩
  have sz:2000 < sizeLine:=aJ rfl
  have lw:=hR.1
  have l60:=hB.le
  refine ⟨fun σ' G'=>aH H G' ∧ ∃ q acc,σ' = [some (.ref l),some (.str rk),some (.str wd),some (.int x),some (.ref q)] ∧ G' q = some (.lst acc) ∧ acc.length ≤ 60 ∧ ∀ v ∈ acc,∃ e ∈ es,i8 H v e,?_,?_⟩
  ·refine ⟨_,rfl,l,rfl,⟨_,ao.of hL⟩,fun q B hq=>?_⟩
   refine dj (xs:=ws) (fun i σ acc G=>(∃ o,σ = [o,some (.str rk),some (.str wd)]) ∧ aH H G ∧ G q = some (.lst acc) ∧ acc.length ≤ i ∧ ∀ v ∈ acc,∃ e ∈ es,i8 H v e) (by omega) ?_ ?_ ?_ ?_
   ·exact ⟨⟨_,rfl⟩,aH.new hq,aB,Nat.zero_le _,fun _ h=>nomatch h⟩
   ·rintro i σ acc G hi ⟨_,sG,h1,h2,_⟩
    exact ⟨h1,ao.of (sG _ _ hL),by omega⟩
   ·rintro i v σ acc G hx ⟨⟨o,rfl⟩,sG,h1,h2,h3⟩
    have hi:i < ws.length:=(List.getElem?_eq_some_iff.mp hx).1
    have hie:i < es.length:=by omega
    have ee:es[i]? = some es[i]:=List.getElem?_eq_getElem hie
    have hrw:=hR.2 i v _ hx ee
    obtain ⟨ra,rfl,hrow⟩:=hR.2 i v _ hx ee
    have em:=List.getElem_mem hie
    generalize es[i] = e at hrow em hrw
    have f2:fQ (cx e) 2 = some (.str e.r):=ah (j:=2) rfl
    have f3:fQ (cx e) 3 = some (.str e.w):=ah (j:=3) rfl
    have f6:fQ (cx e) 6 = some (aq e.b):=ah (j:=6) rfl
    have hrow:=sG _ _ hrow
    have no:∀ o':Option V,Nx ws.length i ((∃ o'',[o',some (V.str rk),some (V.str wd)] = [o'',some (V.str rk),some (V.str wd)]) ∧ aH H G ∧ G q = some (.lst acc) ∧ acc.length ≤ i + 1 ∧ ∀ v ∈ acc,∃ e ∈ es,i8 H v e):=fun o'=>Nx.mk hi ⟨⟨_,rfl⟩,sG,h1,by omega,h3⟩
    refine ⟨_,rfl,ra,_,_,_,rfl,rfl,bz.of hrow,f2,_,rfl,rfl,_,rfl,?_⟩
    refine cE (fun _=>?_) (fun _=>bE (no _))
    refine ⟨_,rfl,ra,_,_,_,rfl,rfl,bz.of hrow,f6,_,rfl,?_⟩
    refine cE (fun _=>?_) (fun _=>bE (no _))
    refine ⟨_,rfl,ra,_,_,_,rfl,rfl,bz.of hrow,f3,_,rfl,rfl,_,rfl,?_⟩
    refine cE (fun _=>?_) (fun _=>no _)
    refine ⟨_,rfl,h1,Nx.mk hi ⟨⟨_,rfl⟩,cO hq sG,aB,by rw [List.length_append]; exact Nat.add_le_add_right h2 1,fun v hv=>?_⟩⟩
    rcases List.mem_append.mp hv with z | z
    ·exact h3 v z
    ·rw [List.mem_singleton.mp z]; exact ⟨e,em,hrw⟩
   ·rintro σ acc G ⟨_,sG,h1,h2,h3⟩
    exact ⟨sG,q,acc,rfl,h1,by omega,h3⟩
  rintro σ' G1 ⟨s1,q,acc,rfl,hq,la,h3⟩
  have all:∀ v ∈ ws,∃ e ∈ es,i8 H v e:=fun v hv=>by
   obtain ⟨j,hj⟩:=List.getElem?_of_mem hv
   have hl:j < es.length:=by rw [← lw]; exact (List.getElem?_eq_some_iff.mp hj).1
   exact ⟨_,List.getElem_mem hl,hR.2 j v _ hj (List.getElem?_eq_getElem hl)⟩
  refine ⟨fun σ' G'=>G1 = G' ∧ ∃ q acc,σ' = [some (.ref l),some (.str rk),some (.str wd),some (.int x),some (.ref q)] ∧ G1 q = some (.lst acc) ∧ acc.length ≤ 60 ∧ ∀ v ∈ acc,∃ e ∈ es,i8 H v e,?_,?_⟩
  ·walk_at "rd"
   refine cE (fun _=>?_) (fun _=>⟨rfl,q,acc,rfl,hq,la,h3⟩)
   exact ⟨_,rfl,rfl,l,ws,rfl,s1 _ _ hL,by omega,all⟩
  clear hq la h3
  rintro σ' G' ⟨rfl,q,acc,rfl,hq,la,h3⟩
  refine ⟨_,rfl,aJ rfl,fun q0 hq0=>?_⟩
  have t0:=aH.new (o:=HO.lst []) hq0
  refine ⟨0,_,by decide,gQ (ao.of (t0 _ _ hq)) (ao.of aB),_,rfl,?_⟩
  have s2:=s1.trans t0
  have hq:=t0 _ _ hq
  generalize upd G1 q0 (.lst []) = G2 at s2 hq ⊢
  have none_:Q (aq none) G2:=k none _ s2 fun b h=>nomatch h
  have some_:acc ≠ [] → ∃ v e i,i = x / 24 % (acc.length:Int) ∧ fQ acc i = some v ∧ e ∈ es ∧ i8 H v e:=fun ne=>by
   have ap:0 < acc.length:=List.length_pos_iff.mpr ne
   obtain ⟨v,hv,hm⟩:=cM (xs:=acc) (i:=x / 24 % (acc.length:Int)) (Int.emod_nonneg _ (by omega)) (Int.emod_lt_of_pos _ (by omega))
   obtain ⟨e,he,hr⟩:=h3 v hm
   exact ⟨v,e,_,rfl,hv,he,hr⟩
  cases he:acc.isEmpty with
  | true=>exact bR none_
  | false =>
   refine bE ?_
   have ne:acc ≠ []:=fun z=>by rw [z] at he; cases he
   have ap:0 < acc.length:=List.length_pos_iff.mpr ne
   obtain ⟨v,e,i,rfl,hv,he2,ra,rfl,hrow⟩:=some_ ne
   have f0:fQ (cx e) 0 = some (.int e.n):=ah (j:=0) rfl
   have b9:=hB.n9 he2
   have go:Q (aq (some e.n)) G2:=k (some e.n) _ s2 fun b h=>by cases h; exact ⟨b9.1,by omega⟩
   have fin:∀ (R:Prop),R → R:=fun _ h=>h
   walk_at "rd"
   refine m9 (fun _=>?_) (fun _=>bE ?_)
   ·walk_at "rd"
    refine cE (fun _=>?_) (fun _=>?_)
    ·exact none_
    ·walk_at "rd"
     refine ⟨q,_,rfl,.inl (ao.of hq),?_⟩
     walk_at "rd"
     refine ⟨by show (0:Int) < acc.length; omega,?_⟩
     exact ⟨q,_,_,_,rfl,rfl,ao.of hq,hv,ra,_,_,_,rfl,rfl,bz.of (s2 _ _ hrow),f0,go⟩
   ·walk_at "rd"
    refine ⟨q,_,rfl,.inl (ao.of hq),?_⟩
    walk_at "rd"
    refine ⟨by show (0:Int) < acc.length; omega,?_⟩
    exact ⟨q,_,_,_,rfl,rfl,ao.of hq,hv,ra,_,_,_,rfl,rfl,bz.of (s2 _ _ hrow),f0,go⟩
set_option maxHeartbeats 4000000 in
theorem ui (T:Txt w K mg c):bF P w K mg base gK 2 c.a_Lrow c.d_Lrow ["_law_rows_here", "_law_cell", "_law_k", "_law_words_here", "_law_sheets_here"] (xH):=by
 refine T.Lrow.fn.ok cp (fun vs H Q E h=>?_) (fun cdv A outer s H vs Q E hr h=>?_)
 ·obtain ⟨l,ws,es,n,i,wl,zs,sl,ss,rfl,_⟩:=h
  rfl
 ·obtain ⟨l,ws,es,n,i,wl,zs,sl,ss,rfl,hL,hR,hB,hi,h60,hW,lz,hz,hS,ls,hs,k⟩:=h
  refine ⟨_,(aY (gG (i:=5) cp.nd rfl rfl (N':=["_law_j", "_law_cell", "_law_k"]) (js:=[none,some 1,some 2]) rfl rfl (by decide +kernel) (by decide +kernel) (ez ["_law_cell", "_law_k"] (by decide +kernel) (ay (.inl rfl) (ay (.inl rfl) cm))) (gZ rfl (ay (fun j e=>nomatch e) (ay (fun j e=>by cases e; exact ⟨rfl,rfl,.inl rfl⟩) (ay (fun j e=>by cases e; exact ⟨rfl,rfl,.inl rfl⟩) cm)))) (eI rfl T.no_range (aA aD aC)) (fun B=>⟨(ag (i:=0) (show List.Nodup (["_law_j", "_law_cell", "_law_k"]:List Str) by decide +kernel) rfl (Or.inl rfl)),gU,(aT (dM T) (hr.mono (by decide)) rfl T.Ldraw.mgf T.Ldraw.kp T.Ldraw.bi .nil ax (aA (pv 1) (aA (aL cJ (aL cJ aD (aL dc aD (pv 2))) (pv 0)) aC)))⟩))
   (aY (aN (i:=6) cp.nd rfl (Or.inl rfl) (aL cJ aD (aL ar (ae af (pv 5) aD (fun _ _=>rfl)) aD)))
   (aY (aN (i:=7) cp.nd rfl (Or.inl rfl) (aL cJ (aL cJ aD (aL dc (aL ar (ae af (pv 5) aD (fun _ _=>rfl)) (aL mi aD aD)) aD)) (pv 2)))
   (aY (au (aV (gY (iO hr)) (pv 0) (bB aC) (aW _))
    (aY (aN (i:=6) cp.nd rfl (Or.inl rfl) (aL cJ (ae bP (ae af (pv 0) (p9 m7 aD) (fun _ _=>rfl)) aD (fun _ _=>rfl)) (ae af (bB (aA aD (aA aD (aA (aL ar (aL bu (ae af (pv 5) aD (fun _ _=>rfl)) aD) aD) aC)))) (aL ar (ae af (pv 5) aD (fun _ _=>rfl)) aD) (fun _ _=>rfl))))
   (aI (au (PW.pt (cz (aV cT (pv 6) (ae bP (ae af (pv 0) (p9 m7 aD) (fun _ _=>rfl)) aD (fun _ _=>rfl)) (aW _)) (cW (aV rK (pv 7) (ae bP (ae af (pv 0) (p9 m7 aD) (fun _ _=>rfl)) aD (fun _ _=>rfl)) (aW _)))))
    (aI (aN (i:=6) cp.nd rfl (Or.inl rfl) (aL cJ (pv 6) aD)))
    aO)))
    aO)
   (aY (aN (i:=8) cp.nd rfl (Or.inl rfl) (ae af (bB (aA aQ (aA aQ (aA aQ (aA aQ (aA aQ aC)))))) (aL ar (ae af (pv 5) aD (fun _ _=>rfl)) aD) (fun _ _=>rfl)))
   (aY (au (PW.pt (cz (aV cT (pv 8) aQ (aW _)) (cW (aV (kq (iO hr)) (e7 (N':=["_law_row_here"]) (js:=[none]) rfl rfl (by decide +kernel) (by decide +kernel) (iW (by decide +kernel)) (jm rfl rfl) (cZ (pv 0)) (fun B=>⟨(ag (i:=0) (show List.Nodup (["_law_row_here"]:List Str) by decide +kernel) rfl (Or.inl rfl)),(eT (aV cT (ae bP (pv 0) aD (fun _ _=>rfl)) aQ (aW _))),(pv 0)⟩)) (bB aC) (aW _)))))
    (aI (aN (i:=8) cp.nd rfl (Or.inl rfl) aQ))
    aO)
   (aY (au (PW.pt (cz (aV cT (pv 8) aQ (aW _)) (cW (aV (kq (iO hr)) (e7 (N':=["_law_row_here"]) (js:=[none]) rfl rfl (by decide +kernel) (by decide +kernel) (iW (by decide +kernel)) (jm rfl rfl) (cZ (pv 0)) (fun B=>⟨(ag (i:=0) (show List.Nodup (["_law_row_here"]:List Str) by decide +kernel) rfl (Or.inl rfl)),(eT (aV cT (ae bP (pv 0) aD (fun _ _=>rfl)) aQ (aW _))),(pv 0)⟩)) (bB aC) (aW _)))))
    (aI (aN (i:=8) cp.nd rfl (Or.inl rfl) aQ))
    aO)
   (aY (aN (i:=9) cp.nd rfl (Or.inl rfl) (ae af (pv 3) (aL ar (ae af (pv 5) aD (fun _ _=>rfl)) (aZ bD rfl T.no_len dN (aA (pv 3) aC))) (fun _ _=>rfl)))
   (aE (au (aV cT (pv 8) aQ (aW _))
    (aI (aR (cA (aA (pv 7) (aA (pv 6) (aA (pv 8) (aA (pv 9) (aA cw (aA (ae af (pv 4) (aL ar (ae af (pv 5) aD (fun _ _=>rfl)) aD) (fun _ _=>rfl)) (aA cw (aA (cK iT (aL ar (ae af (pv 5) aD (fun _ _=>rfl)) aD) aD (aW _)) aC)))))))))))
    aO)
   (aE (aN (i:=10) cp.nd rfl (Or.inl rfl) (aT (qr T) (hr.mono (by decide)) rfl T.Lunder.mgf T.Lunder.kp T.Lunder.bi .nil ax (aA (pv 0) (aA (pv 8) (aA (ae af (pv 5) aD (fun _ _=>rfl)) aC)))))
   (aE (aN (i:=11) cp.nd rfl (Or.inl rfl) (aT (sf T) (hr.mono (by decide)) rfl T.Lbase.mgf T.Lbase.kp T.Lbase.bi .nil ax (aA (pv 0) (aA (pv 8) (aA (pv 9) (aA (ae af (pv 5) aD (fun _ _=>rfl)) aC))))))
   (aE (au (dP (fo (pv 11)))
    (aI (aR (cA (aA (pv 7) (aA (pv 6) (aA (pv 8) (aA (pv 9) (aA (pv 10) (aA cw (aA (pv 11) (aA (cK iT (aL ar (ae af (pv 5) aD (fun _ _=>rfl)) aD) aD (aW _)) aC)))))))))))
    aO)
   (aI (aR (cA (aA (pv 7) (aA (pv 6) (aA (pv 8) (aA (pv 9) (aA (pv 10) (aA (ae af (pv 4) (aL ar (ae af (pv 5) aD (fun _ _=>rfl)) aD) (fun _ _=>rfl)) (aA cw (aA (cK iT (aL ar (ae af (pv 5) aD (fun _ _=>rfl)) aD) aD (aW _)) aC))))))))))))))))))))))),?_⟩
  have sz:2000 < sizeLine:=aJ rfl
  have lw:=hR.1
  have p6:(10:Int) ^ (6:Int).toNat = 1000000:=by decide
  refine ⟨fun σ' G'=>aH H G' ∧ ∃ dl,∃ ds:List Int,ds.length = 9 ∧ (∀ d ∈ ds,0 ≤ d ∧ d < 2147483648) ∧ G' dl = some (.lst (ds.map V.int)) ∧ σ' = [some (.ref l),some (.int n),some (.int i),some (.ref wl),some (.ref sl),some (.ref dl),none,none,none,none,none,none],?_,?_⟩
  ·walk_at "rd"
   refine ⟨by decide,by decide,fun dl B hdl=>?_⟩
   refine mB (n:=(9:Int).toNat) (P:=fun _ v=>∃ s:Int,v = .int s ∧ 0 ≤ s ∧ s < 2147483648) hdl (by decide) (fun σ=>∃ o,σ = [o,some (.int n),some (.int i)]) ⟨_,rfl⟩ ?_ ?_
   ·rintro j σ G Kt hj ⟨o,rfl⟩ sG kt
    have hj:j < 9:=hj
    walk_at "rd"
    exact ⟨by omega,by omega,fun r r0 r1=>kt _ _ _ ⟨_,rfl⟩ (aH.refl _) ⟨_,rfl,r0,r1⟩⟩
   ·intro G acc sG h1 h2 h3
    obtain ⟨ds,rfl⟩:=jk (acc:=acc) fun i v hv=>let ⟨s,e,_⟩:=h3 i v hv; ⟨s,e⟩
    refine ⟨sG,dl,ds,by rw [List.length_map] at h2; exact h2,fun s hs=>?_,h1,rfl⟩
    obtain ⟨i,hi⟩:=List.getElem?_of_mem (List.mem_map_of_mem (f:=V.int) hs)
    obtain ⟨s',e,a,b⟩:=h3 i _ hi
    cases e
    exact ⟨a,b⟩
  rintro σ G0 ⟨s0,dl,ds,l9,hds,hdr,rfl⟩
  have at_:∀ j:Nat,j < 9 → ∃ d,(0 ≤ d ∧ d < 2147483648) ∧ fQ (ds.map V.int) (j:Int) = some (.int d):=fun j hj=>by
   have hl:j < ds.length:=by omega
   refine ⟨ds[j],hds _ (List.getElem_mem hl),ah ?_⟩
   rw [List.getElem?_map,List.getElem?_eq_getElem hl]
   rfl
  obtain ⟨x0,p0,g0⟩:=at_ 0 (by decide)
  obtain ⟨x1,p1,g1⟩:=at_ 1 (by decide)
  obtain ⟨x2,p2,g2⟩:=at_ 2 (by decide)
  obtain ⟨x3,p3,g3⟩:=at_ 3 (by decide)
  obtain ⟨x4,p4,g4⟩:=at_ 4 (by decide)
  obtain ⟨x5,p5,g5⟩:=at_ 5 (by decide)
  obtain ⟨x6,p6',g6⟩:=at_ 6 (by decide)
  obtain ⟨x7,p7,g7⟩:=at_ 7 (by decide)
  have rd:∀ {G:Hp} (s:aH G0 G),ao K G dl (ds.map V.int):=fun s=>ao.of (s _ _ hdr)
  have m0:=Int.emod_nonneg x1 (b:=1000000) (by decide)
  have m1:=Int.emod_lt_of_pos x1 (b:=1000000) (by decide)
  refine ⟨fun σ' G'=>G0 = G' ∧ ∃ dy:Int,1 ≤ dy ∧ dy ≤ 3 ∧ σ' = [some (.ref l),some (.int n),some (.int i),some (.ref wl),some (.ref sl),some (.ref dl),some (.int dy),none,none,none,none,none],?_,?_⟩
  ·refine ⟨_,rfl,dl,_,_,_,rfl,rfl,rd (aH.refl _),g0,?_⟩
   walk_at "rd"
   have q0:=Int.emod_nonneg x0 (b:=3) (by decide)
   have q1:=Int.emod_lt_of_pos x0 (b:=3) (by decide)
   first | exact ⟨rfl,_,by omega,by omega,rfl⟩ | exact ⟨_,by omega,by omega,rfl⟩
  rintro σ G ⟨rfl,dy0,dy1,dy2,rfl⟩
  obtain ⟨nu,hnu⟩:∃ nu:Int,nu = 1 + x1 % 1000000 * 100 + i:=⟨_,rfl⟩
  have nub:1 ≤ nu ∧ nu ≤ 100000000 ∧ (nu - 1) % 100 = es.length:=by omega
  refine ⟨fun σ' G'=>G0 = G' ∧ σ' = [some (.ref l),some (.int n),some (.int i),some (.ref wl),some (.ref sl),some (.ref dl),some (.int dy0),some (.int nu),none,none,none,none],?_,?_⟩
  ·refine ⟨_,rfl,dl,_,_,_,rfl,rfl,rd (aH.refl _),g1,?_⟩
   walk_at "rd"
   first | (rw [hnu]; rfl) | (rw [hnu,← p6]; rfl) | trace_state
  rintro σ G ⟨rfl,rfl⟩
  have hL0:=s0 _ _ hL
  have hR0:=hR.same s0
  refine ⟨fun σ' G'=>aH G0 G' ∧ ∃ dy:Int,1 ≤ dy ∧ dy ≤ 1000 * (es.length + 1) ∧ (∀ x,gW none es = some x → x.d < dy ∨ x.d = dy ∧ x.n < nu) ∧ σ' = [some (.ref l),some (.int n),some (.int i),some (.ref wl),some (.ref sl),some (.ref dl),some (.int dy),some (.int nu),none,none,none,none],?_,?_⟩
  ·refine ⟨_,rfl,aJ rfl,fun q0 hq0=>?_⟩
   have t0:=aH.new (o:=HO.lst []) hq0
   refine ⟨0,_,by decide,gQ (ao.of (t0 _ _ hL0)) (ao.of aB),_,rfl,?_⟩
   cases he:ws.isEmpty with
   | true =>
    have e0:es = []:=List.eq_nil_of_length_eq_zero (by rw [← lw,List.isEmpty_iff.mp he]; rfl)
    refine bE ⟨t0,_,dy1,by omega,fun x hx=>?_,rfl⟩
    rw [e0] at hx
    cases hx
   | false =>
    refine bR ?_
    have wne:ws ≠ []:=fun z=>by rw [z] at he; cases he
    have hL3:=t0 _ _ hL0
    have hR3:=hR0.same t0
    have rd3:=rd t0
    generalize upd G0 q0 (.lst []) = G3 at t0 hL3 hR3 rd3 ⊢
    obtain ⟨e,ra,le1,em,a1,hra⟩:=hR3.last wne
    have f0:fQ (cx e) 0 = some (.int e.n):=ah (j:=0) rfl
    have f1:fQ (cx e) 1 = some (.int e.d):=ah (j:=1) rfl
    have d9:=hB.dd e em
    have ne:e.n ≠ nu:=fun z=>by
     obtain ⟨j,hj⟩:=List.getElem?_of_mem em
     have h1:=(hB.nn j e hj).2.2
     have h3:=(List.getElem?_eq_some_iff.mp hj).1
     rw [z] at h1
     omega
    refine ⟨fun σ' G'=>aH G3 G' ∧ ∃ dy:Int,e.d ≤ dy ∧ dy ≤ e.d + 899 ∧ σ' = [some (.ref l),some (.int n),some (.int i),some (.ref wl),some (.ref sl),some (.ref dl),some (.int dy),some (.int nu),none,none,none,none],?_,?_⟩
    ·walk_at "rd"
     refine ⟨l,_,_,_,rfl,rfl,ao.of hL3,a1,ra,_,_,_,rfl,rfl,bz.of hra,f1,?_⟩
     walk_at "rd"
     refine ⟨dl,_,_,_,rfl,rfl,rd3,g0,?_⟩
     walk_at "rd"
     have y30:=Int.emod_nonneg (x0 / 3) (b:=900) (by decide)
     have y31:=Int.emod_lt_of_pos (x0 / 3) (b:=900) (by decide)
     refine ⟨aJ rfl,fun q hq=>?_⟩
     refine ⟨_,rfl,dl,_,_,_,rfl,rfl,ao.of (aH.new hq _ _ (t0 _ _ hdr)),g0,?_⟩
     walk_at "rd"
     obtain ⟨v,hv,hm⟩:=cM (xs:=[V.int 0,V.int 1,V.int (x0 / 3 % 900)]) (i:=x0 % 3) (Int.emod_nonneg _ (by decide)) (by show _ < (3:Int); exact Int.emod_lt_of_pos _ (by decide))
     obtain ⟨m,rfl,mb0,mb1⟩:∃ m:Int,v = .int m ∧ 0 ≤ m ∧ m ≤ 899:=by
      simp only [List.mem_cons,List.not_mem_nil,or_false] at hm
      rcases hm with rfl | rfl | rfl
      ·exact ⟨_,rfl,by decide,by decide⟩
      ·exact ⟨_,rfl,by decide,by decide⟩
      ·exact ⟨_,rfl,by omega,by omega⟩
     refine ⟨q,_,_,_,rfl,rfl,ao.of aB,hv,?_⟩
     walk_at "rd"
     first | exact ⟨aH.new hq,_,by omega,by omega,rfl⟩ | trace_state
    rintro σ G4 ⟨t4,dy,dya,dyb,rfl⟩
    have hL4:=t4 _ _ hL3
    have hra4:=t4 _ _ hra
    have s4:=t0.trans t4
    have jL:(e.d < dy ∨ e.d = dy ∧ e.n < nu) → ∀ x,gW none es = some x → x.d < dy ∨ x.d = dy ∧ x.n < nu:=fun h x hx=>by
     rw [le1] at hx
     cases hx
     exact h
    walk_at "rd"
    refine ⟨l,_,_,_,rfl,rfl,ao.of hL4,a1,ra,_,_,_,rfl,rfl,bz.of hra4,f1,rfl,_,rfl,?_⟩
    refine cE (fun h1=>?_) (fun h1=>?_)
    ·have h1:dy = e.d:=V.int.inj (of_decide_eq_true h1)
     walk_at "rd"
     refine ⟨l,_,_,_,rfl,rfl,ao.of hL4,a1,ra,_,_,_,rfl,rfl,bz.of hra4,f0,_,_,rfl,rfl,_,rfl,?_⟩
     refine cE (fun h2=>?_) (fun h2=>?_)
     ·walk_at "rd"
      first | exact ⟨s4,_,by omega,by omega,fun x hx=>by (rw [le1] at hx; cases hx; left; omega),rfl⟩ | trace_state
     ·have h2:¬ nu < e.n:=fun z=>h2 (decide_eq_true z)
      exact ⟨s4,_,by omega,by omega,jL (by omega),rfl⟩
    ·have h1:dy ≠ e.d:=fun z=>h1 (decide_eq_true (by rw [z]))
     exact bE ⟨s4,_,by omega,by omega,jL (by omega),rfl⟩
  rintro σ G1 ⟨s1,dy,b1,b2,la,rfl⟩
  have isR:∀ rk:Str,rk = Str.ofString "genus" ∨ rk = Str.ofString "species" ∨ rk = Str.ofString "form" → True:=fun _ _=>trivial
  refine ⟨fun σ' G'=>aH G1 G' ∧ ∃ rk:Str,(rk = Str.ofString "genus" ∨ rk = Str.ofString "species" ∨ rk = Str.ofString "form") ∧ σ' = [some (.ref l),some (.int n),some (.int i),some (.ref wl),some (.ref sl),some (.ref dl),some (.int dy),some (.int nu),some (.str rk),none,none,none],?_,?_⟩
  ·obtain ⟨rs,hrs⟩:∃ rs:List V,rs = [V.str (Str.ofString "genus"),V.str (Str.ofString "species"),V.str (Str.ofString "species"),V.str (Str.ofString "form"),V.str (Str.ofString "form")]:=⟨_,rfl⟩
   refine ⟨aJ rfl,fun q hq=>?_⟩
   rw [← hrs]
   have t4:=aH.new (o:=HO.lst rs) hq
   have k4:=aB (H:=G1) (a:=q) (o:=.lst rs)
   generalize upd G1 q (.lst rs) = G4 at t4 k4 ⊢
   walk_at "rd"
   refine ⟨dl,_,_,_,rfl,rfl,rd (s1.trans t4),g2,?_⟩
   walk_at "rd"
   obtain ⟨v,hv,hm⟩:=cM (xs:=rs) (i:=x2 % 5) (Int.emod_nonneg _ (by decide)) (by rw [hrs]; show _ < (5:Int); exact Int.emod_lt_of_pos _ (by decide))
   obtain ⟨rk,rfl,hrk⟩:∃ rk:Str,v = .str rk ∧ (rk = Str.ofString "genus" ∨ rk = Str.ofString "species" ∨ rk = Str.ofString "form"):=by
    rw [hrs] at hm
    simp only [List.mem_cons,List.not_mem_nil,or_false] at hm
    rcases hm with rfl | rfl | rfl | rfl | rfl
    ·exact ⟨_,rfl,.inl rfl⟩
    ·exact ⟨_,rfl,.inr (.inl rfl)⟩
    ·exact ⟨_,rfl,.inr (.inl rfl)⟩
    ·exact ⟨_,rfl,.inr (.inr rfl)⟩
    ·exact ⟨_,rfl,.inr (.inr rfl)⟩
   refine ⟨q,_,_,_,rfl,rfl,ao.of k4,hv,?_⟩
   exact ⟨t4,_,hrk,rfl⟩
  rintro σ G ⟨sG,rk,hrk,rfl⟩
  have sG:=s1.trans sG
  clear isR
  have hL1:=sG _ _ hL0
  have hR1:=hR0.same sG
  refine ⟨fun σ' G'=>aH G0 G' ∧ ∃ rk:Str,(rk = Str.ofString "genus" ∨ rk = Str.ofString "species" ∨ rk = Str.ofString "form") ∧ σ' = [some (.ref l),some (.int n),some (.int i),some (.ref wl),some (.ref sl),some (.ref dl),some (.int dy),some (.int nu),some (.str rk),none,none,none],?_,?_⟩
  ·refine ⟨_,rfl,rfl,_,rfl,?_⟩
   refine cE (fun _=>?_) (fun _=>bE ⟨sG,_,hrk,rfl⟩)
   refine ⟨_,rfl,l,rfl,⟨_,ao.of hL1⟩,fun q B hq=>?_⟩
   refine dj (xs:=ws) (fun i σ acc G'=>(∃ o,σ = [o]) ∧ aH G G' ∧ G' q = some (.lst acc) ∧ acc.length ≤ i) (by omega) ?_ ?_ ?_ ?_
   ·exact ⟨⟨_,rfl⟩,aH.new hq,aB,Nat.zero_le _⟩
   ·rintro i σ acc G' hi ⟨_,sG',h1,h2⟩
    exact ⟨h1,ao.of (sG' _ _ hL1),by omega⟩
   ·rintro i v σ acc G' hx ⟨⟨o,rfl⟩,sG',h1,h2⟩
    have hi:i < ws.length:=(List.getElem?_eq_some_iff.mp hx).1
    obtain ⟨ra,rfl,hrow⟩:=hR1.2 i v _ hx (List.getElem?_eq_getElem (by omega))
    have f2:∀ e:En,fQ (cx e) 2 = some (.str e.r):=fun e=>ah (j:=2) rfl
    refine ⟨_,rfl,ra,_,_,_,rfl,rfl,bz.of (sG' _ _ hrow),f2 _,rfl,_,rfl,?_⟩
    refine cE (fun _=>?_) (fun _=>Nx.mk hi ⟨⟨_,rfl⟩,sG',h1,by omega⟩)
    exact ⟨_,rfl,h1,Nx.mk hi ⟨⟨_,rfl⟩,cO hq sG',aB,by rw [List.length_append]; exact Nat.add_le_add_right h2 1⟩⟩
   ·rintro σ acc G' ⟨_,sG',h1,h2⟩
    refine ⟨aJ rfl,fun q0 hq0=>?_⟩
    have t0:=aH.new (o:=HO.lst []) hq0
    refine ⟨0,_,by decide,gQ (ao.of (t0 _ _ h1)) (ao.of aB),_,rfl,?_⟩
    have s9:=sG.trans (sG'.trans t0)
    cases acc.isEmpty with
    | true=>first | exact bR ⟨_,rfl,s9,_,.inr (.inl rfl),rfl⟩ | exact bR ⟨s9,_,.inr (.inl rfl),rfl⟩ | exact bR ⟨s9,_,.inl rfl,rfl⟩
    | false=>exact bE ⟨s9,_,hrk,rfl⟩
  clear sG hL1 hR1 hrk
  rintro σ G ⟨sG,rk,hrk,rfl⟩
  have hL1:=sG _ _ hL0
  have hR1:=hR0.same sG
  refine ⟨fun σ' G'=>aH G0 G' ∧ ∃ rk:Str,(rk = Str.ofString "genus" ∨ rk = Str.ofString "species" ∨ rk = Str.ofString "form") ∧ σ' = [some (.ref l),some (.int n),some (.int i),some (.ref wl),some (.ref sl),some (.ref dl),some (.int dy),some (.int nu),some (.str rk),none,none,none],?_,?_⟩
  ·refine ⟨_,rfl,rfl,_,rfl,?_⟩
   refine cE (fun _=>?_) (fun _=>bE ⟨sG,_,hrk,rfl⟩)
   refine ⟨_,rfl,l,rfl,⟨_,ao.of hL1⟩,fun q B hq=>?_⟩
   refine dj (xs:=ws) (fun i σ acc G'=>(∃ o,σ = [o]) ∧ aH G G' ∧ G' q = some (.lst acc) ∧ acc.length ≤ i) (by omega) ?_ ?_ ?_ ?_
   ·exact ⟨⟨_,rfl⟩,aH.new hq,aB,Nat.zero_le _⟩
   ·rintro i σ acc G' hi ⟨_,sG',h1,h2⟩
    exact ⟨h1,ao.of (sG' _ _ hL1),by omega⟩
   ·rintro i v σ acc G' hx ⟨⟨o,rfl⟩,sG',h1,h2⟩
    have hi:i < ws.length:=(List.getElem?_eq_some_iff.mp hx).1
    obtain ⟨ra,rfl,hrow⟩:=hR1.2 i v _ hx (List.getElem?_eq_getElem (by omega))
    have f2:∀ e:En,fQ (cx e) 2 = some (.str e.r):=fun e=>ah (j:=2) rfl
    refine ⟨_,rfl,ra,_,_,_,rfl,rfl,bz.of (sG' _ _ hrow),f2 _,rfl,_,rfl,?_⟩
    refine cE (fun _=>?_) (fun _=>Nx.mk hi ⟨⟨_,rfl⟩,sG',h1,by omega⟩)
    exact ⟨_,rfl,h1,Nx.mk hi ⟨⟨_,rfl⟩,cO hq sG',aB,by rw [List.length_append]; exact Nat.add_le_add_right h2 1⟩⟩
   ·rintro σ acc G' ⟨_,sG',h1,h2⟩
    refine ⟨aJ rfl,fun q0 hq0=>?_⟩
    have t0:=aH.new (o:=HO.lst []) hq0
    refine ⟨0,_,by decide,gQ (ao.of (t0 _ _ h1)) (ao.of aB),_,rfl,?_⟩
    have s9:=sG.trans (sG'.trans t0)
    cases acc.isEmpty with
    | true=>first | exact bR ⟨_,rfl,s9,_,.inr (.inl rfl),rfl⟩ | exact bR ⟨s9,_,.inr (.inl rfl),rfl⟩ | exact bR ⟨s9,_,.inl rfl,rfl⟩
    | false=>exact bE ⟨s9,_,hrk,rfl⟩
  clear sG hL1 hR1 hrk
  rintro σ G ⟨sG,rk,hrk,rfl⟩
  have hL1:=sG _ _ hL0
  have hR1:=hR0.same sG
  have hW1:=(s0.trans sG) _ _ hW
  have hS1:=(s0.trans sG) _ _ hS
  have sH:=s0.trans sG
  have rd1:=rd sG
  refine ⟨fun σ' G'=>G = G' ∧ ∃ wd:Str,isWord (.str wd) = true ∧ σ' = [some (.ref l),some (.int n),some (.int i),some (.ref wl),some (.ref sl),some (.ref dl),some (.int dy),some (.int nu),some (.str rk),some (.str wd),none,none],?_,?_⟩
  ·walk_at "rd"
   refine ⟨dl,_,_,_,rfl,rfl,rd1,g3,?_⟩
   walk_at "rd"
   refine ⟨wl,_,rfl,.inl (ao.of hW1),?_⟩
   have lm:((zs.map V.str).length:Int) = 5:=by rw [List.length_map,lz]; rfl
   walk_at "rd"
   refine ⟨by rw [lm]; show (0:Int) < 5; decide,?_⟩
   obtain ⟨v,hv,hm⟩:=cM (xs:=zs.map V.str) (i:=x3 % ((zs.map V.str).length:Int)) (Int.emod_nonneg _ (by omega)) (Int.emod_lt_of_pos _ (by omega))
   obtain ⟨z,hzm,rfl⟩:=List.mem_map.mp hm
   exact ⟨wl,_,_,_,rfl,rfl,ao.of hW1,hv,rfl,z,hz z hzm,rfl⟩
  rintro σ G' ⟨rfl,wd,hwd,rfl⟩
  have inn:inR 1000000000 (.int nu) = true:=dJ nub.1 (by omega)
  have ind:inR 1000000 (.int dy) = true:=dJ b1 (by omega)
  have irk:fL (.str rk) = true:=by rcases hrk with q | q | q <;> rw [q] <;> decide +kernel
  have lms:((ss.map V.int).length:Int) = 10:=by rw [List.length_map,ls]; rfl
  have sheet:∃ s:Int,(1 ≤ s ∧ s ≤ 1000000000) ∧ fQ (ss.map V.int) (x4 % 10) = some (.int s):=by
   obtain ⟨v,hv,hm⟩:=cM (xs:=ss.map V.int) (i:=x4 % 10) (Int.emod_nonneg _ (by decide)) (by rw [lms]; exact Int.emod_lt_of_pos _ (by decide))
   obtain ⟨s,hsm,rfl⟩:=List.mem_map.mp hm
   exact ⟨s,hs s hsm,hv⟩
  obtain ⟨sh,shb,hsh⟩:=sheet
  have fin:∀ (e:En) (G':Hp) (p:Addr),aH G G' → G' p = none → e.n = nu → e.d = dy → e.r = rk → e.w = wd → bO (.str rk) (aq e.u) = true → bV (.str rk) (aq e.s) (aq e.b) = true → Q (.ref p) (upd G' p (.tup (cx e))):=fun e G' p sG' hp e1 e2 e3 e4 e5 e6=>by
   refine k (.ref p) e _ (sH.trans (sG'.trans (aH.new hp))) ⟨p,rfl,aB⟩ ⟨x8 ?_ ?_ ?_ ?_ ?_ ?_,?_,?_,?_,?_⟩
   ·rw [e1]; exact inn
   ·rw [e2]; exact ind
   ·rw [e3]; exact irk
   ·rw [e4]; exact hwd
   ·rw [e3]; exact e5
   ·rw [e3]; exact e6
   ·rw [e1]; exact nub
   ·rw [e2]; exact b1
   ·rw [e2]; exact b2
   ·intro x hx
    rw [e1,e2]
    exact la x hx
  refine ⟨_,rfl,rfl,_,rfl,?_⟩
  refine cE (fun hg=>?_) (fun hg=>?_)
  ·have hg:rk = Str.ofString "genus" := V.str.inj (of_decide_eq_true hg)
   walk_at "rd"
   refine ⟨dl,_,_,_,rfl,rfl,rd1,g4,?_⟩
   walk_at "rd"
   refine ⟨sl,_,_,_,rfl,rfl,ao.of hS1,hsh,?_⟩
   walk_at "rd"
   refine ⟨dl,_,_,_,rfl,rfl,rd1,g5,?_⟩
   walk_at "rd"
   refine ⟨aJ rfl,fun p hp=>?_⟩
   exact fin ⟨nu,dy,rk,wd,none,some sh,none,decide (0 < x5 % 8)⟩ G p (aH.refl _) hp rfl rfl rfl rfl (by rw [hg]; exact (ua _).trans (decide_eq_true rfl)) (by show bV _ _ .bA = true; rw [vq]; exact dJ shb.1 shb.2)
  have hg:rk ≠ Str.ofString "genus" := fun z=>hg (decide_eq_true (by rw [z]))
  refine ⟨_,rfl,_,rfl,_,rfl,dl,_,_,_,rfl,rfl,rd1,g6,?_⟩
  refine ⟨l,ws,es,rk,x6,rfl,hL1,hR1,hB,p6'.1,fun un Ga sa un0 un1=>?_⟩
  refine ⟨_,rfl,_,rfl,_,rfl,_,rfl,dl,_,_,_,rfl,rfl,ao.of (sa _ _ (sG _ _ hdr)),g7,?_⟩
  refine ⟨l,ws,es,rk,wd,x7,rfl,sa _ _ hL1,hR1.same sa,hB,p7.1,fun ob Gb sb hob=>?_⟩
  have sab:=sa.trans sb
  have uf:bO (.str rk) (aq (some un)) = true:=by rw [pV hg]; exact dJ un0 un1
  cases ob with
  | none =>
   refine ⟨_,rfl,_,rfl,bE ?_⟩
   walk_at "rd"
   refine ⟨dl,_,_,_,rfl,rfl,ao.of (sab _ _ (sG _ _ hdr)),g4,?_⟩
   walk_at "rd"
   refine ⟨sl,_,_,_,rfl,rfl,ao.of (sab _ _ hS1),hsh,?_⟩
   walk_at "rd"
   refine ⟨dl,_,_,_,rfl,rfl,ao.of (sab _ _ (sG _ _ hdr)),g5,?_⟩
   walk_at "rd"
   refine ⟨aJ rfl,fun p hp=>?_⟩
   exact fin ⟨nu,dy,rk,wd,some un,some sh,none,decide (0 < x5 % 8)⟩ Gb p sab hp rfl rfl rfl rfl uf (by show bV _ _ .bA = true; rw [vq]; exact dJ shb.1 shb.2)
  | some bn =>
   refine ⟨_,rfl,_,rfl,bR ?_⟩
   walk_at "rd"
   refine ⟨dl,_,_,_,rfl,rfl,ao.of (sab _ _ (sG _ _ hdr)),g5,?_⟩
   walk_at "rd"
   refine ⟨aJ rfl,fun p hp=>?_⟩
   refine fin ⟨nu,dy,rk,wd,some un,none,some bn,decide (0 < x5 % 8)⟩ Gb p sab hp rfl rfl rfl rfl uf ?_
   show bV (.str rk) .bA (.int bn) = true
   have hb:=hob bn rfl
   rw [yE _ _ (by intro z; cases z),decide_eq_false (fun z=>hg (V.str.inj z)),decide_eq_true rfl,dJ hb.1 hb.2]
   rfl
set_option maxHeartbeats 4000000 in
theorem rJ (T:Txt w K mg c):bF P w K mg base gK 3 c.a_Lrows c.d_Lrows ["_law_cells", "_law_words_here", "_law_sheets_here"] (vI K):=by
 refine T.Lrows.fn.ok ki (fun vs H Q E h=>?_) (fun cdv A outer s H vs Q E hr h=>?_)
 ·obtain ⟨cl,cs,wl,zs,sl,ss,rfl,_⟩:=h
  rfl
 ·obtain ⟨cl,cs,wl,zs,sl,ss,rfl,hC,lC,hW,lz,hz,hS,ls,hs,k⟩:=h
  refine ⟨_,(aE (aN (i:=3) ki.nd rfl (Or.inl rfl) (bB aC))
   (aE (eX PassesOwn.never rfl (eI rfl T.no_range (aA (aZ bD rfl T.no_len dN (aA (pv 0) aC)) aC)) (ag (i:=4) ki.nd rfl (Or.inl rfl))
    (aI (cS (iU PySem.F.plainAttrs_list PySem.F.slot_list_append PySem.F.type_list_append (mR.r dC) (pv 3) (aA (aT (ui T) (hr.mono (by decide)) rfl T.Lrow.mgf T.Lrow.kp T.Lrow.bi .nil ax (aA (pv 3) (aA (ae af (pv 0) (pv 4) (fun _ _=>rfl)) (aA (pv 4) (aA (pv 1) (aA (pv 2) aC)))))) aC)))))
   (aI (aR (pv 3))))),?_⟩
  have sz:2000 < sizeLine:=aJ rfl
  have lc:(cs.map V.int).length = cs.length:=List.length_map ..
  refine ⟨aJ rfl,fun l hl=>?_⟩
  have s0:=aH.new (o:=HO.lst []) hl
  have k0:=aB (H:=H) (a:=l) (o:=.lst [])
  generalize upd H l (.lst []) = G0 at s0 k0 ⊢
  refine ⟨_,rfl,cl,_,rfl,.inl (s0.seq hC),?_⟩
  walk_at "rd"
  refine ⟨by omega,by omega,?_⟩
  refine hZ (n:=((cs.map V.int).length:Int).toNat) (lo:=0) (fun i σ G=>aH H G ∧ ∃ (z4:Option V) (ws:List V) (es:List En),σ = [some (.ref cl),some (.ref wl),some (.ref sl),some (.ref l),z4] ∧ G l = some (.lst ws) ∧ dw G ws es ∧ oJ es ∧ es.length = i) ?_ ?_ ?_
  ·exact ⟨s0,_,[],[],rfl,k0,⟨rfl,fun j v e h=>nomatch h⟩,oJ.nil,rfl⟩
  ·rintro i σ G hi ⟨sG,z4,ws,es,rfl,hL,hR,hB,le⟩
   have hi:i < cs.length:=by omega
   have lw:ws.length = i:=by rw [hR.1]; exact le
   obtain ⟨v1,hv1,hm1⟩:=cM (xs:=cs.map V.int) (i:=0 + (i:Int)) (by omega) (by omega)
   obtain ⟨c2,_,rfl⟩:=List.mem_map.mp hm1
   refine ⟨_,rfl,.inl ⟨rfl,_,ao.of hL⟩,?_⟩
   walk_at "rd"
   refine ⟨cl,_,_,_,rfl,rfl,sG.seq hC,hv1,?_⟩
   walk_at "rd"
   refine ⟨l,ws,es,c2,0 + (i:Int),wl,zs,sl,ss,rfl,hL,hR,hB,by omega,by omega,sG _ _ hW,lz,hz,sG _ _ hS,ls,hs,fun v e G2 s2 hv ne=>?_⟩
   walk_at "rd"
   have hL2:=s2 _ _ hL
   refine ⟨l,_,_,rfl,rfl,hL2,by omega,?_⟩
   refine ⟨cO hl (sG.trans s2),_,ws ++ [v],es ++ [e],rfl,aB,(hR.same s2).push hv fun t xs h=>?_,hB.add ne (by omega),by rw [List.length_append,le]; rfl⟩
   rw [aK (bT h hL2 (by intro z; cases z))]
   exact h
  ·rintro σ G ⟨sG,z4,ws,es,rfl,hL,hR,hB,le⟩
   exact ⟨_,rfl,k l ws es G sG hl hL hR hB (by omega)⟩
set_option maxHeartbeats 4000000 in
theorem nX (T:Txt w K mg c):bF P w K mg base gK 6 c.a_Lentries c.d_Lentries ["_law_rows_here"] (vO c.c_Entry):=by
 refine T.Lentries.fn.ok cF (fun vs H Q E h=>?_) (fun cdv A outer s H vs Q E hr h=>?_)
 ·obtain ⟨l,ws,es,rfl,_⟩:=h
  rfl
 ·obtain ⟨l,ws,es,rfl,hL,hR,okk,l84,k⟩:=h
  refine ⟨_,(aE (aN (i:=1) cF.nd rfl (Or.inl rfl) (bB aC))
   (aE (eX PassesOwn.never rfl (cZ (pv 0)) (ag (i:=2) cF.nd rfl (Or.inl rfl))
    (aY (mw (fb oX (pv 2) jt (ek aD)) (jB rfl (bN (ag (i:=3) cF.nd rfl (Or.inl rfl)) (bN (ag (i:=4) cF.nd rfl (Or.inl rfl)) (bN (ag (i:=5) cF.nd rfl (Or.inl rfl)) (bN (ag (i:=6) cF.nd rfl (Or.inl rfl)) gy))))))
   (aE (aN (i:=7) cF.nd rfl (Or.inl rfl) (fU T.mk_Entry (iE T) (hr.mono (by decide)) rfl T.mg_Entry T.b_Entry_8 fD (aA (pv 3) (aA (pv 4) (aA (pv 5) (aA (pv 6) (aA (ae bP (pv 2) aD (fun _ _=>rfl)) (aA (ae bP (pv 2) aD (fun _ _=>rfl)) (aA (ae bP (pv 2) aD (fun _ _=>rfl)) (aA (ae bP (pv 2) aD (fun _ _=>rfl)) aC)))))))) jP))
   (aI (cS (iU PySem.F.plainAttrs_list PySem.F.slot_list_append PySem.F.type_list_append (mR.r dC) (pv 1) (aA (pv 7) aC)))))))
   (aI (aR (pv 1))))),?_⟩
  have sz:2000 < sizeLine:=aJ rfl
  have lw:=hR.1
  refine ⟨aJ rfl,fun q hq=>?_⟩
  have s0:=aH.new (o:=HO.lst []) hq
  have k0:=aB (H:=H) (a:=q) (o:=.lst [])
  generalize upd H q (.lst []) = G0 at s0 k0 ⊢
  refine ⟨_,rfl,l,rfl,⟨_,ao.of (s0 _ _ hL)⟩,?_⟩
  refine gR (xs:=ws) (fun i σ G=>aH H G ∧ ∃ (z2 z3 z4 z5 z6 z7:Option V) (acc:List V),σ = [some (.ref l),some (.ref q),z2,z3,z4,z5,z6,z7] ∧ G q = some (.lst acc) ∧ acc.length = i ∧ fM G c.c_Entry acc (es.take i)) ?_ ?_ ?_ ?_
  ·exact ⟨s0,_,_,_,_,_,_,[],rfl,k0,rfl,rfl,fun j v e h=>nomatch h⟩
  ·rintro i σ G _ ⟨sG,_⟩
   exact ao.of (sG _ _ hL)
  ·rintro i x σ G hx ⟨sG,z2,z3,z4,z5,z6,z7,acc,rfl,h1,h2,h3⟩
   have hi:i < ws.length:=(List.getElem?_eq_some_iff.mp hx).1
   have hie:i < es.length:=by omega
   have ee:es[i]? = some es[i]:=List.getElem?_eq_getElem hie
   obtain ⟨ra,rfl,hrow⟩:=hR.2 i x _ hx ee
   have ok1:=okk _ (List.getElem_mem hie)
   rw [take_one ee]
   generalize es[i] = e at hrow ok1
   have hrow:=sG _ _ hrow
   have f4:fQ (cx e) 4 = some (aq e.u):=ah (j:=4) rfl
   have f5:fQ (cx e) 5 = some (aq e.s):=ah (j:=5) rfl
   have f6:fQ (cx e) 6 = some (aq e.b):=ah (j:=6) rfl
   have f7:fQ (cx e) 7 = some (.bl e.k):=ah (j:=7) rfl
   have oO:∀ (G:Hp) (o:Option Int),Own K G (aq o):=fun G o=>by cases o with | none=>exact Own.bA | some _=>exact Own.int
   have fw:fits (.str e.w):=by
    have:=(qt (sS ok1)).1
    show e.w.length ≤ sizeLine
    omega
   have ok2:why (.int e.n) (.int e.d) (.str e.r) (.str e.w) (aq e.u) (aq e.s) (aq e.b) = 0:=ok1
   refine ⟨fun σ' G'=>aH G G' ∧ σ' = [some (.ref l),some (.ref q),some (.ref ra),some (.int e.n),some (.int e.d),some (.str e.r),some (.str e.w),z7],?_,?_⟩
   ·walk_at "rd"
    refine ⟨ra,_,rfl,bz.of hrow,mD e,fun p hp=>?_⟩
    rw [oA]
    refine ⟨p,_,rfl,bz.of aB,rfl,?_⟩
    walk_at "rd"
    first | exact ⟨aH.new hp,rfl⟩ | exact aH.new hp
   rintro σ Ga ⟨sa,rfl⟩
   have hrow:=sa _ _ hrow
   have h1:=sa _ _ h1
   have h3:=h3.same sa
   have sG:=sG.trans sa
   refine ⟨_,rfl,_,rfl,_,rfl,_,rfl,?_⟩
   refine ⟨_,rfl,ra,_,_,_,rfl,rfl,bz.of hrow,f4,?_⟩
   refine ⟨_,rfl,ra,_,_,_,rfl,rfl,bz.of hrow,f5,?_⟩
   refine ⟨_,rfl,ra,_,_,_,rfl,rfl,bz.of hrow,f6,?_⟩
   refine ⟨_,rfl,ra,_,_,_,rfl,rfl,bz.of hrow,f7,?_⟩
   refine ⟨rfl,rfl,fun x dx hx hdx ne=>?_⟩
   refine ⟨x,dx,.int e.n,.int e.d,.str e.r,.str e.w,aq e.u,aq e.s,aq e.b,.bl e.k,rfl,aB,Own.int,Own.int,Own.str,Own.str,fw,oO _ _,oO _ _,oO _ _,fun G1 s1=>⟨fun _=>?_,fun h=>absurd ok2 h⟩⟩
   have s2:=aH.upd (o:=.ins c.c_Entry dx (cL e)) ((aH.made hx hdx ne).trans s1) hx
   have he:cn (upd G1 x (.ins c.c_Entry dx (cL e))) c.c_Entry (.ref x) e:=⟨x,dx,rfl,aB⟩
   have ef:fields (.int e.n) (.int e.d) (.str e.r) (.str e.w) (aq e.u) (aq e.s) (aq e.b) (.bl e.k) = cL e:=rfl
   rw [ef]
   generalize upd G1 x (.ins c.c_Entry dx (cL e)) = G2 at s2 he ⊢
   refine ⟨rfl,?_⟩
   have mv:∀ v y,cn G2 c.c_Entry v y → cn (upd G2 q (.lst (acc ++ [.ref x]))) c.c_Entry v y:=fun v y h=>h.keep fun t dx fs ht=>by rw [aK (bT ht (s2 _ _ h1) (by intro z; cases z))]; exact ht
   refine ⟨_,rfl,.inl ⟨rfl,_,ao.of (s2 _ _ h1)⟩,_,rfl,q,_,_,rfl,rfl,s2 _ _ h1,by omega,cO hq (sG.trans s2),_,_,_,_,_,_,acc ++ [.ref x],rfl,aB,by rw [List.length_append,h2]; rfl,?_⟩
   have h3':=h3.same s2
   exact i0 ⟨h3'.1,fun j v y a b=>mv v y (h3'.2 j v y a b)⟩ (mv _ _ he)
  ·rintro σ G ⟨sG,z2,z3,z4,z5,z6,z7,acc,rfl,h1,h2,h3⟩
   rw [lw,List.take_of_length_le (Nat.le_refl _)] at h3
   exact ⟨_,rfl,k q acc G sG hq h1 h3⟩
set_option maxHeartbeats 4000000 in
theorem q9 (T:Txt w K mg c):bF P w K mg base gK 1 c.a_Lright c.d_Lright ["_law_rows_here"] (r9):=by
 refine T.Lright.fn.ok bC (fun vs H Q E h=>?_) (fun cdv A outer s H vs Q E hr h=>?_)
 ·obtain ⟨l,ws,es,rfl,_⟩:=h
  rfl
 ·obtain ⟨l,ws,es,rfl,hL,hR,okk,nd,l84,k⟩:=h
  refine ⟨_,(aE (aN (i:=1) bC.nd rfl (Or.inl rfl) fg)
   (aY (aN (i:=2) bC.nd rfl (Or.inl rfl) rW)
   (aE (eX PassesOwn.never rfl (cZ (pv 0)) (ag (i:=3) bC.nd rfl (Or.inl rfl))
    (aY (mw (fb oX (pv 3) jt (ek aD)) (jB rfl (bN (ag (i:=4) bC.nd rfl (Or.inl rfl)) (bN (ag (i:=5) bC.nd rfl (Or.inl rfl)) (bN (ag (i:=6) bC.nd rfl (Or.inl rfl)) (bN (ag (i:=7) bC.nd rfl (Or.inl rfl)) gy))))))
   (aY (mw (fb oX (pv 3) (ek aD) jt) (jB rfl (bN (ag (i:=8) bC.nd rfl (Or.inl rfl)) (bN (ag (i:=9) bC.nd rfl (Or.inl rfl)) (bN (ag (i:=10) bC.nd rfl (Or.inl rfl)) (bN (ag (i:=11) bC.nd rfl (Or.inl rfl)) gy))))))
   (aE (aN (i:=12) bC.nd rfl (Or.inl rfl) (cA aC))
   (aY (aN (i:=13) bC.nd rfl (Or.inl rfl) (xp (pv 11) (eR (jC (fo (pv 10))))))
   (aY (au (aV kR (pv 6) aQ (aW _))
    (aE (aN (i:=14) bC.nd rfl (Or.inl rfl) (n6 (dU hr) (pv 1) (pv 8) (cA (aA aQ (aA (cA aC) (aA cw (aA aQ (aA aD (aA aD aC))))))) ⟨rfl,rfl,rfl,rfl⟩))
   (aE (aN (i:=12) bC.nd rfl (Or.inl rfl) (ae bP (pv 14) aD (fun _ _=>rfl)))
   (aI (aN (i:=13) bC.nd rfl (Or.inl rfl) (dI (pv 13) (eR (cK cT (ae bP (pv 14) aD (fun _ _=>rfl)) (ae af (bB (aA aQ (aA aQ aC))) (d4 iz rfl T.no_int mf (aA (cK cT (pv 6) aQ (aW _)) aC)) (fun _ _=>rfl)) (aW _))))))))
    aO)
   (aY (au (dP (fo (pv 10)))
    (aE (aN (i:=15) bC.nd rfl (Or.inl rfl) (n6 (dU hr) (pv 1) (pv 10) (cA (aA aQ (aA (cA aC) (aA cw (aA aQ (aA aD (aA aD aC))))))) ⟨rfl,rfl,rfl,rfl⟩))
   (aE (aN (i:=13) bC.nd rfl (Or.inl rfl) (dI (pv 13) (dI (cK cT (ae bP (pv 15) aD (fun _ _=>rfl)) (pv 6) (aW _)) (dI (jC (eV (ae bP (pv 15) aD (fun _ _=>rfl)))) (eR (cK cT (ae bP (pv 15) aD (fun _ _=>rfl)) (pv 7) (aW _)))))))
   (aI (aN (i:=9) bC.nd rfl (Or.inl rfl) (ae bP (pv 15) aD (fun _ _=>rfl))))))
    aO)
   (aI (au (PW.pt (cz (bg (pv 13)) (cW (aV (qo (iO hr)) (cA (aA (pv 6) (aA (aL i7 (pv 12) (cA (aA (pv 7) aC))) aC))) (pv 2) (by with_unfolding_all rfl)))))
    (aE (mw (pv 4) (wZ (pv 2) (cA (aA (pv 6) (aA (aL i7 (pv 12) (cA (aA (pv 7) aC))) aC))) (xP (iO hr))))
   (aI (gx (dU hr) (pv 1) (pv 4) (cA (aA (pv 6) (aA (aL i7 (pv 12) (cA (aA (pv 7) aC))) (aA (pv 10) (aA (pv 7) (aA (pv 9) (aA (pv 5) aC))))))) rfl)))
    aO)))))))))
   (aI (aR (pv 1)))))),?_⟩
  have sz:2000 < sizeLine:=aJ rfl
  have lw:=hR.1
  refine fun d hd0=>?_
  have t1:=aH.new (o:=HO.dK []) hd0
  have e1:=aB (H:=H) (a:=d) (o:=.dK [])
  generalize upd H d (.dK []) = G1 at t1 e1 ⊢
  refine ⟨fun σ' G'=>aH G1 G' ∧ ∃ g,G1 g = none ∧ DN P w G' g [] ∧ σ' = [some (.ref l),some (.ref d),some (.ref g),none,none,none,none,none,none,none,none,none,none,none,none,none],fun g hg=>⟨aH.new hg,g,hg,DN.new,rfl⟩,?_⟩
  rintro σ G2 ⟨t2,g,hg0,hD,rfl⟩
  have dg:d ≠ g:=aM e1 hg0
  have fH:∀ b u,H b = some u → b ≠ d ∧ b ≠ g:=fun b u h=>⟨aM h hd0,aM (t1 _ _ h) hg0⟩
  refine ⟨_,rfl,l,rfl,⟨_,ao.of (t2 _ _ (t1 _ _ hL))⟩,?_⟩
  refine gR (xs:=ws) (fun i σ G=>aH H G ∧ ∃ (z3 z4 z5 z6 z7 z8 z9 z10 z11 z12 z13 z14 z15:Option V) (kr:List (Key × V)),σ = [some (.ref l),some (.ref d),some (.ref g),z3,z4,z5,z6,z7,z8,z9,z10,z11,z12,z13,z14,z15] ∧ G d = some (.dK kr) ∧ Paired (fu G (aw (es.take i)).r) (aw (es.take i)).r kr ∧ DN P w G g (gN (aw (es.take i)).r)) ?_ ?_ ?_ ?_
  ·exact ⟨t1.trans t2,_,_,_,_,_,_,_,_,_,_,_,_,_,[],rfl,t2 _ _ e1,.nil,hD⟩
  ·rintro i σ G _ ⟨sG,_⟩
   exact ao.of (sG _ _ hL)
  ·rintro i x σ G hx ⟨sG,z3,z4,z5,z6,z7,z8,z9,z10,z11,z12,z13,z14,z15,kr,rfl,hd,pR,hg⟩
   have hi:i < ws.length:=(List.getElem?_eq_some_iff.mp hx).1
   have hie:i < es.length:=by omega
   have ee:es[i]? = some es[i]:=List.getElem?_eq_getElem hie
   obtain ⟨ra,rfl,hrow⟩:=hR.2 i x _ hx ee
   have ok1:=okk _ (List.getElem_mem hie)
   have rok:=m4 okk nd i (by omega)
   have frn:es[i].n ∉ (aw (es.take i)).o.map (·.1):=by
    rw [eG]
    intro z
    have:=nd
    have e2:es.map (·.n) = (es.take i).map (·.n) ++ es[i].n :: (es.drop (i + 1)).map (·.n):=by
     rw [← List.map_cons,List.getElem_cons_drop,← List.map_append,List.take_append_drop]
    rw [e2,List.nodup_append] at this
    exact this.2.2 _ z _ (List.mem_cons_self ..) rfl
   have lo:(aw (es.take i)).o.length = i:=by
    rw [← List.length_map (f:=fun p:Int × Str=>p.1),eG,List.length_map,List.length_take]
    omega
   rw [take_one ee,h7]
   generalize es[i] = e at hrow ok1 frn
   generalize aw (es.take i) = S at rok frn lo pR hg
   have lr:S.r.length ≤ 84:=by
    have h1:(S.r.map (·.e.n)).length ≤ (S.o.map (·.1)).length:=oU rok.rn fun x hx=>by
     obtain ⟨y,hy,rfl⟩:=List.mem_map.mp hx
     exact rok.sub y hy
    rw [List.length_map,List.length_map] at h1
    omega
   have hrow:=sG _ _ hrow
   refine ⟨fun σ' G'=>aH G G' ∧ σ' = [some (.ref l),some (.ref d),some (.ref g),some (.ref ra),some (.int e.n),some (.int e.d),some (.str e.r),some (.str e.w),z8,z9,z10,z11,z12,z13,z14,z15],?_,?_⟩
   ·walk_at "rd"
    refine ⟨ra,_,rfl,bz.of hrow,mD e,fun p hp=>?_⟩
    rw [oA]
    refine ⟨p,_,rfl,bz.of aB,rfl,?_⟩
    walk_at "rd"
    first | exact ⟨aH.new hp,rfl⟩ | exact aH.new hp
   rintro σ Ga ⟨sa,rfl⟩
   refine ⟨fun σ' G'=>aH G G' ∧ σ' = [some (.ref l),some (.ref d),some (.ref g),some (.ref ra),some (.int e.n),some (.int e.d),some (.str e.r),some (.str e.w),some (aq e.u),some (aq e.s),some (aq e.b),some (.bl e.k),z12,z13,z14,z15],?_,?_⟩
   ·walk_at "rd"
    refine ⟨ra,_,rfl,bz.of (sa _ _ hrow),qK e,fun p hp=>?_⟩
    rw [tN]
    refine ⟨p,_,rfl,bz.of aB,rfl,?_⟩
    walk_at "rd"
    first | exact ⟨sa.trans (aH.new hp),rfl⟩ | exact sa.trans (aH.new hp)
   clear sa
   rintro σ Ga ⟨sa,rfl⟩
   refine ⟨aJ rfl,fun t0 ht0=>?_⟩
   have sb:=sa.trans (aH.new (o:=HO.tup []) ht0)
   have kt0:=aB (H:=Ga) (a:=t0) (o:=.tup [])
   generalize upd Ga t0 (.tup []) = Gb at sb kt0 ⊢
   clear sa
   refine ⟨fun σ' G'=>Gb = G' ∧ σ' = [some (.ref l),some (.ref d),some (.ref g),some (.ref ra),some (.int e.n),some (.int e.d),some (.str e.r),some (.str e.w),some (aq e.u),some (aq e.s),some (aq e.b),some (.bl e.k),some (.ref t0),some (.bl (!qy e)),z14,z15],?_,?_⟩
   ·have e0:qy e = (decide (e.b = none) && !e.k):=rfl
    rw [e0]
    cases hk:e.k with
    | true =>
     refine ⟨_,rfl,_,rfl,bR ⟨rfl,?_⟩⟩
     rw [Bool.not_true,Bool.and_false]
     rfl
    | false =>
     refine ⟨_,rfl,_,rfl,bE ⟨_,rfl,rfl,?_⟩⟩
     cases hb:e.b with
     | none=>rfl
     | some b=>rfl
   rintro σ G' ⟨rfl,rfl⟩
   have rgt:∀ (G':Hp),aH Gb G' → ∀ n:Int,(az S.r n = none ∧ di G' d (.int n) none) ∨ ∃ x v a t,x ∈ S.r ∧ az S.r n = some x ∧ di G' d (.int n) (some v) ∧ v = .ref a ∧ G' a = some (.tup [.str x.e.r,.ref t,aq x.e.b,.str x.e.w,aq (dR S.r x).s,.int x.e.d]) ∧ G' t = some (.tup (x.nm.map V.str)):=fun G' s n=>by
    have hd':=s _ _ (sb _ _ hd)
    rcases gj pR n with ⟨h1,h2⟩ | ⟨x,v,m,h1,h2,h3⟩
    ·exact .inl ⟨h1,by rw [← h2]; exact di.k (k:=Sum.inl n) hd'⟩
    ·obtain ⟨_,a,t,h4,h5,h6⟩:=h3
     exact .inr ⟨x,v,a,t,m,h1,by rw [← h2]; exact di.k (k:=Sum.inl n) hd',h4,s _ _ (sb _ _ h5),s _ _ (sb _ _ h6)⟩
   have dfl:True:=trivial
   refine ⟨fun σ' G'=>aH Gb G' ∧ ∃ (h0:Addr) (hs:List Str) (z14:Option V),G' h0 = some (.tup (hs.map V.str)) ∧ hs.length ≤ 3 ∧ (∀ z,bU S.r e = some z → z = hs ++ [e.w]) ∧ σ' = [some (.ref l),some (.ref d),some (.ref g),some (.ref ra),some (.int e.n),some (.int e.d),some (.str e.r),some (.str e.w),some (aq e.u),some (aq e.s),some (aq e.b),some (.bl e.k),some (.ref h0),some (.bl (!qy e && (bU S.r e).isSome)),z14,z15],?_,?_⟩
   ·refine ⟨_,rfl,rfl,_,rfl,?_⟩
    refine cE (fun hne=>?_) (fun hge=>?_)
    ·have hne:e.r ≠ Str.ofString "genus" := fun q=>by rw [q,decide_eq_true rfl] at hne; cases hne
     obtain ⟨u,hu⟩:=vf ok1 hne
     have hou:aq e.u = .int u:=by rw [hu]; rfl
     have en:bU S.r e = match az S.r u with | none=>none | some x=>if x.e.r = cI e.r then some (x.nm ++ [e.w]) else none:=by
      unfold bU
      rw [if_neg hne,hu]
      rfl
     have ix:fQ [V.str (Str.ofString "genus"),V.str (Str.ofString "species")] (if decide (V.str e.r = V.str (Str.ofString "form")) = true then (1:Int) else 0) = some (.str (cI e.r)):=by
      rcases fZ ok1 with q | q | q
      ·exact absurd q hne
      ·rw [q]; decide +kernel
      ·rw [q]; decide +kernel
     refine ⟨_,rfl,d,rfl,.inl ⟨_,.inl (sb _ _ hd)⟩,_,rfl,aJ rfl,fun p1 hp1=>⟨aJ rfl,fun p2 hp2=>?_⟩⟩
     have u1:=aH.new (o:=HO.tup []) hp1
     have u2:=aH.new (o:=HO.tup [V.str (Str.ofString ""),V.ref p1,V.bA,V.str (Str.ofString ""),V.int 0,V.int 0]) hp2
     have kp1:=u2 _ _ (aB (H:=Gb) (a:=p1) (o:=.tup []))
     have kp2:=aB (H:=upd Gb p1 (.tup [])) (a:=p2) (o:=HO.tup [V.str (Str.ofString ""),V.ref p1,V.bA,V.str (Str.ofString ""),V.int 0,V.int 0])
     have sc:=u1.trans u2
     generalize upd (upd Gb p1 (.tup [])) p2 (.tup [V.str (Str.ofString ""),V.ref p1,V.bA,V.str (Str.ofString ""),V.int 0,V.int 0]) = Gc at sc kp1 kp2 ⊢
     clear u1 u2
     rcases rgt Gc sc u with ⟨f1,f2⟩ | ⟨y,v,ya,yt,ym,f1,f2,rfl,hya,hyt⟩
     ·rw [f1] at en
      have en:bU S.r e = none:=en
      rw [en]
      refine ⟨none,by rw [hou]; exact f2,?_⟩
      refine ⟨_,rfl,p2,_,_,_,rfl,rfl,bz.of kp2,ah (j:=1) rfl,?_⟩
      refine ⟨_,rfl,_,rfl,?_⟩
      cases qy e with
      | true=>exact bE ⟨sc,p1,[],_,kp1,by decide,(fun z h=>nomatch h),rfl⟩
      | false =>
       refine bR ?_
       refine ⟨_,rfl,p2,_,_,_,rfl,rfl,bz.of kp2,ah (j:=0) rfl,aJ rfl,fun q hq=>?_⟩
       refine ⟨_,rfl,rfl,.inr ⟨_,rfl,q,_,_,_,rfl,rfl,ao.of aB,ix,rfl,?_⟩⟩
       have eb:decide (V.str (Str.ofString "") = V.str (cI e.r)) = false:=decide_eq_false fun h=>by
        have h:=V.str.inj h
        unfold cI at h
        split at h <;> exact absurd h (by decide +kernel)
       refine ⟨sc.trans (aH.new hq),p1,[],some (.ref p2),aH.new hq _ _ kp1,by decide,(fun z h=>nomatch h),?_⟩
       rw [eb]
       rfl
     ·rw [f1] at en
      have en:bU S.r e = if y.e.r = cI e.r then some (y.nm ++ [e.w]) else none:=en
      have dy:=rok.dp y ym
      have d3:y.nm.length ≤ 3:=by
       rw [dy]
       unfold cH
       split
       ·decide
       ·split <;> decide
      have nz:∀ z,bU S.r e = some z → z = y.nm ++ [e.w]:=fun z h=>by
       rw [en] at h
       by_cases q:y.e.r = cI e.r
       ·rw [if_pos q] at h; exact (Option.some.inj h).symm
       ·rw [if_neg q] at h; cases h
      refine ⟨_,by rw [hou]; exact f2,?_⟩
      refine ⟨_,rfl,ya,_,_,_,rfl,rfl,bz.of hya,ah (j:=1) rfl,?_⟩
      refine ⟨_,rfl,_,rfl,?_⟩
      cases qy e with
      | true=>exact bE ⟨sc,yt,y.nm,_,hyt,d3,nz,rfl⟩
      | false =>
       refine bR ?_
       refine ⟨_,rfl,ya,_,_,_,rfl,rfl,bz.of hya,ah (j:=0) rfl,aJ rfl,fun q hq=>?_⟩
       refine ⟨_,rfl,rfl,.inr ⟨_,rfl,q,_,_,_,rfl,rfl,ao.of aB,ix,rfl,?_⟩⟩
       refine ⟨sc.trans (aH.new hq),yt,y.nm,some (.ref ya),aH.new hq _ _ hyt,d3,nz,?_⟩
       have eb:decide (V.str y.e.r = V.str (cI e.r)) = (!false && (bU S.r e).isSome):=by
        rw [en]
        by_cases q:y.e.r = cI e.r
        ·rw [if_pos q,decide_eq_true (by rw [q])]; rfl
        ·rw [if_neg q,decide_eq_false (fun z=>q (V.str.inj z))]; rfl
       rw [← eb]
       rfl
    ·have hge:e.r = Str.ofString "genus" := Decidable.of_not_not fun q=>hge (by rw [decide_eq_false (fun z=>q (V.str.inj z))]; rfl)
     have en:bU S.r e = some [e.w]:=by unfold bU; rw [if_pos hge]
     rw [en]
     refine ⟨aH.refl _,t0,[],z14,kt0,by decide,fun z h=>(Option.some.inj h).symm,?_⟩
     rw [Option.isSome_some,Bool.and_true]
   rintro σ Gc ⟨sc,h0,hs,z14',kh0,lhs,hnz,rfl⟩
   have sbc:=sb.trans sc
   obtain ⟨g2,hg2⟩:∃ b:Bool,b = (!qy e && (bU S.r e).isSome):=⟨_,rfl⟩
   rw [← hg2]
   refine ⟨fun σ' G'=>aH Gc G' ∧ ∃ (sv:V) (z15:Option V),((g2 && (!iR S.r e && !je S.r e)) = true → sv = aq (kZ S.r e).s) ∧ σ' = [some (.ref l),some (.ref d),some (.ref g),some (.ref ra),some (.int e.n),some (.int e.d),some (.str e.r),some (.str e.w),some (aq e.u),some sv,some (aq e.b),some (.bl e.k),some (.ref h0),some (.bl (g2 && (!iR S.r e && !je S.r e))),z14',z15],?_,?_⟩
   ·refine ⟨_,rfl,_,rfl,?_⟩
    cases hb:e.b with
    | none =>
     have b3:iR S.r e = false:=by unfold iR; rw [hb]; rfl
     have b4:je S.r e = false:=by unfold je g8; rw [hb]
     have br:kZ S.r e = e:=by unfold kZ; rw [hb]
     rw [b3,b4,br]
     refine bE ⟨aH.refl _,aq e.s,z15,fun _=>rfl,?_⟩
     rw [show (g2 && (!false && !false)) = g2 from Bool.and_true g2]
    | some bn =>
     refine bR ?_
     refine ⟨_,rfl,d,rfl,.inl ⟨_,.inl (sbc _ _ hd)⟩,_,rfl,aJ rfl,fun p1 hp1=>⟨aJ rfl,fun p2 hp2=>?_⟩⟩
     have u1:=aH.new (o:=HO.tup []) hp1
     have u2:=aH.new (o:=HO.tup [V.str (Str.ofString ""),V.ref p1,V.bA,V.str (Str.ofString ""),V.int 0,V.int 0]) hp2
     have kp2:=aB (H:=upd Gc p1 (.tup [])) (a:=p2) (o:=HO.tup [V.str (Str.ofString ""),V.ref p1,V.bA,V.str (Str.ofString ""),V.int 0,V.int 0])
     have sd:=u1.trans u2
     generalize upd (upd Gc p1 (.tup [])) p2 (.tup [V.str (Str.ofString ""),V.ref p1,V.bA,V.str (Str.ofString ""),V.int 0,V.int 0]) = Gd at sd kp2 ⊢
     clear u1 u2
     have iff3:=pf (R:=S.r) hb
     have gT:(∃ y,az S.r bn = some y ∧ y.e.r = e.r ∧ y.e.b = none ∧ y.e.w = e.w) → (!iR S.r e && !je S.r e) = true:=fun h=>by
      obtain ⟨h1,h2⟩:=iff3.mpr h
      rw [h1,h2]
      rfl
     have gF:¬ (∃ y,az S.r bn = some y ∧ y.e.r = e.r ∧ y.e.b = none ∧ y.e.w = e.w) → (!iR S.r e && !je S.r e) = false:=fun h=>by
      cases q3:iR S.r e with
      | true=>rfl
      | false =>
       cases q4:je S.r e with
       | true=>rfl
       | false=>exact absurd (iff3.mp ⟨q3,q4⟩) h
     rcases rgt Gd (sc.trans sd) bn with ⟨f1,f2⟩ | ⟨y,v,ya,yt,ym,f1,f2,rfl,hya,hyt⟩
     ·have e0:(!iR S.r e && !je S.r e) = false:=gF fun ⟨y,h,_⟩=>by rw [f1] at h; cases h
      rw [e0,Bool.and_false]
      refine ⟨none,f2,?_⟩
      refine ⟨_,rfl,_,rfl,?_⟩
      cases g2 with
      | false=>exact bE ⟨_,rfl,p2,_,_,_,rfl,rfl,bz.of kp2,ah (j:=4) rfl,sd,_,_,(fun h=>nomatch h),rfl⟩
      | true =>
       refine bR ?_
       refine ⟨_,rfl,p2,_,_,_,rfl,rfl,bz.of kp2,ah (j:=0) rfl,_,rfl,rfl,_,rfl,?_⟩
       refine cE (fun h=>?_) (fun _=>?_)
       ·exfalso
        have h:=V.str.inj (of_decide_eq_true h)
        rcases fZ ok1 with q | q | q <;> rw [q] at h <;> exact absurd h (by decide +kernel)
       ·exact ⟨_,rfl,p2,_,_,_,rfl,rfl,bz.of kp2,ah (j:=4) rfl,sd,_,_,(fun h=>nomatch h),rfl⟩
     ·have ysh:∀ (b1:y.e.b = none),aq (dR S.r y).s = aq (kZ S.r e).s:=fun b1=>by
       unfold dR kZ
       rw [b1,hb]
       show aq y.e.s = aq (((az S.r bn).map (·.e)).getD e).s
       rw [f1]
       rfl
      refine ⟨_,f2,?_⟩
      refine ⟨_,rfl,_,rfl,?_⟩
      have f4:fQ [V.str y.e.r,.ref yt,aq y.e.b,.str y.e.w,aq (dR S.r y).s,.int y.e.d] 4 = some (aq (dR S.r y).s):=ah (j:=4) rfl
      have done:∀ gg:Bool,gg = (g2 && (!iR S.r e && !je S.r e)) → (gg = true → y.e.b = none) → True:=fun _ _ _=>trivial
      cases g2 with
      | false=>exact bE ⟨_,rfl,ya,_,_,_,rfl,rfl,bz.of hya,f4,sd,_,_,(fun h=>nomatch h),rfl⟩
      | true =>
       refine bR ?_
       refine ⟨_,rfl,ya,_,_,_,rfl,rfl,bz.of hya,ah (j:=0) rfl,_,rfl,rfl,_,rfl,?_⟩
       refine cE (fun h1=>?_) (fun h1=>?_)
       ·have h1:y.e.r = e.r:=V.str.inj (of_decide_eq_true h1)
        refine ⟨_,rfl,ya,_,_,_,rfl,rfl,bz.of hya,ah (j:=2) rfl,_,rfl,?_⟩
        refine cE (fun h2=>?_) (fun h2=>?_)
        ·have h2:y.e.b = none:=oB.mp (of_decide_eq_true h2)
         refine ⟨_,rfl,ya,_,_,_,rfl,rfl,bz.of hya,ah (j:=3) rfl,_,rfl,rfl,?_⟩
         refine ⟨_,rfl,ya,_,_,_,rfl,rfl,bz.of hya,f4,sd,_,some (.ref ya),fun _=>ysh h2,?_⟩
         have eb:decide (V.str y.e.w = V.str e.w) = (true && (!iR S.r e && !je S.r e)):=by
          by_cases q:y.e.w = e.w
          ·rw [gT ⟨y,f1,h1,h2,q⟩,decide_eq_true (by rw [q])]; rfl
          ·rw [gF (fun ⟨y',a,_,_,b⟩=>by rw [f1] at a; cases a; exact q b),decide_eq_false (fun z=>q (V.str.inj z))]; rfl
         rw [← eb]
         rfl
        ·have h2:y.e.b ≠ none:=fun q=>h2 (decide_eq_true (oB.mpr q))
         rw [gF fun ⟨y',a,_,b,_⟩=>by rw [f1] at a; cases a; exact h2 b]
         exact ⟨_,rfl,ya,_,_,_,rfl,rfl,bz.of hya,f4,sd,_,_,(fun h=>nomatch h),rfl⟩
       ·have h1:y.e.r ≠ e.r:=fun q=>h1 (decide_eq_true (by rw [q]))
        rw [gF fun ⟨y',a,b,_⟩=>by rw [f1] at a; cases a; exact h1 b]
        exact ⟨_,rfl,ya,_,_,_,rfl,rfl,bz.of hya,f4,sd,_,_,(fun h=>nomatch h),rfl⟩
   rintro σ Gd ⟨sd,sv,z15',hsv,rfl⟩
   have sbd:=sbc.trans sd
   have kh0:=sd _ _ kh0
   have hd:=sbd _ _ hd
   have hg:=hg.same sbd
   have sG:=sG.trans sbd
   have pR:Paired (fu Gd S.r) S.r kr:=Paired.fG pR fun x q z=>z.keep fun t xs h=>sbd _ _ h
   clear rgt sbd sbc sb sc sd dfl kt0
   have oi:df S e = Str.ofString "right" ↔ (g2 && (!iR S.r e && !je S.r e)) = true ∧ uK S.r (bU S.r e) = false:=by
    unfold df
    rw [rD,hg2]
    cases qy e <;> cases (bU S.r e).isSome <;> cases iR S.r e <;> cases je S.r e <;> simp
   have no:∀ (G':Hp) (z15:Option V),aH Gd G' → df S e ≠ Str.ofString "right" → aH H G' ∧ ∃ (z3 z4 z5 z6 z7 z8 z9 z10 z11 z12 z13 z14 z15':Option V) (kr:List (Key × V)),[some (V.ref l),some (.ref d),some (.ref g),some (.ref ra),some (.int e.n),some (.int e.d),some (.str e.r),some (.str e.w),some (aq e.u),some sv,some (aq e.b),some (.bl e.k),some (V.ref h0),some (.bl (g2 && (!iR S.r e && !je S.r e))),z14',z15] = [some (V.ref l),some (.ref d),some (.ref g),z3,z4,z5,z6,z7,z8,z9,z10,z11,z12,z13,z14,z15'] ∧ G' d = some (.dK kr) ∧ Paired (fu G' (bo S e).r) (bo S e).r kr ∧ DN P w G' g (gN (bo S e).r):=fun G' z15 s h=>by
    have er:(bo S e).r = S.r:=by
     show (if df S e = Str.ofString "right" then _ else _) = _
     rw [if_neg h]
    rw [er]
    exact ⟨sG.trans s,_,_,_,_,_,_,_,_,_,_,_,_,_,kr,rfl,s _ _ hd,Paired.fG pR fun x q z=>z.keep fun t xs h=>s _ _ h,hg.same s⟩
   cases g3:(g2 && (!iR S.r e && !je S.r e)) with
   | false =>
    rw [g3] at oi no
    exact ⟨_,rfl,_,rfl,bE (no Gd z15' (aH.refl _) fun h=>nomatch (oi.mp h).1)⟩
   | true =>
    rw [g3] at oi no
    have sv1:=hsv g3
    obtain ⟨z,hz⟩:∃ z,bU S.r e = some z:=by
     cases q:bU S.r e with
     | none=>rw [q,Option.isSome_none,Bool.and_false] at hg2; rw [hg2] at g3; cases g3
     | some z=>exact ⟨z,rfl⟩
    have zz:=hnz z hz
    have lz:=mK hz ok1 rok.dp
    have gs:=uu ok1 rok.ok rok.dp lz
    rw [hz] at oi
    have kat:∀ {G G':Hp} {t pr:Addr},G t = some (.tup ((hs ++ [e.w]).map V.str)) → G pr = none → G' = upd G pr (.tup [V.str e.r,V.ref t]) → jX G' (Sum.inr e.r,z.map Sum.inr) pr:=fun {G G' t pr} h f e'=>by
     subst e'
     refine ⟨t,aB,?_⟩
     show _ = some (HO.tup ((z.map (Sum.inr:Str → Key)).map kV))
     rw [ko,zz,aK (aM h f)]
     exact h
    refine ⟨_,rfl,_,rfl,bR ?_⟩
    refine ⟨_,rfl,_,rfl,_,rfl,aJ rfl,fun tw htw=>wo (hd:=hs) (aH.new htw _ _ kh0) aB (by omega) fun t Ge se ht=>⟨aJ rfl,fun pr hpr=>?_⟩⟩
    have ky:=kat ht hpr rfl
    have s1:=(aH.new (o:=HO.tup [V.str e.w]) htw).trans (se.trans (aH.new (o:=HO.tup [V.str e.r,V.ref t]) hpr))
    generalize upd Ge pr (.tup [V.str e.r,V.ref t]) = Gf at ky s1 ⊢
    clear htw se ht hpr Ge
    refine ⟨_,rfl,g,pr,(Sum.inr e.r,z.map Sum.inr),_,rfl,rfl,ky,hg.same s1,_,rfl,?_⟩
    rw [gs]
    cases h5:uK S.r (some z) with
    | true =>
     rw [h5] at oi
     exact bE (no Gf z15' s1 fun h=>nomatch (oi.mp h).2)
    | false =>
     have hr:df S e = Str.ofString "right" := oi.mpr ⟨rfl,h5⟩
     have er:(bo S e).r = S.r ++ [⟨e,z⟩]:=by
      show (if df S e = Str.ofString "right" then S.r ++ [⟨e,(bU S.r e).getD []⟩] else S.r) = _
      rw [if_pos hr,hz]
      rfl
     have kno:bS (gN S.r) (Sum.inr e.r,z.map Sum.inr) = none:=by
      cases q:bS (gN S.r) (Sum.inr e.r,z.map Sum.inr) with
      | none=>rfl
      | some v=>rw [q,h5] at gs; cases gs
     have frr:e.n ∉ S.r.map (·.e.n):=fun q=>by
      obtain ⟨x,hx,ex⟩:=List.mem_map.mp q
      exact frn (ex ▸ rok.sub x hx)
     have krn:bS kr (Sum.inl e.n) = none:=by
      rcases gj pR e.n with ⟨_,h⟩ | ⟨x,v,m,h,_⟩
      ·exact h
      ·exact absurd (List.mem_map.mpr ⟨x,m,(eF h).2⟩) frr
     have krl:kr.length = S.r.length:=(Paired.length pR).symm
     refine bR ?_
     refine ⟨_,rfl,_,rfl,_,rfl,_,rfl,_,rfl,aJ rfl,fun tw htw=>wo (hd:=hs) (aH.new htw _ _ (s1 _ _ kh0)) aB (by omega) fun t Ge se ht=>⟨aJ rfl,fun pr hpr=>?_⟩⟩
     have ky:=kat ht hpr rfl
     have s2:=s1.trans ((aH.new (o:=HO.tup [V.str e.w]) htw).trans (se.trans (aH.new (o:=HO.tup [V.str e.r,V.ref t]) hpr)))
     generalize upd Ge pr (.tup [V.str e.r,V.ref t]) = Gh at ky s2 ⊢
     clear htw se ht hpr Ge
     refine ⟨g,pr,(Sum.inr e.r,z.map Sum.inr),_,rfl,rfl,ky,hg.same s2,by unfold gN; rw [List.length_map]; omega,kno,fun Gi fi hDi=>?_⟩
     have s3:∀ b u,b ≠ g → Gd b = some u → Gi b = some u:=fun b u nb hb=>fi b u nb (s2 _ _ hb)
     have ng:∀ {b:Addr} {xs:List V},Gd b = some (.tup xs) → b ≠ g:=fun {b xs} h q=>by
      obtain ⟨_,hx,_⟩:=hg
      rw [q,hx] at h
      cases h
     have kh0i:=s3 _ _ (ng kh0) kh0
     have hdi:=s3 _ _ dg hd
     have bok:∀ b,e.b = some b → ∃ y,az S.r b = some y:=fun b hb=>by
      have h34:iR S.r e = false ∧ je S.r e = false:=by
       revert g3
       cases g2 <;> cases iR S.r e <;> cases je S.r e <;> simp
      obtain ⟨y,hy,_⟩:=(pf hb).mp h34
      exact ⟨y,hy⟩
     refine ⟨_,rfl,_,rfl,_,rfl,aJ rfl,fun tw htw=>wo (hd:=hs) (aH.new htw _ _ kh0i) aB (by omega) fun t Ge se ht=>⟨_,rfl,_,rfl,_,rfl,_,rfl,aJ rfl,fun a ha=>?_⟩⟩
     have s4:=(aH.new (o:=HO.tup [V.str e.w]) htw).trans (se.trans (aH.new (o:=HO.tup [V.str e.r,V.ref t,aq e.b,V.str e.w,sv,V.int e.d]) ha))
     have ka:=aB (H:=Ge) (a:=a) (o:=.tup [V.str e.r,V.ref t,aq e.b,V.str e.w,sv,V.int e.d])
     have kt:=aH.new (o:=HO.tup [V.str e.r,V.ref t,aq e.b,V.str e.w,sv,V.int e.d]) ha _ _ ht
     generalize upd Ge a (.tup [V.str e.r,V.ref t,aq e.b,V.str e.w,sv,V.int e.d]) = Gj at s4 ka kt ⊢
     clear htw se ht ha Ge
     have hdj:=s4 _ _ hdi
     refine ⟨_,rfl,_,rfl,d,_,rfl,jf.k (k:=Sum.inl e.n) hdj (by omega),?_⟩
     rw [fj krn,er]
     have nd':∀ {b:Addr} {xs:List V},Gj b = some (.tup xs) → b ≠ d:=fun h=>bT h hdj (by intro q; cases q)
     have mv:∀ t xs,Gd t = some (.tup xs) → upd Gj d (.dK (kr ++ [(Sum.inl e.n,V.ref a)])) t = some (.tup xs):=fun t xs h=>by
      have h1:=s4 _ _ (s3 _ _ (ng h) h)
      rw [aK (nd' h1)]
      exact h1
     refine ⟨fun b u hb=>?_,_,_,_,_,_,_,_,_,_,_,_,_,_,kr ++ [(Sum.inl e.n,.ref a)],rfl,aB,j4 (j2 pR fun x hx q hq=>?_) ⟨rfl,a,t,rfl,?_,?_⟩,?_⟩
     ·rw [aK (fH b u hb).1]
      exact s4 _ _ (s3 _ _ (fH b u hb).2 (sG _ _ hb))
     ·have:=hq.keep mv
      obtain ⟨q1,q2,q3,q4,q5,q6⟩:=this
      refine ⟨q1,q2,q3,q4,?_,q6⟩
      rw [qV rok hx]
      exact q5
     ·rw [aK (nd' ka),ka,sC bok,← sv1]
     ·rw [aK (nd' kt),kt,← zz]
     ·have eg:gN (S.r ++ [⟨e,z⟩]) = gN S.r ++ [((Sum.inr e.r,z.map Sum.inr),V.int e.n)]:=by unfold gN; rw [List.map_append]; rfl
      rw [eg]
      refine ux hDi (fun u h=>?_) fun b ys h=>?_
      ·rw [aK dg.symm]; exact s4 _ _ h
      ·have h1:=s4 _ _ h
       rw [aK (nd' h1)]; exact h1
  ·rintro σ G ⟨sG,z3,z4,z5,z6,z7,z8,z9,z10,z11,z12,z13,z14,z15,kr,rfl,hd,pR,hg⟩
   rw [lw,List.take_of_length_le (Nat.le_refl _)] at pR
   exact ⟨_,rfl,k d kr G sG hd0 hd pR⟩
set_option maxHeartbeats 4000000 in
theorem jD (T:Txt w K mg c):bF P w K mg base gK 1 c.a_Lroots c.d_Lroots ["_law_right_here"] (rB):=by
 refine T.Lroots.fn.ok qc (fun vs H Q E h=>?_) (fun cdv A outer s H vs Q E hr h=>?_)
 ·obtain ⟨d,kr,R,rfl,_⟩:=h
  rfl
 ·obtain ⟨d,kr,R,rfl,hd,pR,nd,l84,k⟩:=h
  refine ⟨_,(aI (aR (vK (e7 (N':=["_law_number", "_law_right_here"]) (js:=[none,some 0]) rfl rfl (by decide +kernel) (by decide +kernel) (ez ["_law_right_here"] (by decide +kernel) (ay (.inl rfl) cm)) (gZ rfl (ay (fun j e=>nomatch e) (ay (fun j e=>by cases e; exact ⟨rfl,rfl,.inl rfl⟩) cm))) (uV (pv 0)) (fun B=>⟨(ag (i:=0) (show List.Nodup (["_law_number", "_law_right_here"]:List Str) by decide +kernel) rfl (Or.inl rfl)),(eT (dP (eV (ae bP (i9 (dU hr) (pv 1) (pv 0) (fun _ _=>rfl)) aD (fun _ _=>rfl))))),(pv 0)⟩))))),?_⟩
  have sz:2000 < sizeLine:=aJ rfl
  have lk:kr.length = R.length:=(Paired.length pR).symm
  refine ⟨_,rfl,d,kr,rfl,hd,fun o nf lc B hlc=>?_⟩
  have g1:upd H d (.frz o (.dK kr)) d = some (.frz o (.dK kr)):=aB
  have f1:∀ c u,c ≠ d → H c = some u → upd H d (.frz o (.dK kr)) c = some u:=fun c u nc hc=>by rw [aK nc]; exact hc
  have bk1:∀ G,aH (upd H d (.frz o (.dK kr))) G → aH H (upd G d (.dK kr)):=fun G h c u hc=>by
   by_cases q:c = d
   ·rw [q,aB]; rw [q,hd] at hc; exact hc
   ·rw [aK q]; exact h c u (f1 c u q hc)
  have nlc:lc ≠ d:=fun z=>by rw [z,aB] at hlc; cases hlc
  have hlc0:H lc = none:=by rw [← hlc,aK nlc]
  have mvT:∀ t xs,H t = some (.tup xs) → upd H d (.frz o (.dK kr)) t = some (.tup xs):=fun t xs h=>f1 t _ (bT h hd (by intro q; cases q)) h
  have pR1:Paired (fu (upd H d (.frz o (.dK kr))) R) R kr:=Paired.fG pR fun x q z=>z.keep mvT
  generalize upd H d (.frz o (.dK kr)) = G1 at g1 f1 bk1 hlc mvT pR1 ⊢
  refine qf (kvs:=kr) (f:=fun p=>kV p.1) rfl (fun i σ acc G=>(∃ z,σ = [z,some (.ref d)]) ∧ aH G1 G ∧ G lc = some (.lst acc) ∧ acc = (cU (R.take i)).map V.int) (by omega) ?_ ?_ ?_ ?_
  ·exact ⟨⟨_,rfl⟩,aH.new hlc,aB,rfl⟩
  ·rintro i σ acc G hi ⟨_,sG,h1,h2⟩
   refine ⟨h1,sG _ _ g1,?_⟩
   rw [h2,List.length_map]
   unfold cU
   rw [List.length_map]
   refine Nat.le_trans (List.length_filter_le ..) ?_
   rw [List.length_take]
   exact Nat.min_le_left _ _
  ·rintro i p σ acc G hp ⟨⟨z,rfl⟩,sG,h1,h2⟩
   have hi:i < kr.length:=(List.getElem?_eq_some_iff.mp hp).1
   have ed:R[i]? = some R[i]:=List.getElem?_eq_getElem (by omega)
   have hm:=List.mem_of_getElem? ed
   rw [take_one ed]
   generalize R[i] = x at ed hm
   obtain ⟨p',ep,hx1,_⟩:=iL pR1 ed
   rw [hp] at ep
   cases ep
   rw [hx1]
   obtain ⟨v,a,t,hv,rfl,ha⟩:∃ v a t,bS kr (Sum.inl x.e.n) = some v ∧ v = .ref a ∧ G1 a = some (.tup [.str x.e.r,.ref t,aq x.e.b,.str x.e.w,aq (dR R x).s,.int x.e.d]):=by
    rcases gj pR1 x.e.n with ⟨c1,_⟩ | ⟨y,v,_,c1,c2,_,a,t,c3,c4,_⟩
    ·rw [cV nd hm] at c1; cases c1
    ·rw [cV nd hm] at c1
     cases c1
     exact ⟨v,a,t,c2,c3,c4⟩
   have f2:fQ [V.str x.e.r,.ref t,aq x.e.b,.str x.e.w,aq (dR R x).s,.int x.e.d] 2 = some (aq x.e.b):=ah (j:=2) rfl
   refine ⟨_,rfl,_,rfl,d,.ref a,rfl,.inl ⟨kr,Sum.inl x.e.n,.inr ⟨o,sG _ _ g1⟩,rfl,hv.symm⟩,a,_,_,_,rfl,rfl,bz.of (sG _ _ ha),f2,_,rfl,?_⟩
   have er:cU (R.take i ++ [x]) = cU (R.take i) ++ (if x.e.b = none then [x.e.n] else []):=by
    unfold cU
    rw [List.filter_append,List.map_append]
    by_cases q:x.e.b = none
    ·rw [if_pos q,List.filter_cons_of_pos (p:=fun x:Rt=>decide (x.e.b = none)) (decide_eq_true q)]; rfl
    ·rw [if_neg q,List.filter_cons_of_neg (p:=fun x:Rt=>decide (x.e.b = none)) (by rw [decide_eq_false q]; decide)]; rfl
   rw [er]
   cases hb:x.e.b with
   | none=>exact bR ⟨_,rfl,h1,Nx.mk hi ⟨⟨_,rfl⟩,cO hlc sG,aB,by rw [if_pos rfl,List.map_append,h2]; rfl⟩⟩
   | some b=>exact bE (Nx.mk hi ⟨⟨_,rfl⟩,sG,h1,by rw [if_neg (by intro q; cases q),List.append_nil]; exact h2⟩)
  ·rintro σ acc G ⟨_,sG,h1,h2⟩
   rw [lk,List.take_of_length_le (Nat.le_refl _)] at h2
   subst h2
   exact ⟨_,⟨d,o,kr,sG _ _ g1,nf,rfl⟩,k lc _ (bk1 G sG) hlc0 (by rw [aK nlc]; exact h1)⟩
set_option maxHeartbeats 4000000 in
theorem qu (T:Txt w K mg c):bF P w K mg base gK 2 c.a_Ldeeds c.d_Ldeeds ["_law_cells", "_law_right_here"] (sA K):=by
 refine T.Ldeeds.fn.ok dE (fun vs H Q E h=>?_) (fun cdv A outer s H vs Q E hr h=>?_)
 ·obtain ⟨cl,cs,d,kr,R,rfl,_⟩:=h
  rfl
 ·obtain ⟨cl,cs,d,kr,R,rfl,hC,lC,hd,pR,nd,l84,hday,k⟩:=h
  refine ⟨_,(aE (aN (i:=2) dE.nd rfl (Or.inl rfl) (aT (jD T) (hr.mono (by decide)) rfl T.Lroots.mgf T.Lroots.kp T.Lroots.bi .nil ax (aA (pv 1) aC)))
   (aE (aN (i:=3) dE.nd rfl (Or.inl rfl) (bB aC))
   (aE (aN (i:=4) dE.nd rfl (Or.inl rfl) aD)
   (aE (eX PassesOwn.never rfl (eI rfl T.no_range (aA (aZ bD rfl T.no_len dN (aA (pv 0) aC)) aC)) (ag (i:=5) dE.nd rfl (Or.inl rfl))
    (aE (aN (i:=6) dE.nd rfl (Or.inl rfl) (aT (dM T) (hr.mono (by decide)) rfl T.Ldraw.mgf T.Ldraw.kp T.Ldraw.bi .nil ax (aA (ae af (pv 0) (pv 5) (fun _ _=>rfl)) (aA (aL cJ aD (aL dc aD (pv 5))) aC))))
   (aI (au (aV (gY (iO hr)) (pv 2) (bB aC) (aW _))
    (aE (aN (i:=7) dE.nd rfl (Or.inl rfl) (ae af (pv 2) (aL ar (aL bu (pv 6) aD) (aZ bD rfl T.no_len dN (aA (pv 2) aC))) (fun _ _=>rfl)))
   (aY (aN (i:=4) dE.nd rfl (Or.inl rfl) (aL cJ (aZ (qJ rfl) rfl T.no_max xQ (aA (pv 4) (aA (ae bP (i9 (dU hr) (pv 1) (pv 7) (fun _ _=>rfl)) aD (fun _ _=>rfl)) aC))) (ae af (bB (aA aD (aA aD (aA aD (aA (aL ar (aL bu (pv 6) aD) aD) aC))))) (aL ar (pv 6) aD) (fun _ _=>rfl))))
   (aI (cS (iU PySem.F.plainAttrs_list PySem.F.slot_list_append PySem.F.type_list_append (mR.r dC) (pv 3) (aA (cA (aA (pv 4) (aA (ae af (bB (aA aQ (aA aQ (aA aQ aC)))) (aL ar (aL bu (pv 6) aD) aD) (fun _ _=>rfl)) (aA (pv 7) aC)))) aC))))))
    aO))))
   (aI (aR (pv 3))))))),?_⟩
  have sz:2000 < sizeLine:=aJ rfl
  have lc:(cs.map V.int).length = cs.length:=List.length_map ..
  refine ⟨_,rfl,d,kr,R,rfl,hd,pR,nd,l84,fun sl G0 s0 hsl0 hsl=>?_⟩
  have hroot:∀ m ∈ cU R,∃ x ∈ R,x.e.n = m ∧ x.e.b = none:=fun m hm=>by
   obtain ⟨x,hx,rfl⟩:=List.mem_map.mp hm
   obtain ⟨h1,h2⟩:=List.mem_filter.mp hx
   exact ⟨x,h1,rfl,of_decide_eq_true h2⟩
  have lrn:(cU R).length ≤ 84:=by
   unfold cU
   rw [List.length_map]
   exact Nat.le_trans (List.length_filter_le ..) l84
  have hd:=s0 _ _ hd
  have pR:Paired (fu G0 R) R kr:=Paired.fG pR fun x q z=>z.keep fun t xs h=>s0 _ _ h
  generalize cU R = ms at hsl hroot lrn
  refine ⟨aJ rfl,fun l hl=>?_⟩
  have t1:=aH.new (o:=HO.lst []) hl
  have k1:=aB (H:=G0) (a:=l) (o:=.lst [])
  have hlH:=s0.free hl
  generalize upd G0 l (.lst []) = G1 at t1 k1 ⊢
  walk_at "rd"
  refine ⟨cl,_,rfl,.inl ((s0.trans t1).seq hC),?_⟩
  walk_at "rd"
  refine ⟨by omega,by omega,?_⟩
  refine hZ (n:=((cs.map V.int).length:Int).toNat) (lo:=0) (fun i σ G=>aH G0 G ∧ ∃ (dy:Int) (z5 z6 z7:Option V) (ws:List V) (ds:List Dd),σ = [some (.ref cl),some (.ref d),some (.ref sl),some (.ref l),some (.int dy),z5,z6,z7] ∧ G l = some (.lst ws) ∧ gz G ws ds ∧ gM R ds ∧ ds.length ≤ i ∧ 1 ≤ dy ∧ dy ≤ 60000 + 300 * i ∧ ∀ x ∈ ds,x.d ≤ dy) ?_ ?_ ?_
  ·exact ⟨t1,_,_,_,_,[],[],rfl,k1,⟨rfl,fun j v e h=>nomatch h⟩,⟨fun _ h=>(nomatch h),fun j x y h=>by rw [List.getElem?_nil] at h; cases h⟩,Nat.le_refl _,by decide,by omega,fun _ h=>nomatch h⟩
  ·rintro i σ G hi ⟨sG,dy,z5,z6,z7,ws,ds,rfl,hG,hA,hB,ld,b1,b2,b3⟩
   have hi:i < cs.length:=by omega
   obtain ⟨v1,hv1,hm1⟩:=cM (xs:=cs.map V.int) (i:=0 + (i:Int)) (by omega) (by omega)
   obtain ⟨c2,_,rfl⟩:=List.mem_map.mp hm1
   walk_at "rd"
   refine ⟨cl,_,_,_,rfl,rfl,(s0.trans sG).seq hC,hv1,?_⟩
   walk_at "rd"
   refine ⟨by omega,by omega,fun r r0 r1=>?_⟩
   refine ⟨_,rfl,aJ rfl,fun q0 hq0=>?_⟩
   have t0:=aH.new (o:=HO.lst []) hq0
   refine ⟨0,_,by decide,gQ (ao.of (t0 _ _ (sG _ _ hsl))) (ao.of aB),_,rfl,?_⟩
   have sG2:=sG.trans t0
   have hG2:=t0 _ _ hG
   have hA2:=hA.same t0
   generalize upd G q0 (.lst []) = G2 at sG2 hG2 hA2 ⊢
   cases he:(ms.map V.int).isEmpty with
   | true=>exact bE ⟨sG2,dy,_,_,_,ws,ds,rfl,hG2,hA2,hB,by omega,b1,by omega,b3⟩
   | false =>
    refine bR ?_
    have wp:0 < (ms.map V.int).length:=List.length_pos_iff.mpr fun z=>by rw [z] at he; cases he
    walk_at "rd"
    refine ⟨sl,_,rfl,.inl (ao.of (sG2 _ _ hsl)),?_⟩
    walk_at "rd"
    refine ⟨by show (0:Int) < (ms.map V.int).length; omega,?_⟩
    obtain ⟨v,hv,hm⟩:=cM (xs:=ms.map V.int) (i:=r / 3600 % ((ms.map V.int).length:Int)) (Int.emod_nonneg _ (by omega)) (Int.emod_lt_of_pos _ (by omega))
    obtain ⟨m,hmm,rfl⟩:=List.mem_map.mp hm
    obtain ⟨x,hx,rfl,xb⟩:=hroot m hmm
    refine ⟨sl,_,_,_,rfl,rfl,ao.of (sG2 _ _ hsl),hv,?_⟩
    have xd:=hday x hx
    obtain ⟨v,a,t,hvx,rfl,ha⟩:∃ v a t,bS kr (Sum.inl x.e.n) = some v ∧ v = .ref a ∧ G0 a = some (.tup [.str x.e.r,.ref t,aq x.e.b,.str x.e.w,aq (dR R x).s,.int x.e.d]):=by
     rcases gj pR x.e.n with ⟨c1,_⟩ | ⟨y,v,_,c1,c2,_,a,t,c3,c4,_⟩
     ·rw [cV nd hx] at c1; cases c1
     ·rw [cV nd hx] at c1
      cases c1
      exact ⟨v,a,t,c2,c3,c4⟩
    have f5:fQ [V.str x.e.r,.ref t,aq x.e.b,.str x.e.w,aq (dR R x).s,.int x.e.d] 5 = some (.int x.e.d):=ah (j:=5) rfl
    refine ⟨fun σ' G'=>aH G2 G' ∧ ∃ dy':Int,dy ≤ dy' ∧ x.e.d ≤ dy' ∧ dy' ≤ 60000 + 300 * i + 299 ∧ σ' = [some (.ref cl),some (.ref d),some (.ref sl),some (.ref l),some (.int dy'),some (.int (0 + (i:Int))),some (.int r),some (.int x.e.n)],?_,?_⟩
    ·refine ⟨_,rfl,_,rfl,_,rfl,d,.ref a,rfl,by rw [← hvx]; exact di.k (k:=Sum.inl x.e.n) (sG2 _ _ hd),a,_,_,_,rfl,rfl,bz.of (sG2 _ _ ha),f5,_,_,rfl,?_⟩
     obtain ⟨mx,hmx⟩:∃ mx:Int,mx = (if x.e.d > dy then x.e.d else dy):=⟨_,rfl⟩
     have mxb:dy ≤ mx ∧ x.e.d ≤ mx ∧ mx ≤ 60000 + 300 * i:=by
      rw [hmx]
      split <;> omega
     rw [← hmx]
     walk_at "rd"
     have y30:=Int.emod_nonneg (r / 12) (b:=300) (by decide)
     have y31:=Int.emod_lt_of_pos (r / 12) (b:=300) (by decide)
     refine ⟨aJ rfl,fun q hq=>?_⟩
     walk_at "rd"
     obtain ⟨v,hv,hm⟩:=cM (xs:=[V.int 0,V.int 0,V.int 1,V.int (r / 12 % 300)]) (i:=r % 4) (Int.emod_nonneg _ (by decide)) (by show _ < (4:Int); exact Int.emod_lt_of_pos _ (by decide))
     obtain ⟨m,rfl,mb0,mb1⟩:∃ m:Int,v = .int m ∧ 0 ≤ m ∧ m ≤ 299:=by
      simp only [List.mem_cons,List.not_mem_nil,or_false] at hm
      rcases hm with rfl | rfl | rfl | rfl
      ·exact ⟨_,rfl,by decide,by decide⟩
      ·exact ⟨_,rfl,by decide,by decide⟩
      ·exact ⟨_,rfl,by decide,by decide⟩
      ·exact ⟨_,rfl,by omega,by omega⟩
     refine ⟨q,_,_,_,rfl,rfl,ao.of aB,hv,?_⟩
     walk_at "rd"
     first | exact ⟨aH.new hq,_,by omega,by omega,by omega,rfl⟩ | trace_state
    rintro σ G3 ⟨s3,dy',c1,c2,c3,rfl⟩
    have hG3:=s3 _ _ hG2
    have hA3:=hA2.same s3
    have sG3:=sG2.trans s3
    obtain ⟨zs,hzs⟩:∃ zs:List V,zs = [V.str (Str.ofString "keep"),V.str (Str.ofString "strike"),V.str (Str.ofString "leave")]:=⟨_,rfl⟩
    refine ⟨_,rfl,.inl ⟨rfl,_,ao.of hG3⟩,_,rfl,aJ rfl,fun q hq=>?_⟩
    rw [← hzs]
    walk_at "rd"
    obtain ⟨v,hv,hm⟩:=cM (xs:=zs) (i:=r / 4 % 3) (Int.emod_nonneg _ (by decide)) (by rw [hzs]; show _ < (3:Int); exact Int.emod_lt_of_pos _ (by decide))
    obtain ⟨z,rfl,hz⟩:∃ z:Str,v = .str z ∧ eO (.str z) = true:=by
     rw [hzs] at hm
     simp only [List.mem_cons,List.not_mem_nil,or_false] at hm
     rcases hm with rfl | rfl | rfl
     ·exact ⟨_,rfl,by decide +kernel⟩
     ·exact ⟨_,rfl,by decide +kernel⟩
     ·exact ⟨_,rfl,by decide +kernel⟩
    have k4:=aB (H:=G3) (a:=q) (o:=.lst zs)
    have t4:=aH.new (o:=HO.lst zs) hq
    have hG4:=t4 _ _ hG3
    have hA4:=hA3.same t4
    have sG4:=sG3.trans t4
    generalize upd G3 q (.lst zs) = G4 at k4 t4 hG4 hA4 sG4 ⊢
    refine ⟨q,_,_,_,rfl,rfl,ao.of k4,hv,?_⟩
    walk_at "rd"
    refine ⟨aJ rfl,fun tp htp=>?_⟩
    have t5:=aH.new (o:=HO.tup (uv ⟨dy',z,x.e.n⟩)) htp
    have k5:=aB (H:=G4) (a:=tp) (o:=.tup (uv ⟨dy',z,x.e.n⟩))
    have hG5:=t5 _ _ hG4
    have hA5:=hA4.same t5
    have sG5:=sG4.trans t5
    have lw:=hA.1
    refine ⟨l,_,_,rfl,rfl,hG5,by omega,cO hl sG5,dy',_,_,_,ws ++ [.ref tp],ds ++ [⟨dy',z,x.e.n⟩],rfl,aB,?_,hB.snoc ⟨hz,by show 1 ≤ dy'; omega,by show dy' ≤ 100000; omega,x,hx,rfl,xb,c2⟩ (fun y hy=>Int.le_trans (b3 y hy) c1),by rw [List.length_append]; exact Nat.add_le_add_right ld 1,by omega,by omega,fun y hy=>?_⟩
    ·have mv:∀ (v:V) (y:Dd),(∃ a,v = .ref a ∧ upd G4 tp (.tup (uv ⟨dy',z,x.e.n⟩)) a = some (.tup (uv y))) → ∃ a,v = .ref a ∧ upd (upd G4 tp (.tup (uv ⟨dy',z,x.e.n⟩))) l (.lst (ws ++ [.ref tp])) a = some (.tup (uv y)):=fun v y ⟨a,e,h⟩=>⟨a,e,by rw [aK (bT h hG5 (by intro q; cases q))]; exact h⟩
     exact nJ (F:=fun v y=>∃ a,v = .ref a ∧ upd (upd G4 tp (.tup (uv ⟨dy',z,x.e.n⟩))) l (.lst (ws ++ [.ref tp])) a = some (.tup (uv y))) ⟨hA5.1,fun j v y h1 h2=>mv v y (hA5.2 j v y h1 h2)⟩ (mv _ _ ⟨tp,rfl,k5⟩)
    ·rcases List.mem_append.mp hy with q | q
     ·exact Int.le_trans (b3 y q) c1
     ·rw [List.mem_singleton.mp q]; exact Int.le_refl _
  ·rintro σ G ⟨sG,dy,z5,z6,z7,ws,ds,rfl,hG,hA,hB,ld,b1,b2,b3⟩
   exact ⟨_,rfl,k l ws ds G (s0.trans sG) hlH hG hA hB (by omega)⟩
set_option maxHeartbeats 4000000 in
theorem rh (T:Txt w K mg c):bF P w K mg base gK 6 c.a_Lacts c.d_Lacts ["_law_deeds_here"] (ud c.c_Act):=by
 refine T.Lacts.fn.ok rL (fun vs H Q E h=>?_) (fun cdv A outer s H vs Q E hr h=>?_)
 ·obtain ⟨l,ws,ds,rfl,_⟩:=h
  rfl
 ·obtain ⟨l,ws,ds,rfl,hL,hA,hg,l84,k⟩:=h
  refine ⟨_,(aI (aR (e7 (N':=["_law_day", "_law_deed", "_law_number"]) (js:=[none,none,none]) rfl rfl (by decide +kernel) (by decide +kernel) (iW (by decide +kernel)) (jm rfl rfl) (cZ (pv 0)) (fun B=>⟨(jB rfl (bN (ag (i:=0) (show List.Nodup (["_law_day", "_law_deed", "_law_number"]:List Str) by decide +kernel) rfl (Or.inl rfl)) (bN (ag (i:=1) (show List.Nodup (["_law_day", "_law_deed", "_law_number"]:List Str) by decide +kernel) rfl (Or.inl rfl)) (bN (ag (i:=2) (show List.Nodup (["_law_day", "_law_deed", "_law_number"]:List Str) by decide +kernel) rfl (Or.inl rfl)) gy)))),gU,(fU T.mk_Act (fA T) (hr.mono (by decide)) rfl T.mg_Act T.b_Act_3 fD (aA (pv 0) (aA (pv 1) (aA (pv 2) aC))) jP)⟩)))),?_⟩
  have sz:2000 < sizeLine:=aJ rfl
  have lw:=hA.1
  refine ⟨_,rfl,l,rfl,⟨_,ao.of hL⟩,fun q B hq=>?_⟩
  refine dj (xs:=ws) (fun i σ acc G=>(∃ o1 o2 o3,σ = [o1,o2,o3]) ∧ aH H G ∧ G q = some (.lst acc) ∧ acc.length = i ∧ d6 G c.c_Act acc (ds.take i)) (by omega) ?_ ?_ ?_ ?_
  ·exact ⟨⟨_,_,_,rfl⟩,aH.new hq,aB,rfl,rfl,fun j v x h=>nomatch h⟩
  ·rintro i σ acc G hi ⟨_,sG,h1,h2,_⟩
   exact ⟨h1,ao.of (sG _ _ hL),by omega⟩
  ·rintro i v σ acc G hx ⟨⟨o1,o2,o3,rfl⟩,sG,h1,h2,h3⟩
   have hi:i < ws.length:=(List.getElem?_eq_some_iff.mp hx).1
   have ed:ds[i]? = some ds[i]:=List.getElem?_eq_getElem (by omega)
   obtain ⟨ta,rfl,hta⟩:=hA.2 i v _ hx ed
   obtain ⟨g1,g2,g3⟩:=hg _ (List.mem_of_getElem? ed)
   rw [take_one ed]
   generalize ds[i] = x at hta g1 g2 g3
   have hta:=sG _ _ hta
   refine ⟨ta,_,rfl,bz.of hta,rfl,?_⟩
   walk_at "rd"
   refine fun xa dx hxa hdx ne=>?_
   refine ⟨xa,dx,.int x.d,.str x.z,.int x.n,rfl,aB,Own.int,Own.str,Own.int,fun h=>absurd (h.symm.trans g2) (by decide),fun _ h=>absurd (h.symm.trans g1) (by decide),fun _ _ h=>absurd (h.symm.trans g3) (by decide),fun _ _ _ G1 f1 ha=>⟨rfl,?_⟩⟩
   have s1:aH G G1:=fun b u hb=>f1 b u (aM hb hxa) (aH.made hxa hdx ne b u hb)
   have h1':=s1 _ _ h1
   have mv:∀ v y,ij G1 c.c_Act v y → ij (upd G1 q (.lst (acc ++ [.ref xa]))) c.c_Act v y:=fun v y ⟨b,db,e,h⟩=>⟨b,db,e,by rw [aK (bT h h1' (by intro z; cases z))]; exact h⟩
   have h3':=h3.same s1
   exact ⟨h1',Nx.mk hi ⟨⟨_,_,_,rfl⟩,cO hq (sG.trans s1),aB,by rw [List.length_append,h2]; rfl,nJ ⟨h3'.1,fun j v y a b=>mv v y (h3'.2 j v y a b)⟩ (mv _ _ ⟨xa,dx,rfl,ha⟩)⟩⟩
  ·rintro σ acc G ⟨_,sG,h1,h2,h3⟩
   rw [lw,List.take_of_length_le (Nat.le_refl _)] at h3
   exact k q acc G sG hq h1 h3
set_option maxHeartbeats 4000000 in
theorem sO (T:Txt w K mg c):bF P w K mg base gK 1 c.a_ahead c.d_ahead ["one", "other"] (ur c.c_Entry):=by
 refine T.ahead.fn.ok sX (fun vs H Q E h=>?_) (fun cdv A outer s H vs Q E hr h=>?_)
 ·obtain ⟨x,y,e,f,rfl,_⟩:=h
  rfl
 ·obtain ⟨x,y,e,f,rfl,hx,hy,k⟩:=h
  refine ⟨_,(aI (aR (cK (xM hr.wO) (cA (aA (aj (pv 0) rfl) (aA (aj (pv 0) rfl) aC))) (cA (aA (aj (pv 1) rfl) (aA (aj (pv 1) rfl) aC))) (aW _)))),?_⟩
  obtain ⟨a,dx,rfl,ha⟩:=hx
  obtain ⟨b,dy,rfl,hb⟩:=hy
  refine ⟨_,rfl,a,_,dx,_,_,rfl,ha,T.cl_Entry,T.na_Entry_day,rfl,?_⟩
  refine ⟨_,rfl,a,_,dx,_,_,rfl,ha,T.cl_Entry,T.na_Entry_number,rfl,aJ rfl,fun p hp=>?_⟩
  have s1:=aH.new (o:=HO.tup [.int e.d,.int e.n]) hp
  refine ⟨_,rfl,b,_,dy,_,_,rfl,s1 _ _ hb,T.cl_Entry,T.na_Entry_day,rfl,?_⟩
  refine ⟨_,rfl,b,_,dy,_,_,rfl,s1 _ _ hb,T.cl_Entry,T.na_Entry_number,rfl,aJ rfl,fun q hq=>?_⟩
  have s2:=aH.new (o:=HO.tup [.int f.d,.int f.n]) hq
  exact ⟨p,q,[e.d,e.n],[f.d,f.n],rfl,rfl,bz.of (s2 _ _ aB),bz.of aB,k _ (s1.trans s2)⟩
set_option maxHeartbeats 4000000 in
theorem mj (T:Txt w K mg c):bF P w K mg base (jr P w) 2 c.a_book_list c.d_book_list ["entries"] (wj K c.c_Entry c.c_NoBook):=by
 refine T.book_list.fn.uI cg (fun vs H Q E h=>?_) (fun cdv A outer s H vs Q E hr h=>?_)
 ·obtain ⟨x,rfl,_⟩:=h
  rfl
 ·obtain ⟨x,rfl,h0⟩:=h
  refine ⟨_,(aE (au (bh (bg (aZ bf rfl T.no_isinstance aa (aA (pv 0) (aA (eC (v:=.ty "list") rfl T.no_list i5 rfl) aC)))))
    (aI (cP T.x_NoBook rfl rfl T.mg_NoBook dr (aA aQ aC)))
    aO)
   (aE (aN (i:=1) cg.nd rfl (Or.inl rfl) (d4 i3 rfl T.no_list i5 (aA (pv 0) aC)))
   (aE (aN (i:=2) cg.nd rfl (Or.inl rfl) fg)
   (aE (aN (i:=3) cg.nd rfl (Or.inl rfl) cw)
   (aE (eX pZ rfl (cZ (pv 1)) (ag (i:=4) cg.nd rfl (Or.inl rfl))
    (aE (au (bh (bg (aZ bf rfl T.no_isinstance aa (aA (pv 4) (aA (bw (v:=.ref c.c_Entry) rfl T.mg_Entry rfl) aC)))))
    (aI (cP T.x_NoBook rfl rfl T.mg_NoBook dr (aA aQ aC)))
    aO)
   (aE (au (dP (rX (dU hr) (aj (pv 4) rfl) (pv 2)))
    (aI (cP T.x_NoBook rfl rfl T.mg_NoBook dr (aA aQ aC)))
    aO)
   (aY (au (PW.pt (cz (dP (fo (pv 3))) (cW (bh (bg (aT (sO T) (hr.mono (by decide)) rfl T.ahead.mgf T.ahead.kp T.ahead.bi .nil ax (aA (pv 3) (aA (pv 4) aC))))))))
    (aI (cP T.x_NoBook rfl rfl T.mg_NoBook dr (aA aQ aC)))
    aO)
   (aE (gx (dU hr) (pv 2) (aj (pv 4) rfl) cN rfl)
   (aI (aN (i:=3) cg.nd rfl (Or.inl rfl) (pv 4))))))))
   (aI (aR (pv 1)))))))),?_⟩
  rcases h0 with ⟨l,ws,is,rfl,hL,hI,hz,k1,k2⟩ | ⟨n,ty,hn,k⟩
  rotate_left
  ·exact ⟨_,rfl,bH.ty ty hn ⟨_,rfl,bR ⟨aJ rfl,k H (aH.refl H)⟩⟩⟩
  have sz:2000 < sizeLine:=aJ rfl
  refine ⟨_,rfl,bH.ty (.lst hL) rfl ⟨_,rfl,bE ?_⟩⟩
  refine ⟨_,rfl,l,_,rfl,.inl (ao.of hL),fun q hq=>?_⟩
  have s1:=aH.new (o:=HO.lst ws) hq
  have hq1:=aB (H:=H) (a:=q) (o:=.lst ws)
  generalize upd H q (.lst ws) = G1 at s1 hq1
  refine fun d hd=>?_
  have s2:=s1.trans (aH.new (o:=HO.dK []) hd)
  have hd2:=aB (H:=G1) (a:=d) (o:=.dK [])
  have hq2:=aH.new (o:=HO.dK []) hd _ _ hq1
  have nHd:H d = none:=s1.free hd
  generalize upd G1 d (.dK []) = G2 at s2 hd2 hq2
  refine ⟨_,rfl,q,rfl,⟨_,ao.of hq2⟩,?_⟩
  refine gR (xs:=ws) (fun i σ G=>∃ seen last lv kvs z,σ = [some (.ref l),some (.ref q),some (.ref d),some lv,z] ∧ ((last = none ∧ lv = .bA) ∨ ∃ e,last = some e ∧ cn G c.c_Entry lv e) ∧ G d = some (.dK kvs) ∧ (∀ s:Int,bS kvs (Sum.inl s) = none ↔ seen.contains s = false) ∧ kvs.length ≤ i ∧ bZ [] none is = bZ seen last (is.drop i) ∧ aH H G ∧ G q = some (.lst ws)) ?_ ?_ ?_ ?_
  ·exact ⟨[],none,.bA,[],_,rfl,.inl ⟨rfl,rfl⟩,hd2,fun s=>⟨fun _=>rfl,fun _=>rfl⟩,Nat.le_refl _,rfl,s2,hq2⟩
  ·rintro i σ G _ ⟨_,_,_,_,_,_,_,_,_,_,_,_,h⟩
   exact ao.of h
  ·rintro i x σ G hx ⟨seen,last,lv,kvs,z,rfl,g1,g2,g3,g4,g5,g6,g7⟩
   have hi:i < ws.length:=(List.getElem?_eq_some_iff.mp hx).1
   have hii:i < is.length:=by rw [← hI.1]; exact hi
   have it:=hI.2 i x _ hx (List.getElem?_eq_getElem hii)
   have ed:is.drop i = is[i] :: is.drop (i + 1):=(List.getElem_cons_drop hii).symm
   rw [ed] at g5
   generalize is[i] = y at it g5
   cases it with
   | oth t hn =>
    refine ⟨_,rfl,bH.zl (t.same g6) hn ⟨_,rfl,bR ⟨aJ rfl,k2 g5 G g6⟩⟩⟩
   | @ent e h =>
    have h':=h.same g6
    obtain ⟨a,dx,rfl,ha⟩:=h'
    refine ⟨_,rfl,bH.ins ha T.cl_Entry T.w_Entry T.ws_Entry ⟨_,rfl,bE ?_⟩⟩
    refine ⟨_,rfl,a,_,dx,_,_,rfl,ha,T.cl_Entry,T.na_Entry_number,rfl,_,rfl,d,_,rfl,di.k (k:=Sum.inl e.n) g2,?_⟩
    have g5:bZ [] none is = (!seen.contains e.n && (fK last e && bZ (seen ++ [e.n]) (some e) (is.drop (i + 1)))):=g5
    cases hv:bS kvs (Sum.inl e.n) with
    | some u =>
     have hc:seen.contains e.n = true:=by
      cases q:seen.contains e.n with
      | true=>rfl
      | false=>rw [(g3 e.n).mpr q] at hv; cases hv
     rw [hc] at g5
     exact ⟨_,rfl,bR ⟨aJ rfl,k2 g5 G g6⟩⟩
    | none =>
     have hc:=(g3 e.n).mp hv
     rw [hc] at g5
     refine ⟨_,rfl,bE ?_⟩
     have g5:bZ [] none is = (fK last e && bZ (seen ++ [e.n]) (some e) (is.drop (i + 1))):=g5
     refine ⟨fun σ' G'=>σ' = [some (.ref l),some (.ref q),some (.ref d),some lv,some (.ref a)] ∧ aH G G' ∧ bZ [] none is = bZ (seen ++ [e.n]) (some e) (is.drop (i + 1)),?_,?_⟩
     ·rcases g1 with ⟨rfl,rfl⟩ | ⟨e0,rfl,he0⟩
      ·refine ⟨_,rfl,_,rfl,bE ?_⟩
       exact ⟨rfl,aH.refl G,g5⟩
      ·have h3:=he0
       obtain ⟨a0,dx0,rfl,ha0⟩:=he0
       refine ⟨_,rfl,_,rfl,bR ?_⟩
       refine ⟨_,rfl,_,rfl,_,_,e0,e,rfl,h3,⟨a,dx,rfl,ha⟩,fun G' s'=>?_⟩
       have g5:bZ [] none is = (iw e0 e && bZ (seen ++ [e.n]) (some e) (is.drop (i + 1))):=g5
       cases hb:iw e0 e with
       | true =>
        rw [hb] at g5
        exact ⟨_,rfl,bE ⟨rfl,s',g5⟩⟩
       | false =>
        rw [hb] at g5
        exact ⟨_,rfl,bR ⟨aJ rfl,k2 g5 G' (g6.trans s')⟩⟩
     rintro σ' G' ⟨rfl,s',g5⟩
     have ha':=s' _ _ ha
     refine ⟨_,rfl,_,rfl,a,_,dx,_,_,rfl,ha',T.cl_Entry,T.na_Entry_number,rfl,d,_,rfl,jf.k (k:=Sum.inl e.n) (s' _ _ g2) (by omega),?_⟩
     have nad:a ≠ d:=bT ha' (s' _ _ g2) (by intro z; cases z)
     have nqd:q ≠ d:=bT (s' _ _ g7) (s' _ _ g2) (by intro z; cases z)
     refine ⟨_,rfl,seen ++ [e.n],some e,.ref a,_,_,rfl,.inr ⟨e,rfl,a,dx,rfl,by rw [aK nad]; exact ha'⟩,aB,fun s=>?_,?_,g5,fun b u hb=>?_,by rw [aK nqd]; exact s' _ _ g7⟩
     ·rw [sE]
      by_cases es:s = e.n
      ·subst es
       rw [if_pos rfl]
       refine ⟨fun z=>(nomatch z),fun z=>?_⟩
       rw [List.contains_iff_mem.mpr (List.mem_append_right _ (List.mem_singleton.mpr rfl))] at z
       cases z
      ·rw [if_neg (fun z=>es (Sum.inl.inj z)),g3 s]
       have:(seen ++ [e.n]).contains s = seen.contains s:=by
        rw [Bool.eq_iff_iff,List.contains_iff_mem,List.contains_iff_mem,List.mem_append,List.mem_singleton]
        exact ⟨fun z=>z.resolve_right es,fun z=>.inl z⟩
       rw [this]
     ·unfold putK
      rw [if_neg (by rw [eQ,hv]; decide),List.length_append]
      show kvs.length + 1 ≤ _
      omega
     ·rw [aK (fun z=>by rw [z,nHd] at hb; cases hb)]
      exact s' _ _ (g6 _ _ hb)
  ·rintro σ G ⟨seen,last,lv,kvs,z,rfl,g1,g2,g3,g4,g5,g6,g7⟩
   rw [hI.1,List.drop_length] at g5
   exact ⟨_,rfl,k1 g5 q G g6 hq g7⟩
set_option maxHeartbeats 4000000 in
theorem sL (T:Txt w K mg c):bF P w K mg base (jr P w) 2 c.a_above c.d_above ["rank"] (wN K):=by
 refine T.above.fn.uI tH (fun vs H Q E h=>?_) (fun cdv A outer s H vs Q E hr h=>?_)
 ·obtain ⟨z,rfl,_⟩:=h
  rfl
 ·obtain ⟨z,rfl,hz,k⟩:=h
  refine ⟨_,(aE (au (bh (bg (aT (ju T) (hr.mono (by decide)) rfl T.is_rank.mgf T.is_rank.kp T.is_rank.bi .nil ax (aA (pv 0) aC))))
    (aI su)
    aO)
   (aI (aR (ae rO (bw (v:=.ref c.u_ABOVE) rfl T.mg_ABOVE rfl) (pv 0) (fun _ _=>rfl))))),?_⟩
  refine ⟨_,rfl,_,rfl,Own.str,_,rfl,?_⟩
  rcases hz with rfl | rfl
  ·exact bE ⟨_,rfl,c.u_ABOVE,_,_,_,rfl,rfl,T.kd_ABOVE,rfl,k⟩
  ·exact bE ⟨_,rfl,c.u_ABOVE,_,_,_,rfl,rfl,T.kd_ABOVE,rfl,k⟩
set_option maxHeartbeats 4000000 in
theorem j9 (T:Txt w K mg c):bF P w K mg base gK 1 c.a_Results_init c.d_Results_init ["self"] (qW c.c_Results c.c_Entry):=by
 refine T.Results_init.ok jd (fun vs H Q E h=>?_) (fun cdv A outer s H vs Q E hr h=>?_)
 ·obtain ⟨a,dx,rfl,_⟩:=h
  rfl
 ·obtain ⟨a,dx,rfl,ha,k⟩:=h
  refine ⟨_,(aY (cq (pv 0) fg rfl)
   (aY (cq (pv 0) fg rfl)
   (aY (cq (pv 0) fg rfl)
   (aI (cq (pv 0) uB rfl))))),?_⟩
  have na:∀ d,H d = none → d ≠ a:=fun d hd z=>by rw [z,ha] at hd; cases hd
  refine ⟨fun σ G=>σ = [some (.ref a)] ∧ ∃ d0,(∀ b u,b ≠ a → H b = some u → G b = some u) ∧ G a = some (.ins c.c_Results dx [("outs",.ref d0)]) ∧ G d0 = some (.dK []) ∧ H d0 = none,?_,?_⟩
  ·refine fun d0 e=>⟨_,rfl,a,_,dx,_,rfl,aH.new e _ _ ha,T.cl_Results,T.na_Results_outs,aJ rfl,rfl,d0,fun b u nb hb=>?_,aB,?_,?_⟩
   ·rw [aK nb,aK (aM (hb) e)]; exact hb
   ·rw [aK (na _ e),aB]
   ·exact e
  rintro σ G ⟨rfl,d0,fr,ka,k0,h0⟩
  refine ⟨fun σ G=>σ = [some (.ref a)] ∧ ∃ d0 d1,(∀ b u,b ≠ a → H b = some u → G b = some u) ∧ G a = some (.ins c.c_Results dx [("outs",.ref d0),("names",.ref d1)]) ∧ G d0 = some (.dK []) ∧ H d0 = none ∧ G d1 = some (.dK []) ∧ H d1 = none ∧ d0 ≠ d1,?_,?_⟩
  ·refine fun d1 e=>⟨_,rfl,a,_,dx,_,rfl,aH.new e _ _ ka,T.cl_Results,T.na_Results_names,aJ rfl,rfl,d0,d1,fun b u nb hb=>?_,aB,?_,?_,?_,?_,?_⟩
   ·rw [aK nb,aK (aM (fr b u nb hb) e)]; exact fr b u nb hb
   ·rw [aK (na _ h0),aK (aM k0 e)]; exact k0
   ·exact h0
   ·rw [aK (na _ (show H d1 = none by
     cases q:H d1 with
     | none=>rfl
     | some u=>rw [fr d1 u (fun z=>by rw [z,ka] at e; cases e) q] at e; cases e)),aB]
   ·exact (show H d1 = none by
     cases q:H d1 with
     | none=>rfl
     | some u=>rw [fr d1 u (fun z=>by rw [z,ka] at e; cases e) q] at e; cases e)
   ·exact aM k0 e
  rintro σ G ⟨rfl,d0,d1,fr,ka,k0,h0,k1,h1,n01⟩
  refine ⟨fun σ G=>σ = [some (.ref a)] ∧ ∃ d0 d1 d2,(∀ b u,b ≠ a → H b = some u → G b = some u) ∧ G a = some (.ins c.c_Results dx [("outs",.ref d0),("names",.ref d1),("rights",.ref d2)]) ∧ G d0 = some (.dK []) ∧ H d0 = none ∧ G d1 = some (.dK []) ∧ H d1 = none ∧ G d2 = some (.dK []) ∧ H d2 = none ∧ d0 ≠ d1 ∧ d0 ≠ d2 ∧ d1 ≠ d2,?_,?_⟩
  ·refine fun d2 e=>⟨_,rfl,a,_,dx,_,rfl,aH.new e _ _ ka,T.cl_Results,T.na_Results_rights,aJ rfl,rfl,d0,d1,d2,fun b u nb hb=>?_,aB,?_,?_,?_,?_,?_,?_,?_,?_,?_⟩
   ·rw [aK nb,aK (aM (fr b u nb hb) e)]; exact fr b u nb hb
   ·rw [aK (na _ h0),aK (aM k0 e)]; exact k0
   ·exact h0
   ·rw [aK (na _ h1),aK (aM k1 e)]; exact k1
   ·exact h1
   ·rw [aK (na _ (show H d2 = none by
     cases q:H d2 with
     | none=>rfl
     | some u=>rw [fr d2 u (fun z=>by rw [z,ka] at e; cases e) q] at e; cases e)),aB]
   ·exact (show H d2 = none by
     cases q:H d2 with
     | none=>rfl
     | some u=>rw [fr d2 u (fun z=>by rw [z,ka] at e; cases e) q] at e; cases e)
   ·exact n01
   ·exact aM k0 e
   ·exact aM k1 e
  rintro σ G ⟨rfl,d0,d1,d2,fr,ka,k0,h0,k1,h1,k2,h2,n01,n02,n12⟩
  refine fun d3 e=>⟨_,rfl,a,_,dx,_,rfl,aH.new e _ _ ka,T.cl_Results,T.na_Results_holders,aJ rfl,?_⟩
  have hf:H d3 = none:=by
   cases q:H d3 with
   | none=>rfl
   | some u=>rw [fr d3 u (fun z=>by rw [z,ka] at e; cases e) q] at e; cases e
  have m3:∀ b u,b ≠ a → G b = some u → upd (upd G d3 (.dT [])) a (.ins c.c_Results dx (gS "holders" (V.ref d3) [("outs",.ref d0),("names",.ref d1),("rights",.ref d2)])) b = some u:=fun b u nb hb=>by
   rw [aK nb,aK (aM hb e)]; exact hb
  refine k ⟨a,dx,d0,d1,d2,d3⟩ _ rfl rfl (fun b u nb hb=>m3 b u nb (fr b u nb hb)) ⟨aB,m3 _ _ (na _ h0) k0,⟨_,m3 _ _ (na _ h1) k1,.nil⟩,⟨_,m3 _ _ (na _ h2) k2,.nil⟩,⟨_,?_,.nil⟩,n01,n02,n12⟩ h0 h1 h2 hf
  show upd (upd G d3 (.dT [])) a _ d3 = _
  rw [aK (na _ hf),aB]
set_option maxHeartbeats 4000000 in
theorem iM (T:Txt w K mg c):bF P w K mg base gK 3 c.a_Results_name_of c.d_Results_name_of ["self", "entry"] (tK c.c_Results c.c_Entry):=by
 refine T.Results_name_of.ok eS (fun vs H Q E h=>?_) (fun cdv A outer s H vs Q E hr h=>?_)
 ·obtain ⟨A,s,v,e,rfl,_⟩:=h
  rfl
 ·obtain ⟨A,s,v,e,rfl,rs,rok,hv,okk,k⟩:=h
  refine ⟨_,(aE (au (aV cT (aj (pv 1) rfl) aQ (aW _))
    (aI (aR (cA (aA (aj (pv 1) rfl) aC))))
    aO)
   (aE (aN (i:=2) eS.nd rfl (Or.inl rfl) (km (dU hr) (aj (pv 0) rfl) (aj (pv 1) rfl) ⟨rfl,rfl,rfl,rfl⟩))
   (aE (au (PW.pt (jz (dP (eV (pv 2))) (jM (aV kR (aj (pv 2) rfl) (dk (sL T) (hr.mono (by decide)) rfl T.above.mgf T.above.kp T.above.bi .nil fD (aA (aj (pv 1) rfl) aC)) (aW _)))))
    (aI (aR cw))
    aO)
   (aI (aR (aL i7 (i9 (dU hr) (aj (pv 0) rfl) (aj (pv 2) rfl) (fun _ _=>rfl)) (cA (aA (aj (pv 1) rfl) aC)))))))),?_⟩
  have hv0:=hv
  obtain ⟨a,dx,rfl,ha⟩:=hv
  refine ⟨_,rfl,a,_,dx,_,_,rfl,ha,T.cl_Entry,T.na_Entry_rank,rfl,rfl,_,rfl,?_⟩
  refine cE (fun z=>?_) (fun z=>?_)
  ·have z:e.r = Str.ofString "genus" := V.str.inj (of_decide_eq_true z)
   refine ⟨_,rfl,a,_,dx,_,_,rfl,ha,T.cl_Entry,T.na_Entry_word,rfl,aJ rfl,fun t ht=>?_⟩
   refine k _ _ (aH.new ht) ?_
   have en:bU s.r e = some [e.w]:=by unfold bU; rw [if_pos z]
   rw [en]
   exact ⟨t,rfl,aB⟩
  have z:e.r ≠ Str.ofString "genus" := fun q=>z (decide_eq_true (congrArg V.str q))
  obtain ⟨u,hu⟩:=vf okk z
  have lu:(cL e).lookup (Str.ofString "under") = some (V.int u):=by show some (aq e.u) = _; rw [hu]; rfl
  obtain ⟨kr,hR,pR⟩:=rs.rights
  obtain ⟨kn,hN,pN⟩:=rs.names
  have en:bU s.r e = match az s.r u with | none=>none | some x=>if x.e.r = cI e.r then some (x.nm ++ [e.w]) else none:=by
   unfold bU
   rw [if_neg z,hu]
   rfl
  refine ⟨_,rfl,A.a,_,A.dx,_,_,rfl,rs.at_,T.cl_Results,T.na_Results_rights,rfl,A.o3,rfl,.inl ⟨_,.inl hR⟩,_,rfl,a,_,dx,_,_,rfl,ha,T.cl_Entry,T.na_Entry_under,lu,_,di.k (k:=Sum.inl u) hR,?_⟩
  rcases gk pR u with ⟨f1,f2⟩ | ⟨x,w,f1,f2,hx⟩
  ·rw [f2]
   refine ⟨_,rfl,_,rfl,bR ?_⟩
   refine k _ _ (aH.refl H) ?_
   rw [en,f1]
   rfl
  have hx0:=hx
  obtain ⟨xa,xdx,rfl,hxa⟩:=hx
  rw [f2]
  refine ⟨_,rfl,_,rfl,bE ?_⟩
  rw [f1] at en
  have en:bU s.r e = if x.e.r = cI e.r then some (x.nm ++ [e.w]) else none:=en
  refine ⟨_,rfl,xa,_,xdx,_,_,rfl,hxa,T.cl_Entry,T.na_Entry_rank,rfl,_,rfl,a,_,dx,_,_,rfl,ha,T.cl_Entry,T.na_Entry_rank,rfl,e.r,rfl,(fZ okk).resolve_left z,rfl,_,rfl,?_⟩
  refine cE (fun y=>?_) (fun y=>?_)
  ·have y:x.e.r ≠ cI e.r:=fun q=>by rw [q,decide_eq_true rfl] at y; exact absurd y (by decide)
   refine k _ _ (aH.refl H) ?_
   rw [en,if_neg y]
   rfl
  have y:x.e.r = cI e.r:=V.str.inj (Decidable.of_not_not (p:=V.str x.e.r = V.str (cI e.r)) (fun q=>y (by rw [decide_eq_false q]; rfl)))
  rw [if_pos y] at en
  have hm:=(eF f1).1
  obtain ⟨nv,hnv,nt,rfl,hnt⟩:=sI pN (by rw [rok.nk]; exact rok.nd) (rok.nm x hm)
  have dp:=rok.dp x hm
  have d3:cH x.e.r ≤ 3:=by
   unfold cH
   split
   ·decide
   ·split <;> decide
  have d0:0 < cH x.e.r:=by
   unfold cH
   split
   ·decide
   ·split <;> decide
  have sz:2000 < sizeLine:=aJ rfl
  refine ⟨_,rfl,A.a,_,A.dx,_,_,rfl,rs.at_,T.cl_Results,T.na_Results_names,rfl,_,rfl,xa,_,xdx,_,_,rfl,hxa,T.cl_Entry,T.na_Entry_number,rfl,A.o2,.ref nt,rfl,?_,?_⟩
  ·rw [← hnv]
   exact di.k (k:=Sum.inl x.e.n) hN
  refine ⟨_,rfl,a,_,dx,_,_,rfl,ha,T.cl_Entry,T.na_Entry_word,rfl,aJ rfl,fun t ht=>?_⟩
  have s1:=aH.new (o:=HO.tup [V.str e.w]) ht
  refine ⟨nt,t,x.nm.map V.str,[V.str e.w],rfl,rfl,bz.of (s1 _ _ hnt),bz.of aB,(by intro q; cases q),?_,fun q=>?_,fun _ p hp=>?_⟩
  ·rw [List.length_map,dp]
   show _ + 1 ≤ _
   omega
  ·exfalso
   have:=congrArg List.length q
   rw [List.length_map,dp] at this
   have:cH x.e.r = 0:=this
   omega
  refine k _ _ (s1.trans (aH.new hp)) ?_
  rw [en]
  exact ⟨p,rfl,by rw [aB,List.map_append]; rfl⟩
set_option maxHeartbeats 4000000 in
theorem gL (T:Txt w K mg c):bF P w K mg base gK 1 c.a_Results_outcome_of c.d_Results_outcome_of ["self", "entry", "name"] (uU c.c_Results c.c_Entry):=by
 refine T.Results_outcome_of.ok dS (fun vs H Q E h=>?_) (fun cdv A outer s H vs Q E hr h=>?_)
 ·obtain ⟨A,s,v,e,w,nm,rfl,_⟩:=h
  rfl
 ·obtain ⟨A,s,v,e,w,nm,rfl,rs,hv,okk,hw,k⟩:=h
  refine ⟨_,(aY (au (PW.pt (cz (dP (eV (aj (pv 1) rfl))) (cW (bh (bg (aj (pv 1) rfl))))))
    (aI (aR aQ))
    aO)
   (aE (au (dP (eV (pv 2)))
    (aI (aR aQ))
    aO)
   (aY (au (dP (fo (aj (pv 1) rfl)))
    (aE (aN (i:=3) dS.nd rfl (Or.inl rfl) (km (dU hr) (aj (pv 0) rfl) (aj (pv 1) rfl) ⟨rfl,rfl,rfl,rfl⟩))
   (aE (au (PW.pt (jz (dP (eV (pv 3))) (jz (aV kR (aj (pv 3) rfl) (aj (pv 1) rfl) (aW _)) (jM (dP (fo (aj (pv 3) rfl)))))))
    (aI (aR aQ))
    aO)
   (aI (au (aV kR (aj (pv 3) rfl) (aj (pv 1) rfl) (aW _))
    (aI (aR aQ))
    aO))))
    aO)
   (aE (au (dP (rX (dU hr) (pv 2) (aj (pv 0) rfl)))
    (aI (aR aQ))
    aO)
   (aI (aR aQ)))))),?_⟩
  obtain ⟨a,dx,rfl,ha⟩:=hv
  obtain ⟨kr,hR,pR⟩:=rs.rights
  obtain ⟨kh,hH,pH⟩:=rs.holders
  have basef:∀ b,e.b = some b → (cL e).lookup (Str.ofString "base") = some (V.int b):=fun b hb=>by show some (aq e.b) = _; rw [hb]; rfl
  have basen:e.b = none → (cL e).lookup (Str.ofString "base") = some V.bA:=fun hb=>by show some (aq e.b) = _; rw [hb]; rfl
  refine ⟨fun σ G=>σ = [some (.ref A.a),some (.ref a),some w,none] ∧ G = H ∧ ¬ (e.b = none ∧ e.k = false),?_,?_⟩
  ·cases hb:e.b with
   | some b=>exact ⟨_,rfl,a,_,dx,_,_,rfl,ha,T.cl_Entry,T.na_Entry_base,basef b hb,_,rfl,bE ⟨rfl,rfl,fun z=>nomatch z.1⟩⟩
   | none =>
    refine ⟨_,rfl,a,_,dx,_,_,rfl,ha,T.cl_Entry,T.na_Entry_base,basen hb,_,rfl,bR ?_⟩
    refine ⟨_,rfl,a,_,dx,_,_,rfl,ha,T.cl_Entry,T.na_Entry_described,rfl,?_⟩
    cases hk:e.k with
    | true=>exact ⟨_,rfl,bE ⟨rfl,rfl,fun z=>nomatch z.2⟩⟩
    | false =>
     refine ⟨_,rfl,bR ?_⟩
     have eo:iC s.r e nm = Str.ofString "undescribed" := by unfold iC; rw [if_pos ⟨hb,hk⟩]
     rw [eo] at k
     exact k
  rintro σ G ⟨rfl,rfl,hd⟩
  cases nm with
  | none =>
   obtain rfl:w = .bA:=hw
   refine ⟨_,rfl,_,rfl,bR ?_⟩
   have eo:iC s.r e none = Str.ofString "unplaced" := by unfold iC; rw [if_neg hd]
   rw [eo] at k
   exact k
  | some z =>
   obtain ⟨t,rfl,ht⟩:=hw
   refine ⟨_,rfl,_,rfl,bE ?_⟩
   refine ⟨fun σ G'=>(∃ z3,σ = [some (.ref A.a),some (.ref a),some (.ref t),z3]) ∧ G' = G ∧ iC s.r e (some z) = eW s.r z,?_,?_⟩
   ·cases hb:e.b with
    | none =>
     refine ⟨_,rfl,a,_,dx,_,_,rfl,ha,T.cl_Entry,T.na_Entry_base,basen hb,_,rfl,bE ⟨⟨_,rfl⟩,rfl,?_⟩⟩
     unfold iC
     rw [if_neg hd,hb]
    | some b =>
     refine ⟨_,rfl,a,_,dx,_,_,rfl,ha,T.cl_Entry,T.na_Entry_base,basef b hb,_,rfl,bR ?_⟩
     have eo:iC s.r e (some z) = fN s.r e b z:=by unfold iC; rw [if_neg hd,hb]
     rw [eo] at k
     refine ⟨_,rfl,A.a,_,A.dx,_,_,rfl,rs.at_,T.cl_Results,T.na_Results_rights,rfl,A.o3,rfl,.inl ⟨_,.inl hR⟩,_,rfl,a,_,dx,_,_,rfl,ha,T.cl_Entry,T.na_Entry_base,basef b hb,_,di.k (k:=Sum.inl b) hR,?_⟩
     rcases gk pR b with ⟨f1,f2⟩ | ⟨x,w,f1,f2,hx⟩
     ·rw [f2]
      refine ⟨_,rfl,_,rfl,bR ?_⟩
      have e2:fN s.r e b z = Str.ofString "baseless" := by unfold fN; rw [f1]
      rw [e2] at k
      exact k
     obtain ⟨xa,xdx,rfl,hxa⟩:=hx
     rw [f2]
     have e2:fN s.r e b z = if x.e.r ≠ e.r ∨ x.e.b ≠ none then Str.ofString "baseless" else if x.e.w ≠ e.w then Str.ofString "reworded" else eW s.r z:=by unfold fN; rw [f1]
     refine ⟨_,rfl,_,rfl,bE ?_⟩
     refine ⟨_,rfl,xa,_,xdx,_,_,rfl,hxa,T.cl_Entry,T.na_Entry_rank,rfl,_,rfl,a,_,dx,_,_,rfl,ha,T.cl_Entry,T.na_Entry_rank,rfl,rfl,_,rfl,?_⟩
     refine cE (fun y=>?_) (fun y=>?_)
     ·have y:x.e.r ≠ e.r:=fun q=>by rw [q,decide_eq_true rfl] at y; exact absurd y (by decide)
      rw [e2,if_pos (.inl y)] at k
      exact k
     have y:x.e.r = e.r:=V.str.inj (Decidable.of_not_not (p:=V.str x.e.r = V.str e.r) (fun q=>y (by rw [decide_eq_false q]; rfl)))
     cases hxb:x.e.b with
     | some b' =>
      have lx:(cL x.e).lookup (Str.ofString "base") = some (V.int b'):=by show some (aq x.e.b) = _; rw [hxb]; rfl
      refine ⟨_,rfl,xa,_,xdx,_,_,rfl,hxa,T.cl_Entry,T.na_Entry_base,lx,_,rfl,bR ?_⟩
      rw [e2,if_pos (.inr (by rw [hxb]; intro q; cases q))] at k
      exact k
     | none =>
      have lx:(cL x.e).lookup (Str.ofString "base") = some V.bA:=by show some (aq x.e.b) = _; rw [hxb]; rfl
      refine ⟨_,rfl,xa,_,xdx,_,_,rfl,hxa,T.cl_Entry,T.na_Entry_base,lx,_,rfl,bE ?_⟩
      have e3:¬ (x.e.r ≠ e.r ∨ x.e.b ≠ none):=fun q=>q.elim (fun q=>q y) (fun q=>q hxb)
      rw [if_neg e3] at e2
      refine ⟨_,rfl,xa,_,xdx,_,_,rfl,hxa,T.cl_Entry,T.na_Entry_word,rfl,_,rfl,a,_,dx,_,_,rfl,ha,T.cl_Entry,T.na_Entry_word,rfl,rfl,_,rfl,?_⟩
      refine cE (fun y2=>?_) (fun y2=>?_)
      ·have y2:x.e.w ≠ e.w:=fun q=>by rw [q,decide_eq_true rfl] at y2; exact absurd y2 (by decide)
       rw [e2,if_pos y2] at k
       exact k
      have y2:x.e.w = e.w:=V.str.inj (Decidable.of_not_not (p:=V.str x.e.w = V.str e.w) (fun q=>y2 (by rw [decide_eq_false q]; rfl)))
      refine ⟨⟨_,rfl⟩,rfl,?_⟩
      rw [eo,e2,if_neg (fun q=>q y2)]
   rintro σ G' ⟨⟨z3,rfl⟩,rfl,ea⟩
   rw [ea] at k
   have hk:=kC pH z
   refine ⟨_,rfl,_,rfl,A.a,_,A.dx,_,_,rfl,rs.at_,T.cl_Results,T.na_Results_holders,rfl,A.o4,_,rfl,di.t (k:=z.map Sum.inr) hH (by rw [ko]; exact ht),?_⟩
   rw [hk]
   unfold eW at k
   cases q:s.r.any (fun x=>decide (x.nm = z)) with
   | true =>
    rw [q,if_pos rfl] at k
    exact ⟨_,rfl,bR k⟩
   | false =>
    rw [q,if_neg (by decide)] at k
    exact ⟨_,rfl,bE k⟩
set_option maxHeartbeats 4000000 in
theorem kK (T:Txt w K mg c):bF P w K mg base gK 4 c.a_Results_put c.d_Results_put ["self", "entry"] (xZ c.c_Results c.c_Entry):=by
 refine T.Results_put.ok eN (fun vs H Q E h=>?_) (fun cdv A outer s H vs Q E hr h=>?_)
 ·obtain ⟨A,s,v,e,rfl,_⟩:=h
  rfl
 ·obtain ⟨A,s,v,e,rfl,rs,rok,hv,okk,fr,hl,k⟩:=h
  refine ⟨_,(aE (aN (i:=2) eN.nd rfl (Or.inl rfl) (mX (pv 0) T.cl_Results T.m_Results_name_of (iM T) (hr.mono (by decide)) T.bi_Results_name_of .nil ax (aA (pv 1) aC)))
   (aE (aN (i:=3) eN.nd rfl (Or.inl rfl) (mX (pv 0) T.cl_Results T.m_Results_outcome_of (gL T) (hr.mono (by decide)) T.bi_Results_outcome_of .nil ax (aA (pv 1) (aA (pv 2) aC))))
   (aE (gx (dU hr) (aj (pv 0) rfl) (aj (pv 1) rfl) (pv 3) rfl)
   (aE (gx (dU hr) (aj (pv 0) rfl) (aj (pv 1) rfl) (pv 2) rfl)
   (aE (au (aV cT (pv 3) aQ (aW _))
    (aE (gx (dU hr) (aj (pv 0) rfl) (aj (pv 1) rfl) (pv 1) rfl)
   (aI (gx (dU hr) (aj (pv 0) rfl) (pv 2) (pv 1) rfl)))
    aO)
   (aI (aR (pv 3)))))))),?_⟩
  have hv0:=hv
  obtain ⟨a,dx,rfl,ha⟩:=hv
  have sz:2000 < sizeLine:=aJ rfl
  refine ⟨_,rfl,A.a,A.dx,_,rfl,rs.at_,rfl,_,rfl,A,s,.ref a,e,rfl,rs,rok,hv0,okk,fun w G1 s1 n1=>?_⟩
  have rs1:=rs.same s1
  refine ⟨_,rfl,A.a,A.dx,_,rfl,rs1.at_,rfl,_,rfl,_,rfl,A,s,.ref a,e,w,_,rfl,rs1,hv0.same s1,okk,n1,?_⟩
  have eo:iC s.r e (bU s.r e) = df s e:=rfl
  rw [eo]
  have ha1:=s1 _ _ ha
  have fr1:uH A H G1:=aH.AH s1
  obtain ⟨r1,r2,⟨kn,r3,r4⟩,⟨kr,r5,r6⟩,⟨kh,r7,r8⟩,d12,d13,d23⟩:=rs1
  clear rs
  have d14:A.o1 ≠ A.o4:=bT r2 r7 (by intro z; cases z)
  have d24:A.o2 ≠ A.o4:=bT r3 r7 (by intro z; cases z)
  have d34:A.o3 ≠ A.o4:=bT r5 r7 (by intro z; cases z)
  have na1:A.a ≠ A.o1:=bT r1 r2 (by intro z; cases z)
  have na2:A.a ≠ A.o2:=bT r1 r3 (by intro z; cases z)
  have na3:A.a ≠ A.o3:=bT r1 r5 (by intro z; cases z)
  have na4:A.a ≠ A.o4:=bT r1 r7 (by intro z; cases z)
  have ne1:a ≠ A.o1:=bT ha1 r2 (by intro z; cases z)
  have ne2:a ≠ A.o2:=bT ha1 r3 (by intro z; cases z)
  have ne3:a ≠ A.o3:=bT ha1 r5 (by intro z; cases z)
  have lo:(gJ s).length = s.o.length:=List.length_map ..
  have ln:kn.length = s.o.length:=by rw [← Paired.length r4,← List.length_map (f:=fun p:Int × Option (List Str)=>p.1),rok.nk,List.length_map]
  have lr:s.r.length ≤ s.o.length:=by
   have h1:(s.r.map (·.e.n)).length ≤ (s.o.map (·.1)).length:=oU rok.rn fun x hx=>by
    obtain ⟨y,hy,rfl⟩:=List.mem_map.mp hx
    exact rok.sub y hy
   rw [List.length_map,List.length_map] at h1
   exact h1
  have lkr:kr.length ≤ 1000:=by rw [← Paired.length r6]; omega
  have lkh:kh.length ≤ 1000:=by rw [← Paired.length r8]; omega
  have po:putK (gJ s) (Sum.inl e.n) (.str (df s e)) = gJ (bo s e):=by
   rw [fj (qX fr)]
   show _ = (s.o ++ [(e.n,df s e)]).map _
   rw [List.map_append]
   rfl
  refine ⟨_,rfl,_,rfl,A.a,_,A.dx,_,_,rfl,r1,T.cl_Results,T.na_Results_outs,rfl,_,rfl,a,_,dx,_,_,rfl,ha1,T.cl_Entry,T.na_Entry_number,rfl,A.o1,_,rfl,jf.k (k:=Sum.inl e.n) r2 (by omega),?_⟩
  rw [po]
  have f2:∀ b u,b ≠ A.o1 → G1 b = some u → upd G1 A.o1 (.dK (gJ (bo s e))) b = some u:=fun b u nb hb=>by rw [aK nb]; exact hb
  have g2:upd G1 A.o1 (.dK (gJ (bo s e))) A.o1 = some (.dK (gJ (bo s e))):=aB
  generalize upd G1 A.o1 (.dK (gJ (bo s e))) = G2 at f2 g2 ⊢
  have nn:bS kn (Sum.inl e.n) = none:=o9 r4 (by rw [rok.nk]; exact fr)
  refine ⟨_,rfl,_,rfl,A.a,_,A.dx,_,_,rfl,f2 _ _ na1 r1,T.cl_Results,T.na_Results_names,rfl,_,rfl,a,_,dx,_,_,rfl,f2 _ _ ne1 ha1,T.cl_Entry,T.na_Entry_number,rfl,A.o2,_,rfl,jf.k (k:=Sum.inl e.n) (f2 _ _ d12.symm r3) (by omega),?_⟩
  rw [fj nn]
  have f3:∀ b u,b ≠ A.o1 → b ≠ A.o2 → G1 b = some u → upd G2 A.o2 (.dK (kn ++ [(Sum.inl e.n,w)])) b = some u:=fun b u n1 n2 hb=>by rw [aK n2]; exact f2 b u n1 hb
  have g3:upd G2 A.o2 (.dK (kn ++ [(Sum.inl e.n,w)])) A.o2 = some (.dK (kn ++ [(Sum.inl e.n,w)])):=aB
  have g3':upd G2 A.o2 (.dK (kn ++ [(Sum.inl e.n,w)])) A.o1 = some (.dK (gJ (bo s e))):=by rw [aK d12]; exact g2
  generalize upd G2 A.o2 (.dK (kn ++ [(Sum.inl e.n,w)])) = G3 at f3 g3 g3' ⊢
  have tups:∀ G':Hp,(∀ b u,b ≠ A.o1 → b ≠ A.o2 → b ≠ A.o3 → b ≠ A.o4 → G1 b = some u → G' b = some u) → ∀ t xs,G1 t = some (.tup xs) → G' t = some (.tup xs):=fun G' h t xs ht=>h t _ (bT ht r2 (by intro z; cases z)) (bT ht r3 (by intro z; cases z)) (bT ht r5 (by intro z; cases z)) (bT ht r7 (by intro z; cases z)) ht
  have inss:∀ G':Hp,(∀ b u,b ≠ A.o1 → b ≠ A.o2 → b ≠ A.o3 → b ≠ A.o4 → G1 b = some u → G' b = some u) → ∀ t C dx fs,G1 t = some (.ins C dx fs) → G' t = some (.ins C dx fs):=fun G' h t C dx fs ht=>h t _ (bT ht r2 (by intro z; cases z)) (bT ht r3 (by intro z; cases z)) (bT ht r5 (by intro z; cases z)) (bT ht r7 (by intro z; cases z)) ht
  have names':∀ G':Hp,(∀ b u,b ≠ A.o1 → b ≠ A.o2 → b ≠ A.o3 → b ≠ A.o4 → G1 b = some u → G' b = some u) → Paired (qA G') (bo s e).n (kn ++ [(Sum.inl e.n,w)]):=fun G' h=>Paired.snoc (Paired.fG r4 fun x q z=>⟨z.1,z.2.same (tups G' h)⟩) ⟨rfl,n1.same (tups G' h)⟩
  refine ⟨_,rfl,rfl,_,rfl,?_⟩
  refine cE (fun z=>?_) (fun z=>?_)
  ·have z:df s e = Str.ofString "right" := V.str.inj (of_decide_eq_true z)
   obtain ⟨nm,hnm,hno,_⟩:=kc z
   rw [hnm] at n1
   obtain ⟨t,rfl,ht⟩:=n1
   have er:(bo s e).r = s.r ++ [⟨e,nm⟩]:=by
    show (if df s e = Str.ofString "right" then s.r ++ [⟨e,(bU s.r e).getD []⟩] else s.r) = _
    rw [if_pos z,hnm]
    rfl
   have nr:bS kr (Sum.inl e.n) = none:=by
    rcases gk r6 e.n with ⟨_,q⟩ | ⟨x,v,q,_⟩
    ·exact q
    ·obtain ⟨q1,q2⟩:=eF q
     exact absurd (q2 ▸ rok.sub x q1) fr
   have nh:bS kh (nm.map Sum.inr) = none:=by
    have:=kC r8 nm
    rw [hno] at this
    cases q:bS kh (nm.map Sum.inr) with
    | none=>rfl
    | some v=>rw [q] at this; cases this
   refine ⟨_,rfl,_,rfl,A.a,_,A.dx,_,_,rfl,f3 _ _ na1 na2 r1,T.cl_Results,T.na_Results_rights,rfl,_,rfl,a,_,dx,_,_,rfl,f3 _ _ ne1 ne2 ha1,T.cl_Entry,T.na_Entry_number,rfl,A.o3,_,rfl,jf.k (k:=Sum.inl e.n) (f3 _ _ d13.symm d23.symm r5) (by omega),?_⟩
   rw [fj nr]
   have f4:∀ b u,b ≠ A.o1 → b ≠ A.o2 → b ≠ A.o3 → G1 b = some u → upd G3 A.o3 (.dK (kr ++ [(Sum.inl e.n,.ref a)])) b = some u:=fun b u n1 n2 n3 hb=>by rw [aK n3]; exact f3 b u n1 n2 hb
   have g4:upd G3 A.o3 (.dK (kr ++ [(Sum.inl e.n,.ref a)])) A.o3 = some (.dK (kr ++ [(Sum.inl e.n,.ref a)])):=aB
   have g4':upd G3 A.o3 (.dK (kr ++ [(Sum.inl e.n,.ref a)])) A.o1 = some (.dK (gJ (bo s e))):=by rw [aK d13]; exact g3'
   have g4'':upd G3 A.o3 (.dK (kr ++ [(Sum.inl e.n,.ref a)])) A.o2 = some (.dK (kn ++ [(Sum.inl e.n,.ref t)])):=by rw [aK d23]; exact g3
   generalize upd G3 A.o3 (.dK (kr ++ [(Sum.inl e.n,.ref a)])) = G4 at f4 g4 g4' g4'' ⊢
   have nt:∀ b xs,G1 b = some (.tup xs) → G4 b = some (.tup xs):=fun b xs hb=>f4 b _ (bT hb r2 (by intro z; cases z)) (bT hb r3 (by intro z; cases z)) (bT hb r5 (by intro z; cases z)) hb
   refine ⟨_,rfl,_,rfl,A.a,_,A.dx,_,_,rfl,f4 _ _ na1 na2 na3 r1,T.cl_Results,T.na_Results_holders,rfl,_,rfl,A.o4,_,rfl,jf.t (k:=nm.map Sum.inr) (f4 _ _ d14.symm d24.symm d34.symm r7) (by rw [ko]; exact nt _ _ ht) (by omega),?_⟩
   rw [fj nh]
   have f5:∀ b u,b ≠ A.o1 → b ≠ A.o2 → b ≠ A.o3 → b ≠ A.o4 → G1 b = some u → upd G4 A.o4 (.dT (kh ++ [(nm.map Sum.inr,.ref a)])) b = some u:=fun b u n1 n2 n3 n4 hb=>by rw [aK n4]; exact f4 b u n1 n2 n3 hb
   refine ⟨_,rfl,k _ (fr1.trans f5) ⟨f5 _ _ na1 na2 na3 na4 r1,by rw [aK d14]; exact g4',⟨_,by rw [aK d24]; exact g4'',names' _ f5⟩,⟨_,by rw [aK d34]; exact g4,?_⟩,⟨_,aB,?_⟩,d12,d13,d23⟩⟩
   ·rw [er]
    exact Paired.snoc (Paired.fG r6 fun x q z=>⟨z.1,z.2.keep fun t dx fs h=>inss _ f5 t _ dx fs h⟩) ⟨rfl,a,dx,rfl,inss _ f5 _ _ _ _ ha1⟩
   ·rw [er]
    exact Paired.snoc (Paired.fG r8 fun x q z=>⟨z.1,z.2.keep fun t dx fs h=>inss _ f5 t _ dx fs h⟩) ⟨rfl,a,dx,rfl,inss _ f5 _ _ _ _ ha1⟩
  ·have z:¬ df s e = Str.ofString "right" := fun q=>z (decide_eq_true (congrArg V.str q))
   have er:(bo s e).r = s.r:=by
    show (if df s e = Str.ofString "right" then s.r ++ [⟨e,(bU s.r e).getD []⟩] else s.r) = _
    rw [if_neg z]
   have f5:∀ b u,b ≠ A.o1 → b ≠ A.o2 → b ≠ A.o3 → b ≠ A.o4 → G1 b = some u → G3 b = some u:=fun b u n1 n2 n3 n4 hb=>f3 b u n1 n2 hb
   refine ⟨_,rfl,k _ (fr1.trans f5) ⟨f3 _ _ na1 na2 r1,g3',⟨_,g3,names' _ f5⟩,⟨kr,f3 _ _ d13.symm d23.symm r5,?_⟩,⟨kh,f3 _ _ d14.symm d24.symm r7,?_⟩,d12,d13,d23⟩⟩
   ·rw [er]
    exact Paired.fG r6 fun x q z=>⟨z.1,z.2.keep fun t dx fs h=>inss _ f5 t _ dx fs h⟩
   ·rw [er]
    exact Paired.fG r8 fun x q z=>⟨z.1,z.2.keep fun t dx fs h=>inss _ f5 t _ dx fs h⟩
set_option maxHeartbeats 4000000 in
theorem lD (T:Txt w K mg c):bF P w K mg base gK 5 c.a_results_of c.d_results_of ["book"] (nF c.c_Results c.c_Entry):=by
 refine T.results_of.fn.ok fF (fun vs H Q E h=>?_) (fun cdv A outer s H vs Q E hr h=>?_)
 ·obtain ⟨l,ws,es,rfl,_⟩:=h
  rfl
 ·obtain ⟨l,ws,es,rfl,hL,hE,okk,nd,hz,k⟩:=h
  refine ⟨_,(aE (aN (i:=1) fF.nd rfl (Or.inl rfl) (rm T.mk_Results (j9 T) (hr.mono (by decide)) rfl T.mg_Results T.bi_Results_init .nil ax))
   (aE (eX PassesOwn.never rfl (cZ (pv 0)) (ag (i:=2) fF.nd rfl (Or.inl rfl))
    (aI (cS (mX (pv 1) T.cl_Results T.m_Results_put (kK T) (hr.mono (by decide)) T.bi_Results_put .nil ax (aA (pv 2) aC)))))
   (aI (aR (pv 1))))),?_⟩
  have sz:2000 < sizeLine:=aJ rfl
  refine fun x dx hx hdx ndx=>⟨x,dx,rfl,aB,fun A G1 ea ed f1 rs h1 h2 h3 h4=>⟨rfl,?_⟩⟩
  subst ea ed
  have up:∀ {b:Addr},upd (upd H A.dx (.own A.a)) A.a (.ins c.c_Results A.dx []) b = none → H b = none:=fun {b} hb=>by
   have nb:b ≠ A.a:=fun z=>by rw [z,aB] at hb; cases hb
   rw [aK nb] at hb
   have nd:b ≠ A.dx:=fun z=>by rw [z,aB] at hb; cases hb
   rw [aK nd] at hb
   exact hb
  have s1:aH H G1:=fun b u hb=>f1 b u (aM hb hx) (by rw [aK (aM hb hx),aK (aM hb hdx)]; exact hb)
  have eZ:∀ {G G':Hp},aH H G → uH A G G' → aH H G':=fun {G G'} s f b u hb=>f b u (aM hb (up h1)) (aM hb (up h2)) (aM hb (up h3)) (aM hb (up h4)) (s b u hb)
  refine ⟨_,rfl,l,rfl,⟨_,ao.of (s1 _ _ hL)⟩,?_⟩
  refine gR (xs:=ws) (fun i σ G=>aH H G ∧ (∃ z,σ = [some (.ref l),some (.ref A.a),z]) ∧ gH G c.c_Results c.c_Entry A (aw (es.take i))) ⟨s1,⟨_,rfl⟩,rs⟩ ?_ ?_ ?_
  ·rintro i σ G _ ⟨sG,_⟩
   exact ao.of (sG _ _ hL)
  ·rintro i v σ G hv ⟨sG,⟨z,rfl⟩,rs⟩
   have hi:i < ws.length:=(List.getElem?_eq_some_iff.mp hv).1
   have hie:i < es.length:=by rw [← hE.1]; exact hi
   have ee:es[i]? = some es[i]:=List.getElem?_eq_getElem hie
   have rok:=m4 okk nd i (by omega)
   refine ⟨_,rfl,A.a,A.dx,_,rfl,rs.at_,rfl,_,rfl,A,_,v,es[i],rfl,rs,rok,(hE.2 i v _ hv ee).same sG,okk _ (List.getElem_mem hie),?_,?_,fun G' fr rs'=>?_⟩
   ·rw [eG]
    intro z
    have:=nd
    have e2:es.map (·.n) = (es.take i).map (·.n) ++ es[i].n :: (es.drop (i + 1)).map (·.n):=by
     rw [← List.map_cons,List.getElem_cons_drop,← List.map_append,List.take_append_drop]
    rw [e2,List.nodup_append] at this
    exact this.2.2 _ z _ (List.mem_cons_self ..) rfl
   ·rw [← List.length_map (f:=fun p:Int × Str=>p.1),eG,List.length_map,List.length_take]
    omega
   ·refine ⟨eZ sG fr,⟨_,rfl⟩,?_⟩
    rw [take_one ee,h7]
    exact rs'
  ·rintro σ G ⟨sG,⟨z,rfl⟩,rs⟩
   rw [hE.1,List.take_of_length_le (Nat.le_refl _)] at rs
   exact ⟨_,rfl,k A G sG rs hx (up h1) (up h2) (up h3) (up h4)⟩
set_option maxHeartbeats 4000000 in
theorem lB (T:Txt w K mg c):bF P w K mg base gK 1 c.a_can_follow c.d_can_follow ["results", "ahead_of_it", "thing"] (tS K c.c_Results c.c_Entry c.c_Act):=by
 refine T.can_follow.fn.ok iI (fun vs H Q E h=>?_) (fun cdv A outer s H vs Q E hr h=>?_)
 ·obtain ⟨A_,s_,fl,fa,ds,th,rfl,_⟩:=h
  rfl
 ·obtain ⟨A_,s_,fl,fa,ds,th,rfl,rs,hfl,hA,hth⟩:=h
  refine ⟨_,(aE (au (bh (bg (aZ bf rfl T.no_isinstance aa (aA (pv 2) (aA (bw (v:=.ref c.c_Act) rfl T.mg_Act rfl) aC)))))
    (aI (aR cN))
    aO)
   (aY (au (PW.pt (cz (nI (pv 1) (fun _=>rfl)) (cW (aV rK (aj (pv 2) rfl) (aj (ae af (pv 1) (p9 m7 aD) (fun _ _=>rfl)) rfl) (aW _)))))
    (aI (aR cN))
    aO)
   (aE (aN (i:=3) iI.nd rfl (Or.inl rfl) (km (dU hr) (aj (pv 0) rfl) (aj (pv 2) rfl) ⟨rfl,rfl,rfl,rfl⟩))
   (aI (aR (dI (jC (fo (pv 3))) (dI (jC (eV (aj (pv 3) rfl))) (eR (cK kU (aj (pv 3) rfl) (aj (pv 2) rfl) (aW _)))))))))),?_⟩
  rcases hth with ⟨⟨tn,ty,kn⟩,k⟩ | ⟨x,⟨a,dx,rfl,ha⟩,k⟩
  ·exact ⟨_,rfl,bH.zl ty kn ⟨_,rfl,bR k⟩⟩
  refine ⟨_,rfl,bH.ins ha T.cl_Act T.w_Act T.ws_Act ⟨_,rfl,bE ?_⟩⟩
  have k:Q (.bl (gA ds x && gC s_.r x)) H:=k
  have lf:=hA.1
  refine ⟨fun σ' G'=>H = G' ∧ gA ds x = true ∧ σ' = [some (.ref A_.a),some (.ref fl),some (.ref a),none],?_,?_⟩
  ·by_cases e0:fa = []
   ·subst e0
    have d0:ds = []:=List.eq_nil_of_length_eq_zero lf.symm
    subst d0
    exact ⟨_,rfl,false,.inl ⟨_,ao.of hfl,rfl⟩,bE ⟨rfl,rfl,rfl⟩⟩
   ·have dne:ds ≠ []:=fun z=>e0 (List.eq_nil_of_length_eq_zero (by rw [lf,z]; rfl))
    obtain ⟨f0,fv,rfl⟩:∃ f0 fv,fa = f0 ++ [fv]:=⟨_,_,(List.dropLast_concat_getLast e0).symm⟩
    obtain ⟨d0,dv,rfl⟩:∃ d0 dv,ds = d0 ++ [dv]:=⟨_,_,(List.dropLast_concat_getLast dne).symm⟩
    have l0:f0.length = d0.length:=by
     rw [List.length_append,List.length_append] at lf
     exact Nat.succ.inj lf
    obtain ⟨fva,fdx,rfl,hfv⟩:=hA.2 f0.length fv dv (by simp) (by rw [l0]; simp)
    have eL:gA (d0 ++ [dv]) x = decide (dv.d ≤ x.d):=by unfold gA; rw [List.getLast?_append]; rfl
    rw [eL] at k ⊢
    refine ⟨_,rfl,true,.inl ⟨_,ao.of hfl,by cases f0 <;> rfl⟩,bR ?_⟩
    refine ⟨_,rfl,a,_,dx,_,_,rfl,ha,T.cl_Act,T.na_Act_day,rfl,?_⟩
    walk_at "rd"
    refine ⟨fl,_,_,_,rfl,rfl,ao.of hfl,kY _ _,fva,_,fdx,_,_,rfl,hfv,T.cl_Act,T.na_Act_day,rfl,_,_,rfl,rfl,_,rfl,?_⟩
    refine cE (fun h=>?_) (fun h=>?_)
    ·have h:=of_decide_eq_true h
     rw [decide_eq_false (by omega)] at k
     exact k
    ·have h:¬ x.d < dv.d:=fun z=>h (decide_eq_true z)
     exact ⟨rfl,decide_eq_true (by omega),rfl⟩
  rintro σ G ⟨rfl,h1,rfl⟩
  rw [h1,Bool.true_and] at k
  unfold gC at k
  obtain ⟨kr,hR,pR⟩:=rs.rights
  refine ⟨_,rfl,A_.a,_,A_.dx,_,_,rfl,rs.at_,T.cl_Results,T.na_Results_rights,rfl,A_.o3,rfl,.inl ⟨_,.inl hR⟩,_,rfl,a,_,dx,_,_,rfl,ha,T.cl_Act,T.na_Act_number,rfl,_,di.k (k:=Sum.inl x.n) hR,?_⟩
  rcases gk pR x.n with ⟨f1,f2⟩ | ⟨y,v,f1,f2,hy⟩
  ·rw [f2]
   rw [f1] at k
   exact ⟨_,rfl,_,rfl,bE k⟩
  ·obtain ⟨ya,ydx,rfl,hya⟩:=hy
   rw [f2]
   rw [f1] at k
   have k:Q (.bl (decide (y.e.b = none) && decide (y.e.d ≤ x.d))) H:=k
   have lb:(cL y.e).lookup (Str.ofString "base") = some (aq y.e.b):=rfl
   refine ⟨_,rfl,_,rfl,bR ?_⟩
   refine ⟨_,rfl,ya,_,ydx,_,_,rfl,hya,T.cl_Entry,T.na_Entry_base,lb,_,rfl,?_⟩
   cases hb:y.e.b with
   | some b=>rw [hb] at k; exact bE k
   | none =>
    rw [hb] at k
    refine bR ?_
    exact ⟨_,rfl,ya,_,ydx,_,_,rfl,hya,T.cl_Entry,T.na_Entry_day,rfl,_,rfl,a,_,dx,_,_,rfl,ha,T.cl_Act,T.na_Act_day,rfl,_,_,rfl,rfl,k⟩
set_option maxHeartbeats 4000000 in
theorem ma (T:Txt w K mg c):bF P w K mg base (jr P w) 3 c.a_acts_with c.d_acts_with ["results", "acts"] (oY K c.c_Results c.c_Entry c.c_Act c.c_NoAct):=by
 refine T.acts_with.fn.uI eA (fun vs H Q E h=>?_) (fun cdv A outer s H vs Q E hr h=>?_)
 ·obtain ⟨A_,s_,v,rfl,_⟩:=h
  rfl
 ·obtain ⟨A_,s_,v,rfl,rs,h0⟩:=h
  refine ⟨_,(aE (au (bh (bg (aZ bf rfl T.no_isinstance aa (aA (pv 1) (aA (eC (v:=.ty "list") rfl T.no_list i5 rfl) aC)))))
    (aI (jA T.x_NoAct (fO T) (hr.mono (by decide)) rfl rfl T.mg_NoAct T.b_NoAct_2 mT (aA aQ (aA aD aC))))
    aO)
   (aE (aN (i:=2) eA.nd rfl (Or.inl rfl) (bB aC))
   (aE (eX pZ rfl (vV rfl T.no_enumerate (aA (pv 1) aC)) (jB rfl (bN (ag (i:=3) eA.nd rfl (Or.inl rfl)) (bN (ag (i:=4) eA.nd rfl (Or.inl rfl)) gy)))
    (aE (au (bh (bg (aT (lB T) (hr.mono (by decide)) rfl T.can_follow.mgf T.can_follow.kp T.can_follow.bi .nil ax (aA (pv 0) (aA (pv 2) (aA (pv 4) aC))))))
    (aI (jA T.x_NoAct (fO T) (hr.mono (by decide)) rfl rfl T.mg_NoAct T.b_NoAct_2 mT (aA aQ (aA (pv 3) aC))))
    aO)
   (aI (cS (iU PySem.F.plainAttrs_list PySem.F.slot_list_append PySem.F.type_list_append (mR.r dC) (pv 2) (aA (pv 4) aC))))))
   (aI (aR (pv 2)))))),?_⟩
  have sz:2000 < sizeLine:=aJ rfl
  have key:(∃ p,p = 0 ∧ h8 K H v ∧ ∀ x H',aH H H' → H' x = some (.xd [("place",.int ((p:Nat):Int))]) → E (.ref c.c_NoAct) (some x) H') ∨ ∃ l ws ds,v = .ref l ∧ H l = some (.lst ws) ∧ ws.length ≤ 1000 ∧ d6 H c.c_Act (ws.take ds.length) ds ∧ rR s_.r ds ∧ ((ds.length = ws.length ∧ ∀ q H',aH H H' → H q = none → H' q = some (.lst ws) → Q (.ref q) H') ∨ ∃ u,ws[ds.length]? = some u ∧ oS K H c.c_Act s_.r ds u ∧ ∀ x H',aH H H' → H' x = some (.xd [("place",.int (ds.length:Int))]) → E (.ref c.c_NoAct) (some x) H'):=by
   rcases h0 with ⟨ws,ds,⟨l,e,h1,h2,h3,h4⟩,k⟩ | ⟨p,⟨l,ws,ds,u,e,h1,h2,h3,h4,h5,h6⟩ | ⟨h1,h2⟩,k⟩
   ·exact .inr ⟨l,ws,ds,e,h1,h2,by rw [← h3.1,List.take_of_length_le (Nat.le_refl _)]; exact h3,h4,.inl ⟨h3.1.symm,k⟩⟩
   ·have pl:=(List.getElem?_eq_some_iff.mp h3).1
    have dl:ds.length = p:=by
     rw [← h4.1,List.length_take]
     omega
    subst dl
    exact .inr ⟨l,ws,ds,e,h1,h2,h4,h5,.inr ⟨u,h3,h6,k⟩⟩
   ·exact .inl ⟨p,h1,h2,k⟩
  rcases key with ⟨p,rfl,⟨tn,ty,kn⟩,k⟩ | ⟨l,ws,ds,rfl,hl,lws,hA,hF,h2⟩
  ·exact ⟨_,rfl,bH.ty ty kn ⟨_,rfl,bR ⟨rfl,aJ rfl,mS fun x G sG hx=>k x G sG hx⟩⟩⟩
  refine ⟨_,rfl,bH.ty (.lst hl) rfl ⟨_,rfl,bE ?_⟩⟩
  refine ⟨aJ rfl,fun q hq=>?_⟩
  have s0:=aH.new (o:=HO.lst []) hq
  have k0:=aB (H:=H) (a:=q) (o:=.lst [])
  generalize upd H q (.lst []) = G0 at s0 k0 ⊢
  refine ⟨_,rfl,l,rfl,⟨_,ao.of (s0 _ _ hl)⟩,?_⟩
  refine sg (xs:=ws) (fun i σ G=>aH H G ∧ G q = some (.lst (ws.take i)) ∧ i ≤ ds.length ∧ ∃ z3 z4,σ = [some (.ref A_.a),some (.ref l),some (.ref q),z3,z4]) ?_ ?_ ?_ ?_
  ·exact ⟨s0,k0,Nat.zero_le _,_,_,rfl⟩
  ·rintro i σ G _ ⟨sG,_⟩
   exact ao.of (sG _ _ hl)
  ·rintro i u σ G tt hu ⟨sG,hq1,hi,z3,z4,rfl⟩ htt
   have t1:=aH.new (o:=HO.tup [V.int i,u]) htt
   have k1:=aB (H:=G) (a:=tt) (o:=.tup [V.int i,u])
   have hq2:=t1 _ _ hq1
   have sG:=sG.trans t1
   generalize upd G tt (.tup [V.int i,u]) = G1 at t1 k1 hq2 sG ⊢
   have il:=(List.getElem?_eq_some_iff.mp hu).1
   refine ⟨tt,_,rfl,bz.of k1,rfl,?_⟩
   walk_at "rd"
   have part:d6 H c.c_Act (ws.take i) (ds.take i):=by
    refine ⟨by rw [List.length_take,List.length_take]; omega,fun j w y h3 h4=>?_⟩
    have jl:j < i:=by
     have:=(List.getElem?_eq_some_iff.mp h3).1
     rw [List.length_take] at this
     omega
    rw [List.getElem?_take_of_lt jl] at h3 h4
    exact hA.2 j w y (by rw [List.getElem?_take_of_lt (by omega)]; exact h3) h4
   by_cases lt:i < ds.length
   ·have ed:ds[i]? = some ds[i]:=List.getElem?_eq_getElem lt
    have hx:ij H c.c_Act u ds[i]:=hA.2 i u _ (by rw [List.getElem?_take_of_lt lt]; exact hu) ed
    have fx:=hF i _ ed
    refine ⟨A_,s_,q,ws.take i,ds.take i,u,rfl,rs.same sG,hq2,part.same sG,.inr ⟨ds[i],hx.same sG,_,rfl,?_⟩⟩
    rw [fx]
    refine bE ?_
    refine ⟨_,rfl,.inl ⟨rfl,_,ao.of hq2⟩,_,rfl,q,_,_,rfl,rfl,hq2,by rw [List.length_take]; omega,cO hq sG,by rw [aB,take_one hu],by omega,_,_,rfl⟩
   ·have il2:i = ds.length:=by omega
    subst il2
    rw [List.take_of_length_le (Nat.le_refl _)] at part
    rcases h2 with ⟨e,_⟩ | ⟨u',hu',bad,k⟩
    ·omega
    rw [hu] at hu'
    cases hu'
    rcases bad with na | ⟨x,hx,fx⟩
    ·exact ⟨A_,s_,q,ws.take ds.length,ds,u,rfl,rs.same sG,hq2,part.same sG,.inl ⟨na.same sG,_,rfl,bR ⟨_,rfl,rfl,aJ rfl,mS fun x G sG' hx=>k x G (sG.trans sG') hx⟩⟩⟩
    ·refine ⟨A_,s_,q,ws.take ds.length,ds,u,rfl,rs.same sG,hq2,part.same sG,.inr ⟨x,hx.same sG,_,rfl,?_⟩⟩
     rw [fx]
     exact bR ⟨_,rfl,rfl,aJ rfl,mS fun x G sG' hx=>k x G (sG.trans sG') hx⟩
  ·rintro σ G ⟨sG,hq1,hi,z3,z4,rfl⟩
   rw [List.take_of_length_le (Nat.le_refl _)] at hq1
   rcases h2 with ⟨e,k⟩ | ⟨u,hu,_⟩
   ·exact ⟨_,rfl,k q G sG hq hq1⟩
   ·have:=(List.getElem?_eq_some_iff.mp hu).1
    omega
set_option maxHeartbeats 4000000 in
theorem gP (T:Txt w K mg c):bF P w K mg base (jr P w) 6 c.a_act_list c.d_act_list ["entries", "acts"] (qw K c.c_Entry c.c_Act c.c_NoBook c.c_NoAct):=by
 refine T.act_list.fn.uI nj (fun vs H Q E h=>?_) (fun cdv A outer s H vs Q E hr h=>?_)
 ·obtain ⟨x,v,rfl,_⟩:=h
  rfl
 ·obtain ⟨x,v,rfl,h0⟩:=h
  refine ⟨_,(aI (aR (dk (ma T) (hr.mono (by decide)) rfl T.acts_with.mgf T.acts_with.kp T.acts_with.bi .nil iX (aA (aT (lD T) (hr.mono (by decide)) rfl T.results_of.mgf T.results_of.kp T.results_of.bi .nil ax (aA (dk (mj T) (hr.mono (by decide)) rfl T.book_list.mgf T.book_list.kp T.book_list.bi .nil iX (aA (pv 0) aC)) aC)) (aA (pv 1) aC))))),?_⟩
  rcases h0 with ⟨bad,k⟩ | ⟨es,gb,h0⟩
  ·refine ⟨_,rfl,x,rfl,?_⟩
   rcases bad with ⟨l,ws,is,rfl,hL,hI,hz,hb⟩ | ⟨n,ty,hn⟩
   ·exact .inl ⟨l,ws,is,rfl,hL,hI,hz,fun h=>absurd (hb.symm.trans h) (by decide),fun _ G sG=>k G sG⟩
   ·exact .inr ⟨n,ty,hn,fun G sG=>k G sG⟩
  obtain ⟨l,ws,rfl,hL,hE,ok,hz,hb⟩:=gb
  obtain ⟨nd,_⟩:=jh hb
  refine ⟨_,rfl,_,rfl,.inl ⟨l,ws,es.map some,rfl,hL,hE.ai,hz,fun _ q G sG hq hq2=>?_,fun h=>absurd (hb.symm.trans h) (by decide)⟩⟩
  refine ⟨q,ws,es,rfl,hq2,hE.same sG,ok,nd,hz,fun A G' sG' rs fa f1 f2 f3 f4=>?_⟩
  have s2:=sG.trans sG'
  refine ⟨_,rfl,A,aw es,v,rfl,rs,?_⟩
  rcases h0 with ⟨ws',ds,ga,k⟩ | ⟨p,ba,k⟩
  ·exact .inl ⟨ws',ds,ga.same s2,fun q' H' s1 f h=>k q' H' (s2.trans s1) (s2.free f) h⟩
  ·exact .inr ⟨p,ba.same s2,fun x H' s1 hx=>k x H' (s2.trans s1) hx⟩
set_option maxHeartbeats 4000000 in
theorem n5 (T:Txt w K mg c):bF P w K mg base gK 1 c.a_Lsame c.d_Lsame ["_law_found", "_law_acts_here"] (rC c.c_Act):=by
 refine T.Lsame.fn.ok jv (fun vs H Q E h=>?_) (fun cdv A outer s H vs Q E hr h=>?_)
 ·obtain ⟨a,b,ws,ds,rfl,_⟩:=h
  rfl
 ·obtain ⟨a,b,ws,ds,rfl,ha,hb,hA,k⟩:=h
  refine ⟨_,(aE (au (PW.pt (jz (bh (bg (aZ bf rfl T.no_isinstance aa (aA (pv 0) (aA (eC (v:=.ty "list") rfl T.no_list i5 rfl) aC))))) (jM (aV kR (aZ bD rfl T.no_len dN (aA (pv 0) aC)) (aZ bD rfl T.no_len dN (aA (pv 1) aC)) (aW _)))))
    (aI (aR cN))
    aO)
   (aE (eX PassesOwn.never rfl (wD rfl T.no_zip (aA (pv 0) (aA (pv 1) aC))) (jB rfl (bN (ag (i:=2) jv.nd rfl (Or.inl rfl)) (bN (ag (i:=3) jv.nd rfl (Or.inl rfl)) gy)))
    (aI (au (PW.pt (jz (bh (bg (aZ bf rfl T.no_isinstance aa (aA (pv 2) (aA (bw (v:=.ref c.c_Act) rfl T.mg_Act rfl) aC))))) (jM (aV (gY (iO hr)) (bB (aA (aj (pv 2) rfl) (aA (aj (pv 2) rfl) (aA (aj (pv 2) rfl) aC)))) (bB (aA (aj (pv 3) rfl) (aA (aj (pv 3) rfl) (aA (aj (pv 3) rfl) aC)))) (aW _)))))
    (aI (aR cN))
    aO)))
   (aI (aR cN)))),?_⟩
  refine ⟨_,rfl,bH.ty (.lst ha) rfl ⟨_,rfl,bE ?_⟩⟩
  refine ⟨_,rfl,a,_,rfl,.inl (ao.of ha),_,rfl,b,_,rfl,.inl (ao.of hb),rfl,_,rfl,?_⟩
  refine cE (fun z=>?_) (fun _=>?_)
  ·exfalso
   rw [decide_eq_true rfl] at z
   exact absurd z (by decide)
  refine ⟨_,rfl,_,rfl,a,b,rfl,⟨_,ao.of ha⟩,⟨_,ao.of hb⟩,?_⟩
  refine vU (xs:=ws) (ys:=ws) (fun i σ G=>(∃ z2 z3,σ = [some (.ref a),some (.ref b),z2,z3]) ∧ aH H G) ⟨⟨_,_,rfl⟩,aH.refl H⟩ ?_ ?_ ?_
  ·rintro i σ G _ ⟨_,sG⟩
   exact ⟨ao.of (sG _ _ ha),ao.of (sG _ _ hb)⟩
  ·rintro i x y T' σ G hx hy ⟨⟨z2,z3,rfl⟩,sG⟩ hT
   rw [hx] at hy
   cases hy
   have hi:i < ws.length:=(List.getElem?_eq_some_iff.mp hx).1
   have lw:=hA.1
   have ee:ds[i]? = some ds[i]:=List.getElem?_eq_getElem (by omega)
   obtain ⟨xa,dx,rfl,hxa⟩:=hA.2 i x _ hx ee
   have s1:=sG.trans (aH.new (o:=HO.tup [.ref xa,.ref xa]) hT)
   refine ⟨T',_,rfl,bz.of aB,rfl,_,_,rfl,_,_,rfl,rfl,?_⟩
   generalize upd G T' (.tup [.ref xa,.ref xa]) = G1 at s1
   have h1:=s1 _ _ hxa
   generalize ds[i] = z at h1
   refine ⟨_,rfl,bH.ins h1 T.cl_Act T.w_Act T.ws_Act ⟨_,rfl,bE ?_⟩⟩
   refine ⟨_,rfl,xa,_,dx,_,_,rfl,h1,T.cl_Act,T.na_Act_day,rfl,_,rfl,xa,_,dx,_,_,rfl,h1,T.cl_Act,T.na_Act_deed,rfl,_,rfl,xa,_,dx,_,_,rfl,h1,T.cl_Act,T.na_Act_number,rfl,aJ rfl,fun q1 hq1=>?_⟩
   have u1:=aH.new (o:=HO.lst [.int z.d,.str z.z,.int z.n]) hq1
   have h2:=u1 _ _ h1
   refine ⟨_,rfl,xa,_,dx,_,_,rfl,h2,T.cl_Act,T.na_Act_day,rfl,_,rfl,xa,_,dx,_,_,rfl,h2,T.cl_Act,T.na_Act_deed,rfl,_,rfl,xa,_,dx,_,_,rfl,h2,T.cl_Act,T.na_Act_number,rfl,aJ rfl,fun q2 hq2=>?_⟩
   have u2:=aH.new (o:=HO.lst [.int z.d,.str z.z,.int z.n]) hq2
   exact ⟨0,true,by decide,pz (xs:=[.int z.d,.str z.z,.int z.n]) (u2 _ _ aB) aB rfl,_,rfl,bE ⟨⟨_,_,rfl⟩,s1.trans (u1.trans u2)⟩⟩
  ·rintro σ G ⟨_,sG⟩
   exact k G sG
set_option maxHeartbeats 4000000 in
theorem gi (T:Txt w K mg c):bF P w K mg base gK 7 c.a_Lrefused c.d_Lrefused ["_law_entries_here", "_law_acts_here"] (uZ K c.c_Entry c.c_Act):=by
 refine T.Lrefused.fn.ok dh (fun vs H Q E h=>?_) (fun cdv A outer s H vs Q E hr h=>?_)
 ·obtain ⟨b,v,t,p,rfl,_⟩:=h
  rfl
 ·obtain ⟨b,v,t,p,rfl,hw,k⟩:=h
  refine ⟨_,(aE (aN (i:=2) dh.nd rfl (Or.inl rfl) (bB aC))
   (aY (xO rfl rfl rfl dh.nd (i:=3) rfl rfl rfl T.mg_RightError (fun Ez pins W hp =>
    (aI (cS (dk (gP T) (hr.mono (by decide)) rfl T.act_list.mgf T.act_list.kp T.act_list.bi .nil hp (aA (pv 0) (aA (pv 1) aC))))))
    (fun e=>(aE (aN (i:=2) dh.nd rfl (Or.inl rfl) (bB (aA (aZ dF rfl T.no_isinstance aa (aA (pv 3) (aA (eC (v:=.ty "ValueError") rfl T.no_ValueError lO rfl) aC))) (aA (aZ dF rfl T.no_isinstance aa (aA (pv 3) (aA (bw (v:=.ref c.c_NoBook) rfl T.mg_NoBook rfl) aC))) (aA (aZ dF rfl T.no_isinstance aa (aA (pv 3) (aA (bw (v:=.ref c.c_NoAct) rfl T.mg_NoAct rfl) aC))) (aA (aZ dF rfl T.no_isinstance aa (aA (pv 3) (aA (bw (v:=.ref c.c_Late) rfl T.mg_Late rfl) aC))) aC))))))
   (aE (aN (i:=2) dh.nd rfl (Or.inl rfl) (aL jR (pv 2) (bB (aA (aZ dF rfl T.no_isinstance aa (aA (pv 3) (aA (bw (v:=.ref c.c_NoDay) rfl T.mg_NoDay rfl) aC))) (aA (aZ dF rfl T.no_isinstance aa (aA (pv 3) (aA (bw (v:=.ref c.c_NoEntry) rfl T.mg_NoEntry rfl) aC))) (aA (aZ dF rfl T.no_isinstance aa (aA (pv 3) (aA (bw (v:=.ref c.c_NoNumber) rfl T.mg_NoNumber rfl) aC))) aC))))))
   (aI (au (bg (aZ dF rfl T.no_isinstance aa (aA (pv 3) (aA (bw (v:=.ref c.c_NoAct) rfl T.mg_NoAct rfl) aC))))
    (aI (cS (iU PySem.F.plainAttrs_list PySem.F.slot_list_append PySem.F.type_list_append (mR.r dC) (pv 2) (aA (vA (pv 3) rfl) aC))))
    aO))))))
   (aI (aR (pv 2))))),?_⟩
  refine ⟨aJ rfl,fun p0 hp0=>?_⟩
  have s0:=aH.new (o:=HO.lst []) hp0
  generalize upd H p0 (.lst []) = G0 at s0 ⊢
  refine ⟨fun σ G=>∃ q,σ = [some b,some v,some (.ref q),none] ∧ aH H G ∧ H q = none ∧ G q = some (.lst (g9 t p)),?_,?_⟩
  ·refine ⟨fun σ1 C dd H1=>σ1 = [some b,some v,some (.ref p0),none] ∧ aH H H1 ∧ ((t = 0 ∧ C = .ref c.c_NoBook ∧ dd = none) ∨ (t = 1 ∧ C = .ref c.c_NoAct ∧ ∃ x,dd = some x ∧ H1 x = some (.xd [("place",V.int p)]))),fun pins W=>?_,?_⟩
   ·refine ⟨_,rfl,_,rfl,b,v,rfl,?_⟩
    rcases hw with ⟨rfl,bad⟩ | ⟨rfl,es,gb,ba⟩
    ·exact .inl ⟨mP bad s0,fun G sG=>⟨rfl,s0.trans sG,.inl ⟨rfl,rfl,rfl⟩⟩⟩
    ·exact .inr ⟨es,gb.same s0,.inr ⟨p,ba.same s0,fun y G sG hy=>⟨rfl,s0.trans sG,.inr ⟨rfl,rfl,y,rfl,hy⟩⟩⟩⟩
   ·rintro σ1 C dd H1 ⟨rfl,sH,⟨rfl,rfl,rfl⟩ | ⟨rfl,rfl,dx,rfl,hdx⟩⟩
    ·refine ⟨T.e_NoBook_RightError,fun e0 he0=>?_⟩
     have xe:XE (upd H1 e0 (mh (.ref c.c_NoBook) none e0)) e0 c.c_NoBook:=.inl aB
     have sx:=sH.trans (aH.new (o:=mh (.ref c.c_NoBook) none e0) he0)
     generalize upd H1 e0 (mh (.ref c.c_NoBook) none e0) = G1 at xe sx ⊢
     refine ⟨_,rfl,cB.zm xe T.q_NoBook T.i_NoBook_ValueError ⟨_,rfl,cB.xe xe T.q_NoBook T.i_NoBook_NoBook ⟨_,rfl,cB.xe xe T.q_NoBook T.i_NoBook_NoAct ⟨_,rfl,cB.xe xe T.q_NoBook T.i_NoBook_Late ?_⟩⟩⟩⟩
     refine ⟨aJ rfl,fun q0 hq0=>?_⟩
     have s1:=aH.new (o:=HO.lst [V.bl true,V.bl true,V.bl false,V.bl false]) hq0
     have k1:=aB (H:=G1) (a:=q0) (o:=.lst [V.bl true,V.bl true,V.bl false,V.bl false])
     have xe:=xe.same s1
     generalize upd G1 q0 (.lst [V.bl true,V.bl true,V.bl false,V.bl false]) = G2 at s1 k1 xe ⊢
     refine ⟨_,rfl,_,rfl,cB.xe xe T.q_NoBook T.i_NoBook_NoDay ⟨_,rfl,cB.xe xe T.q_NoBook T.i_NoBook_NoEntry ⟨_,rfl,cB.xe xe T.q_NoBook T.i_NoBook_NoNumber ?_⟩⟩⟩
     refine ⟨aJ rfl,fun q1 hq1=>?_⟩
     have s2:=aH.new (o:=HO.lst [V.bl false,V.bl false,V.bl false]) hq1
     refine ⟨q0,q1,_,_,rfl,rfl,s2 _ _ k1,aB,aJ rfl,fun q2 hq2=>?_⟩
     have s3:=aH.new (o:=HO.lst ([V.bl true,V.bl true,V.bl false,V.bl false] ++ [V.bl false,V.bl false,V.bl false])) hq2
     have k3:=aB (H:=upd G2 q1 (.lst [V.bl false,V.bl false,V.bl false])) (a:=q2) (o:=.lst ([V.bl true,V.bl true,V.bl false,V.bl false] ++ [V.bl false,V.bl false,V.bl false]))
     have fq2:=sx.free (s1.free (s2.free hq2))
     have xe:=(xe.same s2).same s3
     have sx:=sx.trans (s1.trans (s2.trans s3))
     generalize upd (upd G2 q1 (.lst [V.bl false,V.bl false,V.bl false])) q2 (.lst ([V.bl true,V.bl true,V.bl false,V.bl false] ++ [V.bl false,V.bl false,V.bl false])) = G3 at k3 xe sx ⊢
     exact ⟨_,rfl,cB.xe xe T.q_NoBook T.i_NoBook_NoAct ⟨_,rfl,bE ⟨q2,rfl,sx,fq2,k3⟩⟩⟩
    ·refine ⟨T.e_NoAct_RightError,fun e0 he0=>?_⟩
     have xe:XE (upd H1 e0 (mh (.ref c.c_NoAct) (some dx) e0)) e0 c.c_NoAct:=.inr ⟨dx,_,XD.tZ hdx he0⟩
     have sx:=sH.trans (aH.new (o:=mh (.ref c.c_NoAct) (some dx) e0) he0)
     have xd:XD (upd H1 e0 (mh (.ref c.c_NoAct) (some dx) e0)) e0 c.c_NoAct dx [("place",V.int p)]:=XD.tZ hdx he0
     generalize upd H1 e0 (mh (.ref c.c_NoAct) (some dx) e0) = G1 at xe sx xd ⊢
     refine ⟨_,rfl,cB.zm xe T.q_NoAct T.i_NoAct_ValueError ⟨_,rfl,cB.xe xe T.q_NoAct T.i_NoAct_NoBook ⟨_,rfl,cB.xe xe T.q_NoAct T.i_NoAct_NoAct ⟨_,rfl,cB.xe xe T.q_NoAct T.i_NoAct_Late ?_⟩⟩⟩⟩
     refine ⟨aJ rfl,fun q0 hq0=>?_⟩
     have s1:=aH.new (o:=HO.lst [V.bl true,V.bl false,V.bl true,V.bl false]) hq0
     have k1:=aB (H:=G1) (a:=q0) (o:=.lst [V.bl true,V.bl false,V.bl true,V.bl false])
     have xe:=xe.same s1
     have xd:=xd.same s1
     generalize upd G1 q0 (.lst [V.bl true,V.bl false,V.bl true,V.bl false]) = G2 at s1 k1 xe xd ⊢
     refine ⟨_,rfl,_,rfl,cB.xe xe T.q_NoAct T.i_NoAct_NoDay ⟨_,rfl,cB.xe xe T.q_NoAct T.i_NoAct_NoEntry ⟨_,rfl,cB.xe xe T.q_NoAct T.i_NoAct_NoNumber ?_⟩⟩⟩
     refine ⟨aJ rfl,fun q1 hq1=>?_⟩
     have s2:=aH.new (o:=HO.lst [V.bl false,V.bl false,V.bl false]) hq1
     refine ⟨q0,q1,_,_,rfl,rfl,s2 _ _ k1,aB,aJ rfl,fun q2 hq2=>?_⟩
     have s3:=aH.new (o:=HO.lst ([V.bl true,V.bl false,V.bl true,V.bl false] ++ [V.bl false,V.bl false,V.bl false])) hq2
     have k3:=aB (H:=upd G2 q1 (.lst [V.bl false,V.bl false,V.bl false])) (a:=q2) (o:=.lst ([V.bl true,V.bl false,V.bl true,V.bl false] ++ [V.bl false,V.bl false,V.bl false]))
     have fq2:=sx.free (s1.free (s2.free hq2))
     have xe:=(xe.same s2).same s3
     have xd:=(xd.same s2).same s3
     have sx:=sx.trans (s1.trans (s2.trans s3))
     generalize upd (upd G2 q1 (.lst [V.bl false,V.bl false,V.bl false])) q2 (.lst ([V.bl true,V.bl false,V.bl true,V.bl false] ++ [V.bl false,V.bl false,V.bl false])) = G3 at k3 xe sx xd ⊢
     refine ⟨_,rfl,cB.xe xe T.q_NoAct T.i_NoAct_NoAct ⟨_,rfl,bR ?_⟩⟩
     refine ⟨_,rfl,.inl ⟨rfl,_,ao.of k3⟩,_,rfl,e0,c.c_NoAct,dx,_,_,rfl,xd,T.q_NoAct,T.hd_NoAct,T.na_NoAct,rfl,q2,_,_,rfl,rfl,k3,aJ rfl,?_⟩
     exact ⟨q2,rfl,fun b u hb=>by rw [aK (aM hb fq2)]; exact sx _ _ hb,fq2,aB⟩
  rintro σ G ⟨q,rfl,sG,fq,hq⟩
  exact ⟨_,rfl,k q G sG fq hq⟩
set_option maxHeartbeats 4000000 in
theorem ug (T:Txt w K mg c):bF P w K mg base gK 6 c.a_Lbad c.d_Lbad ["_law_rows_here", "_law_right_here", "_law_acts_here", "_law_at", "_law_draw_here"] (vS K c.c_Act):=by
 refine T.Lbad.fn.ok fz (fun vs H Q E h=>?_) (fun cdv A outer s H vs Q E hr h=>?_)
 ·obtain ⟨rl,ws,es,d,kr,al,ac,ds,p,r,rfl,_⟩:=h
  rfl
 ·obtain ⟨rl,ws,es,d,kr,al,ac,ds,p,r,rfl,hL,hR,hB,hd,pR,nd,l84,hal,hA,hG,pd,d84,r0,k⟩:=h
  refine ⟨_,(aE (aN (i:=5) fz.nd rfl (Or.inr rfl) aD)
   (aY (au (aV iT (pv 3) aD (aW _))
    (aI (aN (i:=5) fz.nd rfl (Or.inr rfl) (aj (ae af (pv 2) (aL gO (pv 3) aD) (fun _ _=>rfl)) rfl)))
    aO)
   (aY (aN (i:=6) fz.nd rfl (Or.inl rfl) (aL jR (e7 (N':=["_law_row_here", "_law_right_here"]) (js:=[none,some 1]) rfl rfl (by decide +kernel) (by decide +kernel) (ez ["_law_right_here"] (by decide +kernel) (ay (.inl rfl) cm)) (gZ rfl (ay (fun j e=>nomatch e) (ay (fun j e=>by cases e; exact ⟨rfl,rfl,.inl rfl⟩) cm))) (cZ (pv 0)) (fun B=>⟨(ag (i:=0) (show List.Nodup (["_law_row_here", "_law_right_here"]:List Str) by decide +kernel) rfl (Or.inl rfl)),(eT (aV mQ (ae bP (pv 0) aD (fun _ _=>rfl)) (aT (jD T) (hr.mono (by decide)) rfl T.Lroots.mgf T.Lroots.kp T.Lroots.bi .nil ax (aA (pv 1) aC)) (by with_unfolding_all rfl))),(ae bP (pv 0) aD (fun _ _=>rfl))⟩)) (bB (aA (aL gO (aL mi aD aD) (aL ar (pv 4) aD)) aC))))
   (aY (aN (i:=7) fz.nd rfl (Or.inl rfl) (aL ar (aL bu (pv 4) aD) aD))
   (aY (au (aV cT (pv 7) aD (aW _))
    (aI (aR (ae af (bB (aA cw (aA aD (aA aQ (aA (cA (aA (pv 5) (aA aQ (aA (ae af (pv 6) aD (fun _ _=>rfl)) aC)))) (aA (bB aC) aC)))))) (aL ar (aL bu (pv 4) aD) aD) (fun _ _=>rfl))))
    aO)
   (aY (au (PW.pt (cz (aV cT (pv 7) aD (aW _)) (cz (aV iT (pv 5) aD (aW _)) (cW (aV iT (pv 3) aD (aW _))))))
    (aI (aR (fU T.mk_Act (fA T) (hr.mono (by decide)) rfl T.mg_Act T.b_Act_3 fD (aA (aL gO (aL gO (pv 5) aD) (aL ar (aL bu (pv 4) aD) (aL gO (pv 5) aD))) (aA aQ (aA (aj (ae af (pv 2) (aL gO (pv 3) aD) (fun _ _=>rfl)) rfl) aC))) jP)))
    aO)
   (aY (gG (i:=8) fz.nd rfl rfl (N':=["_law_number", "_law_last", "_law_right_here"]) (js:=[none,some 5,some 1]) rfl rfl (by decide +kernel) (by decide +kernel) (ez ["_law_last", "_law_right_here"] (by decide +kernel) (ay (.inl rfl) (ay (.inl rfl) cm))) (gZ rfl (ay (fun j e=>nomatch e) (ay (fun j e=>by cases e; exact ⟨rfl,rfl,.inl rfl⟩) (ay (fun j e=>by cases e; exact ⟨rfl,rfl,.inl rfl⟩) cm)))) (cZ (aT (jD T) (hr.mono (by decide)) rfl T.Lroots.mgf T.Lroots.kp T.Lroots.bi .nil ax (aA (pv 1) aC))) (fun B=>⟨(ag (i:=0) (show List.Nodup (["_law_number", "_law_last", "_law_right_here"]:List Str) by decide +kernel) rfl (Or.inl rfl)),(eT (aV iT (ae bP (i9 (dU hr) (pv 2) (pv 0) (fun _ _=>rfl)) aD (fun _ _=>rfl)) (pv 1) (aW _))),(pv 0)⟩))
   (aY (au (PW.pt (cz (aV cT (pv 7) aD (aW _)) (cW (aV (gY (iO hr)) (pv 8) (bB aC) (aW _)))))
    (aE (aN (i:=9) fz.nd rfl (Or.inl rfl) (ae af (pv 8) (aL ar (aL bu (pv 4) aD) (aZ bD rfl T.no_len dN (aA (pv 8) aC))) (fun _ _=>rfl)))
   (aI (aR (fU T.mk_Act (fA T) (hr.mono (by decide)) rfl T.mg_Act T.b_Act_3 fD (aA (aL gO (ae bP (i9 (dU hr) (pv 1) (pv 9) (fun _ _=>rfl)) aD (fun _ _=>rfl)) aD) (aA aQ (aA (pv 9) aC))) jP))))
    aO)
   (aI (aR (fU T.mk_Act (fA T) (hr.mono (by decide)) rfl T.mg_Act T.b_Act_3 fD (aA (pv 5) (aA (ae af (bB (aA aQ (aA aQ (aA aQ aC)))) (aL ar (aL bu (pv 4) aD) aD) (fun _ _=>rfl)) (aA (ae af (pv 6) (aL ar (aL bu (pv 4) aD) (aZ bD rfl T.no_len dN (aA (pv 6) aC))) (fun _ _=>rfl)) aC))) jP))))))))))),?_⟩
  have sz:2000 < sizeLine:=aJ rfl
  have lw:=hR.1
  have lA:=hA.1
  have e9:(10:Int) ^ Int.toNat 9 = 1000000000:=by decide
  have ree:∀ {x:Rt},x ∈ (aw es).r → 1 ≤ x.e.n ∧ x.e.n ≤ 100000000 ∧ 1 ≤ x.e.d ∧ x.e.d ≤ 60000:=fun {x} hx=>by
   have h1:=hB.n9 ((iA es).1 x hx).1
   have h2:=hB.dd x.e ((iA es).1 x hx).1
   have:=hB.le
   omega
  refine ⟨fun σ' G'=>H = G' ∧ ∃ z:Int,σ' = [some (.ref rl),some (.ref d),some (.ref al),some (.int p),some (.int r),some (.int z),none,none,none,none] ∧ 1 ≤ z ∧ z ≤ 100000 ∧ (p > 0 → ∃ y,(ds.take p).getLast? = some y ∧ ds[p - 1]? = some y ∧ z = y.d),?_,?_⟩
  ·refine ⟨_,rfl,?_⟩
   walk_at "rd"
   refine cE (fun q=>?_) (fun q=>?_)
   ·have hp:0 < p:=by
     have:=of_decide_eq_true q
     omega
    have ed:ds[p - 1]? = some ds[p - 1]:=List.getElem?_eq_getElem (by omega)
    have ew:ac[p - 1]? = some ac[p - 1]:=List.getElem?_eq_getElem (by omega)
    obtain ⟨xa,dx,ex,hxa⟩:=hA.2 (p - 1) _ _ ew ed
    have fi:fQ ac ((p:Int) - 1) = some (.ref xa):=by
     rw [show (p:Int) - 1 = ((p - 1:Nat):Int) by omega]
     exact ah (by rw [ew,ex])
    obtain ⟨_,g1,g2,_⟩:=hG.each _ (List.mem_of_getElem? ed)
    walk_at "rd"
    refine ⟨al,_,_,_,rfl,rfl,ao.of hal,fi,xa,_,dx,_,_,rfl,hxa,T.cl_Act,T.na_Act_day,rfl,?_⟩
    refine ⟨rfl,_,rfl,g1,g2,fun _=>⟨ds[p - 1],?_,ed,rfl⟩⟩
    rw [List.getLast?_eq_getElem?,List.length_take,Nat.min_eq_left pd,List.getElem?_take,if_pos (by omega)]
    exact ed
   ·exact ⟨rfl,1,rfl,by decide,by decide,fun h=>absurd (decide_eq_true (by omega)) q⟩
  rintro σ G ⟨rfl,z,rfl,z1,z2,hz⟩
  refine ⟨fun σ' G'=>aH H G' ∧ ∃ nl,∃ ms:List Int,G' nl = some (.lst (ms.map V.int)) ∧ ms ≠ [] ∧ ms.length ≤ 200 ∧ (∀ n ∈ ms,1 ≤ n ∧ n ≤ 1000000000 ∧ jF (aw es).r n) ∧ σ' = [some (.ref rl),some (.ref d),some (.ref al),some (.int p),some (.int r),some (.int z),some (.ref nl),none,none,none],?_,?_⟩
  ·refine ⟨_,rfl,rl,rfl,⟨_,ao.of hL⟩,fun q1 B hq1=>?_⟩
   have le60:=hB.le
   refine dj (xs:=ws) (fun i σ acc G=>(∃ o,σ = [o,some (.ref d)]) ∧ aH H G ∧ G q1 = some (.lst acc) ∧ acc.length ≤ i ∧ ∃ ms:List Int,acc = ms.map V.int ∧ ∀ n ∈ ms,1 ≤ n ∧ n ≤ 1000000000 ∧ jF (aw es).r n) (by omega) ?_ ?_ ?_ ?_
   ·exact ⟨⟨_,rfl⟩,aH.new hq1,aB,Nat.le_refl _,[],rfl,fun _ h=>nomatch h⟩
   ·rintro i σ acc G hi ⟨_,sG,h1,h2,_⟩
    exact ⟨h1,ao.of (sG _ _ hL),by omega⟩
   ·rintro i v σ acc G hv ⟨⟨o,rfl⟩,sG,h1,h2,ms,rfl,hms⟩
    have hi:i < ws.length:=(List.getElem?_eq_some_iff.mp hv).1
    have ee:es[i]? = some es[i]:=List.getElem?_eq_getElem (by omega)
    have n9:=hB.n9 (List.mem_of_getElem? ee)
    obtain ⟨ra,rfl,hrow⟩:=hR.2 i v _ hv ee
    have f0:fQ (cx es[i]) 0 = some (.int es[i].n):=ah (j:=0) rfl
    generalize es[i] = e at n9 hrow f0
    have pR1:Paired (fu G (aw es).r) (aw es).r kr:=Paired.fG pR fun x q z=>z.keep fun t xs h=>sG _ _ h
    refine ⟨_,rfl,ra,_,_,_,rfl,rfl,bz.of (sG _ _ hrow),f0,_,rfl,d,kr,(aw es).r,rfl,sG _ _ hd,pR1,nd,l84,fun q2 G2 s2 fq2 hq2=>?_⟩
    refine ⟨q2,_,rfl,.inl (ao.of hq2),rfl,by rw [List.all_eq_true]; intro v hv; obtain ⟨z,_,rfl⟩:=List.mem_map.mp hv; rfl,_,rfl,?_⟩
    have sG2:=sG.trans s2
    have h1:=s2 _ _ h1
    refine cE (fun q=>?_) (fun q=>?_)
    ·have nr:jF (aw es).r e.n:=fun y hy hb=>by
      obtain ⟨my,ey⟩:=eF hy
      have mm:e.n ∈ cU (aw es).r:=List.mem_map.mpr ⟨y,List.mem_filter.mpr ⟨my,decide_eq_true hb⟩,ey⟩
      have q:(!vo (V.int e.n) ((cU (aw es).r).map V.int)) = true:=q
      have w:vo (V.int e.n) ((cU (aw es).r).map V.int) = true:=by
       unfold vo
       rw [List.any_eq_true]
       exact ⟨_,List.mem_map_of_mem (f:=V.int) mm,by show (e.n == e.n) = true; exact beq_self_eq_true _⟩
      rw [w] at q
      cases q
     refine ⟨_,rfl,ra,_,_,_,rfl,rfl,bz.of (sG2 _ _ hrow),f0,h1,Nx.mk hi ⟨⟨_,rfl⟩,cO hq1 sG2,aB,by rw [List.length_append]; show _ + 1 ≤ _; omega,ms ++ [e.n],by rw [List.map_append]; rfl,fun n hn=>?_⟩⟩
     rcases List.mem_append.mp hn with w | w
     ·exact hms n w
     ·rw [List.mem_singleton.mp w]
      exact ⟨n9.1,by omega,nr⟩
    ·exact Nx.mk hi ⟨⟨_,rfl⟩,sG2,h1,by omega,ms,rfl,hms⟩
   rintro σ acc G1 ⟨_,s1,h1,h2,ms,rfl,hms⟩
   rw [List.length_map] at h2
   walk_at "rd"
   refine ⟨aJ rfl,fun q3 hq3=>?_⟩
   have t3:=aH.new (o:=HO.lst [V.int (10 ^ Int.toNat 9 - r % 1000)]) hq3
   refine ⟨q1,q3,_,_,rfl,rfl,t3 _ _ h1,aB,by rw [List.length_map]; show _ + 1 ≤ _; omega,fun q4 hq4=>?_⟩
   refine ⟨s1.trans (t3.trans (aH.new hq4)),q4,ms ++ [10 ^ Int.toNat 9 - r % 1000],by rw [aB,List.map_append]; rfl,by simp,by rw [List.length_append]; show _ + 1 ≤ _; omega,fun n hn=>?_,rfl⟩
   rcases List.mem_append.mp hn with w | w
   ·exact hms n w
   ·rw [List.mem_singleton.mp w,e9]
    refine ⟨by omega,by omega,fun y hy=>?_⟩
    obtain ⟨my,ey⟩:=eF hy
    have:=(ree my).2.1
    omega
  rintro σ G1 ⟨s1,nl,ms,hnl,mne,lms,hms,rfl⟩
  refine ⟨fun σ' G'=>G1 = G' ∧ ∃ w:Int,σ' = [some (.ref rl),some (.ref d),some (.ref al),some (.int p),some (.int r),some (.int z),some (.ref nl),some (.int w),none,none],?_,?_⟩
  ·walk_at "rd"
   first | exact ⟨rfl,_,rfl⟩ | exact ⟨_,rfl⟩
  rintro σ G ⟨rfl,w,rfl⟩
  have r5:0 ≤ r / 5000:=Int.ediv_nonneg r0 (by decide)
  have mp:0 < ms.length:=List.length_pos_iff.mpr mne
  have em:ms[0]? = some ms[0]:=List.getElem?_eq_getElem mp
  have f0:fQ (ms.map V.int) 0 = some (.int ms[0]):=ah (j:=0) (by rw [List.getElem?_map,em]; rfl)
  refine ⟨fun σ' G'=>G1 = G' ∧ σ' = [some (.ref rl),some (.ref d),some (.ref al),some (.int p),some (.int r),some (.int z),some (.ref nl),some (.int w),none,none],?_,?_⟩
  ·refine ⟨_,rfl,rfl,_,rfl,?_⟩
   refine cE (fun _=>?_) (fun _=>⟨rfl,rfl⟩)
   walk_at "rd"
   refine ⟨nl,_,_,_,rfl,rfl,ao.of hnl,f0,?_⟩
   refine ⟨aJ rfl,fun ta hta=>⟨aJ rfl,fun la hla=>⟨aJ rfl,fun oa hoa=>?_⟩⟩⟩
   have u1:=aH.new (o:=HO.tup [V.int z,V.str "keep",V.int ms[0]]) hta
   have u2:=aH.new (o:=HO.lst []) hla
   have u3:=aH.new (o:=HO.lst [V.bA,V.int 3,V.str "",V.ref ta,V.ref la]) hoa
   have kta:=u3 _ _ (u2 _ _ (aB (H:=G1) (a:=ta) (o:=.tup [V.int z,V.str "keep",V.int ms[0]])))
   have kla:=u3 _ _ (aB (H:=upd G1 ta (.tup [V.int z,V.str "keep",V.int ms[0]])) (a:=la) (o:=.lst []))
   walk_at "rd"
   obtain ⟨v,hv,hm⟩:=cM (xs:=[V.bA,V.int 3,V.str "",V.ref ta,V.ref la]) (i:=r / 5000 % 5) (Int.emod_nonneg _ (by decide)) (by show _ < (5:Int); exact Int.emod_lt_of_pos _ (by decide))
   refine ⟨oa,_,_,_,rfl,rfl,ao.of aB,hv,?_⟩
   refine k v _ (s1.trans (u1.trans (u2.trans u3))) (fun G hG=>.inl ?_)
   simp only [List.mem_cons,List.not_mem_nil,or_false] at hm
   rcases hm with rfl | rfl | rfl | rfl | rfl
   ·exact ⟨_,.bA,T.wn_Act_NoneType⟩
   ·exact ⟨_,.int 3,T.wn_Act_int⟩
   ·exact ⟨_,.str _,T.wn_Act_str⟩
   ·exact ⟨_,.tup (hG _ _ (s1.free hta) kta),T.wn_Act_tuple⟩
   ·exact ⟨_,.lst (hG _ _ (s1.free (u1.free hla)) kla),T.wn_Act_list⟩
  rintro σ G ⟨rfl,rfl⟩
  refine ⟨fun σ' G'=>G1 = G' ∧ σ' = [some (.ref rl),some (.ref d),some (.ref al),some (.int p),some (.int r),some (.int z),some (.ref nl),some (.int w),none,none],?_,?_⟩
  ·refine ⟨_,rfl,rfl,_,rfl,?_⟩
   refine cE (fun _=>?_) (fun _=>bE ⟨rfl,rfl⟩)
   walk_at "rd"
   refine cE (fun q1=>?_) (fun _=>bE ⟨rfl,rfl⟩)
   walk_at "rd"
   refine cE (fun q2=>?_) (fun _=>⟨rfl,rfl⟩)
   have q1:=of_decide_eq_true q1
   have q2:=of_decide_eq_true q2
   obtain ⟨y,hla,ed,rfl⟩:=hz (by omega)
   have ew:ac[p - 1]? = some ac[p - 1]:=List.getElem?_eq_getElem (by omega)
   obtain ⟨xa,dx,ex,hxa⟩:=hA.2 (p - 1) _ _ ew ed
   have hxa:=s1 _ _ hxa
   have fi:fQ ac ((p:Int) - 1) = some (.ref xa):=by
    rw [show (p:Int) - 1 = ((p - 1:Nat):Int) by omega]
    exact ah (by rw [ew,ex])
   obtain ⟨_,_,_,yy,hyy,e1,_,_⟩:=hG.each _ (List.mem_of_getElem? ed)
   have yr:=ree hyy
   have md0:=Int.emod_nonneg (r / 5000) (show y.d - 1 ≠ 0 by omega)
   have md1:=Int.emod_lt_of_pos (r / 5000) (show 0 < y.d - 1 by omega)
   walk_at "rd"
   refine ⟨by omega,?_⟩
   walk_at "rd"
   refine ⟨al,_,_,_,rfl,rfl,ao.of (s1 _ _ hal),fi,xa,_,dx,_,_,rfl,hxa,T.cl_Act,T.na_Act_number,rfl,?_⟩
   walk_at "rd"
   refine fun ya dy hya hdy ne=>?_
   refine ⟨ya,dy,.int (y.d - 1 - r / 5000 % (y.d - 1)),.str (Str.ofString "keep"),.int y.n,rfl,aB,Own.int,Own.str,Own.int,fun h=>absurd (h.symm.trans (dJ (by omega) (by omega))) (by decide),fun _ h=>absurd (h.symm.trans rfl) (by decide),fun _ _ h=>absurd (h.symm.trans (dJ (by omega) (by omega))) (by decide),fun _ _ _ G3 f3 ha3=>⟨rfl,?_⟩⟩
   have s3:aH G1 G3:=fun b u hb=>f3 b u (aM hb hya) (aH.made hya hdy ne b u hb)
   exact k _ _ (s1.trans s3) (fun G hG=>.inr ⟨⟨(y.d - 1 - r / 5000 % (y.d - 1)),(Str.ofString "keep"),y.n⟩,⟨ya,dy,rfl,hG _ _ (s1.free hya) ha3⟩,by unfold ej gA; rw [hla]; show (decide (y.d ≤ y.d - 1 - r / 5000 % (y.d - 1)) && _) = false; rw [decide_eq_false (by omega),Bool.false_and]⟩)
  rintro σ G ⟨rfl,rfl⟩
  have hd1:=s1 _ _ hd
  have pR1:Paired (fu G1 (aw es).r) (aw es).r kr:=Paired.fG pR fun x q z=>z.keep fun t xs h=>s1 _ _ h
  have rf:∀ {G'},aH G1 G' → ∀ n,n ∈ cU (aw es).r → ∃ x ∈ (aw es).r,x.e.n = n ∧ x.e.b = none ∧ az (aw es).r n = some x ∧ ∃ ra t,di G' d (.int n) (some (.ref ra)) ∧ G' ra = some (.tup [.str x.e.r,.ref t,aq x.e.b,.str x.e.w,aq (dR (aw es).r x).s,.int x.e.d]):=fun {G'} sG n hn=>by
   obtain ⟨x,hx,rfl⟩:=List.mem_map.mp hn
   obtain ⟨hx,hb⟩:=List.mem_filter.mp hx
   refine ⟨x,hx,rfl,of_decide_eq_true hb,cV nd hx,?_⟩
   rcases gj pR1 x.e.n with ⟨c1,_⟩ | ⟨y,v,_,c1,c2,_,a,t,c3,c4,_⟩
   ·rw [cV nd hx] at c1; cases c1
   ·rw [cV nd hx] at c1
    cases c1
    exact ⟨a,t,by rw [← c3,← c2]; exact di.k (k:=Sum.inl x.e.n) (sG _ _ hd1),sG _ _ c4⟩
  refine ⟨fun σ' G'=>aH G1 G' ∧ ∃ ll,∃ ls:List Int,G' ll = some (.lst (ls.map V.int)) ∧ ls.length ≤ 84 ∧ (∀ n ∈ ls,n ∈ cU (aw es).r ∧ kO (aw es).r z n = true) ∧ σ' = [some (.ref rl),some (.ref d),some (.ref al),some (.int p),some (.int r),some (.int z),some (.ref nl),some (.int w),some (.ref ll),none],?_,?_⟩
  ·refine ⟨_,rfl,d,kr,(aw es).r,rfl,hd1,pR1,nd,l84,fun q3 G3 s3 fq3 hq3=>?_⟩
   refine ⟨q3,rfl,⟨_,ao.of hq3⟩,fun l4 B4 hl4=>?_⟩
   have lrn:(cU (aw es).r).length ≤ 84:=by
    unfold cU
    rw [List.length_map]
    exact Nat.le_trans (List.length_filter_le ..) l84
   refine pT (f:=kO (aw es).r z) hl4 (ao.of hq3) (by omega) (fun σ=>∃ o,σ = [o,some (.int z),some (.ref d)]) ⟨_,rfl⟩ ?_ ?_
   ·rintro x σ G4 Kt Nn hx ⟨o,rfl⟩ s4 kt kn
    obtain ⟨y,_,_,_,fy,ra,t,dg,hra⟩:=rf (s3.trans s4) x hx
    have f5:fQ [V.str y.e.r,.ref t,aq y.e.b,.str y.e.w,aq (dR (aw es).r y).s,.int y.e.d] 5 = some (.int y.e.d):=ah (j:=5) rfl
    have fe:kO (aw es).r z x = decide (z < y.e.d):=by unfold kO; rw [fy]
    refine ⟨_,rfl,_,rfl,d,_,rfl,dg,ra,_,_,_,rfl,rfl,bz.of hra,f5,_,rfl,_,_,rfl,rfl,_,rfl,?_⟩
    refine cE (fun q=>?_) (fun q=>?_)
    ·exact ⟨_,rfl,kt (by rw [fe]; exact q) _ ⟨_,rfl⟩⟩
    ·exact kn (by rw [fe]; exact Bool.eq_false_iff.mpr q) _ ⟨_,rfl⟩
   intro G4 s4 hl4
   exact ⟨s3.trans s4,l4,_,hl4,Nat.le_trans (List.length_filter_le ..) lrn,fun n hn=>List.mem_filter.mp hn,rfl⟩
  rintro σ G2 ⟨s2,ll,ls,hll,lls,hls,rfl⟩
  have s12:=s1.trans s2
  refine ⟨fun σ' G'=>aH G1 G' ∧ ∃ z9,σ' = [some (.ref rl),some (.ref d),some (.ref al),some (.int p),some (.int r),some (.int z),some (.ref nl),some (.int w),some (.ref ll),z9],?_,?_⟩
  ·refine ⟨_,rfl,rfl,_,rfl,?_⟩
   refine cE (fun _=>?_) (fun _=>bE ⟨s2,_,rfl⟩)
   refine ⟨_,rfl,aJ rfl,fun q0 hq0=>?_⟩
   have t0:=aH.new (o:=HO.lst []) hq0
   refine ⟨0,_,by decide,gQ (ao.of (t0 _ _ hll)) (ao.of aB),_,rfl,?_⟩
   have s20:=s2.trans t0
   have hll0:=t0 _ _ hll
   generalize upd G2 q0 (.lst []) = G0 at s20 hll0 ⊢
   cases he:(ls.map V.int).isEmpty with
   | true=>exact bE ⟨s20,_,rfl⟩
   | false =>
    refine bR ?_
    have wp:0 < (ls.map V.int).length:=List.length_pos_iff.mpr fun z=>by rw [z] at he; cases he
    walk_at "rd"
    refine ⟨ll,_,rfl,.inl (ao.of hll0),?_⟩
    walk_at "rd"
    refine ⟨by show (0:Int) < (ls.map V.int).length; omega,?_⟩
    obtain ⟨v,hv,hm⟩:=cM (xs:=ls.map V.int) (i:=r / 5000 % ((ls.map V.int).length:Int)) (Int.emod_nonneg _ (by omega)) (Int.emod_lt_of_pos _ (by omega))
    obtain ⟨m,hmm,rfl⟩:=List.mem_map.mp hm
    refine ⟨ll,_,_,_,rfl,rfl,ao.of hll0,hv,?_⟩
    obtain ⟨x,hx,en,xb,fx,ra,t,dg,hra⟩:=rf s20 m (hls m hmm).1
    have lt:z < x.e.d:=by
     have q:=(hls m hmm).2
     unfold kO at q
     rw [fx] at q
     exact of_decide_eq_true q
    have xr:=ree hx
    subst en
    have f5:fQ [V.str x.e.r,.ref t,aq x.e.b,.str x.e.w,aq (dR (aw es).r x).s,.int x.e.d] 5 = some (.int x.e.d):=ah (j:=5) rfl
    refine ⟨_,rfl,_,rfl,d,_,rfl,dg,ra,_,_,_,rfl,rfl,bz.of hra,f5,?_⟩
    walk_at "rd"
    refine fun ya dy hya hdy ne=>?_
    refine ⟨ya,dy,.int (x.e.d - 1),.str (Str.ofString "strike"),.int x.e.n,rfl,aB,Own.int,Own.str,Own.int,fun h=>absurd (h.symm.trans (dJ (by omega) (by omega))) (by decide),fun _ h=>absurd (h.symm.trans rfl) (by decide),fun _ _ h=>absurd (h.symm.trans (dJ (by omega) (by omega))) (by decide),fun _ _ _ G3 f3 ha3=>⟨rfl,?_⟩⟩
    have s3:aH G0 G3:=fun b u hb=>f3 b u (aM hb hya) (aH.made hya hdy ne b u hb)
    exact k _ _ ((s1.trans s20).trans s3) (fun G hG=>.inr ⟨⟨(x.e.d - 1),(Str.ofString "strike"),x.e.n⟩,⟨ya,dy,rfl,hG _ _ ((s1.trans s20).free hya) ha3⟩,by unfold ej gC; rw [fx]; show (_ && (_ && decide (x.e.d ≤ x.e.d - 1))) = false; rw [decide_eq_false (p:=x.e.d ≤ x.e.d - 1) (by omega),Bool.and_false,Bool.and_false]⟩)
  rintro σ G3 ⟨s3,z9,rfl⟩
  have hnl3:=s3 _ _ hnl
  walk_at "rd"
  refine ⟨aJ rfl,fun dq hdq=>?_⟩
  have t4:=aH.new (o:=HO.lst [V.str "keep",V.str "strike",V.str "leave"]) hdq
  have kdq:=aB (H:=G3) (a:=dq) (o:=.lst [V.str "keep",V.str "strike",V.str "leave"])
  have s4:=(s1.trans s3).trans t4
  have hnl4:=t4 _ _ hnl3
  generalize upd G3 dq (.lst [V.str "keep",V.str "strike",V.str "leave"]) = G4 at kdq s4 hnl4 ⊢
  walk_at "rd"
  obtain ⟨v,hv,hm⟩:=cM (xs:=[V.str "keep",V.str "strike",V.str "leave"]) (i:=r / 5000 % 3) (Int.emod_nonneg _ (by decide)) (by show _ < (3:Int); exact Int.emod_lt_of_pos _ (by decide))
  obtain ⟨dz,rfl,hdz⟩:∃ dz:Str,v = .str dz ∧ eO (.str dz) = true:=by
   simp only [List.mem_cons,List.not_mem_nil,or_false] at hm
   rcases hm with rfl | rfl | rfl <;> exact ⟨_,rfl,by decide +kernel⟩
  refine ⟨dq,_,_,_,rfl,rfl,ao.of kdq,hv,?_⟩
  walk_at "rd"
  refine ⟨nl,_,rfl,.inl (ao.of hnl4),?_⟩
  have lm:0 < (ms.map V.int).length:=by rw [List.length_map]; exact mp
  walk_at "rd"
  refine ⟨by show (0:Int) < (ms.map V.int).length; omega,?_⟩
  obtain ⟨v,hv,hm⟩:=cM (xs:=ms.map V.int) (i:=r / 15000 % ((ms.map V.int).length:Int)) (Int.emod_nonneg _ (by omega)) (Int.emod_lt_of_pos _ (by omega))
  obtain ⟨m,hmm,rfl⟩:=List.mem_map.mp hm
  refine ⟨nl,_,_,_,rfl,rfl,ao.of hnl4,hv,?_⟩
  obtain ⟨m1,m2,m3⟩:=hms m hmm
  walk_at "rd"
  refine fun ya dy hya hdy ne=>?_
  refine ⟨ya,dy,.int z,.str dz,.int m,rfl,aB,Own.int,Own.str,Own.int,fun h=>absurd (h.symm.trans (dJ (by omega) (by omega))) (by decide),fun _ h=>absurd (h.symm.trans hdz) (by decide),fun _ _ h=>absurd (h.symm.trans (dJ (by omega) (by omega))) (by decide),fun _ _ _ G5 f5 ha5=>⟨rfl,?_⟩⟩
  have s5:aH G4 G5:=fun b u hb=>f5 b u (aM hb hya) (aH.made hya hdy ne b u hb)
  exact k _ _ (s4.trans s5) (fun G hG=>.inr ⟨⟨z,dz,m⟩,⟨ya,dy,rfl,hG _ _ (s4.free hya) ha5⟩,jF.bad (x:=⟨z,dz,m⟩) m3⟩)
set_option maxHeartbeats 4000000 in
theorem xh (T:Txt w K mg c):bF P w K mg base gK 8 c.a_law c.d_law ["_law_script"] (tW K):=by
 refine T.law.fn.ok cy (fun vs H Q E h=>?_) (fun cdv A outer s H vs Q E hr h=>?_)
 ·obtain ⟨a,ns,rfl,_⟩:=h
  rfl
 ·obtain ⟨a,ns,rfl,hS,hn,k⟩:=h
  refine ⟨_,(aY (aN (i:=0) cy.nd rfl (Or.inr rfl) (e7 (N':=["_law_cell", "_law_script"]) (js:=[none,some 0]) rfl rfl (by decide +kernel) (by decide +kernel) (ez ["_law_script"] (by decide +kernel) (ay (.inl rfl) cm)) (gZ rfl (ay (fun j e=>nomatch e) (ay (fun j e=>by cases e; exact ⟨rfl,rfl,.inl rfl⟩) cm))) (cZ (pv 0)) (fun B=>⟨(ag (i:=0) (show List.Nodup (["_law_cell", "_law_script"]:List Str) by decide +kernel) rfl (Or.inl rfl)),gU,(aL cJ (aL dc aD (pv 0)) (aL ar (aZ (tM rfl) rfl T.no_sum wX (aA (fb mr (pv 1) jt (ek aD)) aC)) aD))⟩)))
   (aE (aN (i:=1) cy.nd rfl (Or.inl rfl) (aT (qG T) (hr.mono (by decide)) rfl T.Lwords.mgf T.Lwords.kp T.Lwords.bi .nil ax (aA (aT (et T) (hr.mono (by decide)) rfl T.Lcell_at.mgf T.Lcell_at.kp T.Lcell_at.bi .nil ax (aA (pv 0) (aA aD aC))) aC)))
   (aE (aN (i:=2) cy.nd rfl (Or.inl rfl) (aT (rJ T) (hr.mono (by decide)) rfl T.Lrows.mgf T.Lrows.kp T.Lrows.bi .nil ax (aA (fb mr (pv 0) (ek aD) (ek aD)) (aA (pv 1) (aA (aT (oQ T) (hr.mono (by decide)) rfl T.Lsheets.mgf T.Lsheets.kp T.Lsheets.bi .nil ax (aA (aT (et T) (hr.mono (by decide)) rfl T.Lcell_at.mgf T.Lcell_at.kp T.Lcell_at.bi .nil ax (aA (pv 0) (aA aD aC))) aC)) aC)))))
   (aE (aN (i:=3) cy.nd rfl (Or.inl rfl) (aT (q9 T) (hr.mono (by decide)) rfl T.Lright.mgf T.Lright.kp T.Lright.bi .nil ax (aA (pv 2) aC)))
   (aE (aN (i:=4) cy.nd rfl (Or.inl rfl) (aT (nX T) (hr.mono (by decide)) rfl T.Lentries.mgf T.Lentries.kp T.Lentries.bi .nil ax (aA (pv 2) aC)))
   (aE (aN (i:=5) cy.nd rfl (Or.inl rfl) (aT (rh T) (hr.mono (by decide)) rfl T.Lacts.mgf T.Lacts.kp T.Lacts.bi .nil ax (aA (aT (qu T) (hr.mono (by decide)) rfl T.Ldeeds.mgf T.Ldeeds.kp T.Ldeeds.bi .nil ax (aA (fb mr (pv 0) (ek aD) (ek aD)) (aA (pv 3) aC))) aC)))
   (aE (aN (i:=6) cy.nd rfl (Or.inl rfl) (d4 i3 rfl T.no_list i5 (aA (pv 5) aC)))
   (aE (aN (i:=7) cy.nd rfl (Or.inl rfl) (dk (gP T) (hr.mono (by decide)) rfl T.act_list.mgf T.act_list.kp T.act_list.bi .nil fD (aA (pv 4) (aA (pv 6) aC))))
   (aE (au (bh (nI (aT (n5 T) (hr.mono (by decide)) rfl T.Lsame.mgf T.Lsame.kp T.Lsame.bi .nil ax (aA (pv 7) (aA (pv 5) aC))) (fun _=>rfl)))
    (aI (aR cN))
    aO)
   (aE (cS (iU PySem.F.plainAttrs_list PySem.F.slot_list_append PySem.F.type_list_append (mR.r dC) (pv 7) (aA cw aC)))
   (aE (aN (i:=8) cy.nd rfl (Or.inl rfl) (aT (dM T) (hr.mono (by decide)) rfl T.Ldraw.mgf T.Ldraw.kp T.Ldraw.bi .nil ax (aA (aT (et T) (hr.mono (by decide)) rfl T.Lcell_at.mgf T.Lcell_at.kp T.Lcell_at.bi .nil ax (aA (pv 0) (aA aD aC))) (aA aD aC))))
   (aY (aN (i:=9) cy.nd rfl (Or.inl rfl) (aL ar (pv 8) (aL cJ (aZ bD rfl T.no_len dN (aA (pv 5) aC)) aD)))
   (aE (aN (i:=10) cy.nd rfl (Or.inl rfl) (aT (ug T) (hr.mono (by decide)) rfl T.Lbad.mgf T.Lbad.kp T.Lbad.bi .nil ax (aA (pv 2) (aA (pv 3) (aA (pv 5) (aA (pv 9) (aA (aT (dM T) (hr.mono (by decide)) rfl T.Ldraw.mgf T.Ldraw.kp T.Ldraw.bi .nil ax (aA (aT (et T) (hr.mono (by decide)) rfl T.Lcell_at.mgf T.Lcell_at.kp T.Lcell_at.bi .nil ax (aA (pv 0) (aA aD aC))) (aA aD aC))) aC)))))))
   (aE (cS (iU PySem.F.plainAttrs_list PySem.F.slot_list_insert PySem.F.type_list_insert (mR.r qv) (pv 6) (aA (pv 9) (aA (pv 10) aC))))
   (aE (aN (i:=11) cy.nd rfl (Or.inl rfl) (bB (aA cN (aA cN (aA cN (aA cN (aA cN (aA cN (aA cN aC)))))))))
   (aE (au (aV (gY (iO hr)) (aT (gi T) (hr.mono (by decide)) rfl T.Lrefused.mgf T.Lrefused.kp T.Lrefused.bi .nil ax (aA (pv 4) (aA (pv 6) aC))) (aL jR (pv 11) (bB (aA (pv 9) aC))) (aW _))
    (aI (aR cN))
    aO)
   (aE (aN (i:=12) cy.nd rfl (Or.inl rfl) (ae af (bB (aA cw (aA aD (aA aQ (aA fg (aA (d4 iH rfl T.no_tuple nC (aA (pv 5) aC)) aC)))))) (aL ar (aL bu (pv 8) aD) aD) (fun _ _=>rfl)))
   (aE (au (aV (gY (iO hr)) (aT (gi T) (hr.mono (by decide)) rfl T.Lrefused.mgf T.Lrefused.kp T.Lrefused.bi .nil ax (aA (pv 4) (aA (pv 12) aC))) (aL jR (pv 11) (bB (aA aD aC))) (aW _))
    (aI (aR cN))
    aO)
   (aE (eX PassesOwn.never rfl (cZ (bB (aA cw (aA (d4 iH rfl T.no_tuple nC (aA (pv 4) aC)) (aA (aL jR (pv 4) (bB (aA cw aC))) (aA (aL jR (pv 4) (aL wq (bB (aA (fU T.mk_Entry (iE T) (hr.mono (by decide)) rfl T.mg_Entry T.b_Entry_6 fD (aA aD (aA aD (aA aQ (aA aQ (aA cw (aA aD aC)))))) jP) aC)) aD)) aC)))))) (ag (i:=13) cy.nd rfl (Or.inl rfl))
    (aI (au (aV (gY (iO hr)) (aT (gi T) (hr.mono (by decide)) rfl T.Lrefused.mgf T.Lrefused.kp T.Lrefused.bi .nil ax (aA (pv 13) (aA (ae af (bB (aA (pv 6) (aA (pv 12) aC))) (aL ar (aL bu (pv 8) aD) aD) (fun _ _=>rfl)) aC))) (bB (aA cN (aA cN (aA cN (aA cN (aA cN (aA cN (aA cN aC)))))))) (aW _))
    (aI (aR cN))
    aO)))
   (aE (cS (iU PySem.F.plainAttrs_list PySem.F.slot_list_pop PySem.F.type_list_pop (mR.r sM) (pv 6) (aA (pv 9) aC)))
   (aI (aR (dI (aT (n5 T) (hr.mono (by decide)) rfl T.Lsame.mgf T.Lsame.kp T.Lsame.bi .nil ax (aA (dk (gP T) (hr.mono (by decide)) rfl T.act_list.mgf T.act_list.kp T.act_list.bi .nil fD (aA (pv 4) (aA (pv 6) aC))) (aA (pv 5) aC))) (eR (cK (kq (iO hr)) (pv 6) (pv 5) (aW _)))))))))))))))))))))))))),?_⟩
  have sz:2000 < sizeLine:=aJ rfl
  have lm:(ns.map V.int).length = ns.length:=List.length_map ..
  have e6:(10:Int) ^ Int.toNat 6 = 1000000:=by decide
  have e9:(10:Int) ^ Int.toNat 9 = 1000000000:=by decide
  refine ⟨fun σ' G'=>aH H G' ∧ ∃ l,∃ ms:List Int,G' l = some (.lst (ms.map V.int)) ∧ ms.length = ns.length ∧ σ' = [some (.ref l),none,none,none,none,none,none,none,none,none,none,none,none,none],?_,?_⟩
  ·refine ⟨_,rfl,a,rfl,⟨_,hS⟩,fun l B hl=>?_⟩
   refine rQ (P:=fun _ v=>∃ z,v = V.int z) hl hS (by omega) (fun σ=>∃ o,σ = [o,some (.ref a)]) ⟨_,rfl⟩ ?_ ?_
   ·rintro i x σ G Kt hx ⟨o,rfl⟩ sG kt
    obtain ⟨y,_,rfl⟩:=List.mem_map.mp (List.mem_of_getElem? hx)
    walk_at "rd"
    refine ⟨a,_,rfl,sG.seq hS,fun p hp=>?_⟩
    refine ⟨p,ns.take 1,rfl,ao.of (by rw [aB,show iP (ns.map V.int) none (some 1) = (ns.map V.int).take 1 from uy _ 1,List.map_take]),fun r=>?_⟩
    walk_at "rd"
    exact kt _ _ _ ⟨_,rfl⟩ (aH.new hp) ⟨_,rfl⟩
   intro G1 acc s1 h1 l1 hp
   obtain ⟨ms,rfl⟩:=jk hp
   rw [List.length_map,lm] at l1
   exact ⟨s1,l,ms,h1,l1,rfl⟩
  rintro σ G1 ⟨s1,l,ms,h1,l1,rfl⟩
  refine ⟨_,rfl,l,0,ms,rfl,by decide,ao.of h1,fun c0=>⟨c0,rfl,fun zs wl G2 lz hz s2 fwl hwl=>?_⟩⟩
  have h1:=s2 _ _ h1
  walk_at "rd"
  refine ⟨l,_,rfl,ao.of h1,fun cl hcl=>?_⟩
  obtain ⟨cs,hc,lc⟩:∃ cs:List Int,iP (ms.map V.int) (some 3) (some 33) = cs.map V.int ∧ cs.length ≤ 30:=oE ms 3 33
  rw [hc]
  have t3:=aH.new (o:=HO.lst (cs.map V.int)) hcl
  have kcl:=aB (H:=G2) (a:=cl) (o:=.lst (cs.map V.int))
  have h1:=t3 _ _ h1
  have hwl:=t3 _ _ hwl
  generalize upd G2 cl (.lst (cs.map V.int)) = G3 at t3 kcl h1 hwl ⊢
  refine ⟨_,rfl,_,rfl,l,1,ms,rfl,by decide,ao.of h1,fun c1=>⟨c1,rfl,fun ss sl G4 ls hs s4 fsl hsl=>?_⟩⟩
  refine ⟨cl,cs,wl,zs,sl,ss,rfl,ao.of (s4 _ _ kcl),by omega,s4 _ _ hwl,lz,hz,hsl,ls,hs,fun rl ws es G5 s5 frl hrl hR hB el5=>?_⟩
  have h1:=s5 _ _ (s4 _ _ h1)
  have okk:=hB.ok
  have nd:=hB.nd
  have rok:=xT okk nd
  have l33:es.length ≤ 30:=by omega
  have lo:(aw es).o.length = es.length:=by
   rw [← List.length_map (f:=fun p:Int × Str=>p.1),eG,List.length_map]
  have lr:(aw es).r.length ≤ es.length:=by
   have h1:((aw es).r.map (·.e.n)).length ≤ ((aw es).o.map (·.1)).length:=oU rok.rn fun x hx=>by
    obtain ⟨y,hy,rfl⟩:=List.mem_map.mp hx
    exact rok.sub y hy
   rw [List.length_map,List.length_map,lo] at h1
   exact h1
  have hday:∀ x ∈ (aw es).r,1 ≤ x.e.d ∧ x.e.d ≤ 60000:=fun x hx=>by
   have:=hB.dd x.e ((iA es).1 x hx).1
   omega
  clear s1 s2 s4 s5 t3 kcl hwl hsl frl fsl fwl hcl
  refine ⟨_,rfl,rl,ws,es,rfl,hrl,hR,okk,nd,by omega,fun d kr G6 s6 fd hd pR=>?_⟩
  have h1:=s6 _ _ h1
  have hrl:=s6 _ _ hrl
  have hR:=hR.same s6
  refine ⟨_,rfl,rl,ws,es,rfl,hrl,hR,okk,by omega,fun el ec G7 s7 fel hel hE=>?_⟩
  have h1:=s7 _ _ h1
  walk_at "rd"
  refine ⟨l,_,rfl,ao.of h1,fun cl2 hcl2=>?_⟩
  obtain ⟨cs2,hc2,lc2⟩:∃ cs:List Int,iP (ms.map V.int) (some 33) (some 45) = cs.map V.int ∧ cs.length ≤ 12:=oE ms 33 45
  rw [hc2]
  have t7:=aH.new (o:=HO.lst (cs2.map V.int)) hcl2
  have kcl2:=aB (H:=G7) (a:=cl2) (o:=.lst (cs2.map V.int))
  have s77:=s7.trans t7
  have h1:=t7 _ _ h1
  have hrl:=s77 _ _ hrl
  have hR:=hR.same s77
  have hd:=s77 _ _ hd
  have pR:Paired (fu (upd G7 cl2 (.lst (cs2.map V.int))) (aw es).r) (aw es).r kr:=Paired.fG pR fun x q z=>z.keep fun t xs h=>s77 _ _ h
  have hel:=t7 _ _ hel
  have hE:=hE.same t7
  generalize upd G7 cl2 (.lst (cs2.map V.int)) = G8 at kcl2 h1 hrl hR hd pR hel hE ⊢
  clear s6 s7 s77 t7 fd fel hcl2
  refine ⟨_,rfl,cl2,cs2,d,kr,(aw es).r,rfl,ao.of kcl2,by omega,hd,pR,rok.rn,by omega,hday,fun dl us ds G9 s9 fdl hdl hD hG ld=>?_⟩
  have good:∀ x ∈ ds,eO (.str x.z) = true ∧ inR 1000000 (.int x.d) = true ∧ inR 1000000000 (.int x.n) = true:=fun x hx=>by
   obtain ⟨g1,g2,g3,y,hy,e1,_⟩:=hG.each x hx
   have n9:=hB.n9 ((iA es).1 y hy).1
   exact ⟨g1,dJ g2 (by omega),by rw [← e1]; exact dJ n9.1 (by omega)⟩
  refine ⟨dl,us,ds,rfl,hdl,hD,good,by omega,fun al ac Ga sa fal hal hA=>?_⟩
  have s9a:=s9.trans sa
  refine ⟨_,rfl,al,_,rfl,.inl (ao.of hal),fun hl hhl=>?_⟩
  have ub:=aH.new (o:=HO.lst ac) hhl
  have khl:=aB (H:=Ga) (a:=hl) (o:=.lst ac)
  have nal:al ≠ hl:=aM hal hhl
  have h1:=s9a _ _ h1
  have hd:=s9a _ _ hd
  have pR:Paired (fu Ga (aw es).r) (aw es).r kr:=Paired.fG pR fun x q z=>z.keep fun t xs h=>s9a _ _ h
  have hrl:=s9a _ _ hrl
  have hR:=hR.same s9a
  have hel:=s9a _ _ hel
  have hE:=hE.same s9a
  clear s9 s9a sa fdl fal hdl hD kcl2
  have lec:=hE.1
  have lac:=hA.1
  have gb:∀ G,aH Ga G → lY G c.c_Entry (.ref el) es:=fun G s=>⟨el,ec,rfl,s _ _ hel,hE.same s,okk,by omega,hB.bk⟩
  have aF:=hG.all rok.rn
  have rA:∀ v ∈ ac,∃ a,v = V.ref a:=fun v hv=>by
   obtain ⟨j,hj⟩:=List.getElem?_of_mem hv
   have jl:=(List.getElem?_eq_some_iff.mp hj).1
   obtain ⟨a,_,e,_⟩:=hA.2 j v _ hj (List.getElem?_eq_getElem (by omega))
   exact ⟨a,e⟩
  have ga:∀ G,aH Ga G → ∀ a,G a = some (.lst ac) → fh G c.c_Act (aw es).r (.ref a) ac ds:=fun G s a h=>⟨a,rfl,h,by omega,hA.same s,aF⟩
  generalize upd Ga hl (.lst ac) = Gb at ub khl ⊢
  refine ⟨_,rfl,_,rfl,.ref el,.ref hl,rfl,.inr ⟨es,gb _ ub,.inl ⟨ac,ds,ga _ ub hl khl,fun fq G1 s1 ffq hfq=>?_⟩⟩⟩
  have u1:=ub.trans s1
  refine ⟨_,rfl,_,rfl,fq,al,ac,ds,rfl,hfq,u1 _ _ hal,hA.same u1,fun G2 s2=>⟨_,rfl,bE ?_⟩⟩
  have hfq:=s2 _ _ hfq
  refine ⟨_,rfl,.inl ⟨rfl,_,ao.of hfq⟩,fq,_,_,rfl,rfl,hfq,by omega,?_⟩
  have s3:aH Gb (upd G2 fq (.lst (ac ++ [V.bA]))):=fun b u hb=>by
   rw [aK (aM hb ffq)]
   exact s2 _ _ (s1 _ _ hb)
  generalize upd G2 fq (.lst (ac ++ [V.bA])) = G3 at s3 ⊢
  clear s1 s2 u1 hfq
  have u3:=ub.trans s3
  refine ⟨_,rfl,l,2,ms,rfl,by decide,ao.of (u3 _ _ h1),fun c2=>?_⟩
  walk_at "rd"
  refine ⟨by omega,by omega,fun r r0 r1=>?_⟩
  refine ⟨fun σ' G'=>G3 = G' ∧ ∃ p:Nat,p ≤ ac.length ∧ σ' = [some (.ref l),some (.ref wl),some (.ref rl),some (.ref d),some (.ref el),some (.ref al),some (.ref hl),some (.ref fq),some (.int r),some (.int p),none,none,none,none],?_,?_⟩
  ·walk_at "rd"
   refine ⟨al,_,rfl,.inl (ao.of (u3 _ _ hal)),?_⟩
   walk_at "rd"
   refine ⟨by show (0:Int) < (ac.length:Int) + 1; omega,?_⟩
   have e0:=Int.emod_nonneg r (show (ac.length:Int) + 1 ≠ 0 by omega)
   have e1:=Int.emod_lt_of_pos r (show (0:Int) < (ac.length:Int) + 1 by omega)
   refine ⟨rfl,(r % ((ac.length:Int) + 1)).toNat,by omega,?_⟩
   rw [Int.toNat_of_nonneg e0]
   rfl
  rintro σ G ⟨rfl,p,hp,rfl⟩
  refine ⟨_,rfl,_,rfl,_,rfl,_,rfl,_,rfl,l,2,ms,rfl,by decide,ao.of (u3 _ _ h1),fun c2=>?_⟩
  walk_at "rd"
  refine ⟨by omega,by omega,fun r' r0' r1'=>?_⟩
  have pR3:Paired (fu G3 (aw es).r) (aw es).r kr:=Paired.fG pR fun x q z=>z.keep fun t xs h=>u3 _ _ h
  refine ⟨rl,ws,es,d,kr,al,ac,ds,p,r',rfl,u3 _ _ hrl,hR.same u3,hB,u3 _ _ hd,pR3,rok.rn,by omega,u3 _ _ hal,hA.same u3,hG,by omega,by omega,r0',fun bv G4 s4 bad=>?_⟩
  have u4:=u3.trans s4
  have kh4:=s4 _ _ (s3 _ _ khl)
  have n3:G3 hl ≠ none:=fun z=>by rw [s3 _ _ khl] at z; cases z
  refine ⟨_,rfl,.inl ⟨rfl,_,ao.of kh4⟩,_,rfl,_,rfl,hl,_,_,p,_,rfl,rfl,rfl,kh4,by omega,by omega,?_⟩
  have k5:=aB (H:=G4) (a:=hl) (o:=.lst (ac.take p ++ bv :: ac.drop p))
  have u5:aH Ga (upd G4 hl (.lst (ac.take p ++ bv :: ac.drop p))):=fun b u hb=>by
   rw [aK (aM hb hhl)]
   exact u4 _ _ hb
  have bad5:=bad (upd G4 hl (.lst (ac.take p ++ bv :: ac.drop p))) fun b u hb hu=>by
   rw [aK fun z=>n3 (by rw [← z]; exact hb)]
   exact hu
  generalize upd G4 hl (.lst (ac.take p ++ bv :: ac.drop p)) = G5 at k5 u5 bad5 ⊢
  clear s3 s4 u3 u4 kh4 n3 bad pR3
  have lp:(ac.take p).length = p:=by rw [List.length_take]; omega
  have atk:d6 G5 c.c_Act (ac.take p) (ds.take p):=⟨by rw [List.length_take,List.length_take]; omega,fun j v x h1 h2=>by
   rw [List.getElem?_take] at h1 h2
   split at h1
   ·rename_i hj
    rw [if_pos hj] at h2
    exact (hA.same u5).2 j v x h1 h2
   ·cases h1⟩
  have alf:rR (aw es).r (ds.take p):=fun j x hx=>by
   rw [List.getElem?_take] at hx
   split at hx
   ·rename_i hj
    rw [List.take_take,Nat.min_eq_left (by omega)]
    exact aF j x hx
   ·cases hx
  have badA:gB K G5 c.c_Act (aw es).r (.ref hl) p:=.inl ⟨hl,_,ds.take p,bv,rfl,k5,by rw [List.length_append,List.length_cons,List.length_take,List.length_drop]; omega,by rw [List.getElem?_append_right (by omega),lp,Nat.sub_self]; rfl,by rw [List.take_left' lp]; exact atk,alf,bad5⟩
  refine ⟨aJ rfl,fun nq hnq=>?_⟩
  have t6:=aH.new (o:=HO.lst [V.bl true,V.bl false,V.bl true,V.bl false,V.bl false,V.bl false,V.bl false]) hnq
  have knq:=aB (H:=G5) (a:=nq) (o:=.lst [V.bl true,V.bl false,V.bl true,V.bl false,V.bl false,V.bl false,V.bl false])
  have u6:=u5.trans t6
  have k6:=t6 _ _ k5
  have ba6:=badA.same t6
  generalize upd G5 nq (.lst [V.bl true,V.bl false,V.bl true,V.bl false,V.bl false,V.bl false,V.bl false]) = G6 at knq u6 k6 ba6 ⊢
  clear k5 badA bad5 u5 t6 hnq
  refine ⟨_,rfl,_,rfl,.ref el,.ref hl,1,p,rfl,.inr ⟨rfl,es,gb _ u6,ba6⟩,fun q7 G7 s7 fq7 hq7=>?_⟩
  refine ⟨_,rfl,_,rfl,aJ rfl,fun x1 hx1=>?_⟩
  have t7:=aH.new (o:=HO.lst [V.int p]) hx1
  refine ⟨nq,x1,_,_,rfl,rfl,t7 _ _ (s7 _ _ knq),aB,aJ rfl,fun x2 hx2=>?_⟩
  have t8:=aH.new (o:=HO.lst ([V.bl true,V.bl false,V.bl true,V.bl false,V.bl false,V.bl false,V.bl false] ++ [V.int p])) hx2
  refine ⟨0,true,by decide,pz (xs:=g9 1 p) (t8 _ _ (t7 _ _ hq7)) aB rfl,_,rfl,bE ?_⟩
  have s8:=s7.trans (t7.trans t8)
  generalize upd (upd G7 x1 (.lst [V.int p])) x2 (.lst ([V.bl true,V.bl false,V.bl true,V.bl false,V.bl false,V.bl false,V.bl false] ++ [V.int p])) = G8 at s8 ⊢
  clear s7 t7 t8 hq7 fq7 hx1 hx2
  have u8:=u6.trans s8
  have k8:=s8 _ _ k6
  have knq8:=s8 _ _ knq
  refine fun dq hdq=>?_
  have t1:=aH.new (o:=HO.dK []) hdq
  refine ⟨_,rfl,al,_,rfl,.inl ⟨ao.of (t1 _ _ (u8 _ _ hal)),fun tq htq=>?_⟩⟩
  have t2:=aH.new (o:=HO.tup ac) htq
  refine ⟨aJ rfl,fun oq hoq=>?_⟩
  have t3:=aH.new (o:=HO.lst [V.bA,V.int 0,V.str "",V.ref dq,V.ref tq]) hoq
  have kdq:=t3 _ _ (t2 _ _ (aB (H:=G8) (a:=dq) (o:=.dK [])))
  have ktq:=t3 _ _ (aB (H:=upd G8 dq (.dK [])) (a:=tq) (o:=.tup ac))
  have koq:=aB (H:=upd (upd G8 dq (.dK [])) tq (.tup ac)) (a:=oq) (o:=.lst [V.bA,V.int 0,V.str "",V.ref dq,V.ref tq])
  have s9:=s8.trans (t1.trans (t2.trans t3))
  generalize upd (upd (upd G8 dq (.dK [])) tq (.tup ac)) oq (.lst [V.bA,V.int 0,V.str "",V.ref dq,V.ref tq]) = G9 at kdq ktq koq s9 ⊢
  walk_at "rd"
  obtain ⟨ov,hv,hm⟩:=cM (xs:=[V.bA,V.int 0,V.str "",V.ref dq,V.ref tq]) (i:=r / 100 % 5) (Int.emod_nonneg _ (by decide)) (by show _ < (5:Int); exact Int.emod_lt_of_pos _ (by decide))
  refine ⟨oq,_,_,_,rfl,rfl,ao.of koq,hv,?_⟩
  have nol:h8 K G9 ov:=by
   simp only [List.mem_cons,List.not_mem_nil,or_false] at hm
   rcases hm with rfl | rfl | rfl | rfl | rfl
   ·exact ⟨_,.bA,rfl⟩
   ·exact ⟨_,.int 0,rfl⟩
   ·exact ⟨_,.str _,rfl⟩
   ·exact ⟨_,.dK kdq,rfl⟩
   ·exact ⟨_,.tup ktq,rfl⟩
  clear t1 t2 t3 hdq htq hoq kdq ktq koq hv hm u8 k8 knq8 s8
  have u9:=u6.trans s9
  have k9:=s9 _ _ k6
  have knq9:=s9 _ _ knq
  refine ⟨_,rfl,_,rfl,.ref el,ov,1,0,rfl,.inr ⟨rfl,es,gb _ u9,.inr ⟨rfl,nol⟩⟩,fun q7 G7 s7 fq7 hq7=>?_⟩
  refine ⟨_,rfl,aJ rfl,fun x1 hx1=>?_⟩
  have t7:=aH.new (o:=HO.lst [V.int 0]) hx1
  refine ⟨nq,x1,_,_,rfl,rfl,t7 _ _ (s7 _ _ knq9),aB,aJ rfl,fun x2 hx2=>?_⟩
  have t8:=aH.new (o:=HO.lst ([V.bl true,V.bl false,V.bl true,V.bl false,V.bl false,V.bl false,V.bl false] ++ [V.int 0])) hx2
  refine ⟨0,true,by decide,pz (xs:=g9 1 0) (t8 _ _ (t7 _ _ hq7)) aB rfl,_,rfl,bE ?_⟩
  have s8:=s7.trans (t7.trans t8)
  generalize upd (upd G7 x1 (.lst [V.int 0])) x2 (.lst ([V.bl true,V.bl false,V.bl true,V.bl false,V.bl false,V.bl false,V.bl false] ++ [V.int 0])) = G8 at s8 ⊢
  clear s7 t7 t8 hq7 fq7 hx1 hx2
  have u8:=u9.trans s8
  have k8:=s8 _ _ k9
  clear s9 u9 k9 knq9 s8
  refine ⟨_,rfl,el,_,rfl,.inl ⟨ao.of (u8 _ _ hel),fun te hte=>?_⟩⟩
  have t1:=aH.new (o:=HO.tup ec) hte
  have k1:=aB (H:=G8) (a:=te) (o:=.tup ec)
  have u1:=u8.trans t1
  have kh1:=t1 _ _ k8
  generalize upd G8 te (.tup ec) = G9 at k1 u1 kh1 ⊢
  refine ⟨_,rfl,aJ rfl,fun n1 hn1=>?_⟩
  have t2:=aH.new (o:=HO.lst [V.bA]) hn1
  refine ⟨el,n1,_,_,rfl,rfl,t2 _ _ (u1 _ _ hel),aB,by show _ + 1 ≤ _; omega,fun n2 hn2=>?_⟩
  have t3:=aH.new (o:=HO.lst (ec ++ [V.bA])) hn2
  have k3:=aB (H:=upd G9 n1 (.lst [V.bA])) (a:=n2) (o:=.lst (ec ++ [V.bA]))
  have u3:=u1.trans (t2.trans t3)
  have k1:=t3 _ _ (t2 _ _ k1)
  have kh3:=t3 _ _ (t2 _ _ kh1)
  generalize upd (upd G9 n1 (.lst [V.bA])) n2 (.lst (ec ++ [V.bA])) = G10 at k1 k3 u3 kh3 ⊢
  clear t1 t2 t3 hte hn1 hn2 u1 kh1
  walk_at "rd"
  refine fun ex dx hex hdx ne=>?_
  refine ⟨ex,dx,.int 1,.int 1,.str "genus",.str "a",.bA,.int 1,.bA,.bl true,rfl,aB,Own.int,Own.int,Own.str,Own.str,aJ rfl,Own.bA,Own.int,Own.bA,fun G11 s11=>⟨fun _=>?_,fun h=>absurd (by decide +kernel) h⟩⟩
  have s12:=aH.upd (o:=.ins c.c_Entry dx (cL xJ)) ((aH.made hex hdx ne).trans s11) hex
  have he:cn (upd G11 ex (.ins c.c_Entry dx (cL xJ))) c.c_Entry (.ref ex) xJ:=⟨ex,dx,rfl,aB⟩
  have ef:fields (.int 1) (.int 1) (.str "genus") (.str "a") .bA (.int 1) .bA (.bl true) = cL xJ:=rfl
  rw [ef]
  generalize upd G11 ex (.ins c.c_Entry dx (cL xJ)) = G12 at s12 he ⊢
  refine ⟨rfl,?_⟩
  refine ⟨aJ rfl,fun m1 hm1=>?_⟩
  have t1:=aH.new (o:=HO.lst [V.ref ex]) hm1
  refine ⟨m1,2,_,rfl,rfl,aB,by decide,by decide,aJ rfl,fun m2 hm2=>?_⟩
  rw [show (List.replicate (Int.toNat 2) [V.ref ex]).flatten = [V.ref ex,V.ref ex] from rfl]
  have t2:=aH.new (o:=HO.lst [V.ref ex,V.ref ex]) hm2
  refine ⟨el,m2,_,_,rfl,rfl,t2 _ _ (t1 _ _ (s12 _ _ (u3 _ _ hel))),aB,by show _ + 2 ≤ _; omega,fun m3 hm3=>?_⟩
  have t3:=aH.new (o:=HO.lst (ec ++ [V.ref ex,V.ref ex])) hm3
  refine ⟨aJ rfl,fun lq hlq=>?_⟩
  have t4:=aH.new (o:=HO.lst [V.bA,V.ref te,V.ref n2,V.ref m3]) hlq
  have s14:=t1.trans (t2.trans (t3.trans t4))
  have s13:=s12.trans s14
  have klq:=aB (H:=upd (upd (upd G12 m1 (.lst [V.ref ex])) m2 (.lst [V.ref ex,V.ref ex])) m3 (.lst (ec ++ [V.ref ex,V.ref ex]))) (a:=lq) (o:=.lst [V.bA,V.ref te,V.ref n2,V.ref m3])
  have km3:=t4 _ _ (aB (H:=upd (upd G12 m1 (.lst [V.ref ex])) m2 (.lst [V.ref ex,V.ref ex])) (a:=m3) (o:=.lst (ec ++ [V.ref ex,V.ref ex])))
  have he:=he.same s14
  have uX:=u3.trans s13
  have kX:=s13 _ _ kh3
  have kte:=s13 _ _ k1
  have kn2:=s13 _ _ k3
  generalize upd (upd (upd (upd G12 m1 (.lst [V.ref ex])) m2 (.lst [V.ref ex,V.ref ex])) m3 (.lst (ec ++ [V.ref ex,V.ref ex]))) lq (.lst [V.bA,V.ref te,V.ref n2,V.ref m3]) = GX at klq km3 he uX kX kte kn2 ⊢
  clear t1 t2 t3 t4 s14 s13 s12 hm1 hm2 hm3 hlq k1 k3 kh3 u3 hex hdx ne s11
  have hEX:=hE.same uX
  have badX:∀ v ∈ [V.bA,V.ref te,V.ref n2,V.ref m3],tR K GX c.c_Entry v:=fun v hv=>by
   simp only [List.mem_cons,List.not_mem_nil,or_false] at hv
   rcases hv with rfl | rfl | rfl | rfl
   ·exact .inr ⟨_,.bA,rfl⟩
   ·exact .inr ⟨_,.tup kte,rfl⟩
   ·exact .inl ⟨n2,_,es.map some ++ [none],rfl,kn2,i0 (oF hEX) (.oth .bA T.wn_Entry_NoneType),by rw [List.length_append]; show _ + 1 ≤ _; omega,jV _ _ _⟩
   ·refine .inl ⟨m3,ec ++ [V.ref ex,V.ref ex],(es ++ [xJ,xJ]).map some,rfl,km3,oF ?_,by rw [List.length_append]; show _ + 2 ≤ _; omega,Bool.eq_false_iff.mpr fun h=>?_⟩
    ·rw [List.append_cons,List.append_cons es]
     exact i0 (i0 hEX he) he
    ·have q:=(jh h).1
     rw [List.map_append,List.nodup_append] at q
     have q:=q.2.1
     revert q
     decide
  refine ⟨lq,rfl,⟨_,ao.of klq⟩,?_⟩
  refine gR (xs:=[V.bA,V.ref te,V.ref n2,V.ref m3]) (fun i σ G'=>aH GX G' ∧ ∃ z13,σ = [some (.ref l),some (.ref wl),some (.ref rl),some (.ref d),some (.ref el),some (.ref al),some (.ref hl),some (.ref fq),some (.int r),some (.int p),some bv,some (.ref nq),some ov,z13]) ?_ ?_ ?_ ?_
  ·exact ⟨aH.refl _,_,rfl⟩
  ·rintro i σ G' _ ⟨h,_⟩
   exact ao.of (h _ _ klq)
  ·rintro i v σ G' hv ⟨sG,z13,rfl⟩
   have bd:=badX v (List.mem_of_getElem? hv)
   refine ⟨_,rfl,_,rfl,_,rfl,aJ rfl,fun a1 ha1=>?_⟩
   have v1:=aH.new (o:=HO.lst [V.ref hl,ov]) ha1
   have ka1:=aB (H:=G') (a:=a1) (o:=.lst [V.ref hl,ov])
   have sG1:=sG.trans v1
   generalize upd G' a1 (.lst [V.ref hl,ov]) = G1 at ka1 sG1 ⊢
   walk_at "rd"
   obtain ⟨yv,hyv,_⟩:=cM (xs:=[V.ref hl,ov]) (i:=r / 500 % 2) (Int.emod_nonneg _ (by decide)) (by show _ < (2:Int); exact Int.emod_lt_of_pos _ (by decide))
   refine ⟨a1,_,_,_,rfl,rfl,ao.of ka1,hyv,?_⟩
   refine ⟨v,yv,0,0,rfl,.inl ⟨rfl,mP bd sG1⟩,fun q2 G2 s2 f2 hq2=>?_⟩
   refine ⟨aJ rfl,fun b1 hb1=>?_⟩
   have v2:=aH.new (o:=HO.lst [V.bl true,V.bl true,V.bl false,V.bl false,V.bl false,V.bl false,V.bl false]) hb1
   exact ⟨0,true,by decide,pz (xs:=g9 0 0) (v2 _ _ hq2) aB rfl,_,rfl,bE ⟨sG1.trans (s2.trans v2),_,rfl⟩⟩
  rintro σ G1 ⟨s1,z13,rfl⟩
  have u1:=uX.trans s1
  have k1:=s1 _ _ kX
  have lW:(ac.take p ++ bv :: ac.drop p).length = ac.length + 1:=by rw [List.length_append,List.length_cons,List.length_take,List.length_drop]; omega
  have ix:seqIndex? (p:Int) (ac.take p ++ bv :: ac.drop p).length = some p:=by
   rw [lW]
   unfold seqIndex?
   simp only [show ¬ ((p:Int) < 0) by omega,if_false]
   rw [if_pos (by rw [Bool.and_eq_true]; exact ⟨decide_eq_true (by omega),decide_eq_true (by omega)⟩),Int.toNat_natCast]
  have gp:(ac.take p ++ bv :: ac.drop p)[p]? = some bv:=by rw [List.getElem?_append_right (by omega),lp,Nat.sub_self]; rfl
  have er:(ac.take p ++ bv :: ac.drop p).eraseIdx p = ac:=by rw [List.eraseIdx_append_of_length_le (by omega),lp,Nat.sub_self,List.eraseIdx_cons_zero,List.take_append_drop]
  refine ⟨_,rfl,.inl ⟨rfl,_,ao.of k1⟩,_,rfl,hl,_,_,p,bv,rfl,rfl,k1,by omega,by omega,ix,gp,?_⟩
  rw [er]
  have u2:aH Ga (upd G1 hl (.lst ac)):=fun b u hb=>by
   rw [aK (aM hb hhl)]
   exact u1 _ _ hb
  have k2:=aB (H:=G1) (a:=hl) (o:=.lst ac)
  generalize upd G1 hl (.lst ac) = G2 at u2 k2 ⊢
  refine ⟨_,rfl,_,rfl,.ref el,.ref hl,rfl,.inr ⟨es,gb _ u2,.inl ⟨ac,ds,ga _ u2 hl k2,fun q3 G3 s3 f3 hq3=>?_⟩⟩⟩
  have u3:=u2.trans s3
  refine ⟨_,rfl,q3,al,ac,ds,rfl,hq3,u3 _ _ hal,hA.same u3,fun G4 s4=>⟨_,rfl,?_⟩⟩
  exact bR ⟨_,rfl,_,rfl,0,true,by decide,qe (s4 _ _ (s3 _ _ k2)) (s4 _ _ (u3 _ _ hal)) rA,k _⟩
end
theorem all_mk {l:PySem.W.OpenLaw} {w:World} {K:W.Frag} {h:Heap} {mg:Str → Option Value} {fa:Addr} (X:K.In h) (G:h.Ns mainGlobals mg) (hfa:mg "law" = some (.ref fa))
    {f0:Addr} {od0 an0:Option Addr} {sl0:Array (Option Value)} {oc0 kV0 dc0 pm0 cd0 ct0:Value}
    {f1:Addr} {od1 an1:Option Addr} {sl1:Array (Option Value)} {oc1 kV1 dc1 pm1 cd1 ct1:Value}
    {f2:Addr} {od2 an2:Option Addr} {sl2:Array (Option Value)} {oc2 kV2 dc2 pm2 cd2 ct2:Value}
    {f3:Addr} {od3 an3:Option Addr} {sl3:Array (Option Value)} {oc3 kV3 dc3 pm3 cd3 ct3:Value}
    {f4:Addr} {od4 an4:Option Addr} {sl4:Array (Option Value)} {oc4 kV4 dc4 pm4 cd4 ct4:Value}
    {f5:Addr} {od5 an5:Option Addr} {sl5:Array (Option Value)} {oc5 kV5 dc5 pm5 cd5 ct5:Value}
    {f6:Addr} {od6 an6:Option Addr} {sl6:Array (Option Value)} {oc6 kV6 dc6 pm6 cd6 ct6:Value}
    {f7:Addr} {od7 an7:Option Addr} {sl7:Array (Option Value)} {oc7 kV7 dc7 pm7 cd7 ct7:Value}
    {f8:Addr} {od8 an8:Option Addr} {sl8:Array (Option Value)} {oc8 kV8 dc8 pm8 cd8 ct8:Value}
    {f9:Addr} {od9 an9:Option Addr} {sl9:Array (Option Value)} {oc9 kV9 dc9 pm9 cd9 ct9:Value}
    {f10:Addr} {od10 an10:Option Addr} {sl10:Array (Option Value)} {oc10 kV10 dc10 pm10 cd10 ct10:Value}
    {f11:Addr} {od11 an11:Option Addr} {sl11:Array (Option Value)} {oc11 kV11 dc11 pm11 cd11 ct11:Value}
    {f12:Addr} {od12 an12:Option Addr} {sl12:Array (Option Value)} {oc12 kV12 dc12 pm12 cd12 ct12:Value}
    {f13:Addr} {od13 an13:Option Addr} {sl13:Array (Option Value)} {oc13 kV13 dc13 pm13 cd13 ct13:Value}
    {f14:Addr} {od14 an14:Option Addr} {sl14:Array (Option Value)} {oc14 kV14 dc14 pm14 cd14 ct14:Value}
    {f15:Addr} {od15 an15:Option Addr} {sl15:Array (Option Value)} {oc15 kV15 dc15 pm15 cd15 ct15:Value}
    {f16:Addr} {od16 an16:Option Addr} {sl16:Array (Option Value)} {oc16 kV16 dc16 pm16 cd16 ct16:Value}
    {f17:Addr} {od17 an17:Option Addr} {sl17:Array (Option Value)} {oc17 kV17 dc17 pm17 cd17 ct17:Value}
    {f18:Addr} {od18 an18:Option Addr} {sl18:Array (Option Value)} {oc18 kV18 dc18 pm18 cd18 ct18:Value}
    {f19:Addr} {od19 an19:Option Addr} {sl19:Array (Option Value)} {oc19 kV19 dc19 pm19 cd19 ct19:Value}
    {f20:Addr} {od20 an20:Option Addr} {sl20:Array (Option Value)} {oc20 kV20 dc20 pm20 cd20 ct20:Value}
    {f21:Addr} {od21 an21:Option Addr} {sl21:Array (Option Value)} {oc21 kV21 dc21 pm21 cd21 ct21:Value}
    {f22:Addr} {od22 an22:Option Addr} {sl22:Array (Option Value)} {oc22 kV22 dc22 pm22 cd22 ct22:Value}
    {f23:Addr} {od23 an23:Option Addr} {sl23:Array (Option Value)} {oc23 kV23 dc23 pm23 cd23 ct23:Value}
    {f24:Addr} {od24 an24:Option Addr} {sl24:Array (Option Value)} {oc24 kV24 dc24 pm24 cd24 ct24:Value}
    {f25:Addr} {od25 an25:Option Addr} {sl25:Array (Option Value)} {oc25 kV25 dc25 pm25 cd25 ct25:Value}
    {f26:Addr} {od26 an26:Option Addr} {sl26:Array (Option Value)} {oc26 kV26 dc26 pm26 cd26 ct26:Value}
    {f27:Addr} {od27 an27:Option Addr} {sl27:Array (Option Value)} {oc27 kV27 dc27 pm27 cd27 ct27:Value}
    {f28:Addr} {od28 an28:Option Addr} {sl28:Array (Option Value)} {oc28 kV28 dc28 pm28 cd28 ct28:Value}
    {f29:Addr} {od29 an29:Option Addr} {sl29:Array (Option Value)} {oc29 kV29 dc29 pm29 cd29 ct29:Value}
    {f30:Addr} {od30 an30:Option Addr} {sl30:Array (Option Value)} {oc30 kV30 dc30 pm30 cd30 ct30:Value}
    {f31:Addr} {od31 an31:Option Addr} {sl31:Array (Option Value)} {oc31 kV31 dc31 pm31 cd31 ct31:Value}
    {f32:Addr} {od32 an32:Option Addr} {sl32:Array (Option Value)} {oc32 kV32 dc32 pm32 cd32 ct32:Value}
    {f33:Addr} {od33 an33:Option Addr} {sl33:Array (Option Value)} {oc33 kV33 dc33 pm33 cd33 ct33:Value}
    {c_Entry f_Entry t_Entry:Addr} {od_Entry an_Entry:Option Addr} {sl_Entry:Array (Option Value)} {oc_Entry kV_Entry dc_Entry pm_Entry cd_Entry ct_Entry:Value} {o_Entry:Obj} {n_Entry:Nat}
    {c_Results:Addr}
    {f_Results_init:Addr} {od_Results_init an_Results_init:Option Addr} {sl_Results_init:Array (Option Value)} {oc_Results_init kV_Results_init dc_Results_init pm_Results_init cd_Results_init ct_Results_init:Value}
    {c_Act f_Act:Addr} {od_Act an_Act:Option Addr} {sl_Act:Array (Option Value)} {oc_Act kV_Act dc_Act pm_Act cd_Act ct_Act:Value}
    {f_Results_put:Addr} {od_Results_put an_Results_put:Option Addr} {sl_Results_put:Array (Option Value)} {oc_Results_put kV_Results_put dc_Results_put pm_Results_put cd_Results_put ct_Results_put:Value}
    {f_Results_name_of:Addr} {od_Results_name_of an_Results_name_of:Option Addr} {sl_Results_name_of:Array (Option Value)} {oc_Results_name_of kV_Results_name_of dc_Results_name_of pm_Results_name_of cd_Results_name_of ct_Results_name_of:Value}
    {f_Results_outcome_of:Addr} {od_Results_outcome_of an_Results_outcome_of:Option Addr} {sl_Results_outcome_of:Array (Option Value)} {oc_Results_outcome_of kV_Results_outcome_of dc_Results_outcome_of pm_Results_outcome_of cd_Results_outcome_of ct_Results_outcome_of:Value}
    {u_MOST_LETTERS:Value}
    {u_LAST_DAY:Value}
    {u_LAST_NUMBER:Value}
    {u_RANKS:Addr} {o_RANKS:Obj} {i_RANKS:List Value} {n_RANKS:Nat}
    {u_DEEDS:Addr} {o_DEEDS:Obj} {i_DEEDS:List Value} {n_DEEDS:Nat}
    {u_ABOVE:Addr} {e_ABOVE:List DictEntry} {n_ABOVE:Nat}
    {c_NoRank:Addr}
    {c_NoNumber:Addr}
    {c_NoDay:Addr}
    {c_NoWord:Addr}
    {c_NoBook:Addr}
    {c_NoAct:Addr}
    {c_NoEntry:Addr}
    {c_RightError:Addr}
    {c_Late:Addr}
    {N_NoRank A_NoRank:Addr} {nm_NoRank q_NoRank:Str} {bs_NoRank:List Value} {hd_NoRank:Bool} {sn_NoRank:List Str} {sub_NoRank:List Value} {ab_NoRank:Bool} {col_NoRank:Option Bool} {dd_NoRank:Option Addr} {k0_NoRank k1_NoRank k2_NoRank k3_NoRank k5_NoRank:Option Value}
    {es_NoRank:Array DictEntry} {x1_NoRank:Value} {x2_NoRank:Option Addr} {x3_NoRank:Nat} {x4_NoRank:Array (Option Value)} {y0_NoRank:Value} {y1_NoRank:Option Addr} {y2_NoRank:ClassData} {y3_NoRank:Array (Option Value)} {et_NoRank:Array DictEntry} {z1_NoRank:Value} {z2_NoRank:Option Addr} {z3_NoRank:Nat} {z4_NoRank:Array (Option Value)}
    {N_NoNumber A_NoNumber:Addr} {nm_NoNumber q_NoNumber:Str} {bs_NoNumber:List Value} {hd_NoNumber:Bool} {sn_NoNumber:List Str} {sub_NoNumber:List Value} {ab_NoNumber:Bool} {col_NoNumber:Option Bool} {dd_NoNumber:Option Addr} {k0_NoNumber k1_NoNumber k2_NoNumber k3_NoNumber k5_NoNumber:Option Value}
    {es_NoNumber:Array DictEntry} {x1_NoNumber:Value} {x2_NoNumber:Option Addr} {x3_NoNumber:Nat} {x4_NoNumber:Array (Option Value)} {y0_NoNumber:Value} {y1_NoNumber:Option Addr} {y2_NoNumber:ClassData} {y3_NoNumber:Array (Option Value)} {et_NoNumber:Array DictEntry} {z1_NoNumber:Value} {z2_NoNumber:Option Addr} {z3_NoNumber:Nat} {z4_NoNumber:Array (Option Value)}
    {N_NoDay A_NoDay:Addr} {nm_NoDay q_NoDay:Str} {bs_NoDay:List Value} {hd_NoDay:Bool} {sn_NoDay:List Str} {sub_NoDay:List Value} {ab_NoDay:Bool} {col_NoDay:Option Bool} {dd_NoDay:Option Addr} {k0_NoDay k1_NoDay k2_NoDay k3_NoDay k5_NoDay:Option Value}
    {es_NoDay:Array DictEntry} {x1_NoDay:Value} {x2_NoDay:Option Addr} {x3_NoDay:Nat} {x4_NoDay:Array (Option Value)} {y0_NoDay:Value} {y1_NoDay:Option Addr} {y2_NoDay:ClassData} {y3_NoDay:Array (Option Value)} {et_NoDay:Array DictEntry} {z1_NoDay:Value} {z2_NoDay:Option Addr} {z3_NoDay:Nat} {z4_NoDay:Array (Option Value)}
    {N_NoWord A_NoWord:Addr} {nm_NoWord q_NoWord:Str} {bs_NoWord:List Value} {hd_NoWord:Bool} {sn_NoWord:List Str} {sub_NoWord:List Value} {ab_NoWord:Bool} {col_NoWord:Option Bool} {dd_NoWord:Option Addr} {k0_NoWord k1_NoWord k2_NoWord k3_NoWord k5_NoWord:Option Value}
    {es_NoWord:Array DictEntry} {x1_NoWord:Value} {x2_NoWord:Option Addr} {x3_NoWord:Nat} {x4_NoWord:Array (Option Value)} {y0_NoWord:Value} {y1_NoWord:Option Addr} {y2_NoWord:ClassData} {y3_NoWord:Array (Option Value)} {et_NoWord:Array DictEntry} {z1_NoWord:Value} {z2_NoWord:Option Addr} {z3_NoWord:Nat} {z4_NoWord:Array (Option Value)}
    {N_NoBook A_NoBook:Addr} {nm_NoBook q_NoBook:Str} {bs_NoBook:List Value} {hd_NoBook:Bool} {sn_NoBook:List Str} {sub_NoBook:List Value} {ab_NoBook:Bool} {col_NoBook:Option Bool} {dd_NoBook:Option Addr} {k0_NoBook k1_NoBook k2_NoBook k3_NoBook k5_NoBook:Option Value}
    {es_NoBook:Array DictEntry} {x1_NoBook:Value} {x2_NoBook:Option Addr} {x3_NoBook:Nat} {x4_NoBook:Array (Option Value)} {y0_NoBook:Value} {y1_NoBook:Option Addr} {y2_NoBook:ClassData} {y3_NoBook:Array (Option Value)} {et_NoBook:Array DictEntry} {z1_NoBook:Value} {z2_NoBook:Option Addr} {z3_NoBook:Nat} {z4_NoBook:Array (Option Value)}
    {f_NoAct t_NoAct:Addr} {od_NoAct an_NoAct:Option Addr} {sl_NoAct:Array (Option Value)} {oc_NoAct kV_NoAct dc_NoAct pm_NoAct cd_NoAct ct_NoAct:Value} {o_NoAct:Obj} {n_NoAct:Nat} {tk_NoAct:Tok}
    {N_NoAct A_NoAct:Addr} {nm_NoAct q_NoAct:Str} {bs_NoAct:List Value} {hd_NoAct:Bool} {sn_NoAct:List Str} {sub_NoAct:List Value} {ab_NoAct:Bool} {col_NoAct:Option Bool} {dd_NoAct:Option Addr} {k0_NoAct k1_NoAct k2_NoAct k3_NoAct k5_NoAct:Option Value}
    {es_NoAct:Array DictEntry} {x1_NoAct:Value} {x2_NoAct:Option Addr} {x3_NoAct:Nat} {x4_NoAct:Array (Option Value)} {y0_NoAct:Value} {y1_NoAct:Option Addr} {y2_NoAct:ClassData} {y3_NoAct:Array (Option Value)} {et_NoAct:Array DictEntry} {z1_NoAct:Value} {z2_NoAct:Option Addr} {z3_NoAct:Nat} {z4_NoAct:Array (Option Value)}
    {N_NoEntry A_NoEntry:Addr} {nm_NoEntry q_NoEntry:Str} {bs_NoEntry:List Value} {hd_NoEntry:Bool} {sn_NoEntry:List Str} {sub_NoEntry:List Value} {ab_NoEntry:Bool} {col_NoEntry:Option Bool} {dd_NoEntry:Option Addr} {k0_NoEntry k1_NoEntry k2_NoEntry k3_NoEntry k5_NoEntry:Option Value}
    {es_NoEntry:Array DictEntry} {x1_NoEntry:Value} {x2_NoEntry:Option Addr} {x3_NoEntry:Nat} {x4_NoEntry:Array (Option Value)} {y0_NoEntry:Value} {y1_NoEntry:Option Addr} {y2_NoEntry:ClassData} {y3_NoEntry:Array (Option Value)} {et_NoEntry:Array DictEntry} {z1_NoEntry:Value} {z2_NoEntry:Option Addr} {z3_NoEntry:Nat} {z4_NoEntry:Array (Option Value)}
    (a0:W.nsIn K mainGlobals "is_whole" = some (some (.ref f0)))
    (l0:K.lookup f0 = some ⟨oc0,od0,.func (W.fnOf "is_whole" "is_whole" (aS dW) (aP dW) (aG dW) .none kV0 dc0 pm0 an0 cd0 ct0),sl0⟩)
    (c0:W.codeIn K cd0 "is_whole" = true)
    (k0:W.keepIn K (.ref f0) = true)
    (a1:W.nsIn K mainGlobals "is_day" = some (some (.ref f1)))
    (l1:K.lookup f1 = some ⟨oc1,od1,.func (W.fnOf "is_day" "is_day" (aS fk) (aP fk) (aG fk) .none kV1 dc1 pm1 an1 cd1 ct1),sl1⟩)
    (c1:W.codeIn K cd1 "is_day" = true)
    (k1:W.keepIn K (.ref f1) = true)
    (a2:W.nsIn K mainGlobals "is_number" = some (some (.ref f2)))
    (l2:K.lookup f2 = some ⟨oc2,od2,.func (W.fnOf "is_number" "is_number" (aS dD) (aP dD) (aG dD) .none kV2 dc2 pm2 an2 cd2 ct2),sl2⟩)
    (c2:W.codeIn K cd2 "is_number" = true)
    (k2:W.keepIn K (.ref f2) = true)
    (a3:W.nsIn K mainGlobals "is_word" = some (some (.ref f3)))
    (l3:K.lookup f3 = some ⟨oc3,od3,.func (W.fnOf "is_word" "is_word" (aS eM) (aP eM) (aG eM) .none kV3 dc3 pm3 an3 cd3 ct3),sl3⟩)
    (c3:W.codeIn K cd3 "is_word" = true)
    (k3:W.keepIn K (.ref f3) = true)
    (a4:W.nsIn K mainGlobals "is_rank" = some (some (.ref f4)))
    (l4:K.lookup f4 = some ⟨oc4,od4,.func (W.fnOf "is_rank" "is_rank" (aS eE) (aP eE) (aG eE) .none kV4 dc4 pm4 an4 cd4 ct4),sl4⟩)
    (c4:W.codeIn K cd4 "is_rank" = true)
    (k4:W.keepIn K (.ref f4) = true)
    (a5:W.nsIn K mainGlobals "above" = some (some (.ref f5)))
    (l5:K.lookup f5 = some ⟨oc5,od5,.func (W.fnOf "above" "above" (aS gn) (aP gn) (aG gn) .none kV5 dc5 pm5 an5 cd5 ct5),sl5⟩)
    (c5:W.codeIn K cd5 "above" = true)
    (k5:W.keepIn K (.ref f5) = true)
    (a6:W.nsIn K mainGlobals "refuse_head" = some (some (.ref f6)))
    (l6:K.lookup f6 = some ⟨oc6,od6,.func (W.fnOf "refuse_head" "refuse_head" (aS cQ) (aP cQ) (aG cQ) .none kV6 dc6 pm6 an6 cd6 ct6),sl6⟩)
    (c6:W.codeIn K cd6 "refuse_head" = true)
    (k6:W.keepIn K (.ref f6) = true)
    (a7:W.nsIn K mainGlobals "under_fits" = some (some (.ref f7)))
    (l7:K.lookup f7 = some ⟨oc7,od7,.func (W.fnOf "under_fits" "under_fits" (aS cb) (aP cb) (aG cb) .none kV7 dc7 pm7 an7 cd7 ct7),sl7⟩)
    (c7:W.codeIn K cd7 "under_fits" = true)
    (k7:W.keepIn K (.ref f7) = true)
    (a8:W.nsIn K mainGlobals "tie_fits" = some (some (.ref f8)))
    (l8:K.lookup f8 = some ⟨oc8,od8,.func (W.fnOf "tie_fits" "tie_fits" (aS d5) (aP d5) (aG d5) .none kV8 dc8 pm8 an8 cd8 ct8),sl8⟩)
    (c8:W.codeIn K cd8 "tie_fits" = true)
    (k8:W.keepIn K (.ref f8) = true)
    (a9:W.nsIn K mainGlobals "ahead" = some (some (.ref f9)))
    (l9:K.lookup f9 = some ⟨oc9,od9,.func (W.fnOf "ahead" "ahead" (aS gw) (aP gw) (aG gw) .none kV9 dc9 pm9 an9 cd9 ct9),sl9⟩)
    (c9:W.codeIn K cd9 "ahead" = true)
    (k9:W.keepIn K (.ref f9) = true)
    (a10:W.nsIn K mainGlobals "book_list" = some (some (.ref f10)))
    (l10:K.lookup f10 = some ⟨oc10,od10,.func (W.fnOf "book_list" "book_list" (aS dB) (aP dB) (aG dB) .none kV10 dc10 pm10 an10 cd10 ct10),sl10⟩)
    (c10:W.codeIn K cd10 "book_list" = true)
    (k10:W.keepIn K (.ref f10) = true)
    (a11:W.nsIn K mainGlobals "results_of" = some (some (.ref f11)))
    (l11:K.lookup f11 = some ⟨oc11,od11,.func (W.fnOf "results_of" "results_of" (aS cj) (aP cj) (aG cj) .none kV11 dc11 pm11 an11 cd11 ct11),sl11⟩)
    (c11:W.codeIn K cd11 "results_of" = true)
    (k11:W.keepIn K (.ref f11) = true)
    (a12:W.nsIn K mainGlobals "is_deed" = some (some (.ref f12)))
    (l12:K.lookup f12 = some ⟨oc12,od12,.func (W.fnOf "is_deed" "is_deed" (aS eK) (aP eK) (aG eK) .none kV12 dc12 pm12 an12 cd12 ct12),sl12⟩)
    (c12:W.codeIn K cd12 "is_deed" = true)
    (k12:W.keepIn K (.ref f12) = true)
    (a13:W.nsIn K mainGlobals "refuse_day" = some (some (.ref f13)))
    (l13:K.lookup f13 = some ⟨oc13,od13,.func (W.fnOf "refuse_day" "refuse_day" (aS ck) (aP ck) (aG ck) .none kV13 dc13 pm13 an13 cd13 ct13),sl13⟩)
    (c13:W.codeIn K cd13 "refuse_day" = true)
    (k13:W.keepIn K (.ref f13) = true)
    (a14:W.nsIn K mainGlobals "can_follow" = some (some (.ref f14)))
    (l14:K.lookup f14 = some ⟨oc14,od14,.func (W.fnOf "can_follow" "can_follow" (aS cX) (aP cX) (aG cX) .none kV14 dc14 pm14 an14 cd14 ct14),sl14⟩)
    (c14:W.codeIn K cd14 "can_follow" = true)
    (k14:W.keepIn K (.ref f14) = true)
    (a15:W.nsIn K mainGlobals "acts_with" = some (some (.ref f15)))
    (l15:K.lookup f15 = some ⟨oc15,od15,.func (W.fnOf "acts_with" "acts_with" (aS dA) (aP dA) (aG dA) .none kV15 dc15 pm15 an15 cd15 ct15),sl15⟩)
    (c15:W.codeIn K cd15 "acts_with" = true)
    (k15:W.keepIn K (.ref f15) = true)
    (a16:W.nsIn K mainGlobals "act_list" = some (some (.ref f16)))
    (l16:K.lookup f16 = some ⟨oc16,od16,.func (W.fnOf "act_list" "act_list" (aS dZ) (aP dZ) (aG dZ) .none kV16 dc16 pm16 an16 cd16 ct16),sl16⟩)
    (c16:W.codeIn K cd16 "act_list" = true)
    (k16:W.keepIn K (.ref f16) = true)
    (a17:W.nsIn K mainGlobals "_law_cell_at" = some (some (.ref f17)))
    (l17:K.lookup f17 = some ⟨oc17,od17,.func (W.fnOf "_law_cell_at" "_law_cell_at" (aS dY) (aP dY) (aG dY) .none kV17 dc17 pm17 an17 cd17 ct17),sl17⟩)
    (c17:W.codeIn K cd17 "_law_cell_at" = true)
    (k17:W.keepIn K (.ref f17) = true)
    (a18:W.nsIn K mainGlobals "_law_draw" = some (some (.ref f18)))
    (l18:K.lookup f18 = some ⟨oc18,od18,.func (W.fnOf "_law_draw" "_law_draw" (aS gm) (aP gm) (aG gm) .none kV18 dc18 pm18 an18 cd18 ct18),sl18⟩)
    (c18:W.codeIn K cd18 "_law_draw" = true)
    (k18:W.keepIn K (.ref f18) = true)
    (a19:W.nsIn K mainGlobals "_law_words" = some (some (.ref f19)))
    (l19:K.lookup f19 = some ⟨oc19,od19,.func (W.fnOf "_law_words" "_law_words" (aS fS) (aP fS) (aG fS) .none kV19 dc19 pm19 an19 cd19 ct19),sl19⟩)
    (c19:W.codeIn K cd19 "_law_words" = true)
    (k19:W.keepIn K (.ref f19) = true)
    (a20:W.nsIn K mainGlobals "_law_sheets" = some (some (.ref f20)))
    (l20:K.lookup f20 = some ⟨oc20,od20,.func (W.fnOf "_law_sheets" "_law_sheets" (aS eD) (aP eD) (aG eD) .none kV20 dc20 pm20 an20 cd20 ct20),sl20⟩)
    (c20:W.codeIn K cd20 "_law_sheets" = true)
    (k20:W.keepIn K (.ref f20) = true)
    (a21:W.nsIn K mainGlobals "_law_under" = some (some (.ref f21)))
    (l21:K.lookup f21 = some ⟨oc21,od21,.func (W.fnOf "_law_under" "_law_under" (aS ff) (aP ff) (aG ff) .none kV21 dc21 pm21 an21 cd21 ct21),sl21⟩)
    (c21:W.codeIn K cd21 "_law_under" = true)
    (k21:W.keepIn K (.ref f21) = true)
    (a22:W.nsIn K mainGlobals "_law_base" = some (some (.ref f22)))
    (l22:K.lookup f22 = some ⟨oc22,od22,.func (W.fnOf "_law_base" "_law_base" (aS hV) (aP hV) (aG hV) .none kV22 dc22 pm22 an22 cd22 ct22),sl22⟩)
    (c22:W.codeIn K cd22 "_law_base" = true)
    (k22:W.keepIn K (.ref f22) = true)
    (a23:W.nsIn K mainGlobals "_law_row" = some (some (.ref f23)))
    (l23:K.lookup f23 = some ⟨oc23,od23,.func (W.fnOf "_law_row" "_law_row" (aS jE) (aP jE) (aG jE) .none kV23 dc23 pm23 an23 cd23 ct23),sl23⟩)
    (c23:W.codeIn K cd23 "_law_row" = true)
    (k23:W.keepIn K (.ref f23) = true)
    (a24:W.nsIn K mainGlobals "_law_rows" = some (some (.ref f24)))
    (l24:K.lookup f24 = some ⟨oc24,od24,.func (W.fnOf "_law_rows" "_law_rows" (aS gu) (aP gu) (aG gu) .none kV24 dc24 pm24 an24 cd24 ct24),sl24⟩)
    (c24:W.codeIn K cd24 "_law_rows" = true)
    (k24:W.keepIn K (.ref f24) = true)
    (a25:W.nsIn K mainGlobals "_law_entries" = some (some (.ref f25)))
    (l25:K.lookup f25 = some ⟨oc25,od25,.func (W.fnOf "_law_entries" "_law_entries" (aS d7) (aP d7) (aG d7) .none kV25 dc25 pm25 an25 cd25 ct25),sl25⟩)
    (c25:W.codeIn K cd25 "_law_entries" = true)
    (k25:W.keepIn K (.ref f25) = true)
    (a26:W.nsIn K mainGlobals "_law_right" = some (some (.ref f26)))
    (l26:K.lookup f26 = some ⟨oc26,od26,.func (W.fnOf "_law_right" "_law_right" (aS fR) (aP fR) (aG fR) .none kV26 dc26 pm26 an26 cd26 ct26),sl26⟩)
    (c26:W.codeIn K cd26 "_law_right" = true)
    (k26:W.keepIn K (.ref f26) = true)
    (a27:W.nsIn K mainGlobals "_law_roots" = some (some (.ref f27)))
    (l27:K.lookup f27 = some ⟨oc27,od27,.func (W.fnOf "_law_roots" "_law_roots" (aS fY) (aP fY) (aG fY) .none kV27 dc27 pm27 an27 cd27 ct27),sl27⟩)
    (c27:W.codeIn K cd27 "_law_roots" = true)
    (k27:W.keepIn K (.ref f27) = true)
    (a28:W.nsIn K mainGlobals "_law_deeds" = some (some (.ref f28)))
    (l28:K.lookup f28 = some ⟨oc28,od28,.func (W.fnOf "_law_deeds" "_law_deeds" (aS fX) (aP fX) (aG fX) .none kV28 dc28 pm28 an28 cd28 ct28),sl28⟩)
    (c28:W.codeIn K cd28 "_law_deeds" = true)
    (k28:W.keepIn K (.ref f28) = true)
    (a29:W.nsIn K mainGlobals "_law_acts" = some (some (.ref f29)))
    (l29:K.lookup f29 = some ⟨oc29,od29,.func (W.fnOf "_law_acts" "_law_acts" (aS gq) (aP gq) (aG gq) .none kV29 dc29 pm29 an29 cd29 ct29),sl29⟩)
    (c29:W.codeIn K cd29 "_law_acts" = true)
    (k29:W.keepIn K (.ref f29) = true)
    (a30:W.nsIn K mainGlobals "_law_same" = some (some (.ref f30)))
    (l30:K.lookup f30 = some ⟨oc30,od30,.func (W.fnOf "_law_same" "_law_same" (aS gr) (aP gr) (aG gr) .none kV30 dc30 pm30 an30 cd30 ct30),sl30⟩)
    (c30:W.codeIn K cd30 "_law_same" = true)
    (k30:W.keepIn K (.ref f30) = true)
    (a31:W.nsIn K mainGlobals "_law_refused" = some (some (.ref f31)))
    (l31:K.lookup f31 = some ⟨oc31,od31,.func (W.fnOf "_law_refused" "_law_refused" (aS dX) (aP dX) (aG dX) .none kV31 dc31 pm31 an31 cd31 ct31),sl31⟩)
    (c31:W.codeIn K cd31 "_law_refused" = true)
    (k31:W.keepIn K (.ref f31) = true)
    (a32:W.nsIn K mainGlobals "_law_bad" = some (some (.ref f32)))
    (l32:K.lookup f32 = some ⟨oc32,od32,.func (W.fnOf "_law_bad" "_law_bad" (aS jK) (aP jK) (aG jK) .none kV32 dc32 pm32 an32 cd32 ct32),sl32⟩)
    (c32:W.codeIn K cd32 "_law_bad" = true)
    (k32:W.keepIn K (.ref f32) = true)
    (a33:W.nsIn K mainGlobals "law" = some (some (.ref f33)))
    (l33:K.lookup f33 = some ⟨oc33,od33,.func (W.fnOf "law" "law" (aS lh) (aP lh) (aG lh) .none kV33 dc33 pm33 an33 cd33 ct33),sl33⟩)
    (c33:W.codeIn K cd33 "law" = true)
    (k33:W.keepIn K (.ref f33) = true)
    (cg_Entry:W.nsIn K mainGlobals "Entry" = some (some (.ref c_Entry)))
    (pg_Entry:PySem.W.plainGet K c_Entry Str.empty = true)
    (hd_Entry:PySem.W.hasDictIn K c_Entry = true)
    (po_Entry:PySem.W.plainOver K c_Entry = true)
    (sa_Entry:W.findIn K (.ref c_Entry) "__setattr__" = some (some (.builtin "object.__setattr__")))
    (mk_Entry:PySem.W.makesIn K c_Entry = true)
    (in_Entry:W.findIn K (.ref c_Entry) "__init__" = some (some (.ref f_Entry)))
    (fn_Entry:PySem.W.isFn K (.ref f_Entry) = true)
    (kc_Entry:W.keepIn K (.ref c_Entry) = true)
    (kf_Entry:W.keepIn K (.ref f_Entry) = true)
    (lf_Entry:K.lookup f_Entry = some ⟨oc_Entry,od_Entry,.func (W.fnOf "__init__" "Entry.__init__" (aS cG) (aP cG) (aG cG) (.ref t_Entry) kV_Entry dc_Entry pm_Entry an_Entry cd_Entry ct_Entry),sl_Entry⟩)
    (cf_Entry:W.codeIn K cd_Entry "Entry.__init__" = true)
    (lt_Entry:K.lookup t_Entry = some o_Entry)
    (dt_Entry:o_Entry.data = .seq #[.none,.none,.none,.bool true] n_Entry)
    (na_Entry_number:W.findIn K (.ref c_Entry) "number" = some none)
    (na_Entry_day:W.findIn K (.ref c_Entry) "day" = some none)
    (na_Entry_rank:W.findIn K (.ref c_Entry) "rank" = some none)
    (na_Entry_word:W.findIn K (.ref c_Entry) "word" = some none)
    (na_Entry_under:W.findIn K (.ref c_Entry) "under" = some none)
    (na_Entry_sheet:W.findIn K (.ref c_Entry) "sheet" = some none)
    (na_Entry_base:W.findIn K (.ref c_Entry) "base" = some none)
    (na_Entry_described:W.findIn K (.ref c_Entry) "described" = some none)
    (cg_Results:W.nsIn K mainGlobals "Results" = some (some (.ref c_Results)))
    (pg_Results:PySem.W.plainGet K c_Results Str.empty = true)
    (hd_Results:PySem.W.hasDictIn K c_Results = true)
    (po_Results:PySem.W.plainOver K c_Results = true)
    (sa_Results:W.findIn K (.ref c_Results) "__setattr__" = some (some (.builtin "object.__setattr__")))
    (kc_Results:W.keepIn K (.ref c_Results) = true)
    (mk_Results:PySem.W.makesIn K c_Results = true)
    (in_Results:W.findIn K (.ref c_Results) "__init__" = some (some (.ref f_Results_init)))
    (fn_Results:PySem.W.isFn K (.ref f_Results_init) = true)
    (l_Results_init:K.lookup f_Results_init = some ⟨oc_Results_init,od_Results_init,.func (W.fnOf "__init__" "Results.__init__" (aS cC) (aP cC) (aG cC) .none kV_Results_init dc_Results_init pm_Results_init an_Results_init cd_Results_init ct_Results_init),sl_Results_init⟩)
    (k_Results_init:W.codeIn K cd_Results_init "Results.__init__" = true)
    (p_Results_init:W.keepIn K (.ref f_Results_init) = true)
    (na_Results_outs:W.findIn K (.ref c_Results) "outs" = some none)
    (na_Results_names:W.findIn K (.ref c_Results) "names" = some none)
    (na_Results_rights:W.findIn K (.ref c_Results) "rights" = some none)
    (na_Results_holders:W.findIn K (.ref c_Results) "holders" = some none)
    (cg_Act:W.nsIn K mainGlobals "Act" = some (some (.ref c_Act)))
    (pg_Act:PySem.W.plainGet K c_Act Str.empty = true)
    (hd_Act:PySem.W.hasDictIn K c_Act = true)
    (po_Act:PySem.W.plainOver K c_Act = true)
    (sa_Act:W.findIn K (.ref c_Act) "__setattr__" = some (some (.builtin "object.__setattr__")))
    (mk_Act:PySem.W.makesIn K c_Act = true)
    (in_Act:W.findIn K (.ref c_Act) "__init__" = some (some (.ref f_Act)))
    (fn_Act:PySem.W.isFn K (.ref f_Act) = true)
    (kc_Act:W.keepIn K (.ref c_Act) = true)
    (kf_Act:W.keepIn K (.ref f_Act) = true)
    (lf_Act:K.lookup f_Act = some ⟨oc_Act,od_Act,.func (W.fnOf "__init__" "Act.__init__" (aS d8) (aP d8) (aG d8) .none kV_Act dc_Act pm_Act an_Act cd_Act ct_Act),sl_Act⟩)
    (cf_Act:W.codeIn K cd_Act "Act.__init__" = true)
    (na_Act_day:W.findIn K (.ref c_Act) "day" = some none)
    (na_Act_deed:W.findIn K (.ref c_Act) "deed" = some none)
    (na_Act_number:W.findIn K (.ref c_Act) "number" = some none)
    (mf_Results_put:W.findIn K (.ref c_Results) "put" = some (some (.ref f_Results_put)))
    (mi_Results_put:PySem.W.isFn K (.ref f_Results_put) = true)
    (l_Results_put:K.lookup f_Results_put = some ⟨oc_Results_put,od_Results_put,.func (W.fnOf "put" "Results.put" (aS cR) (aP cR) (aG cR) .none kV_Results_put dc_Results_put pm_Results_put an_Results_put cd_Results_put ct_Results_put),sl_Results_put⟩)
    (k_Results_put:W.codeIn K cd_Results_put "Results.put" = true)
    (p_Results_put:W.keepIn K (.ref f_Results_put) = true)
    (mf_Results_name_of:W.findIn K (.ref c_Results) "name_of" = some (some (.ref f_Results_name_of)))
    (mi_Results_name_of:PySem.W.isFn K (.ref f_Results_name_of) = true)
    (l_Results_name_of:K.lookup f_Results_name_of = some ⟨oc_Results_name_of,od_Results_name_of,.func (W.fnOf "name_of" "Results.name_of" (aS bY) (aP bY) (aG bY) .none kV_Results_name_of dc_Results_name_of pm_Results_name_of an_Results_name_of cd_Results_name_of ct_Results_name_of),sl_Results_name_of⟩)
    (k_Results_name_of:W.codeIn K cd_Results_name_of "Results.name_of" = true)
    (p_Results_name_of:W.keepIn K (.ref f_Results_name_of) = true)
    (mf_Results_outcome_of:W.findIn K (.ref c_Results) "outcome_of" = some (some (.ref f_Results_outcome_of)))
    (mi_Results_outcome_of:PySem.W.isFn K (.ref f_Results_outcome_of) = true)
    (l_Results_outcome_of:K.lookup f_Results_outcome_of = some ⟨oc_Results_outcome_of,od_Results_outcome_of,.func (W.fnOf "outcome_of" "Results.outcome_of" (aS bJ) (aP bJ) (aG bJ) .none kV_Results_outcome_of dc_Results_outcome_of pm_Results_outcome_of an_Results_outcome_of cd_Results_outcome_of ct_Results_outcome_of),sl_Results_outcome_of⟩)
    (k_Results_outcome_of:W.codeIn K cd_Results_outcome_of "Results.outcome_of" = true)
    (p_Results_outcome_of:W.keepIn K (.ref f_Results_outcome_of) = true)
    (cg_MOST_LETTERS:W.nsIn K mainGlobals "MOST_LETTERS" = some (some u_MOST_LETTERS))
    (cr_MOST_LETTERS:RelV (.int 12) u_MOST_LETTERS)
    (cg_LAST_DAY:W.nsIn K mainGlobals "LAST_DAY" = some (some u_LAST_DAY))
    (cr_LAST_DAY:RelV (.int 1000000) u_LAST_DAY)
    (cg_LAST_NUMBER:W.nsIn K mainGlobals "LAST_NUMBER" = some (some u_LAST_NUMBER))
    (cr_LAST_NUMBER:RelV (.int 1000000000) u_LAST_NUMBER)
    (cg_RANKS:W.nsIn K mainGlobals "RANKS" = some (some (.ref u_RANKS)))
    (cl_RANKS:K.lookup u_RANKS = some o_RANKS)
    (cc_RANKS:o_RANKS.cls = .type "tuple")
    (cd_RANKS:o_RANKS.data = .seq i_RANKS.toArray n_RANKS)
    (cv_RANKS:Vals [.str "genus",.str "species",.str "form"] i_RANKS)
    (cg_DEEDS:W.nsIn K mainGlobals "DEEDS" = some (some (.ref u_DEEDS)))
    (cl_DEEDS:K.lookup u_DEEDS = some o_DEEDS)
    (cc_DEEDS:o_DEEDS.cls = .type "tuple")
    (cd_DEEDS:o_DEEDS.data = .seq i_DEEDS.toArray n_DEEDS)
    (cv_DEEDS:Vals [.str "keep",.str "strike",.str "leave"] i_DEEDS)
    (cg_ABOVE:W.nsIn K mainGlobals "ABOVE" = some (some (.ref u_ABOVE)))
    (cl_ABOVE:K.lookup u_ABOVE = some ⟨.type "dict",none,.dict e_ABOVE.toArray n_ABOVE,#[]⟩)
    (cv_ABOVE:Paired (jo w) ([("genus",.bA),("species",.str "genus"),("form",.str "species")]:List (Str × V)) e_ABOVE)
    (cg_NoRank:W.nsIn K mainGlobals "NoRank" = some (some (.ref c_NoRank)))
    (cg_NoNumber:W.nsIn K mainGlobals "NoNumber" = some (some (.ref c_NoNumber)))
    (cg_NoDay:W.nsIn K mainGlobals "NoDay" = some (some (.ref c_NoDay)))
    (cg_NoWord:W.nsIn K mainGlobals "NoWord" = some (some (.ref c_NoWord)))
    (cg_NoBook:W.nsIn K mainGlobals "NoBook" = some (some (.ref c_NoBook)))
    (cg_NoAct:W.nsIn K mainGlobals "NoAct" = some (some (.ref c_NoAct)))
    (cg_NoEntry:W.nsIn K mainGlobals "NoEntry" = some (some (.ref c_NoEntry)))
    (cg_RightError:W.nsIn K mainGlobals "RightError" = some (some (.ref c_RightError)))
    (cg_Late:W.nsIn K mainGlobals "Late" = some (some (.ref c_Late)))
    (xl_NoRank:K.lookup c_NoRank = some (excClassObj nm_NoRank q_NoRank c_NoRank N_NoRank bs_NoRank (.ref A_NoRank :: i6) hd_NoRank sn_NoRank sub_NoRank ab_NoRank col_NoRank dd_NoRank k0_NoRank k1_NoRank k2_NoRank k3_NoRank k5_NoRank "ValueError.__new__"))
    (xn_NoRank:K.lookup N_NoRank = some ⟨x1_NoRank,x2_NoRank,.dict es_NoRank x3_NoRank,x4_NoRank⟩)
    (xs_NoRank:bM es_NoRank = true)
    (xi_NoRank:nsFind es_NoRank "__init__" = none)
    (xa_NoRank:K.lookup A_NoRank = some { cls:=y0_NoRank,dict:=y1_NoRank,data:=.cls y2_NoRank,slots:=y3_NoRank })
    (xb_NoRank:K.lookup y2_NoRank.ns = some ⟨z1_NoRank,z2_NoRank,.dict et_NoRank z3_NoRank,z4_NoRank⟩)
    (xt_NoRank:bM et_NoRank = true)
    (xj_NoRank:nsFind et_NoRank "__init__" = none)
    (qcs_NoRank:(PySem.W.clsIn K c_NoRank).isSome = true)
    (qga_NoRank:W.findIn K (.ref c_NoRank) "__getattribute__" = some (some (.builtin "BaseException.__getattribute__")))
    (qgt_NoRank:W.findIn K (.ref c_NoRank) "__getattr__" = some none)
    (qca_NoRank:W.findIn K (.ref c_NoRank) "__class__" = some (some (.builtin "object.__class__")))
    (qgg_NoRank:W.specialIn K (.builtin "object.__class__") "__get__" = some (some (.builtin "getset_descriptor.__get__")))
    (qtk_NoRank:W.takesIn K (.builtin "object.__class__") = some true)
    (qmo_NoRank:W.mroIn K c_NoRank (.type "object") = some true)
    (qsb_NoRank:PySem.W.subIn K (.ref c_NoRank) (.type "BaseException") = some true)
    (i_NoRank_NoAct:W.kitOne K (.ref c_NoRank) (.ref c_NoAct) = some false)
    (i_NoRank_ValueError:W.kitOne K (.ref c_NoRank) (.type "ValueError") = some true)
    (i_NoRank_NoBook:W.kitOne K (.ref c_NoRank) (.ref c_NoBook) = some false)
    (i_NoRank_Late:W.kitOne K (.ref c_NoRank) (.ref c_Late) = some false)
    (i_NoRank_NoDay:W.kitOne K (.ref c_NoRank) (.ref c_NoDay) = some false)
    (i_NoRank_NoEntry:W.kitOne K (.ref c_NoRank) (.ref c_NoEntry) = some false)
    (i_NoRank_NoNumber:W.kitOne K (.ref c_NoRank) (.ref c_NoNumber) = some false)
    (e_NoRank_RightError:PySem.W.exmOne K (.ref c_NoRank) (.ref c_RightError) = some true)
    (xl_NoNumber:K.lookup c_NoNumber = some (excClassObj nm_NoNumber q_NoNumber c_NoNumber N_NoNumber bs_NoNumber (.ref A_NoNumber :: i6) hd_NoNumber sn_NoNumber sub_NoNumber ab_NoNumber col_NoNumber dd_NoNumber k0_NoNumber k1_NoNumber k2_NoNumber k3_NoNumber k5_NoNumber "ValueError.__new__"))
    (xn_NoNumber:K.lookup N_NoNumber = some ⟨x1_NoNumber,x2_NoNumber,.dict es_NoNumber x3_NoNumber,x4_NoNumber⟩)
    (xs_NoNumber:bM es_NoNumber = true)
    (xi_NoNumber:nsFind es_NoNumber "__init__" = none)
    (xa_NoNumber:K.lookup A_NoNumber = some { cls:=y0_NoNumber,dict:=y1_NoNumber,data:=.cls y2_NoNumber,slots:=y3_NoNumber })
    (xb_NoNumber:K.lookup y2_NoNumber.ns = some ⟨z1_NoNumber,z2_NoNumber,.dict et_NoNumber z3_NoNumber,z4_NoNumber⟩)
    (xt_NoNumber:bM et_NoNumber = true)
    (xj_NoNumber:nsFind et_NoNumber "__init__" = none)
    (qcs_NoNumber:(PySem.W.clsIn K c_NoNumber).isSome = true)
    (qga_NoNumber:W.findIn K (.ref c_NoNumber) "__getattribute__" = some (some (.builtin "BaseException.__getattribute__")))
    (qgt_NoNumber:W.findIn K (.ref c_NoNumber) "__getattr__" = some none)
    (qca_NoNumber:W.findIn K (.ref c_NoNumber) "__class__" = some (some (.builtin "object.__class__")))
    (qgg_NoNumber:W.specialIn K (.builtin "object.__class__") "__get__" = some (some (.builtin "getset_descriptor.__get__")))
    (qtk_NoNumber:W.takesIn K (.builtin "object.__class__") = some true)
    (qmo_NoNumber:W.mroIn K c_NoNumber (.type "object") = some true)
    (qsb_NoNumber:PySem.W.subIn K (.ref c_NoNumber) (.type "BaseException") = some true)
    (i_NoNumber_NoAct:W.kitOne K (.ref c_NoNumber) (.ref c_NoAct) = some false)
    (i_NoNumber_ValueError:W.kitOne K (.ref c_NoNumber) (.type "ValueError") = some true)
    (i_NoNumber_NoBook:W.kitOne K (.ref c_NoNumber) (.ref c_NoBook) = some false)
    (i_NoNumber_Late:W.kitOne K (.ref c_NoNumber) (.ref c_Late) = some false)
    (i_NoNumber_NoDay:W.kitOne K (.ref c_NoNumber) (.ref c_NoDay) = some false)
    (i_NoNumber_NoEntry:W.kitOne K (.ref c_NoNumber) (.ref c_NoEntry) = some false)
    (i_NoNumber_NoNumber:W.kitOne K (.ref c_NoNumber) (.ref c_NoNumber) = some true)
    (e_NoNumber_RightError:PySem.W.exmOne K (.ref c_NoNumber) (.ref c_RightError) = some true)
    (xl_NoDay:K.lookup c_NoDay = some (excClassObj nm_NoDay q_NoDay c_NoDay N_NoDay bs_NoDay (.ref A_NoDay :: i6) hd_NoDay sn_NoDay sub_NoDay ab_NoDay col_NoDay dd_NoDay k0_NoDay k1_NoDay k2_NoDay k3_NoDay k5_NoDay "ValueError.__new__"))
    (xn_NoDay:K.lookup N_NoDay = some ⟨x1_NoDay,x2_NoDay,.dict es_NoDay x3_NoDay,x4_NoDay⟩)
    (xs_NoDay:bM es_NoDay = true)
    (xi_NoDay:nsFind es_NoDay "__init__" = none)
    (xa_NoDay:K.lookup A_NoDay = some { cls:=y0_NoDay,dict:=y1_NoDay,data:=.cls y2_NoDay,slots:=y3_NoDay })
    (xb_NoDay:K.lookup y2_NoDay.ns = some ⟨z1_NoDay,z2_NoDay,.dict et_NoDay z3_NoDay,z4_NoDay⟩)
    (xt_NoDay:bM et_NoDay = true)
    (xj_NoDay:nsFind et_NoDay "__init__" = none)
    (qcs_NoDay:(PySem.W.clsIn K c_NoDay).isSome = true)
    (qga_NoDay:W.findIn K (.ref c_NoDay) "__getattribute__" = some (some (.builtin "BaseException.__getattribute__")))
    (qgt_NoDay:W.findIn K (.ref c_NoDay) "__getattr__" = some none)
    (qca_NoDay:W.findIn K (.ref c_NoDay) "__class__" = some (some (.builtin "object.__class__")))
    (qgg_NoDay:W.specialIn K (.builtin "object.__class__") "__get__" = some (some (.builtin "getset_descriptor.__get__")))
    (qtk_NoDay:W.takesIn K (.builtin "object.__class__") = some true)
    (qmo_NoDay:W.mroIn K c_NoDay (.type "object") = some true)
    (qsb_NoDay:PySem.W.subIn K (.ref c_NoDay) (.type "BaseException") = some true)
    (i_NoDay_NoAct:W.kitOne K (.ref c_NoDay) (.ref c_NoAct) = some false)
    (i_NoDay_ValueError:W.kitOne K (.ref c_NoDay) (.type "ValueError") = some true)
    (i_NoDay_NoBook:W.kitOne K (.ref c_NoDay) (.ref c_NoBook) = some false)
    (i_NoDay_Late:W.kitOne K (.ref c_NoDay) (.ref c_Late) = some false)
    (i_NoDay_NoDay:W.kitOne K (.ref c_NoDay) (.ref c_NoDay) = some true)
    (i_NoDay_NoEntry:W.kitOne K (.ref c_NoDay) (.ref c_NoEntry) = some false)
    (i_NoDay_NoNumber:W.kitOne K (.ref c_NoDay) (.ref c_NoNumber) = some false)
    (e_NoDay_RightError:PySem.W.exmOne K (.ref c_NoDay) (.ref c_RightError) = some true)
    (xl_NoWord:K.lookup c_NoWord = some (excClassObj nm_NoWord q_NoWord c_NoWord N_NoWord bs_NoWord (.ref A_NoWord :: i6) hd_NoWord sn_NoWord sub_NoWord ab_NoWord col_NoWord dd_NoWord k0_NoWord k1_NoWord k2_NoWord k3_NoWord k5_NoWord "ValueError.__new__"))
    (xn_NoWord:K.lookup N_NoWord = some ⟨x1_NoWord,x2_NoWord,.dict es_NoWord x3_NoWord,x4_NoWord⟩)
    (xs_NoWord:bM es_NoWord = true)
    (xi_NoWord:nsFind es_NoWord "__init__" = none)
    (xa_NoWord:K.lookup A_NoWord = some { cls:=y0_NoWord,dict:=y1_NoWord,data:=.cls y2_NoWord,slots:=y3_NoWord })
    (xb_NoWord:K.lookup y2_NoWord.ns = some ⟨z1_NoWord,z2_NoWord,.dict et_NoWord z3_NoWord,z4_NoWord⟩)
    (xt_NoWord:bM et_NoWord = true)
    (xj_NoWord:nsFind et_NoWord "__init__" = none)
    (qcs_NoWord:(PySem.W.clsIn K c_NoWord).isSome = true)
    (qga_NoWord:W.findIn K (.ref c_NoWord) "__getattribute__" = some (some (.builtin "BaseException.__getattribute__")))
    (qgt_NoWord:W.findIn K (.ref c_NoWord) "__getattr__" = some none)
    (qca_NoWord:W.findIn K (.ref c_NoWord) "__class__" = some (some (.builtin "object.__class__")))
    (qgg_NoWord:W.specialIn K (.builtin "object.__class__") "__get__" = some (some (.builtin "getset_descriptor.__get__")))
    (qtk_NoWord:W.takesIn K (.builtin "object.__class__") = some true)
    (qmo_NoWord:W.mroIn K c_NoWord (.type "object") = some true)
    (qsb_NoWord:PySem.W.subIn K (.ref c_NoWord) (.type "BaseException") = some true)
    (i_NoWord_NoAct:W.kitOne K (.ref c_NoWord) (.ref c_NoAct) = some false)
    (i_NoWord_ValueError:W.kitOne K (.ref c_NoWord) (.type "ValueError") = some true)
    (i_NoWord_NoBook:W.kitOne K (.ref c_NoWord) (.ref c_NoBook) = some false)
    (i_NoWord_Late:W.kitOne K (.ref c_NoWord) (.ref c_Late) = some false)
    (i_NoWord_NoDay:W.kitOne K (.ref c_NoWord) (.ref c_NoDay) = some false)
    (i_NoWord_NoEntry:W.kitOne K (.ref c_NoWord) (.ref c_NoEntry) = some false)
    (i_NoWord_NoNumber:W.kitOne K (.ref c_NoWord) (.ref c_NoNumber) = some false)
    (e_NoWord_RightError:PySem.W.exmOne K (.ref c_NoWord) (.ref c_RightError) = some true)
    (xl_NoBook:K.lookup c_NoBook = some (excClassObj nm_NoBook q_NoBook c_NoBook N_NoBook bs_NoBook (.ref A_NoBook :: i6) hd_NoBook sn_NoBook sub_NoBook ab_NoBook col_NoBook dd_NoBook k0_NoBook k1_NoBook k2_NoBook k3_NoBook k5_NoBook "ValueError.__new__"))
    (xn_NoBook:K.lookup N_NoBook = some ⟨x1_NoBook,x2_NoBook,.dict es_NoBook x3_NoBook,x4_NoBook⟩)
    (xs_NoBook:bM es_NoBook = true)
    (xi_NoBook:nsFind es_NoBook "__init__" = none)
    (xa_NoBook:K.lookup A_NoBook = some { cls:=y0_NoBook,dict:=y1_NoBook,data:=.cls y2_NoBook,slots:=y3_NoBook })
    (xb_NoBook:K.lookup y2_NoBook.ns = some ⟨z1_NoBook,z2_NoBook,.dict et_NoBook z3_NoBook,z4_NoBook⟩)
    (xt_NoBook:bM et_NoBook = true)
    (xj_NoBook:nsFind et_NoBook "__init__" = none)
    (qcs_NoBook:(PySem.W.clsIn K c_NoBook).isSome = true)
    (qga_NoBook:W.findIn K (.ref c_NoBook) "__getattribute__" = some (some (.builtin "BaseException.__getattribute__")))
    (qgt_NoBook:W.findIn K (.ref c_NoBook) "__getattr__" = some none)
    (qca_NoBook:W.findIn K (.ref c_NoBook) "__class__" = some (some (.builtin "object.__class__")))
    (qgg_NoBook:W.specialIn K (.builtin "object.__class__") "__get__" = some (some (.builtin "getset_descriptor.__get__")))
    (qtk_NoBook:W.takesIn K (.builtin "object.__class__") = some true)
    (qmo_NoBook:W.mroIn K c_NoBook (.type "object") = some true)
    (qsb_NoBook:PySem.W.subIn K (.ref c_NoBook) (.type "BaseException") = some true)
    (i_NoBook_NoAct:W.kitOne K (.ref c_NoBook) (.ref c_NoAct) = some false)
    (i_NoBook_ValueError:W.kitOne K (.ref c_NoBook) (.type "ValueError") = some true)
    (i_NoBook_NoBook:W.kitOne K (.ref c_NoBook) (.ref c_NoBook) = some true)
    (i_NoBook_Late:W.kitOne K (.ref c_NoBook) (.ref c_Late) = some false)
    (i_NoBook_NoDay:W.kitOne K (.ref c_NoBook) (.ref c_NoDay) = some false)
    (i_NoBook_NoEntry:W.kitOne K (.ref c_NoBook) (.ref c_NoEntry) = some false)
    (i_NoBook_NoNumber:W.kitOne K (.ref c_NoBook) (.ref c_NoNumber) = some false)
    (e_NoBook_RightError:PySem.W.exmOne K (.ref c_NoBook) (.ref c_RightError) = some true)
    (in_NoAct:W.findIn K (.ref c_NoAct) "__init__" = some (some (.ref f_NoAct)))
    (fn_NoAct:PySem.W.isFn K (.ref f_NoAct) = true)
    (kc_NoAct:W.keepIn K (.ref c_NoAct) = true)
    (kf_NoAct:W.keepIn K (.ref f_NoAct) = true)
    (lf_NoAct:K.lookup f_NoAct = some ⟨oc_NoAct,od_NoAct,.func (W.fnOf "__init__" "NoAct.__init__" (aS cf) (aP cf) (aG cf) (.ref t_NoAct) kV_NoAct dc_NoAct pm_NoAct an_NoAct cd_NoAct ct_NoAct),sl_NoAct⟩)
    (cf_NoAct:W.codeIn K cd_NoAct "NoAct.__init__" = true)
    (lt_NoAct:K.lookup t_NoAct = some o_NoAct)
    (dt_NoAct:o_NoAct.data = .seq #[.int 0 tk_NoAct] n_NoAct)
    (sa_NoAct:W.findIn K (.ref c_NoAct) "__setattr__" = some (some (.builtin "object.__setattr__")))
    (na_NoAct:W.findIn K (.ref c_NoAct) "place" = some none)
    (hz_NoAct:PySem.W.hasDictIn K c_NoAct = true)
    (mo_NoAct:W.mroIn K c_NoAct (.type "object") = some true)
    (b1_RightError:W.specialIn K (.ref c_RightError) "__getattribute__" = some (some (.builtin "type.__getattribute__")))
    (b2_RightError:PySem.W.readsIn K c_RightError (.type "type") = true)
    (b3_RightError:PySem.W.findCls K (.ref c_RightError) (.type "type") "__init__" = some (.val (.builtin "ValueError.__init__")))
    (xl_NoAct:K.lookup c_NoAct = some (excClassObj nm_NoAct q_NoAct c_NoAct N_NoAct bs_NoAct (.ref A_NoAct :: i6) hd_NoAct sn_NoAct sub_NoAct ab_NoAct col_NoAct dd_NoAct k0_NoAct k1_NoAct k2_NoAct k3_NoAct k5_NoAct "ValueError.__new__"))
    (xn_NoAct:K.lookup N_NoAct = some ⟨x1_NoAct,x2_NoAct,.dict es_NoAct x3_NoAct,x4_NoAct⟩)
    (xs_NoAct:bM es_NoAct = true)
    (xi_NoAct:nsFind es_NoAct "__init__" = some (.ref f_NoAct))
    (xa_NoAct:K.lookup A_NoAct = some { cls:=y0_NoAct,dict:=y1_NoAct,data:=.cls y2_NoAct,slots:=y3_NoAct })
    (xb_NoAct:K.lookup y2_NoAct.ns = some ⟨z1_NoAct,z2_NoAct,.dict et_NoAct z3_NoAct,z4_NoAct⟩)
    (xt_NoAct:bM et_NoAct = true)
    (xj_NoAct:nsFind et_NoAct "__init__" = none)
    (qcs_NoAct:(PySem.W.clsIn K c_NoAct).isSome = true)
    (qga_NoAct:W.findIn K (.ref c_NoAct) "__getattribute__" = some (some (.builtin "BaseException.__getattribute__")))
    (qgt_NoAct:W.findIn K (.ref c_NoAct) "__getattr__" = some none)
    (qca_NoAct:W.findIn K (.ref c_NoAct) "__class__" = some (some (.builtin "object.__class__")))
    (qgg_NoAct:W.specialIn K (.builtin "object.__class__") "__get__" = some (some (.builtin "getset_descriptor.__get__")))
    (qtk_NoAct:W.takesIn K (.builtin "object.__class__") = some true)
    (qmo_NoAct:W.mroIn K c_NoAct (.type "object") = some true)
    (qsb_NoAct:PySem.W.subIn K (.ref c_NoAct) (.type "BaseException") = some true)
    (i_NoAct_NoAct:W.kitOne K (.ref c_NoAct) (.ref c_NoAct) = some true)
    (i_NoAct_ValueError:W.kitOne K (.ref c_NoAct) (.type "ValueError") = some true)
    (i_NoAct_NoBook:W.kitOne K (.ref c_NoAct) (.ref c_NoBook) = some false)
    (i_NoAct_Late:W.kitOne K (.ref c_NoAct) (.ref c_Late) = some false)
    (i_NoAct_NoDay:W.kitOne K (.ref c_NoAct) (.ref c_NoDay) = some false)
    (i_NoAct_NoEntry:W.kitOne K (.ref c_NoAct) (.ref c_NoEntry) = some false)
    (i_NoAct_NoNumber:W.kitOne K (.ref c_NoAct) (.ref c_NoNumber) = some false)
    (e_NoAct_RightError:PySem.W.exmOne K (.ref c_NoAct) (.ref c_RightError) = some true)
    (xl_NoEntry:K.lookup c_NoEntry = some (excClassObj nm_NoEntry q_NoEntry c_NoEntry N_NoEntry bs_NoEntry (.ref A_NoEntry :: i6) hd_NoEntry sn_NoEntry sub_NoEntry ab_NoEntry col_NoEntry dd_NoEntry k0_NoEntry k1_NoEntry k2_NoEntry k3_NoEntry k5_NoEntry "ValueError.__new__"))
    (xn_NoEntry:K.lookup N_NoEntry = some ⟨x1_NoEntry,x2_NoEntry,.dict es_NoEntry x3_NoEntry,x4_NoEntry⟩)
    (xs_NoEntry:bM es_NoEntry = true)
    (xi_NoEntry:nsFind es_NoEntry "__init__" = none)
    (xa_NoEntry:K.lookup A_NoEntry = some { cls:=y0_NoEntry,dict:=y1_NoEntry,data:=.cls y2_NoEntry,slots:=y3_NoEntry })
    (xb_NoEntry:K.lookup y2_NoEntry.ns = some ⟨z1_NoEntry,z2_NoEntry,.dict et_NoEntry z3_NoEntry,z4_NoEntry⟩)
    (xt_NoEntry:bM et_NoEntry = true)
    (xj_NoEntry:nsFind et_NoEntry "__init__" = none)
    (qcs_NoEntry:(PySem.W.clsIn K c_NoEntry).isSome = true)
    (qga_NoEntry:W.findIn K (.ref c_NoEntry) "__getattribute__" = some (some (.builtin "BaseException.__getattribute__")))
    (qgt_NoEntry:W.findIn K (.ref c_NoEntry) "__getattr__" = some none)
    (qca_NoEntry:W.findIn K (.ref c_NoEntry) "__class__" = some (some (.builtin "object.__class__")))
    (qgg_NoEntry:W.specialIn K (.builtin "object.__class__") "__get__" = some (some (.builtin "getset_descriptor.__get__")))
    (qtk_NoEntry:W.takesIn K (.builtin "object.__class__") = some true)
    (qmo_NoEntry:W.mroIn K c_NoEntry (.type "object") = some true)
    (qsb_NoEntry:PySem.W.subIn K (.ref c_NoEntry) (.type "BaseException") = some true)
    (i_NoEntry_NoAct:W.kitOne K (.ref c_NoEntry) (.ref c_NoAct) = some false)
    (i_NoEntry_ValueError:W.kitOne K (.ref c_NoEntry) (.type "ValueError") = some true)
    (i_NoEntry_NoBook:W.kitOne K (.ref c_NoEntry) (.ref c_NoBook) = some false)
    (i_NoEntry_Late:W.kitOne K (.ref c_NoEntry) (.ref c_Late) = some false)
    (i_NoEntry_NoDay:W.kitOne K (.ref c_NoEntry) (.ref c_NoDay) = some false)
    (i_NoEntry_NoEntry:W.kitOne K (.ref c_NoEntry) (.ref c_NoEntry) = some true)
    (i_NoEntry_NoNumber:W.kitOne K (.ref c_NoEntry) (.ref c_NoNumber) = some false)
    (e_NoEntry_RightError:PySem.W.exmOne K (.ref c_NoEntry) (.ref c_RightError) = some true)
    (wc_Entry:W.findIn K (.ref c_Entry) "__class__" = some (some (.builtin "object.__class__")))
    (wg_Entry:W.specialIn K (.builtin "object.__class__") "__get__" = some (some (.builtin "getset_descriptor.__get__")))
    (wt_Entry:W.takesIn K (.builtin "object.__class__") = some true)
    (wm_Entry:W.mroIn K c_Entry (.type "object") = some true)
    (ws_Entry:W.kitOne K (.ref c_Entry) (.ref c_Entry) = some true)
    (wn_Entry_NoneType:W.kitOne K (.type "NoneType") (.ref c_Entry) = some false)
    (wn_Entry_int:W.kitOne K (.type "int") (.ref c_Entry) = some false)
    (wn_Entry_str:W.kitOne K (.type "str") (.ref c_Entry) = some false)
    (wn_Entry_bool:W.kitOne K (.type "bool") (.ref c_Entry) = some false)
    (wn_Entry_list:W.kitOne K (.type "list") (.ref c_Entry) = some false)
    (wn_Entry_tuple:W.kitOne K (.type "tuple") (.ref c_Entry) = some false)
    (wn_Entry_dict:W.kitOne K (.type "dict") (.ref c_Entry) = some false)
    (wc_Act:W.findIn K (.ref c_Act) "__class__" = some (some (.builtin "object.__class__")))
    (wg_Act:W.specialIn K (.builtin "object.__class__") "__get__" = some (some (.builtin "getset_descriptor.__get__")))
    (wt_Act:W.takesIn K (.builtin "object.__class__") = some true)
    (wm_Act:W.mroIn K c_Act (.type "object") = some true)
    (ws_Act:W.kitOne K (.ref c_Act) (.ref c_Act) = some true)
    (wn_Act_NoneType:W.kitOne K (.type "NoneType") (.ref c_Act) = some false)
    (wn_Act_int:W.kitOne K (.type "int") (.ref c_Act) = some false)
    (wn_Act_str:W.kitOne K (.type "str") (.ref c_Act) = some false)
    (wn_Act_bool:W.kitOne K (.type "bool") (.ref c_Act) = some false)
    (wn_Act_list:W.kitOne K (.type "list") (.ref c_Act) = some false)
    (wn_Act_tuple:W.kitOne K (.type "tuple") (.ref c_Act) = some false)
    (wn_Act_dict:W.kitOne K (.type "dict") (.ref c_Act) = some false)
    (z_len:W.nsIn K mainGlobals "len" = some none)
    (z_isinstance:W.nsIn K mainGlobals "isinstance" = some none)
    (z_str:W.nsIn K mainGlobals "str" = some none)
    (z_bool:W.nsIn K mainGlobals "bool" = some none)
    (z_all:W.nsIn K mainGlobals "all" = some none)
    (z_range:W.nsIn K mainGlobals "range" = some none)
    (z_int:W.nsIn K mainGlobals "int" = some none)
    (z_list:W.nsIn K mainGlobals "list" = some none)
    (z_min:W.nsIn K mainGlobals "min" = some none)
    (z_max:W.nsIn K mainGlobals "max" = some none)
    (z_dict:W.nsIn K mainGlobals "dict" = some none)
    (z_tuple:W.nsIn K mainGlobals "tuple" = some none)
    (z_sum:W.nsIn K mainGlobals "sum" = some none)
    (z_enumerate:W.nsIn K mainGlobals "enumerate" = some none)
    (z_zip:W.nsIn K mainGlobals "zip" = some none)
    (z_ValueError:W.nsIn K mainGlobals "ValueError" = some none)
    : ∃ fd:FuncData,(∀ (s:Shared) (v:Value),BindsTo s fd ⟨[v],[]⟩ [("_law_script",v)]) ∧ ∀ base:Heap,K.In base → base.Ns mainGlobals mg → bF l.prog w K mg base gK 8 fa fd ["_law_script"] (tW K):=by
  have e:=hfa.symm.trans (PySem.W.mg_of X G a33)
  cases e
  have F0:=av (st:=dW) l0 c0 k0
  have b0:=F0.binds (ps:=["thing"]) fun _ _ _ _ _ _ us hl=>by
    obtain ⟨a0,us0,rfl,g0⟩:=ak hl
    obtain rfl:=len0 g0
    rfl
  have F1:=av (st:=fk) l1 c1 k1
  have b1:=F1.binds (ps:=["thing"]) fun _ _ _ _ _ _ us hl=>by
    obtain ⟨a0,us0,rfl,g0⟩:=ak hl
    obtain rfl:=len0 g0
    rfl
  have F2:=av (st:=dD) l2 c2 k2
  have b2:=F2.binds (ps:=["thing"]) fun _ _ _ _ _ _ us hl=>by
    obtain ⟨a0,us0,rfl,g0⟩:=ak hl
    obtain rfl:=len0 g0
    rfl
  have F3:=av (st:=eM) l3 c3 k3
  have b3:=F3.binds (ps:=["thing"]) fun _ _ _ _ _ _ us hl=>by
    obtain ⟨a0,us0,rfl,g0⟩:=ak hl
    obtain rfl:=len0 g0
    rfl
  have F4:=av (st:=eE) l4 c4 k4
  have b4:=F4.binds (ps:=["thing"]) fun _ _ _ _ _ _ us hl=>by
    obtain ⟨a0,us0,rfl,g0⟩:=ak hl
    obtain rfl:=len0 g0
    rfl
  have F5:=av (st:=gn) l5 c5 k5
  have b5:=F5.binds (ps:=["rank"]) fun _ _ _ _ _ _ us hl=>by
    obtain ⟨a0,us0,rfl,g0⟩:=ak hl
    obtain rfl:=len0 g0
    rfl
  have F6:=av (st:=cQ) l6 c6 k6
  have b6:=F6.binds (ps:=["number", "day", "rank", "word"]) fun _ _ _ _ _ _ us hl=>by
    obtain ⟨a0,us0,rfl,g0⟩:=ak hl
    obtain ⟨a1,us1,rfl,g1⟩:=ak g0
    obtain ⟨a2,us2,rfl,g2⟩:=ak g1
    obtain ⟨a3,us3,rfl,g3⟩:=ak g2
    obtain rfl:=len0 g3
    rfl
  have F7:=av (st:=cb) l7 c7 k7
  have b7:=F7.binds (ps:=["rank", "under"]) fun _ _ _ _ _ _ us hl=>by
    obtain ⟨a0,us0,rfl,g0⟩:=ak hl
    obtain ⟨a1,us1,rfl,g1⟩:=ak g0
    obtain rfl:=len0 g1
    rfl
  have F8:=av (st:=d5) l8 c8 k8
  have b8:=F8.binds (ps:=["rank", "sheet", "base"]) fun _ _ _ _ _ _ us hl=>by
    obtain ⟨a0,us0,rfl,g0⟩:=ak hl
    obtain ⟨a1,us1,rfl,g1⟩:=ak g0
    obtain ⟨a2,us2,rfl,g2⟩:=ak g1
    obtain rfl:=len0 g2
    rfl
  have F9:=av (st:=gw) l9 c9 k9
  have b9:=F9.binds (ps:=["one", "other"]) fun _ _ _ _ _ _ us hl=>by
    obtain ⟨a0,us0,rfl,g0⟩:=ak hl
    obtain ⟨a1,us1,rfl,g1⟩:=ak g0
    obtain rfl:=len0 g1
    rfl
  have F10:=av (st:=dB) l10 c10 k10
  have b10:=F10.binds (ps:=["entries"]) fun _ _ _ _ _ _ us hl=>by
    obtain ⟨a0,us0,rfl,g0⟩:=ak hl
    obtain rfl:=len0 g0
    rfl
  have F11:=av (st:=cj) l11 c11 k11
  have b11:=F11.binds (ps:=["book"]) fun _ _ _ _ _ _ us hl=>by
    obtain ⟨a0,us0,rfl,g0⟩:=ak hl
    obtain rfl:=len0 g0
    rfl
  have F12:=av (st:=eK) l12 c12 k12
  have b12:=F12.binds (ps:=["thing"]) fun _ _ _ _ _ _ us hl=>by
    obtain ⟨a0,us0,rfl,g0⟩:=ak hl
    obtain rfl:=len0 g0
    rfl
  have F13:=av (st:=ck) l13 c13 k13
  have b13:=F13.binds (ps:=["day"]) fun _ _ _ _ _ _ us hl=>by
    obtain ⟨a0,us0,rfl,g0⟩:=ak hl
    obtain rfl:=len0 g0
    rfl
  have F14:=av (st:=cX) l14 c14 k14
  have b14:=F14.binds (ps:=["results", "ahead_of_it", "thing"]) fun _ _ _ _ _ _ us hl=>by
    obtain ⟨a0,us0,rfl,g0⟩:=ak hl
    obtain ⟨a1,us1,rfl,g1⟩:=ak g0
    obtain ⟨a2,us2,rfl,g2⟩:=ak g1
    obtain rfl:=len0 g2
    rfl
  have F15:=av (st:=dA) l15 c15 k15
  have b15:=F15.binds (ps:=["results", "acts"]) fun _ _ _ _ _ _ us hl=>by
    obtain ⟨a0,us0,rfl,g0⟩:=ak hl
    obtain ⟨a1,us1,rfl,g1⟩:=ak g0
    obtain rfl:=len0 g1
    rfl
  have F16:=av (st:=dZ) l16 c16 k16
  have b16:=F16.binds (ps:=["entries", "acts"]) fun _ _ _ _ _ _ us hl=>by
    obtain ⟨a0,us0,rfl,g0⟩:=ak hl
    obtain ⟨a1,us1,rfl,g1⟩:=ak g0
    obtain rfl:=len0 g1
    rfl
  have F17:=av (st:=dY) l17 c17 k17
  have b17:=F17.binds (ps:=["_law_script", "_law_k"]) fun _ _ _ _ _ _ us hl=>by
    obtain ⟨a0,us0,rfl,g0⟩:=ak hl
    obtain ⟨a1,us1,rfl,g1⟩:=ak g0
    obtain rfl:=len0 g1
    rfl
  have F18:=av (st:=gm) l18 c18 k18
  have b18:=F18.binds (ps:=["_law_cell", "_law_place"]) fun _ _ _ _ _ _ us hl=>by
    obtain ⟨a0,us0,rfl,g0⟩:=ak hl
    obtain ⟨a1,us1,rfl,g1⟩:=ak g0
    obtain rfl:=len0 g1
    rfl
  have F19:=av (st:=fS) l19 c19 k19
  have b19:=F19.binds (ps:=["_law_cell"]) fun _ _ _ _ _ _ us hl=>by
    obtain ⟨a0,us0,rfl,g0⟩:=ak hl
    obtain rfl:=len0 g0
    rfl
  have F20:=av (st:=eD) l20 c20 k20
  have b20:=F20.binds (ps:=["_law_cell"]) fun _ _ _ _ _ _ us hl=>by
    obtain ⟨a0,us0,rfl,g0⟩:=ak hl
    obtain rfl:=len0 g0
    rfl
  have F21:=av (st:=ff) l21 c21 k21
  have b21:=F21.binds (ps:=["_law_rows_here", "_law_rank", "_law_draw_here"]) fun _ _ _ _ _ _ us hl=>by
    obtain ⟨a0,us0,rfl,g0⟩:=ak hl
    obtain ⟨a1,us1,rfl,g1⟩:=ak g0
    obtain ⟨a2,us2,rfl,g2⟩:=ak g1
    obtain rfl:=len0 g2
    rfl
  have F22:=av (st:=hV) l22 c22 k22
  have b22:=F22.binds (ps:=["_law_rows_here", "_law_rank", "_law_word", "_law_draw_here"]) fun _ _ _ _ _ _ us hl=>by
    obtain ⟨a0,us0,rfl,g0⟩:=ak hl
    obtain ⟨a1,us1,rfl,g1⟩:=ak g0
    obtain ⟨a2,us2,rfl,g2⟩:=ak g1
    obtain ⟨a3,us3,rfl,g3⟩:=ak g2
    obtain rfl:=len0 g3
    rfl
  have F23:=av (st:=jE) l23 c23 k23
  have b23:=F23.binds (ps:=["_law_rows_here", "_law_cell", "_law_k", "_law_words_here", "_law_sheets_here"]) fun _ _ _ _ _ _ us hl=>by
    obtain ⟨a0,us0,rfl,g0⟩:=ak hl
    obtain ⟨a1,us1,rfl,g1⟩:=ak g0
    obtain ⟨a2,us2,rfl,g2⟩:=ak g1
    obtain ⟨a3,us3,rfl,g3⟩:=ak g2
    obtain ⟨a4,us4,rfl,g4⟩:=ak g3
    obtain rfl:=len0 g4
    rfl
  have F24:=av (st:=gu) l24 c24 k24
  have b24:=F24.binds (ps:=["_law_cells", "_law_words_here", "_law_sheets_here"]) fun _ _ _ _ _ _ us hl=>by
    obtain ⟨a0,us0,rfl,g0⟩:=ak hl
    obtain ⟨a1,us1,rfl,g1⟩:=ak g0
    obtain ⟨a2,us2,rfl,g2⟩:=ak g1
    obtain rfl:=len0 g2
    rfl
  have F25:=av (st:=d7) l25 c25 k25
  have b25:=F25.binds (ps:=["_law_rows_here"]) fun _ _ _ _ _ _ us hl=>by
    obtain ⟨a0,us0,rfl,g0⟩:=ak hl
    obtain rfl:=len0 g0
    rfl
  have F26:=av (st:=fR) l26 c26 k26
  have b26:=F26.binds (ps:=["_law_rows_here"]) fun _ _ _ _ _ _ us hl=>by
    obtain ⟨a0,us0,rfl,g0⟩:=ak hl
    obtain rfl:=len0 g0
    rfl
  have F27:=av (st:=fY) l27 c27 k27
  have b27:=F27.binds (ps:=["_law_right_here"]) fun _ _ _ _ _ _ us hl=>by
    obtain ⟨a0,us0,rfl,g0⟩:=ak hl
    obtain rfl:=len0 g0
    rfl
  have F28:=av (st:=fX) l28 c28 k28
  have b28:=F28.binds (ps:=["_law_cells", "_law_right_here"]) fun _ _ _ _ _ _ us hl=>by
    obtain ⟨a0,us0,rfl,g0⟩:=ak hl
    obtain ⟨a1,us1,rfl,g1⟩:=ak g0
    obtain rfl:=len0 g1
    rfl
  have F29:=av (st:=gq) l29 c29 k29
  have b29:=F29.binds (ps:=["_law_deeds_here"]) fun _ _ _ _ _ _ us hl=>by
    obtain ⟨a0,us0,rfl,g0⟩:=ak hl
    obtain rfl:=len0 g0
    rfl
  have F30:=av (st:=gr) l30 c30 k30
  have b30:=F30.binds (ps:=["_law_found", "_law_acts_here"]) fun _ _ _ _ _ _ us hl=>by
    obtain ⟨a0,us0,rfl,g0⟩:=ak hl
    obtain ⟨a1,us1,rfl,g1⟩:=ak g0
    obtain rfl:=len0 g1
    rfl
  have F31:=av (st:=dX) l31 c31 k31
  have b31:=F31.binds (ps:=["_law_entries_here", "_law_acts_here"]) fun _ _ _ _ _ _ us hl=>by
    obtain ⟨a0,us0,rfl,g0⟩:=ak hl
    obtain ⟨a1,us1,rfl,g1⟩:=ak g0
    obtain rfl:=len0 g1
    rfl
  have F32:=av (st:=jK) l32 c32 k32
  have b32:=F32.binds (ps:=["_law_rows_here", "_law_right_here", "_law_acts_here", "_law_at", "_law_draw_here"]) fun _ _ _ _ _ _ us hl=>by
    obtain ⟨a0,us0,rfl,g0⟩:=ak hl
    obtain ⟨a1,us1,rfl,g1⟩:=ak g0
    obtain ⟨a2,us2,rfl,g2⟩:=ak g1
    obtain ⟨a3,us3,rfl,g3⟩:=ak g2
    obtain ⟨a4,us4,rfl,g4⟩:=ak g3
    obtain rfl:=len0 g4
    rfl
  have F33:=av (st:=lh) l33 c33 k33
  have b33:=F33.binds (ps:=["_law_script"]) fun _ _ _ _ _ _ us hl=>by
    obtain ⟨a0,us0,rfl,g0⟩:=ak hl
    obtain rfl:=len0 g0
    rfl
  have bb_Results_init:=(av (st:=cC) l_Results_init k_Results_init p_Results_init).binds (ps:=["self"]) fun _ _ _ _ _ _ us hl=>by
    obtain ⟨a0,us0,rfl,g0⟩:=ak hl
    obtain rfl:=len0 g0
    rfl
  have bb_Results_put:=(av (st:=cR) l_Results_put k_Results_put p_Results_put).binds (ps:=["self", "entry"]) fun _ _ _ _ _ _ us hl=>by
    obtain ⟨a0,us0,rfl,g0⟩:=ak hl
    obtain ⟨a1,us1,rfl,g1⟩:=ak g0
    obtain rfl:=len0 g1
    rfl
  have bb_Results_name_of:=(av (st:=bY) l_Results_name_of k_Results_name_of p_Results_name_of).binds (ps:=["self", "entry"]) fun _ _ _ _ _ _ us hl=>by
    obtain ⟨a0,us0,rfl,g0⟩:=ak hl
    obtain ⟨a1,us1,rfl,g1⟩:=ak g0
    obtain rfl:=len0 g1
    rfl
  have bb_Results_outcome_of:=(av (st:=bJ) l_Results_outcome_of k_Results_outcome_of p_Results_outcome_of).binds (ps:=["self", "entry", "name"]) fun _ _ _ _ _ _ us hl=>by
    obtain ⟨a0,us0,rfl,g0⟩:=ak hl
    obtain ⟨a1,us1,rfl,g1⟩:=ak g0
    obtain ⟨a2,us2,rfl,g2⟩:=ak g1
    obtain rfl:=len0 g2
    rfl
  have T:Txt w K mg ⟨f0,_,f1,_,f2,_,f3,_,f4,_,f5,_,f6,_,f7,_,f8,_,f9,_,f10,_,f11,_,f12,_,f13,_,f14,_,f15,_,f16,_,f17,_,f18,_,f19,_,f20,_,f21,_,f22,_,f23,_,f24,_,f25,_,f26,_,f27,_,f28,_,f29,_,f30,_,f31,_,f32,_,fa,_,c_Entry,f_Entry,t_Entry,_,c_Results,f_Results_init,_,c_Act,f_Act,_,f_Results_put,_,f_Results_name_of,_,f_Results_outcome_of,_,u_MOST_LETTERS,u_LAST_DAY,u_LAST_NUMBER,u_RANKS,u_DEEDS,u_ABOVE,c_NoRank,c_NoNumber,c_NoDay,c_NoWord,c_NoBook,c_NoAct,c_NoEntry,c_RightError,c_Late,f_NoAct,t_NoAct,_,tk_NoAct⟩:=⟨⟨F0,PySem.W.mg_of X G a0,b0⟩,⟨F1,PySem.W.mg_of X G a1,b1⟩,⟨F2,PySem.W.mg_of X G a2,b2⟩,⟨F3,PySem.W.mg_of X G a3,b3⟩,⟨F4,PySem.W.mg_of X G a4,b4⟩,⟨F5,PySem.W.mg_of X G a5,b5⟩,⟨F6,PySem.W.mg_of X G a6,b6⟩,⟨F7,PySem.W.mg_of X G a7,b7⟩,⟨F8,PySem.W.mg_of X G a8,b8⟩,⟨F9,PySem.W.mg_of X G a9,b9⟩,⟨F10,PySem.W.mg_of X G a10,b10⟩,⟨F11,PySem.W.mg_of X G a11,b11⟩,⟨F12,PySem.W.mg_of X G a12,b12⟩,⟨F13,PySem.W.mg_of X G a13,b13⟩,⟨F14,PySem.W.mg_of X G a14,b14⟩,⟨F15,PySem.W.mg_of X G a15,b15⟩,⟨F16,PySem.W.mg_of X G a16,b16⟩,⟨F17,PySem.W.mg_of X G a17,b17⟩,⟨F18,PySem.W.mg_of X G a18,b18⟩,⟨F19,PySem.W.mg_of X G a19,b19⟩,⟨F20,PySem.W.mg_of X G a20,b20⟩,⟨F21,PySem.W.mg_of X G a21,b21⟩,⟨F22,PySem.W.mg_of X G a22,b22⟩,⟨F23,PySem.W.mg_of X G a23,b23⟩,⟨F24,PySem.W.mg_of X G a24,b24⟩,⟨F25,PySem.W.mg_of X G a25,b25⟩,⟨F26,PySem.W.mg_of X G a26,b26⟩,⟨F27,PySem.W.mg_of X G a27,b27⟩,⟨F28,PySem.W.mg_of X G a28,b28⟩,⟨F29,PySem.W.mg_of X G a29,b29⟩,⟨F30,PySem.W.mg_of X G a30,b30⟩,⟨F31,PySem.W.mg_of X G a31,b31⟩,⟨F32,PySem.W.mg_of X G a32,b32⟩,⟨F33,PySem.W.mg_of X G a33,b33⟩,PySem.W.mg_of X G cg_Entry,⟨pg_Entry,hd_Entry,po_Entry,sa_Entry⟩,⟨mk_Entry,in_Entry,fn_Entry,kc_Entry⟩,gE lf_Entry cf_Entry kf_Entry,na_Entry_number,na_Entry_day,na_Entry_rank,na_Entry_word,na_Entry_under,na_Entry_sheet,na_Entry_base,na_Entry_described,oZ (gE lf_Entry cf_Entry kf_Entry) lt_Entry dt_Entry,ot (gE lf_Entry cf_Entry kf_Entry) lt_Entry dt_Entry,PySem.W.mg_of X G cg_Results,⟨pg_Results,hd_Results,po_Results,sa_Results⟩,av l_Results_init k_Results_init p_Results_init,bb_Results_init,⟨mk_Results,in_Results,fn_Results,kc_Results⟩,na_Results_outs,na_Results_names,na_Results_rights,na_Results_holders,PySem.W.mg_of X G cg_Act,⟨pg_Act,hd_Act,po_Act,sa_Act⟩,⟨mk_Act,in_Act,fn_Act,kc_Act⟩,gE lf_Act cf_Act kf_Act,na_Act_day,na_Act_deed,na_Act_number,sP (gE lf_Act cf_Act kf_Act),av l_Results_put k_Results_put p_Results_put,bb_Results_put,⟨mf_Results_put,mi_Results_put,p_Results_put⟩,av l_Results_name_of k_Results_name_of p_Results_name_of,bb_Results_name_of,⟨mf_Results_name_of,mi_Results_name_of,p_Results_name_of⟩,av l_Results_outcome_of k_Results_outcome_of p_Results_outcome_of,bb_Results_outcome_of,⟨mf_Results_outcome_of,mi_Results_outcome_of,p_Results_outcome_of⟩,PySem.W.mg_of X G cg_MOST_LETTERS,cr_MOST_LETTERS,PySem.W.mg_of X G cg_LAST_DAY,cr_LAST_DAY,PySem.W.mg_of X G cg_LAST_NUMBER,cr_LAST_NUMBER,PySem.W.mg_of X G cg_RANKS,fun H=>tF cl_RANKS cc_RANKS cd_RANKS (by rw [List.size_toArray,← Paired.length cv_RANKS]; exact aJ rfl) (by simpa using cv_RANKS),PySem.W.mg_of X G cg_DEEDS,fun H=>tF cl_DEEDS cc_DEEDS cd_DEEDS (by rw [List.size_toArray,← Paired.length cv_DEEDS]; exact aJ rfl) (by simpa using cv_DEEDS),PySem.W.mg_of X G cg_ABOVE,⟨⟨_,_,cl_ABOVE,cv_ABOVE⟩,by decide +kernel⟩,PySem.W.mg_of X G cg_NoRank,PySem.W.mg_of X G cg_NoNumber,PySem.W.mg_of X G cg_NoDay,PySem.W.mg_of X G cg_NoWord,PySem.W.mg_of X G cg_NoBook,PySem.W.mg_of X G cg_NoAct,PySem.W.mg_of X G cg_NoEntry,PySem.W.mg_of X G cg_RightError,PySem.W.mg_of X G cg_Late,iN.vk xl_NoRank xn_NoRank xs_NoRank xi_NoRank xa_NoRank xb_NoRank xt_NoRank xj_NoRank,⟨qcs_NoRank,qga_NoRank,qgt_NoRank,qca_NoRank,qgg_NoRank,qtk_NoRank,qmo_NoRank,qsb_NoRank⟩,i_NoRank_NoAct,i_NoRank_ValueError,i_NoRank_NoBook,i_NoRank_Late,i_NoRank_NoDay,i_NoRank_NoEntry,i_NoRank_NoNumber,e_NoRank_RightError,iN.vk xl_NoNumber xn_NoNumber xs_NoNumber xi_NoNumber xa_NoNumber xb_NoNumber xt_NoNumber xj_NoNumber,⟨qcs_NoNumber,qga_NoNumber,qgt_NoNumber,qca_NoNumber,qgg_NoNumber,qtk_NoNumber,qmo_NoNumber,qsb_NoNumber⟩,i_NoNumber_NoAct,i_NoNumber_ValueError,i_NoNumber_NoBook,i_NoNumber_Late,i_NoNumber_NoDay,i_NoNumber_NoEntry,i_NoNumber_NoNumber,e_NoNumber_RightError,iN.vk xl_NoDay xn_NoDay xs_NoDay xi_NoDay xa_NoDay xb_NoDay xt_NoDay xj_NoDay,⟨qcs_NoDay,qga_NoDay,qgt_NoDay,qca_NoDay,qgg_NoDay,qtk_NoDay,qmo_NoDay,qsb_NoDay⟩,i_NoDay_NoAct,i_NoDay_ValueError,i_NoDay_NoBook,i_NoDay_Late,i_NoDay_NoDay,i_NoDay_NoEntry,i_NoDay_NoNumber,e_NoDay_RightError,iN.vk xl_NoWord xn_NoWord xs_NoWord xi_NoWord xa_NoWord xb_NoWord xt_NoWord xj_NoWord,⟨qcs_NoWord,qga_NoWord,qgt_NoWord,qca_NoWord,qgg_NoWord,qtk_NoWord,qmo_NoWord,qsb_NoWord⟩,i_NoWord_NoAct,i_NoWord_ValueError,i_NoWord_NoBook,i_NoWord_Late,i_NoWord_NoDay,i_NoWord_NoEntry,i_NoWord_NoNumber,e_NoWord_RightError,iN.vk xl_NoBook xn_NoBook xs_NoBook xi_NoBook xa_NoBook xb_NoBook xt_NoBook xj_NoBook,⟨qcs_NoBook,qga_NoBook,qgt_NoBook,qca_NoBook,qgg_NoBook,qtk_NoBook,qmo_NoBook,qsb_NoBook⟩,i_NoBook_NoAct,i_NoBook_ValueError,i_NoBook_NoBook,i_NoBook_Late,i_NoBook_NoDay,i_NoBook_NoEntry,i_NoBook_NoNumber,e_NoBook_RightError,gE lf_NoAct cf_NoAct kf_NoAct,⟨sa_NoAct,na_NoAct,hz_NoAct,mo_NoAct⟩,hz_NoAct,na_NoAct,⟨b1_RightError,b2_RightError,b3_RightError⟩,pJ (gE lf_NoAct cf_NoAct kf_NoAct) lt_NoAct dt_NoAct,kN.vk xl_NoAct xn_NoAct xs_NoAct xi_NoAct xa_NoAct xb_NoAct xt_NoAct xj_NoAct fn_NoAct kc_NoAct,⟨qcs_NoAct,qga_NoAct,qgt_NoAct,qca_NoAct,qgg_NoAct,qtk_NoAct,qmo_NoAct,qsb_NoAct⟩,i_NoAct_NoAct,i_NoAct_ValueError,i_NoAct_NoBook,i_NoAct_Late,i_NoAct_NoDay,i_NoAct_NoEntry,i_NoAct_NoNumber,e_NoAct_RightError,iN.vk xl_NoEntry xn_NoEntry xs_NoEntry xi_NoEntry xa_NoEntry xb_NoEntry xt_NoEntry xj_NoEntry,⟨qcs_NoEntry,qga_NoEntry,qgt_NoEntry,qca_NoEntry,qgg_NoEntry,qtk_NoEntry,qmo_NoEntry,qsb_NoEntry⟩,i_NoEntry_NoAct,i_NoEntry_ValueError,i_NoEntry_NoBook,i_NoEntry_Late,i_NoEntry_NoDay,i_NoEntry_NoEntry,i_NoEntry_NoNumber,e_NoEntry_RightError,⟨wc_Entry,wg_Entry,wt_Entry,wm_Entry⟩,ws_Entry,wn_Entry_NoneType,wn_Entry_int,wn_Entry_str,wn_Entry_bool,wn_Entry_list,wn_Entry_tuple,wn_Entry_dict,⟨wc_Act,wg_Act,wt_Act,wm_Act⟩,ws_Act,wn_Act_NoneType,wn_Act_int,wn_Act_str,wn_Act_bool,wn_Act_list,wn_Act_tuple,wn_Act_dict,PySem.W.mg_none_of X G z_len,PySem.W.mg_none_of X G z_isinstance,PySem.W.mg_none_of X G z_str,PySem.W.mg_none_of X G z_bool,PySem.W.mg_none_of X G z_all,PySem.W.mg_none_of X G z_range,PySem.W.mg_none_of X G z_int,PySem.W.mg_none_of X G z_list,PySem.W.mg_none_of X G z_min,PySem.W.mg_none_of X G z_max,PySem.W.mg_none_of X G z_dict,PySem.W.mg_none_of X G z_tuple,PySem.W.mg_none_of X G z_sum,PySem.W.mg_none_of X G z_enumerate,PySem.W.mg_none_of X G z_zip,PySem.W.mg_none_of X G z_ValueError⟩
  exact ⟨_,fun s v=>.of_eq rfl,fun base _ _=>xh T⟩
end My
namespace PySem.W.Fast
def tw6512392173053122795:=0
def tw12462562199430830812:=0
def tw17623110980913451093:=0
def tw480335632643447216:=0
def tw2191494047545185486:=0
def tw18236256340417801917:=0
def tw536578350660501212:=0
def tw6413297649290257774:=0
def tw12380999295967551685:=0
def tw5863721904987267381:=0
def tw15771676699670199813:=0
def tw17029915390727629712:=0
def tw4979929109350026116:=0
def tw157529912418319201:=0
def tw1946032502998112086:=0
def tw6920429203075307276:=0
def tw4384542907223409216:=0
def tw17072758975401548531:=0
def tw2864908639212729064:=0
def tw15628126997471946913:=0
def tw8865123004695225093:=0
def tw17185598416141097848:=0
def tw7878014970723884851:=0
def tw13304319003622567565:=0
def tw4720796224021875803:=0
def tw11319551648652020850:=0
def tw10508045355701500594:=0
def tw16741752838595005618:=0
def tw6643561198632841189:=0
def tw340372022821702990:=0
def tw3587498506442235353:=0
def tw15283979578298166085:=0
def tw12139637454456669157:=0
def tw9299047503111595600:=0
def tw9147530711334736122:=0
def tw4741636160616125622:=0
def tw1625597132686026512:=0
def tw9800627435315301780:=0
def tw6945280454133393150:=0
def tw16999267300412693452:=0
def tw14896538131557501931:=0
def tw8352309307055250920:=0
def tw3018763191838923991:=0
def tw13518933991681153198:=0
def tw9120207075716365972:=0
def tw4643902881063484100:=0
def tw17527916729935080026:=0
def tw10517389848014444000:=0
def tw16814355831904785593:=0
def tw6511683981398487285:=0
def tw2968452841944024433:=0
def tw17396300107328694836:=0
def tw276888151919198131:=0
def tw266891765240308630:=0
def tw903824226852669303:=0
def tw2161704434134175432:=0
def tw10878619167819798656:=0
def tw15824010518809621757:=0
def tw14734060464797714748:=0
def tw8610457895795528409:=0
def tw13869914300564930845:=0
def tw6980859701617006740:=0
def tw5717932532941714649:=0
def tw7290039152116405327:=0
def tw16197707097139416270:=0
def tw10918060068585650410:=0
def tw7370493224383805349:=0
def tw5234843675742335836:=0
def tw11710713294909587788:=0
def tw13410955475396009229:=0
def tw11652852770219541002:=0
def tw1239445155551879035:=0
def tw16649537652480412066:=0
def tw9853738323805373605:=0
def tw11274267011180116617:=0
def tw12804832397050397432:=0
def tw1365449406357359587:=0
def tw2885637216621067667:=0
def tw9918272511543964226:=0
def tw11059328083825007056:=0
def tw14919931121347244660:=0
def tw9048192705164784903:=0
def tw11542944352609844297:=0
def tw4387454958410709258:=0
def tw5418712776595915003:=0
def tw1311077386532161705:=0
def tw7476213799672191452:=0
def tw17326731426437546580:=0
def tw9390141929991653933:=0
def tw6908768503023267396:=0
def tw4171113898294735684:=0
def tw11794467757233521898:=0
def tw7695824919861568803:=0
def tw12322900473976739205:=0
def tw7265650540561635774:=0
def tw10837103132597969623:=0
def tw1451156910067978901:=0
def tw17950032790976303626:=0
def tw13224607101593218981:=0
def tw7431080408605847648:=0
def tw9085644941951735845:=0
def tw11548497248137065616:=0
def tw9796619526641058813:=0
def tw5061248353480746733:=0
def tw7592799725877899910:=0
def tw5028313646846189997:=0
def tw2493699229526350723:=0
def tw1069616210104817251:=0
def tw2004870517774710425:=0
def tw10823552006198823794:=0
def tw4467545436530063093:=0
def tw5595833193741583191:=0
def tw17386197842312924322:=0
def tw9817094244148279944:=0
def tw4923478396142558622:=0
def tw11212677858228045779:=0
def tw17265215949460973544:=0
def tw11796133842309123694:=0
def tw11702479867662281491:=0
def tw4251055206960042730:=0
def tw11544281815790648192:=0
def tw17565738883958117396:=0
def tw8895430979859608498:=0
def tw18144247955869925596:=0
def tw16802800210202383120:=0
def tw17641074519059581107:=0
def tw11111082427925669297:=0
def tw1520702807580892813:=0
def tw6173172825431616549:=0
def tw8949336882506563667:=0
def tw11602863925312704176:=0
def tw4146451256367000568:=0
def tw14852867515817853620:=0
def tw5992571636984656037:=0
def tw16759722922986627296:=0
def tw17979464852273820359:=0
def tw13649523011720840889:=0
def tw15933317922776276568:=0
def tw4785445301579720430:=0
def tw8756212522595754879:=0
def tw11748773045785778003:=0
def tw1632542151652685789:=0
def tw2020993784869551185:=0
def tw5500804658247209122:=0
def tw5388292583132577374:=0
def tw14390212596960454500:=0
def tw10964077578441931563:=0
def tw11230507668173396292:=0
def tw11032515878979813167:=0
def tw492531137071293862:=0
def tw15834736530512846277:=0
def tw3312659516498891799:=0
def tw2034302895464858005:=0
def tw6294549466953132628:=0
def tw616976211795760464:=0
def tw17660184642194282990:=0
def tw3675383180467274819:=0
def tw11806252327935737825:=0
def tw2856803029642488233:=0
def tw5332522502032855969:=0
def tw3646296148865027501:=0
def tw3265102672174236726:=0
def tw12106141955834141940:=0
def tw17223665199840251460:=0
def tw7162287682677255645:=0
def tw5904556848366677613:=0
def tw12838460101429815993:=0
def tw17284749301921313158:=0
def tw16752376908970457331:=0
def tw247429060811121091:=0
def tw645500839539485587:=0
def tw6714663357491003706:=0
def tw5989661373849801804:=0
def tw16472609425659587904:=0
def tw13250248827783119761:=0
def tw3808380177358561240:=0
def tw6081407804280535245:=0
def tw15097019977404271180:=0
def tw1646571734983790452:=0
def tw7601861710008826798:=0
def tw700372171335850085:=0
def tw15382922129823672560:=0
def tw5826779709865679856:=0
def tw6322130737340454644:=0
def tw8994676365404525843:=0
def tw5960258043572540144:=0
def tw1039963655442281219:=0
def tw14971523265062159172:=0
def tw3690330201709308210:=0
def tw1542574032531323336:=0
def tw8896420910466926461:=0
def tw44706960677100325:=0
def tw9304243066938316463:=0
def tw10389237185006289255:=0
def tw8662090230973314024:=0
def tw14173158300988095850:=0
def tw11966363061949452519:=0
def tw9659647344058037340:=0
def tw14828158258194261876:=0
def tw3604719550732810010:=0
def tw2443719888708391611:=0
def tw5731070546684339235:=0
def tw3650178892010002039:=0
def tw3904061729483336985:=0
def tw18409034457740828718:=0
def tw6970189558781869106:=0
def tw16163796671649094355:=0
def tw725046005443702106:=0
def tw8871170665043809337:=0
def tw11552479748042782915:=0
def tw3588763070650136731:=0
def tw6315629713245109670:=0
def tw7434251055537290034:=0
def tw6589881262157261200:=0
def tw15814136732157431737:=0
def tw14035658805782452161:=0
def tw9201365232239940418:=0
def tw14987367227579032880:=0
def tw5885921798229893164:=0
def tw9695417877891008381:=0
def tw7443099596612976685:=0
def tw3722757324708713613:=0
def tw4194347755364952688:=0
def tw5184813745370762601:=0
def tw12638795236590331992:=0
def tw9257449840494481620:=0
def tw12248265581997579015:=0
def tw8962884480140800842:=0
def tw2864852230455562651:=0
def tw10623373192262611431:=0
def tw6068373515132681381:=0
def tw11991668026508577299:=0
def tw24286053356036734:=0
def tw18323447557163252989:=0
def tw17779119077468521996:=0
def tw5441597457260416476:=0
def tw6792309565634650603:=0
def tw10630878712777850948:=0
def tw12894663070691533127:=0
def tw17212907025699889808:=0
def tw6261900571568372829:=0
def tw120198981979130679:=0
def tw9890775915990796419:=0
def tw18078473317347899125:=0
def tw2391843025535449692:=0
def tw9160353216668392826:=0
def tw14279828503473330244:=0
def tw4140260700989241038:=0
def tw2882944216614837267:=0
def tw907179916651593451:=0
def tw3721761969249404748:=0
def tw10618639181096102000:=0
def tw7188161917102643031:=0
def tw5040495086467048014:=0
def tw4928895251555513446:=0
def tw3459708695833860334:=0
def tw9722553441359920001:=0
def tw1819821007656575547:=0
def tw8251190953493051979:=0
def tw18140026029184826596:=0
def tw5222461773602472167:=0
def tw17679446310132742558:=0
def tw9110691377298935379:=0
def tw5308097414440915107:=0
def tw10184246627417729541:=0
def tw8301744138694622809:=0
def tw11100115226166501486:=0
def tw14385259893288529262:=0
def tw12761011988167142:=0
def tw13275040625280880240:=0
def tw5853783048393252832:=0
def tw12562592102073653604:=0
def tw9969728255172089293:=0
def tw1476978927743660146:=0
def tw12991091184020218023:=0
def tw11284594753822344607:=0
def tw3043719083846856157:=0
def tw11101880548183788831:=0
def tw18370105361697391017:=0
def tw9428800029292366661:=0
def tw16080924702432018520:=0
def tw12413523394132981570:=0
def tw7178010960908902049:=0
def tw18043896286545141187:=0
def tw2877917233487585270:=0
def tw9953273373061371918:=0
def tw11232435304253984952:=0
def tw15037767418972891556:=0
def tw4208680422298257921:=0
def tw13770205022898009476:=0
def tw4369370814397619818:=0
def tw8680705346859441796:=0
def tw16958814933576095884:=0
def tw3505786090072157265:=0
def tw16286872677375249458:=0
def tw12786740420569739163:=0
def tw15857323273597043092:=0
def tw16819609811816588128:=0
def tw1168883093231838838:=0
def tw14093954900561056326:=0
def tw7790391082327347897:=0
def tw5494681403306539798:=0
def tw7392920543166563600:=0
def tw11263953147992539990:=0
def tw3499576570865048300:=0
def tw14614733608678610495:=0
def tw711546907372164199:=0
def tw6745849865520139915:=0
def tw17471661481553755437:=0
def tw8693218950251469715:=0
def tw13318360276187665278:=0
def tw12312517886599971845:=0
def tw280689736864534681:=0
def tw3819590683572127395:=0
def tw6123039213305319948:=0
def tw9679148577867366917:=0
def tw6261684425898280514:=0
def tw16732551681296117442:=0
def tw980778290964680618:=0
def tw17801816117046770643:=0
def tw7246470439097185963:=0
def tw5744847741401771914:=0
def tw16022522538549193162:=0
def tw17804562346876815588:=0
def tw10521370817508043477:=0
def tw8572822707843260173:=0
def tw8251514231404410248:=0
def tw14981979409389804512:=0
def tw8184913504271830255:=0
def tw7912413915615331380:=0
def tw805112365802075256:=0
def tw5116542547919721206:=0
def tw12403826179103563919:=0
def tw11159027703371582377:=0
def tw13766377322037751176:=0
def tw3883840557756495353:=0
def tw9662937775531800748:=0
def tw9256886925505124831:=0
def tw11488936995416809919:=0
def tw3481186846371470552:=0
def tw2777261747852592940:=0
def tw13915809409592296992:=0
def tw5026861264331565710:=0
def tw3567402110013857054:=0
def tw5131588954367856910:=0
def tw6875382347629408315:=0
def tw11243777651099341247:=0
def tw11457294239532239455:=0
def tw14802738641078194043:=0
def tw5584622470085090631:=0
def tw14486687454353765562:=0
def tw7547389430652499129:=0
def tw16665874705204246594:=0
def tw17240709911507679452:=0
def tw1050063634704090507:=0
def tw7485357767447897483:=0
def tw3711611787824155842:=0
def tw1646013886519159845:=0
def tw15669415038334788588:=0
def tw4571887409630293416:=0
def tw17729054317050624938:=0
def tw4852703819482204241:=0
def tw18119737644070900860:=0
def tw12219129671639054383:=0
def tw6956630411466244504:=0
def tw16731494322130145984:=0
def tw10860297686081953934:=0
def tw5690832951048780445:=0
def tw8327356326200908492:=0
def tw13471469561774532796:=0
def tw2129147296406308941:=0
def tw14964455295227123067:=0
def tw17069249320053114005:=0
def tw3820811911587271815:=0
def tw8289762322765398055:=0
def tw9698513805166274267:=0
def tw2544752625496883438:=0
def tw8975260830056158974:=0
def tw12101761428903365071:=0
def tw14015018684563141371:=0
def tw5722950118237830744:=0
def tw2712310088993370206:=0
def tw3651546478359060971:=0
def tw194710697675933855:=0
def tw7788878958859727694:=0
def tw5834488579786594978:=0
def tw4438015900285191:=0
def tw2896285681203639216:=0
def tw10800512231808087838:=0
def tw684447825868600946:=0
def tw14345994489511210157:=0
def tw14755418143832741751:=0
def tw8387711577775790274:=0
def tw7121598666920425168:=0
def tw8807962972216344511:=0
def tw16334346524350395837:=0
def tw4624008876724026878:=0
def tw11900354242004384545:=0
def tw2810278377705416336:=0
def tw2438139341988065099:=0
def tw916384904681138332:=0
def tw4840113818585022957:=0
def tw9718916869743337171:=0
def tw17108323986180529143:=0
def tw11852972588198671272:=0
def tw9475595081161973653:=0
def tw11321774115281525401:=0
def tw17976027101022864426:=0
def tw13661683789862197043:=0
def tw17849317309260035370:=0
def tw4187759199777473583:=0
def tw13885017060272935669:=0
def tw12521810781868303701:=0
def tw11556139542134929511:=0
def tw11211117209663174141:=0
def tw16385082653497582898:=0
def tw10385863958271640088:=0
def tw12424597329332432017:=0
def tw11292894963136111350:=0
def tw4977210937441530888:=0
def tw14014081327754102532:=0
def tw8457714247066490557:=0
def tw9767865653923766257:=0
def tw13248725685489392761:=0
def tw12245763254033342993:=0
def tw16852050992023478737:=0
def tw1920531381039367420:=0
def tw9281018699145549363:=0
def tw6367986241089936294:=0
def tw11053134342141668857:=0
def tw2361237384485263933:=0
def tw5254839056668711001:=0
def tw3027973413279782085:=0
def tw8380513817169928134:=0
def tw244170447741298165:=0
def tw14240096915482075555:=0
def tw5238624109842212555:=0
def tw1314233766860144253:=0
def tw10984157229834262185:=0
def tw3189674223768490754:=0
def tw15059369639308349062:=0
def tw1135223349786686018:=0
def tw4111234038942979540:=0
def tw241031718186246686:=0
def tw5437003268791428393:=0
def tw1104940954694556097:=0
def tw15040491514797993580:=0
def tw7910737879545220372:=0
def tw13400216070214554769:=0
def tw6911890268044519481:=0
def tw4802782371025113302:=0
def tw4031173798869475381:=0
def tw8812944983156108062:=0
def tw12465240326968740301:=0
def tw14959927845886640032:=0
def tw2273400370245261707:=0
def tw5551962035993748453:=0
def tw3178827369267150291:=0
def tw17664986870935651904:=0
def tw706067268247938866:=0
def tw6063350296291246794:=0
def tw12682115739952599034:=0
def tw3930799026143776172:=0
def tw17827316088265698558:=0
def tw7961348139576822534:=0
def tw14650584656698680204:=0
def tw9303890214215466066:=0
def tw13922228508279148613:=0
def tw7950065812412718961:=0
def tw10639442086606996435:=0
def tw5064345462175931606:=0
def tw13144836620054675752:=0
def tw17408661585262769701:=0
def tw5210399656697198839:=0
def tw9063139444797094923:=0
def tw14622803667584355485:=0
def tw4940044201588380224:=0
def tw13498036841328242424:=0
def tw12789134070684537828:=0
def tw17647485089321745043:=0
def tw325289176450019296:=0
def tw3246999858753198799:=0
def tw16496066201790478448:=0
def tw8331714356165140212:=0
def tw2518552140259961404:=0
def tw812272947301060293:=0
def tw11849112637316321738:=0
def tw9131653156552220796:=0
def tw14219170732640529891:=0
def tw6753859403584912307:=0
def tw18206292243293391998:=0
def tw4499803886165859667:=0
def tw2747259817975397239:=0
def tw13406136555452013267:=0
def tw838462920605602979:=0
def tw15548044408837971510:=0
def tw5150038300070491637:=0
def tw17827433034313135272:=0
def tw6042352437857272847:=0
def tw6720773639611849671:=0
def tw2855593064600003641:=0
def tw13170132123401141819:=0
def tw4273902863725498773:=0
def tw2262669147897009341:=0
def tw16112789087291522140:=0
def tw17584794243680207313:=0
def tw825914477149877958:=0
def tw5688441588685128700:=0
def tw7543956543153102251:=0
def tw4620119073102207826:=0
def tw799740849618827333:=0
def tw18102390333341901663:=0
def tw1085011066715373868:=0
def tw1645218455105631172:=0
def tw2851233870774742286:=0
def tw989606901675194744:=0
def tw852940060959371358:=0
def tw14927496911975618981:=0
def tw118060353567888512:=0
def tw8777720042109276543:=0
def tw17550035190797354074:=0
def tw7823720068552833472:=0
def tw3970297304651031323:=0
def tw17155226150452470407:=0
def tw15246044946130668200:=0
def tw4623543193906729170:=0
end PySem.W.Fast
open PySem PySem.W PyProof.Rows
set_option maxRecDepth 100000 in
set_option maxHeartbeats 0 in
theorem PySem.Challenge.cw_rightname_k32_books_of_acts_holds : PySem.Challenge.rw_rightname_k32_books_of_acts.Holds := by
  w_on; o_law; k_head; (case hw => w_witness2)
  k_fill
  refine L2.rg (l := PySem.Challenge.rw_rightname_k32_books_of_acts) (n := 63) (k := 8) (x := "_law_script") (CX := L2.gK) (sp := My.tW) rfl (by decide) rfl ⟨rfl, by decide, by decide⟩ (fun w h Y => PySem.W.kIn_of Y) ?F ?S ?C
  case F =>
    intro w mg fa h KX G hmg
    refine' My.all_mk KX G hmg ?pa0 ?pl0 ?pc0 ?pk0 ?pa1 ?pl1 ?pc1 ?pk1 ?pa2 ?pl2 ?pc2 ?pk2 ?pa3 ?pl3 ?pc3 ?pk3 ?pa4 ?pl4 ?pc4 ?pk4 ?pa5 ?pl5 ?pc5 ?pk5 ?pa6 ?pl6 ?pc6 ?pk6 ?pa7 ?pl7 ?pc7 ?pk7 ?pa8 ?pl8 ?pc8 ?pk8 ?pa9 ?pl9 ?pc9 ?pk9 ?pa10 ?pl10 ?pc10 ?pk10 ?pa11 ?pl11 ?pc11 ?pk11 ?pa12 ?pl12 ?pc12 ?pk12 ?pa13 ?pl13 ?pc13 ?pk13 ?pa14 ?pl14 ?pc14 ?pk14 ?pa15 ?pl15 ?pc15 ?pk15 ?pa16 ?pl16 ?pc16 ?pk16 ?pa17 ?pl17 ?pc17 ?pk17 ?pa18 ?pl18 ?pc18 ?pk18 ?pa19 ?pl19 ?pc19 ?pk19 ?pa20 ?pl20 ?pc20 ?pk20 ?pa21 ?pl21 ?pc21 ?pk21 ?pa22 ?pl22 ?pc22 ?pk22 ?pa23 ?pl23 ?pc23 ?pk23 ?pa24 ?pl24 ?pc24 ?pk24 ?pa25 ?pl25 ?pc25 ?pk25 ?pa26 ?pl26 ?pc26 ?pk26 ?pa27 ?pl27 ?pc27 ?pk27 ?pa28 ?pl28 ?pc28 ?pk28 ?pa29 ?pl29 ?pc29 ?pk29 ?pa30 ?pl30 ?pc30 ?pk30 ?pa31 ?pl31 ?pc31 ?pk31 ?pa32 ?pl32 ?pc32 ?pk32 ?pa33 ?pl33 ?pc33 ?pk33 ?pcg_Entry ?ppg_Entry ?phd_Entry ?ppo_Entry ?psa_Entry ?pmk_Entry ?pin_Entry ?pfn_Entry ?pkc_Entry ?pkf_Entry ?plf_Entry ?pcf_Entry ?plt_Entry ?pdt_Entry ?pna_Entry_number ?pna_Entry_day ?pna_Entry_rank ?pna_Entry_word ?pna_Entry_under ?pna_Entry_sheet ?pna_Entry_base ?pna_Entry_described ?pcg_Results ?ppg_Results ?phd_Results ?ppo_Results ?psa_Results ?pkc_Results ?pmk_Results ?pin_Results ?pfn_Results ?pl_Results_init ?pk_Results_init ?pp_Results_init ?pna_Results_outs ?pna_Results_names ?pna_Results_rights ?pna_Results_holders ?pcg_Act ?ppg_Act ?phd_Act ?ppo_Act ?psa_Act ?pmk_Act ?pin_Act ?pfn_Act ?pkc_Act ?pkf_Act ?plf_Act ?pcf_Act ?pna_Act_day ?pna_Act_deed ?pna_Act_number ?pmf_Results_put ?pmi_Results_put ?pl_Results_put ?pk_Results_put ?pp_Results_put ?pmf_Results_name_of ?pmi_Results_name_of ?pl_Results_name_of ?pk_Results_name_of ?pp_Results_name_of ?pmf_Results_outcome_of ?pmi_Results_outcome_of ?pl_Results_outcome_of ?pk_Results_outcome_of ?pp_Results_outcome_of ?pcg_MOST_LETTERS ?pcr_MOST_LETTERS ?pcg_LAST_DAY ?pcr_LAST_DAY ?pcg_LAST_NUMBER ?pcr_LAST_NUMBER ?pcg_RANKS ?pcl_RANKS ?pcc_RANKS ?pcd_RANKS ?pcv_RANKS ?pcg_DEEDS ?pcl_DEEDS ?pcc_DEEDS ?pcd_DEEDS ?pcv_DEEDS ?pcg_ABOVE ?pcl_ABOVE ?pcv_ABOVE ?pcg_NoRank ?pcg_NoNumber ?pcg_NoDay ?pcg_NoWord ?pcg_NoBook ?pcg_NoAct ?pcg_NoEntry ?pcg_RightError ?pcg_Late ?pxl_NoRank ?pxn_NoRank ?pxs_NoRank ?pxi_NoRank ?pxa_NoRank ?pxb_NoRank ?pxt_NoRank ?pxj_NoRank ?pqcs_NoRank ?pqga_NoRank ?pqgt_NoRank ?pqca_NoRank ?pqgg_NoRank ?pqtk_NoRank ?pqmo_NoRank ?pqsb_NoRank ?pi_NoRank_NoAct ?pi_NoRank_ValueError ?pi_NoRank_NoBook ?pi_NoRank_Late ?pi_NoRank_NoDay ?pi_NoRank_NoEntry ?pi_NoRank_NoNumber ?pe_NoRank_RightError ?pxl_NoNumber ?pxn_NoNumber ?pxs_NoNumber ?pxi_NoNumber ?pxa_NoNumber ?pxb_NoNumber ?pxt_NoNumber ?pxj_NoNumber ?pqcs_NoNumber ?pqga_NoNumber ?pqgt_NoNumber ?pqca_NoNumber ?pqgg_NoNumber ?pqtk_NoNumber ?pqmo_NoNumber ?pqsb_NoNumber ?pi_NoNumber_NoAct ?pi_NoNumber_ValueError ?pi_NoNumber_NoBook ?pi_NoNumber_Late ?pi_NoNumber_NoDay ?pi_NoNumber_NoEntry ?pi_NoNumber_NoNumber ?pe_NoNumber_RightError ?pxl_NoDay ?pxn_NoDay ?pxs_NoDay ?pxi_NoDay ?pxa_NoDay ?pxb_NoDay ?pxt_NoDay ?pxj_NoDay ?pqcs_NoDay ?pqga_NoDay ?pqgt_NoDay ?pqca_NoDay ?pqgg_NoDay ?pqtk_NoDay ?pqmo_NoDay ?pqsb_NoDay ?pi_NoDay_NoAct ?pi_NoDay_ValueError ?pi_NoDay_NoBook ?pi_NoDay_Late ?pi_NoDay_NoDay ?pi_NoDay_NoEntry ?pi_NoDay_NoNumber ?pe_NoDay_RightError ?pxl_NoWord ?pxn_NoWord ?pxs_NoWord ?pxi_NoWord ?pxa_NoWord ?pxb_NoWord ?pxt_NoWord ?pxj_NoWord ?pqcs_NoWord ?pqga_NoWord ?pqgt_NoWord ?pqca_NoWord ?pqgg_NoWord ?pqtk_NoWord ?pqmo_NoWord ?pqsb_NoWord ?pi_NoWord_NoAct ?pi_NoWord_ValueError ?pi_NoWord_NoBook ?pi_NoWord_Late ?pi_NoWord_NoDay ?pi_NoWord_NoEntry ?pi_NoWord_NoNumber ?pe_NoWord_RightError ?pxl_NoBook ?pxn_NoBook ?pxs_NoBook ?pxi_NoBook ?pxa_NoBook ?pxb_NoBook ?pxt_NoBook ?pxj_NoBook ?pqcs_NoBook ?pqga_NoBook ?pqgt_NoBook ?pqca_NoBook ?pqgg_NoBook ?pqtk_NoBook ?pqmo_NoBook ?pqsb_NoBook ?pi_NoBook_NoAct ?pi_NoBook_ValueError ?pi_NoBook_NoBook ?pi_NoBook_Late ?pi_NoBook_NoDay ?pi_NoBook_NoEntry ?pi_NoBook_NoNumber ?pe_NoBook_RightError ?pin_NoAct ?pfn_NoAct ?pkc_NoAct ?pkf_NoAct ?plf_NoAct ?pcf_NoAct ?plt_NoAct ?pdt_NoAct ?psa_NoAct ?pna_NoAct ?phz_NoAct ?pmo_NoAct ?pb1_RightError ?pb2_RightError ?pb3_RightError ?pxl_NoAct ?pxn_NoAct ?pxs_NoAct ?pxi_NoAct ?pxa_NoAct ?pxb_NoAct ?pxt_NoAct ?pxj_NoAct ?pqcs_NoAct ?pqga_NoAct ?pqgt_NoAct ?pqca_NoAct ?pqgg_NoAct ?pqtk_NoAct ?pqmo_NoAct ?pqsb_NoAct ?pi_NoAct_NoAct ?pi_NoAct_ValueError ?pi_NoAct_NoBook ?pi_NoAct_Late ?pi_NoAct_NoDay ?pi_NoAct_NoEntry ?pi_NoAct_NoNumber ?pe_NoAct_RightError ?pxl_NoEntry ?pxn_NoEntry ?pxs_NoEntry ?pxi_NoEntry ?pxa_NoEntry ?pxb_NoEntry ?pxt_NoEntry ?pxj_NoEntry ?pqcs_NoEntry ?pqga_NoEntry ?pqgt_NoEntry ?pqca_NoEntry ?pqgg_NoEntry ?pqtk_NoEntry ?pqmo_NoEntry ?pqsb_NoEntry ?pi_NoEntry_NoAct ?pi_NoEntry_ValueError ?pi_NoEntry_NoBook ?pi_NoEntry_Late ?pi_NoEntry_NoDay ?pi_NoEntry_NoEntry ?pi_NoEntry_NoNumber ?pe_NoEntry_RightError ?pwc_Entry ?pwg_Entry ?pwt_Entry ?pwm_Entry ?pws_Entry ?pwn_Entry_NoneType ?pwn_Entry_int ?pwn_Entry_str ?pwn_Entry_bool ?pwn_Entry_list ?pwn_Entry_tuple ?pwn_Entry_dict ?pwc_Act ?pwg_Act ?pwt_Act ?pwm_Act ?pws_Act ?pwn_Act_NoneType ?pwn_Act_int ?pwn_Act_str ?pwn_Act_bool ?pwn_Act_list ?pwn_Act_tuple ?pwn_Act_dict ?pz_len ?pz_isinstance ?pz_str ?pz_bool ?pz_all ?pz_range ?pz_int ?pz_list ?pz_min ?pz_max ?pz_dict ?pz_tuple ?pz_sum ?pz_enumerate ?pz_zip ?pz_ValueError
    (case pa0 => k_is)
    (case pl0 => k_is)
    (case pc0 => k_is)
    (case pk0 => k_is)
    (case pa1 => k_is)
    (case pl1 => k_is)
    (case pc1 => k_is)
    (case pk1 => k_is)
    (case pa2 => k_is)
    (case pl2 => k_is)
    (case pc2 => k_is)
    (case pk2 => k_is)
    (case pa3 => k_is)
    (case pl3 => k_is)
    (case pc3 => k_is)
    (case pk3 => k_is)
    (case pa4 => k_is)
    (case pl4 => k_is)
    (case pc4 => k_is)
    (case pk4 => k_is)
    (case pa5 => k_is)
    (case pl5 => k_is)
    (case pc5 => k_is)
    (case pk5 => k_is)
    (case pa6 => k_is)
    (case pl6 => k_is)
    (case pc6 => k_is)
    (case pk6 => k_is)
    (case pa7 => k_is)
    (case pl7 => k_is)
    (case pc7 => k_is)
    (case pk7 => k_is)
    (case pa8 => k_is)
    (case pl8 => k_is)
    (case pc8 => k_is)
    (case pk8 => k_is)
    (case pa9 => k_is)
    (case pl9 => k_is)
    (case pc9 => k_is)
    (case pk9 => k_is)
    (case pa10 => k_is)
    (case pl10 => k_is)
    (case pc10 => k_is)
    (case pk10 => k_is)
    (case pa11 => k_is)
    (case pl11 => k_is)
    (case pc11 => k_is)
    (case pk11 => k_is)
    (case pa12 => k_is)
    (case pl12 => k_is)
    (case pc12 => k_is)
    (case pk12 => k_is)
    (case pa13 => k_is)
    (case pl13 => k_is)
    (case pc13 => k_is)
    (case pk13 => k_is)
    (case pa14 => k_is)
    (case pl14 => k_is)
    (case pc14 => k_is)
    (case pk14 => k_is)
    (case pa15 => k_is)
    (case pl15 => k_is)
    (case pc15 => k_is)
    (case pk15 => k_is)
    (case pa16 => k_is)
    (case pl16 => k_is)
    (case pc16 => k_is)
    (case pk16 => k_is)
    (case pa17 => k_is)
    (case pl17 => k_is)
    (case pc17 => k_is)
    (case pk17 => k_is)
    (case pa18 => k_is)
    (case pl18 => k_is)
    (case pc18 => k_is)
    (case pk18 => k_is)
    (case pa19 => k_is)
    (case pl19 => k_is)
    (case pc19 => k_is)
    (case pk19 => k_is)
    (case pa20 => k_is)
    (case pl20 => k_is)
    (case pc20 => k_is)
    (case pk20 => k_is)
    (case pa21 => k_is)
    (case pl21 => k_is)
    (case pc21 => k_is)
    (case pk21 => k_is)
    (case pa22 => k_is)
    (case pl22 => k_is)
    (case pc22 => k_is)
    (case pk22 => k_is)
    (case pa23 => k_is)
    (case pl23 => k_is)
    (case pc23 => k_is)
    (case pk23 => k_is)
    (case pa24 => k_is)
    (case pl24 => k_is)
    (case pc24 => k_is)
    (case pk24 => k_is)
    (case pa25 => k_is)
    (case pl25 => k_is)
    (case pc25 => k_is)
    (case pk25 => k_is)
    (case pa26 => k_is)
    (case pl26 => k_is)
    (case pc26 => k_is)
    (case pk26 => k_is)
    (case pa27 => k_is)
    (case pl27 => k_is)
    (case pc27 => k_is)
    (case pk27 => k_is)
    (case pa28 => k_is)
    (case pl28 => k_is)
    (case pc28 => k_is)
    (case pk28 => k_is)
    (case pa29 => k_is)
    (case pl29 => k_is)
    (case pc29 => k_is)
    (case pk29 => k_is)
    (case pa30 => k_is)
    (case pl30 => k_is)
    (case pc30 => k_is)
    (case pk30 => k_is)
    (case pa31 => k_is)
    (case pl31 => k_is)
    (case pc31 => k_is)
    (case pk31 => k_is)
    (case pa32 => k_is)
    (case pl32 => k_is)
    (case pc32 => k_is)
    (case pk32 => k_is)
    (case pa33 => k_is)
    (case pl33 => k_is)
    (case pc33 => k_is)
    (case pk33 => k_is)
    (case pcg_Entry => k_is)
    (case ppg_Entry => k_is)
    (case phd_Entry => k_is)
    (case ppo_Entry => k_is)
    (case psa_Entry => k_is)
    (case pmk_Entry => k_is)
    (case pin_Entry => k_is)
    (case pfn_Entry => k_is)
    (case pkc_Entry => k_is)
    (case pkf_Entry => k_is)
    (case plf_Entry => k_is)
    (case pcf_Entry => k_is)
    (case plt_Entry => k_is)
    (case pdt_Entry => exact rfl)
    (case pna_Entry_number => k_is)
    (case pna_Entry_day => k_is)
    (case pna_Entry_rank => k_is)
    (case pna_Entry_word => k_is)
    (case pna_Entry_under => k_is)
    (case pna_Entry_sheet => k_is)
    (case pna_Entry_base => k_is)
    (case pna_Entry_described => k_is)
    (case pcg_Results => k_is)
    (case ppg_Results => k_is)
    (case phd_Results => k_is)
    (case ppo_Results => k_is)
    (case psa_Results => k_is)
    (case pkc_Results => k_is)
    (case pmk_Results => k_is)
    (case pin_Results => k_is)
    (case pfn_Results => k_is)
    (case pl_Results_init => k_is)
    (case pk_Results_init => k_is)
    (case pp_Results_init => k_is)
    (case pna_Results_outs => k_is)
    (case pna_Results_names => k_is)
    (case pna_Results_rights => k_is)
    (case pna_Results_holders => k_is)
    (case pcg_Act => k_is)
    (case ppg_Act => k_is)
    (case phd_Act => k_is)
    (case ppo_Act => k_is)
    (case psa_Act => k_is)
    (case pmk_Act => k_is)
    (case pin_Act => k_is)
    (case pfn_Act => k_is)
    (case pkc_Act => k_is)
    (case pkf_Act => k_is)
    (case plf_Act => k_is)
    (case pcf_Act => k_is)
    (case pna_Act_day => k_is)
    (case pna_Act_deed => k_is)
    (case pna_Act_number => k_is)
    (case pmf_Results_put => k_is)
    (case pmi_Results_put => k_is)
    (case pl_Results_put => k_is)
    (case pk_Results_put => k_is)
    (case pp_Results_put => k_is)
    (case pmf_Results_name_of => k_is)
    (case pmi_Results_name_of => k_is)
    (case pl_Results_name_of => k_is)
    (case pk_Results_name_of => k_is)
    (case pp_Results_name_of => k_is)
    (case pmf_Results_outcome_of => k_is)
    (case pmi_Results_outcome_of => k_is)
    (case pl_Results_outcome_of => k_is)
    (case pk_Results_outcome_of => k_is)
    (case pp_Results_outcome_of => k_is)
    (case pcg_MOST_LETTERS => k_is)
    (case pcr_MOST_LETTERS => first | exact L2.m6 | exact L2.mU | exact rfl)
    (case pcg_LAST_DAY => k_is)
    (case pcr_LAST_DAY => first | exact L2.m6 | exact L2.mU | exact rfl)
    (case pcg_LAST_NUMBER => k_is)
    (case pcr_LAST_NUMBER => first | exact L2.m6 | exact L2.mU | exact rfl)
    (case pcg_RANKS => k_is)
    (case pcl_RANKS => k_is)
    (case pcc_RANKS => exact rfl)
    (case pcd_RANKS => exact rfl)
    (case pcv_RANKS => exact (.cons ⟨_, rfl⟩ (.cons ⟨_, rfl⟩ (.cons ⟨_, rfl⟩ .nil))))
    (case pcg_DEEDS => k_is)
    (case pcl_DEEDS => k_is)
    (case pcc_DEEDS => exact rfl)
    (case pcd_DEEDS => exact rfl)
    (case pcv_DEEDS => exact (.cons ⟨_, rfl⟩ (.cons ⟨_, rfl⟩ (.cons ⟨_, rfl⟩ .nil))))
    (case pcg_ABOVE => k_is)
    (case pcl_ABOVE => k_is)
    (case pcv_ABOVE => exact (.cons ⟨rfl, ⟨_, rfl⟩, rfl⟩ (.cons ⟨rfl, ⟨_, rfl⟩, ⟨_, rfl⟩⟩ (.cons ⟨rfl, ⟨_, rfl⟩, ⟨_, rfl⟩⟩ .nil))))
    (case pcg_NoRank => k_is)
    (case pcg_NoNumber => k_is)
    (case pcg_NoDay => k_is)
    (case pcg_NoWord => k_is)
    (case pcg_NoBook => k_is)
    (case pcg_NoAct => k_is)
    (case pcg_NoEntry => k_is)
    (case pcg_RightError => k_is)
    (case pcg_Late => k_is)
    (case pxl_NoRank => k_is)
    (case pxn_NoRank => k_is)
    (case pxs_NoRank => kernel_rfl)
    (case pxi_NoRank => kernel_rfl)
    (case pxa_NoRank => k_is)
    (case pxb_NoRank => k_is)
    (case pxt_NoRank => kernel_rfl)
    (case pxj_NoRank => kernel_rfl)
    (case pqcs_NoRank => kernel_rfl)
    (case pqga_NoRank => k_is)
    (case pqgt_NoRank => k_is)
    (case pqca_NoRank => k_is)
    (case pqgg_NoRank => k_is)
    (case pqtk_NoRank => k_is)
    (case pqmo_NoRank => k_is)
    (case pqsb_NoRank => k_is)
    (case pi_NoRank_NoAct => kernel_rfl)
    (case pi_NoRank_ValueError => kernel_rfl)
    (case pi_NoRank_NoBook => kernel_rfl)
    (case pi_NoRank_Late => kernel_rfl)
    (case pi_NoRank_NoDay => kernel_rfl)
    (case pi_NoRank_NoEntry => kernel_rfl)
    (case pi_NoRank_NoNumber => kernel_rfl)
    (case pe_NoRank_RightError => kernel_rfl)
    (case pxl_NoNumber => k_is)
    (case pxn_NoNumber => k_is)
    (case pxs_NoNumber => kernel_rfl)
    (case pxi_NoNumber => kernel_rfl)
    (case pxa_NoNumber => k_is)
    (case pxb_NoNumber => k_is)
    (case pxt_NoNumber => kernel_rfl)
    (case pxj_NoNumber => kernel_rfl)
    (case pqcs_NoNumber => kernel_rfl)
    (case pqga_NoNumber => k_is)
    (case pqgt_NoNumber => k_is)
    (case pqca_NoNumber => k_is)
    (case pqgg_NoNumber => k_is)
    (case pqtk_NoNumber => k_is)
    (case pqmo_NoNumber => k_is)
    (case pqsb_NoNumber => k_is)
    (case pi_NoNumber_NoAct => kernel_rfl)
    (case pi_NoNumber_ValueError => kernel_rfl)
    (case pi_NoNumber_NoBook => kernel_rfl)
    (case pi_NoNumber_Late => kernel_rfl)
    (case pi_NoNumber_NoDay => kernel_rfl)
    (case pi_NoNumber_NoEntry => kernel_rfl)
    (case pi_NoNumber_NoNumber => kernel_rfl)
    (case pe_NoNumber_RightError => kernel_rfl)
    (case pxl_NoDay => k_is)
    (case pxn_NoDay => k_is)
    (case pxs_NoDay => kernel_rfl)
    (case pxi_NoDay => kernel_rfl)
    (case pxa_NoDay => k_is)
    (case pxb_NoDay => k_is)
    (case pxt_NoDay => kernel_rfl)
    (case pxj_NoDay => kernel_rfl)
    (case pqcs_NoDay => kernel_rfl)
    (case pqga_NoDay => k_is)
    (case pqgt_NoDay => k_is)
    (case pqca_NoDay => k_is)
    (case pqgg_NoDay => k_is)
    (case pqtk_NoDay => k_is)
    (case pqmo_NoDay => k_is)
    (case pqsb_NoDay => k_is)
    (case pi_NoDay_NoAct => kernel_rfl)
    (case pi_NoDay_ValueError => kernel_rfl)
    (case pi_NoDay_NoBook => kernel_rfl)
    (case pi_NoDay_Late => kernel_rfl)
    (case pi_NoDay_NoDay => kernel_rfl)
    (case pi_NoDay_NoEntry => kernel_rfl)
    (case pi_NoDay_NoNumber => kernel_rfl)
    (case pe_NoDay_RightError => kernel_rfl)
    (case pxl_NoWord => k_is)
    (case pxn_NoWord => k_is)
    (case pxs_NoWord => kernel_rfl)
    (case pxi_NoWord => kernel_rfl)
    (case pxa_NoWord => k_is)
    (case pxb_NoWord => k_is)
    (case pxt_NoWord => kernel_rfl)
    (case pxj_NoWord => kernel_rfl)
    (case pqcs_NoWord => kernel_rfl)
    (case pqga_NoWord => k_is)
    (case pqgt_NoWord => k_is)
    (case pqca_NoWord => k_is)
    (case pqgg_NoWord => k_is)
    (case pqtk_NoWord => k_is)
    (case pqmo_NoWord => k_is)
    (case pqsb_NoWord => k_is)
    (case pi_NoWord_NoAct => kernel_rfl)
    (case pi_NoWord_ValueError => kernel_rfl)
    (case pi_NoWord_NoBook => kernel_rfl)
    (case pi_NoWord_Late => kernel_rfl)
    (case pi_NoWord_NoDay => kernel_rfl)
    (case pi_NoWord_NoEntry => kernel_rfl)
    (case pi_NoWord_NoNumber => kernel_rfl)
    (case pe_NoWord_RightError => kernel_rfl)
    (case pxl_NoBook => k_is)
    (case pxn_NoBook => k_is)
    (case pxs_NoBook => kernel_rfl)
    (case pxi_NoBook => kernel_rfl)
    (case pxa_NoBook => k_is)
    (case pxb_NoBook => k_is)
    (case pxt_NoBook => kernel_rfl)
    (case pxj_NoBook => kernel_rfl)
    (case pqcs_NoBook => kernel_rfl)
    (case pqga_NoBook => k_is)
    (case pqgt_NoBook => k_is)
    (case pqca_NoBook => k_is)
    (case pqgg_NoBook => k_is)
    (case pqtk_NoBook => k_is)
    (case pqmo_NoBook => k_is)
    (case pqsb_NoBook => k_is)
    (case pi_NoBook_NoAct => kernel_rfl)
    (case pi_NoBook_ValueError => kernel_rfl)
    (case pi_NoBook_NoBook => kernel_rfl)
    (case pi_NoBook_Late => kernel_rfl)
    (case pi_NoBook_NoDay => kernel_rfl)
    (case pi_NoBook_NoEntry => kernel_rfl)
    (case pi_NoBook_NoNumber => kernel_rfl)
    (case pe_NoBook_RightError => kernel_rfl)
    (case pin_NoAct => k_is)
    (case pfn_NoAct => k_is)
    (case pkc_NoAct => k_is)
    (case pkf_NoAct => k_is)
    (case plf_NoAct => k_is)
    (case pcf_NoAct => k_is)
    (case plt_NoAct => k_is)
    (case pdt_NoAct => exact rfl)
    (case psa_NoAct => k_is)
    (case pna_NoAct => k_is)
    (case phz_NoAct => k_is)
    (case pmo_NoAct => k_is)
    (case pb1_RightError => k_is)
    (case pb2_RightError => k_is)
    (case pb3_RightError => k_is)
    (case pxl_NoAct => k_is)
    (case pxn_NoAct => k_is)
    (case pxs_NoAct => kernel_rfl)
    (case pxi_NoAct => kernel_rfl)
    (case pxa_NoAct => k_is)
    (case pxb_NoAct => k_is)
    (case pxt_NoAct => kernel_rfl)
    (case pxj_NoAct => kernel_rfl)
    (case pqcs_NoAct => kernel_rfl)
    (case pqga_NoAct => k_is)
    (case pqgt_NoAct => k_is)
    (case pqca_NoAct => k_is)
    (case pqgg_NoAct => k_is)
    (case pqtk_NoAct => k_is)
    (case pqmo_NoAct => k_is)
    (case pqsb_NoAct => k_is)
    (case pi_NoAct_NoAct => kernel_rfl)
    (case pi_NoAct_ValueError => kernel_rfl)
    (case pi_NoAct_NoBook => kernel_rfl)
    (case pi_NoAct_Late => kernel_rfl)
    (case pi_NoAct_NoDay => kernel_rfl)
    (case pi_NoAct_NoEntry => kernel_rfl)
    (case pi_NoAct_NoNumber => kernel_rfl)
    (case pe_NoAct_RightError => kernel_rfl)
    (case pxl_NoEntry => k_is)
    (case pxn_NoEntry => k_is)
    (case pxs_NoEntry => kernel_rfl)
    (case pxi_NoEntry => kernel_rfl)
    (case pxa_NoEntry => k_is)
    (case pxb_NoEntry => k_is)
    (case pxt_NoEntry => kernel_rfl)
    (case pxj_NoEntry => kernel_rfl)
    (case pqcs_NoEntry => kernel_rfl)
    (case pqga_NoEntry => k_is)
    (case pqgt_NoEntry => k_is)
    (case pqca_NoEntry => k_is)
    (case pqgg_NoEntry => k_is)
    (case pqtk_NoEntry => k_is)
    (case pqmo_NoEntry => k_is)
    (case pqsb_NoEntry => k_is)
    (case pi_NoEntry_NoAct => kernel_rfl)
    (case pi_NoEntry_ValueError => kernel_rfl)
    (case pi_NoEntry_NoBook => kernel_rfl)
    (case pi_NoEntry_Late => kernel_rfl)
    (case pi_NoEntry_NoDay => kernel_rfl)
    (case pi_NoEntry_NoEntry => kernel_rfl)
    (case pi_NoEntry_NoNumber => kernel_rfl)
    (case pe_NoEntry_RightError => kernel_rfl)
    (case pwc_Entry => k_is)
    (case pwg_Entry => k_is)
    (case pwt_Entry => k_is)
    (case pwm_Entry => k_is)
    (case pws_Entry => kernel_rfl)
    (case pwn_Entry_NoneType => kernel_rfl)
    (case pwn_Entry_int => kernel_rfl)
    (case pwn_Entry_str => kernel_rfl)
    (case pwn_Entry_bool => kernel_rfl)
    (case pwn_Entry_list => kernel_rfl)
    (case pwn_Entry_tuple => kernel_rfl)
    (case pwn_Entry_dict => kernel_rfl)
    (case pwc_Act => k_is)
    (case pwg_Act => k_is)
    (case pwt_Act => k_is)
    (case pwm_Act => k_is)
    (case pws_Act => kernel_rfl)
    (case pwn_Act_NoneType => kernel_rfl)
    (case pwn_Act_int => kernel_rfl)
    (case pwn_Act_str => kernel_rfl)
    (case pwn_Act_bool => kernel_rfl)
    (case pwn_Act_list => kernel_rfl)
    (case pwn_Act_tuple => kernel_rfl)
    (case pwn_Act_dict => kernel_rfl)
    (case pz_len => k_is)
    (case pz_isinstance => k_is)
    (case pz_str => k_is)
    (case pz_bool => k_is)
    (case pz_all => k_is)
    (case pz_range => k_is)
    (case pz_int => k_is)
    (case pz_list => k_is)
    (case pz_min => k_is)
    (case pz_max => k_is)
    (case pz_dict => k_is)
    (case pz_tuple => k_is)
    (case pz_sum => k_is)
    (case pz_enumerate => k_is)
    (case pz_zip => k_is)
    (case pz_ValueError => k_is)
  case S => exact fun K H a ns hl hO hS => ⟨a, ns, rfl, hS, hl, fun _ => rfl⟩
  case C => exact fun _ _ _ _ z => z
#print axioms PySem.Challenge.cw_rightname_k32_books_of_acts_holds
